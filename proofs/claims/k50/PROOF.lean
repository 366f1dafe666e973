import PyProof.Rows.All
import Wide.All
import OpenK.AllK
import Wide.FinOn
import Lean
import PyProof.EqAt
import PyProof.EqKinds
import PyProof.TupleCall
import PyProof.NeKinds
import KE.LcSums
import PyProof.ExcBaseAll.ValueError
import KE.KTryMore
import KE.RegKTryMore
import PyProof.StrLawsRepr
import PyProof.ReprStr
import PyProof.EnumMake
import PyProof.EnumFor
import KE.KEqDict
import PyProof.Rows.Range3
import PyProof.SumWalkG
import PyProof.ZipIter
import KE.KIsAll
import PyProof.ExcArgsOwn
import PyProof.ExcAttrAll.ValueError
import PyProof.RulesAs
import PyProof.NsDelKeeps
import PyProof.Rows.TupAdd
import PySem.Challenge.RW_trueleaf_k50_growth_told
set_option Elab.async false
set_option linter.all false
set_option maxRecDepth 100000
set_option maxHeartbeats 4000000
namespace L2
open PySem
def defArgs (s : Stmt) : Arguments := match s with
  | .FunctionDef _ a _ _ _ _ _ _ _ _ => a
  | _ => { posonlyargs := [], args := [], vararg := none, kwonlyargs := [], kw_defaults := [], kwarg := none, defaults := [] }
def defBody (s : Stmt) : List Stmt := match s with
  | .FunctionDef _ _ b _ _ _ _ _ _ _ => b
  | _ => []
def defScope (s : Stmt) : Scope := match s with
  | .FunctionDef _ _ _ _ _ _ sc _ _ _ => sc
  | _ => { kind := .function, names := [], isGenerator := false, isCoroutine := false }

end L2
namespace K50
open PySem PySem.W L2 PyProof.Rows
noncomputable def top (i : Nat) : Stmt := PySem.Challenge.pw_trueleaf_k50_growth_told.main.body.getD i (.Pass ⟨0, 0, 0, 0⟩)
noncomputable abbrev os (s : String) : Str := Str.ofString s
noncomputable abbrev kh (P : Params) (s : Str) : Int := PyData.keyHash P s
noncomputable abbrev cO (n : String) (a b c : Nat) (l1 l2 l5 : Int) (r0 : Addr) (m : Int) (r1 r2 r3 r4 : Addr) (x y : Int) (d : Nat) : Obj := ⟨.type "code", none, .fields #[.str (os n) a, .str (os n) b, .str (os "/claim/cut.py") c, .int l1 0, .int l2 0, .int 0 0, .int 0 0, .int l5 0, .ref r0, .bool true, .int m 0, .ref r1, .none, .ref r2, .ref r3, .ref r4, .int x 0, .int y 0, .str (os "/claim/cut.py") d], #[]⟩
noncomputable abbrev fO (n : String) (i : Nat) (d : Value) (m : String) (k : Nat) (r : Addr) : Obj := ⟨.type "function", none, .func (fnOf (os n) (os n) (defArgs (top i)) (defBody (top i)) (defScope (top i)) d .none .none (.str (os m) k) none (.ref r) .none), #[]⟩
noncomputable def kk : Params → Frag := fun P => (nat_lit 2, ⟨(.none), none, .dict ([]).toArray 0, #[]⟩) ::
  (nat_lit 3, ⟨(.type "dict"), none, .dict (List.toArray (⟨kh P (os "__name__"), (.str (os "__name__") 165), (.str (os "law_trueleaf_k50_growth_told") 292)⟩ :: ⟨kh P (os "__doc__"), (.str (os "__doc__") 166), (.none)⟩ :: ⟨kh P (os "__package__"), (.str (os "__package__") 167), (.none)⟩ :: ⟨kh P (os "__loader__"), (.str (os "__loader__") 168), (.builtin "__main__.__loader__#opaque")⟩ :: ⟨kh P (os "__spec__"), (.str (os "__spec__") 169), (.none)⟩ :: ⟨kh P (os "__annotations__"), (.str (os "__annotations__") 170), (.ref 6)⟩ :: ⟨kh P (os "__builtins__"), (.str (os "__builtins__") 171), (.ref 4)⟩ :: ⟨kh P (os "__file__"), (.str (os "__file__") 173), (.str (os "/claim/cut.py") 172)⟩ :: ⟨kh P (os "__cached__"), (.str (os "__cached__") 174), (.none)⟩ :: ⟨kh P (os "TrueleafError"), (.str (os "TrueleafError") 206), (.ref 24)⟩ :: ⟨kh P (os "BadPaper"), (.str (os "BadPaper") 222), (.ref 37)⟩ :: ⟨kh P (os "NoGrowth"), (.str (os "NoGrowth") 238), (.ref 49)⟩ :: ⟨kh P (os "growth"), (.str (os "growth") 250), (.ref 58)⟩ :: ⟨kh P (os "carried"), (.str (os "carried") 261), (.ref 65)⟩ :: ⟨kh P (os "grown_at"), (.str (os "grown_at") 267), (.ref 70)⟩ :: ⟨kh P (os "shifted"), (.str (os "shifted") 276), (.ref 77)⟩ :: ⟨kh P (os "word_shifted"), (.str (os "word_shifted") 282), (.ref 82)⟩ :: ⟨kh P (os "saying_shifted"), (.str (os "saying_shifted") 291), (.ref 89)⟩ :: ⟨kh P (os "_law_cell_at"), (.str (os "_law_cell_at") 301), (.ref 96)⟩ :: ⟨kh P (os "_law_stream"), (.str (os "_law_stream") 312), (.ref 103)⟩ :: ⟨kh P (os "_law_whole"), (.str (os "_law_whole") 319), (.ref 110)⟩ :: ⟨kh P (os "_law_place"), (.str (os "_law_place") 326), (.ref 117)⟩ :: ⟨kh P (os "_law_moved_saying"), (.str (os "_law_moved_saying") 335), (.ref 124)⟩ :: ⟨kh P (os "_law_moved"), (.str (os "_law_moved") 341), (.ref 129)⟩ :: ⟨kh P (os "_law_put_in"), (.str (os "_law_put_in") 347), (.ref 134)⟩ :: ⟨kh P (os "_law_copy"), (.str (os "_law_copy") 353), (.ref 139)⟩ :: ⟨kh P (os "_law_few"), (.str (os "_law_few") 364), (.ref 146)⟩ :: ⟨kh P (os "_law_pair"), (.str (os "_law_pair") 370), (.ref 151)⟩ :: ⟨kh P (os "_law_within"), (.str (os "_law_within") 376), (.ref 156)⟩ :: ⟨kh P (os "_law_due"), (.str (os "_law_due") 386), (.ref 163)⟩ :: ⟨kh P (os "_law_refused"), (.str (os "_law_refused") 397), (.ref 170)⟩ :: ⟨kh P (os "_law_refused_by_base"), (.str (os "_law_refused_by_base") 408), (.ref 177)⟩ :: ⟨kh P (os "law"), (.str (os "law") 414), (.ref 182)⟩ :: [])) 33, #[]⟩) ::
  (nat_lit 15, ⟨(.type "tuple"), none, (.seq #[.type "ValueError"]), #[]⟩) ::
  (nat_lit 22, ⟨(.type "tuple"), none, (.seq #[]), #[]⟩) ::
  (nat_lit 23, ⟨(.type "dict"), none, .dict (List.toArray (⟨kh P (os "__module__"), (.str (os "__module__") 196), (.str (os "trueleaf.errors") 187)⟩ :: ⟨kh P (os "__firstlineno__"), (.str (os "__firstlineno__") 200), (.int 2 199)⟩ :: ⟨kh P (os "__static_attributes__"), (.str (os "__static_attributes__") 201), (.ref 22)⟩ :: ⟨kh P (os "__weakref__"), (.str (os "__weakref__") 203), (.ref 25)⟩ :: ⟨kh P (os "__doc__"), (.str (os "__doc__") 204), (.none)⟩ :: [])) 3, #[]⟩) ::
  (nat_lit 24, ⟨(.type "type"), none, (.cls (PySem.ClassData.mk (os "TrueleafError") [.type "ValueError"] [.ref 24, .type "ValueError", .type "Exception", .type "BaseException", .type "object"] 23 (os "TrueleafError") true [] [.ref 37, .ref 49] false none false)), #[Option.some (.ref 15), none, Option.some (.str (os "TrueleafError") 189), Option.some (.str (os "TrueleafError") 197), Option.some (.builtin "ValueError.__new__"), Option.some (.bool true)]⟩) ::
  (nat_lit 25, ⟨(.type "getset_descriptor"), none, (.fields #[.str (os "__weakref__") 202, .ref 24, .builtin "ExceptionGroup.__weakref__", .none]), #[]⟩) ::
  (nat_lit 28, ⟨(.type "tuple"), none, (.seq #[.ref 24]), #[]⟩) ::
  (nat_lit 35, ⟨(.type "tuple"), none, (.seq #[]), #[]⟩) ::
  (nat_lit 36, ⟨(.type "dict"), none, .dict (List.toArray (⟨kh P (os "__module__"), (.str (os "__module__") 214), (.str (os "trueleaf.errors") 187)⟩ :: ⟨kh P (os "__firstlineno__"), (.str (os "__firstlineno__") 218), (.int 4 217)⟩ :: ⟨kh P (os "__static_attributes__"), (.str (os "__static_attributes__") 219), (.ref 35)⟩ :: ⟨kh P (os "__doc__"), (.str (os "__doc__") 220), (.none)⟩ :: [])) 2, #[]⟩) ::
  (nat_lit 37, ⟨(.type "type"), none, (.cls (PySem.ClassData.mk (os "BadPaper") [.ref 24] [.ref 37, .ref 24, .type "ValueError", .type "Exception", .type "BaseException", .type "object"] 36 (os "BadPaper") true [] [] false none false)), #[Option.some (.ref 28), none, Option.some (.str (os "BadPaper") 207), Option.some (.str (os "BadPaper") 215), Option.some (.builtin "ValueError.__new__"), Option.some (.bool true)]⟩) ::
  (nat_lit 40, ⟨(.type "tuple"), none, (.seq #[.ref 24]), #[]⟩) ::
  (nat_lit 47, ⟨(.type "tuple"), none, (.seq #[]), #[]⟩) ::
  (nat_lit 48, ⟨(.type "dict"), none, .dict (List.toArray (⟨kh P (os "__module__"), (.str (os "__module__") 230), (.str (os "trueleaf.errors") 187)⟩ :: ⟨kh P (os "__firstlineno__"), (.str (os "__firstlineno__") 234), (.int 6 233)⟩ :: ⟨kh P (os "__static_attributes__"), (.str (os "__static_attributes__") 235), (.ref 47)⟩ :: ⟨kh P (os "__doc__"), (.str (os "__doc__") 236), (.none)⟩ :: [])) 2, #[]⟩) ::
  (nat_lit 49, ⟨(.type "type"), none, (.cls (PySem.ClassData.mk (os "NoGrowth") [.ref 24] [.ref 49, .ref 24, .type "ValueError", .type "Exception", .type "BaseException", .type "object"] 48 (os "NoGrowth") true [] [] false none false)), #[Option.some (.ref 40), none, Option.some (.str (os "NoGrowth") 223), Option.some (.str (os "NoGrowth") 231), Option.some (.builtin "ValueError.__new__"), Option.some (.bool true)]⟩) ::
  (nat_lit 57, cO "growth" 241 242 243 9 2 3 52 181 53 54 55 56 248 9 249) ::
  (nat_lit 58, fO "growth" 5 (.none) "trueleaf.growth" 239 57) ::
  (nat_lit 64, cO "carried" 251 252 253 17 3 3 59 181 60 61 62 63 259 17 260) ::
  (nat_lit 65, fO "carried" 6 (.none) "trueleaf.growth" 239 64) ::
  (nat_lit 69, ⟨(.type "code"), none, (.fields #[.str (os "grown_at") 262, .str (os "grown_at") 263, .str (os "/claim/cut.py") 264, .int 23 0, .int 4 0, .int 0 0, .int 0 0, .int 3 0, .ref 66, .bool true, .int 181 0, .ref 67, .none, .none, .none, .ref 68, .int 265 0, .int 23 0, .str (os "/claim/cut.py") 266]), #[]⟩) ::
  (nat_lit 70, fO "grown_at" 7 (.none) "trueleaf.growth" 239 69) ::
  (nat_lit 76, cO "shifted" 268 269 270 30 3 3 71 181 72 73 74 75 274 30 275) ::
  (nat_lit 77, fO "shifted" 8 (.none) "trueleaf.growth" 239 76) ::
  (nat_lit 81, ⟨(.type "code"), none, (.fields #[.str (os "word_shifted") 277, .str (os "word_shifted") 278, .str (os "/claim/cut.py") 279, .int 34 0, .int 3 0, .int 0 0, .int 0 0, .int 3 0, .ref 78, .bool true, .int 181 0, .ref 79, .none, .none, .none, .ref 80, .int 280 0, .int 34 0, .str (os "/claim/cut.py") 281]), #[]⟩) ::
  (nat_lit 82, fO "word_shifted" 9 (.none) "trueleaf.growth" 239 81) ::
  (nat_lit 88, cO "saying_shifted" 283 284 285 37 3 3 83 181 84 85 86 87 289 37 290) ::
  (nat_lit 89, fO "saying_shifted" 10 (.none) "trueleaf.growth" 239 88) ::
  (nat_lit 95, cO "_law_cell_at" 294 295 296 42 2 3 90 181 91 92 93 94 299 42 300) ::
  (nat_lit 96, fO "_law_cell_at" 12 (.none) "law_trueleaf_k50_growth_told" 292 95) ::
  (nat_lit 102, cO "_law_stream" 302 303 304 46 2 3 97 181 98 99 100 101 310 46 311) ::
  (nat_lit 103, fO "_law_stream" 13 (.none) "law_trueleaf_k50_growth_told" 292 102) ::
  (nat_lit 109, cO "_law_whole" 313 314 315 53 1 3 104 181 105 106 107 108 317 53 318) ::
  (nat_lit 110, fO "_law_whole" 14 (.none) "law_trueleaf_k50_growth_told" 292 109) ::
  (nat_lit 116, cO "_law_place" 320 321 322 55 1 3 111 181 112 113 114 115 324 55 325) ::
  (nat_lit 117, fO "_law_place" 15 (.none) "law_trueleaf_k50_growth_told" 292 116) ::
  (nat_lit 123, cO "_law_moved_saying" 327 328 329 57 3 3 118 181 119 120 121 122 333 57 334) ::
  (nat_lit 124, fO "_law_moved_saying" 16 (.none) "law_trueleaf_k50_growth_told" 292 123) ::
  (nat_lit 128, ⟨(.type "code"), none, (.fields #[.str (os "_law_moved") 336, .str (os "_law_moved") 337, .str (os "/claim/cut.py") 338, .int 61 0, .int 3 0, .int 0 0, .int 0 0, .int 3 0, .ref 125, .bool true, .int 181 0, .ref 126, .none, .none, .none, .ref 127, .int 339 0, .int 61 0, .str (os "/claim/cut.py") 340]), #[]⟩) ::
  (nat_lit 129, fO "_law_moved" 17 (.none) "law_trueleaf_k50_growth_told" 292 128) ::
  (nat_lit 133, ⟨(.type "code"), none, (.fields #[.str (os "_law_put_in") 342, .str (os "_law_put_in") 343, .str (os "/claim/cut.py") 344, .int 64 0, .int 3 0, .int 0 0, .int 0 0, .int 3 0, .ref 130, .bool true, .int 181 0, .ref 131, .none, .none, .none, .ref 132, .int 345 0, .int 64 0, .str (os "/claim/cut.py") 346]), #[]⟩) ::
  (nat_lit 134, fO "_law_put_in" 18 (.none) "law_trueleaf_k50_growth_told" 292 133) ::
  (nat_lit 138, ⟨(.type "code"), none, (.fields #[.str (os "_law_copy") 348, .str (os "_law_copy") 349, .str (os "/claim/cut.py") 350, .int 69 0, .int 1 0, .int 0 0, .int 0 0, .int 3 0, .ref 135, .bool true, .int 181 0, .ref 136, .none, .none, .none, .ref 137, .int 351 0, .int 69 0, .str (os "/claim/cut.py") 352]), #[]⟩) ::
  (nat_lit 139, fO "_law_copy" 19 (.none) "law_trueleaf_k50_growth_told" 292 138) ::
  (nat_lit 145, cO "_law_few" 354 355 356 71 2 3 140 181 141 142 143 144 362 71 363) ::
  (nat_lit 146, fO "_law_few" 20 (.none) "law_trueleaf_k50_growth_told" 292 145) ::
  (nat_lit 150, ⟨(.type "code"), none, (.fields #[.str (os "_law_pair") 365, .str (os "_law_pair") 366, .str (os "/claim/cut.py") 367, .int 80 0, .int 1 0, .int 0 0, .int 0 0, .int 3 0, .ref 147, .bool true, .int 181 0, .ref 148, .none, .none, .none, .ref 149, .int 368 0, .int 80 0, .str (os "/claim/cut.py") 369]), #[]⟩) ::
  (nat_lit 151, fO "_law_pair" 21 (.none) "law_trueleaf_k50_growth_told" 292 150) ::
  (nat_lit 155, ⟨(.type "code"), none, (.fields #[.str (os "_law_within") 371, .str (os "_law_within") 372, .str (os "/claim/cut.py") 373, .int 108 0, .int 2 0, .int 0 0, .int 0 0, .int 3 0, .ref 152, .bool true, .int 181 0, .ref 153, .none, .none, .none, .ref 154, .int 374 0, .int 108 0, .str (os "/claim/cut.py") 375]), #[]⟩) ::
  (nat_lit 156, fO "_law_within" 22 (.none) "law_trueleaf_k50_growth_told" 292 155) ::
  (nat_lit 162, cO "_law_due" 377 378 379 113 2 3 157 181 158 159 160 161 384 113 385) ::
  (nat_lit 163, fO "_law_due" 23 (.none) "law_trueleaf_k50_growth_told" 292 162) ::
  (nat_lit 169, cO "_law_refused" 387 388 389 121 3 3 164 181 165 166 167 168 395 121 396) ::
  (nat_lit 170, fO "_law_refused" 24 (.none) "law_trueleaf_k50_growth_told" 292 169) ::
  (nat_lit 176, cO "_law_refused_by_base" 398 399 400 128 3 3 171 181 172 173 174 175 406 128 407) ::
  (nat_lit 177, fO "_law_refused_by_base" 25 (.none) "law_trueleaf_k50_growth_told" 292 176) ::
  (nat_lit 181, ⟨(.type "code"), none, (.fields #[.str (os "law") 409, .str (os "law") 410, .str (os "/claim/cut.py") 411, .int 135 0, .int 1 0, .int 0 0, .int 0 0, .int 3 0, .ref 178, .bool true, .int 181 0, .ref 179, .none, .none, .none, .ref 180, .int 412 0, .int 135 0, .str (os "/claim/cut.py") 413]), #[]⟩) ::
  (nat_lit 182, fO "law" 26 (.none) "law_trueleaf_k50_growth_told" 292 181) :: []
noncomputable def vw : Program := { PySem.Challenge.pw_trueleaf_k50_growth_told with main := { PySem.Challenge.pw_trueleaf_k50_growth_told.main with body := top 1 :: top 2 :: top 3 :: top 5 :: top 6 :: top 7 :: top 8 :: top 9 :: top 10 :: top 12 :: top 13 :: top 14 :: top 15 :: top 16 :: top 17 :: top 18 :: top 19 :: top 20 :: top 21 :: top 22 :: top 23 :: top 24 :: top 25 :: top 26 :: [] } }
noncomputable abbrev ls : List Str := []
noncomputable abbrev hk : Hook := kHook kk (nat_lit 2 :: nat_lit 3 :: nat_lit 15 :: nat_lit 22 :: nat_lit 23 :: nat_lit 24 :: nat_lit 25 :: nat_lit 28 :: nat_lit 35 :: nat_lit 36 :: nat_lit 37 :: nat_lit 40 :: nat_lit 47 :: nat_lit 48 :: nat_lit 49 :: nat_lit 57 :: nat_lit 58 :: nat_lit 64 :: nat_lit 65 :: nat_lit 69 :: nat_lit 70 :: nat_lit 76 :: nat_lit 77 :: nat_lit 81 :: nat_lit 82 :: nat_lit 88 :: nat_lit 89 :: nat_lit 95 :: nat_lit 96 :: nat_lit 102 :: nat_lit 103 :: nat_lit 109 :: nat_lit 110 :: nat_lit 116 :: nat_lit 117 :: nat_lit 123 :: nat_lit 124 :: nat_lit 128 :: nat_lit 129 :: nat_lit 133 :: nat_lit 134 :: nat_lit 138 :: nat_lit 139 :: nat_lit 145 :: nat_lit 146 :: nat_lit 150 :: nat_lit 151 :: nat_lit 155 :: nat_lit 156 :: nat_lit 162 :: nat_lit 163 :: nat_lit 169 :: nat_lit 170 :: nat_lit 176 :: nat_lit 177 :: nat_lit 181 :: nat_lit 182 :: []) (fun _ => by kernel_rfl)
noncomputable abbrev rr : RowW := OpenRow.toRowW (OpenLaw.row PySem.Challenge.rw_trueleaf_k50_growth_told)
noncomputable abbrev xt : Shared → Bool := fun s => xlAt vw [] s && recOk (RowW.records rr) s
set_option maxHeartbeats 0 in
theorem left : LeftO PySem.Challenge.pw_trueleaf_k50_growth_told vw ls xt (Hook.obs hk) (Hook.val hk) 2640 := by
  intro w
  kernel_rfl
end K50
set_option maxHeartbeats 4000000
namespace L2
open PySem PySem.Spec PyProof.Rows

abbrev Key := Sum Int Str
def keyIs : Key → Value → Bool
  | .inl k, v => Value.isInt k v
  | .inr x, v => Value.isStrOf x v
def keyH (w : World) : Key → Int
  | .inl k => hashInt k
  | .inr x => hashStr w x
theorem keyIs_shape : ∀ {k : Key} {v : Value}, keyIs k v = true → (∃ i t, k = Sum.inl i ∧ v = Value.int i t) ∨ (∃ x t, k = Sum.inr x ∧ v = Value.str x t)
  | .inl i, v, h => by
    obtain ⟨t, e⟩ := Value.isInt_shape (k := i) (v := v) h
    exact .inl ⟨i, t, rfl, e⟩
  | .inr x, v, h => by
    obtain ⟨t, e⟩ := Value.isStrOf_shape (x := x) (v := v) h
    exact .inr ⟨x, t, rfl, e⟩
theorem key_ll (a b : Int) : decide ((Sum.inl a : Key) = Sum.inl b) = (a == b) := by
  by_cases e : a = b
  · subst e; simp
  · have h : ¬ (Sum.inl a : Key) = Sum.inl b := fun q => e (Sum.inl.inj q)
    rw [decide_eq_false h]
    exact (beq_eq_false_iff_ne.mpr e).symm
theorem key_rr (a b : Str) : decide ((Sum.inr a : Key) = Sum.inr b) = decide (a = b) := by
  by_cases e : a = b
  · subst e; simp
  · have h : ¬ (Sum.inr a : Key) = Sum.inr b := fun q => e (Sum.inr.inj q)
    rw [decide_eq_false h, decide_eq_false e]
theorem key_lr (a : Int) (b : Str) : decide ((Sum.inl a : Key) = Sum.inr b) = false := decide_eq_false (fun q => nomatch q)
theorem key_rl (a : Str) (b : Int) : decide ((Sum.inr a : Key) = Sum.inl b) = false := decide_eq_false (fun q => nomatch q)

def mixKind (prog : Program) (w : World) : PySem.KeyKind prog w Key where
  is := keyIs
  hash := keyH w
  inj := fun v a b ha hb => by
    rcases keyIs_shape ha with ⟨i, t, rfl, rfl⟩ | ⟨x, t, rfl, rfl⟩
    · rcases keyIs_shape hb with ⟨j, u, rfl, e⟩ | ⟨y, u, rfl, e⟩
      · injection e with e1 _; rw [e1]
      · exact nomatch e
    · rcases keyIs_shape hb with ⟨j, u, rfl, e⟩ | ⟨y, u, rfl, e⟩
      · exact nomatch e
      · injection e with e1 _; rw [e1]
  byValue := fun k v h => by
    rcases keyIs_shape h with ⟨i, t, rfl, rfl⟩ | ⟨x, t, rfl, rfl⟩ <;> rfl
  pyHash := fun hv h => by
    rcases keyIs_shape hv with ⟨i, t, rfl, rfl⟩ | ⟨x, t, rfl, rfl⟩
    · exact wpAny_pyHash_int h
    · exact wpAny_pyHash_str h
  eqBool := fun hu hv h => by
    rcases keyIs_shape hu with ⟨i, t, rfl, rfl⟩ | ⟨x, t, rfl, rfl⟩
    · rcases keyIs_shape hv with ⟨j, u, rfl, rfl⟩ | ⟨y, u, rfl, rfl⟩
      · rw [key_ll] at h; exact wpAny_eqBool_int h
      · rw [key_lr] at h; exact SeqAt.EqAt.int_str i t y u _ _ _ _ h
    · rcases keyIs_shape hv with ⟨j, u, rfl, rfl⟩ | ⟨y, u, rfl, rfl⟩
      · rw [key_rl] at h; exact SeqAt.EqAt.str_int x t j u _ _ _ _ h
      · rw [key_rr] at h; exact wpAny_eqBool_str h
  «strs» := fun k x t v h => by
    rcases keyIs_shape h with ⟨i, u, rfl, e⟩ | ⟨y, u, rfl, e⟩
    · exact nomatch e
    · injection e with e1 _
      subst e1
      cases v <;> rfl

end L2

namespace L2
open PySem PySem.Spec PyProof.Rows

inductive V where
  | non | bl (b : Bool) | int (i : Int) | str (x : Str) | byt (b : Array UInt8) | flt (b : UInt64) | ref (a : Addr) | ty (n : String)
  deriving DecidableEq

def RelV : V → Value → Prop
  | .non, u => u = Value.none
  | .bl b, u => u = Value.bool b
  | .int i, u => ∃ t, u = Value.int i t
  | .str x, u => ∃ t, u = Value.str x t
  | .byt b, u => ∃ t, u = Value.bytes b t
  | .flt b, u => ∃ t, u = Value.float b t
  | .ref a, u => u = Value.ref a
  | .ty n, u => u = Value.type n

abbrev Vals : List V → List Value → Prop := Paired RelV
theorem Vals.length {xs : List V} {us : List Value} (r : Vals xs us) : xs.length = us.length := Paired.length r
theorem Vals.get : ∀ {xs : List V} {us : List Value} {i : Nat} {x : V}, Vals xs us → xs[i]? = some x → ∃ u, us[i]? = some u ∧ RelV x u
  | _, _, _, _, .nil, e => by simp at e
  | _, _, 0, _, .cons r _, e => by simp at e; subst e; exact ⟨_, rfl, r⟩
  | _, _, i + 1, x, .cons _ t, e => by
    obtain ⟨u, h1, h2⟩ := Vals.get (i := i) (x := x) t (by simpa using e)
    exact ⟨u, by simpa using h1, h2⟩
theorem Vals.set {x : V} {u : Value} (r : RelV x u) : ∀ {xs : List V} {us : List Value} (i : Nat), Vals xs us → Vals (xs.set i x) (us.set i u)
  | _, _, _, .nil => .nil
  | _, _, 0, .cons _ t => .cons r t
  | _, _, i + 1, .cons q t => .cons q (Vals.set r i t)
theorem Vals.append : ∀ {xs ys : List V} {us ws : List Value}, Vals xs us → Vals ys ws → Vals (xs ++ ys) (us ++ ws)
  | _, _, _, _, .nil, s => s
  | _, _, _, _, .cons r t, s => .cons r (Vals.append t s)
theorem Vals.take : ∀ {xs : List V} {us : List Value} (n : Nat), Vals xs us → Vals (xs.take n) (us.take n)
  | _, _, 0, _ => .nil
  | _, _, _ + 1, .nil => .nil
  | _, _, n + 1, .cons r t => .cons r (Vals.take n t)
theorem Vals.drop : ∀ {xs : List V} {us : List Value} (n : Nat), Vals xs us → Vals (xs.drop n) (us.drop n)
  | _, _, 0, r => r
  | _, _, _ + 1, .nil => .nil
  | _, _, n + 1, .cons _ t => Vals.drop n t
def RelO : Option V → Option Value → Prop
  | some v, some u => RelV v u
  | none, none => True
  | _, _ => False
def KV {κ : Type} : List (κ × V) → List (κ × Value) → Prop := Paired fun (p : κ × V) (q : κ × Value) => p.1 = q.1 ∧ RelV p.2 q.2

def kV : Key → V
  | .inl i => .int i
  | .inr x => .str x

inductive HO where
    | lst (xs : List V)
    | tup (xs : List V)
    | dK (kvs : List (Key × V)) | dT (kvs : List (List Key × V))
    | set (S : Int → Bool) (n : Nat)
    | ins (C dx : Addr) (fs : List (Str × V))
    | own (x : Addr)
    | xd (fs : List (Str × V))
    | met (f x : Addr)
    | rng (lo hi : Int)
    | frz (o : Obj) (u : HO)
    | tbl (ps : Array Value)
    | ext (φ : Heap → Prop)

abbrev Hp := Addr → Option HO
def upd (H : Hp) (a : Addr) (o : HO) : Hp := fun b => if b = a then some o else H b
theorem upd_same {H : Hp} {a : Addr} {o : HO} : upd H a o a = some o := by unfold upd; rw [if_pos rfl]
theorem upd_ne {H : Hp} {a b : Addr} {o : HO} (h : b ≠ a) : upd H a o b = H b := by unfold upd; rw [if_neg h]
theorem ne_of {H : Hp} {a b : Addr} {o u : HO} (h : H a = some o) (h' : H b = some u) (d : o ≠ u) : a ≠ b := by
  intro e; subst e; rw [h] at h'; exact d (Option.some.inj h')
theorem ne_of_none {H : Hp} {a b : Addr} {o : HO} (h : H a = some o) (h' : H b = none) : a ≠ b := by
  intro e; subst e; rw [h] at h'; cases h'

section
variable (P : Program) (w : World)
def ObjOk (H : Hp) (h : Heap) (a : Addr) : HO → Prop
  | .lst xs => xs.length ≤ sizeLine ∧ ∃ (its : List Value) (n : Nat), Vals xs its ∧ h.get? a = some { cls := .type "list", data := .seq its.toArray n }
  | .tup xs => xs.length ≤ sizeLine ∧ ∃ its : List Value, Vals xs its ∧ IsTup h a its.toArray
  | .dK kvs => kvs.length ≤ sizeLine ∧ (a == sysModules) = false ∧ ∃ vs, KV kvs vs ∧ h.DictOf (mixKind P w) a vs
  | .dT kvs => kvs.length ≤ sizeLine ∧ (a == sysModules) = false ∧ ∃ xs : List (List Key × Addr × Value),
      Paired (fun (p : List Key × V) (q : List Key × Addr × Value) => p.1 = q.1 ∧ H q.2.1 = some (.tup (p.1.map kV)) ∧ RelV p.2 q.2.2) kvs xs ∧
      ∃ o es ep, h.get? a = some o ∧ o.ExactDict ∧ o.data = .dict es ep ∧ es.toList = xs.map (entryOfKey (tupleKind (mixKind P w))) ∧ (xs.map (·.1)).Nodup
  | .set S n => h.SetOf (intKind P w) a S n
  | .ins C dx fs => H dx = some (.own a) ∧ fs.length ≤ 1000 ∧ dx ≠ a ∧ h.get? a = some (PySem.W.instObj C dx) ∧
      ∃ mA, h.Ns1 dx mA ∧ (∀ f, RelO (fs.lookup f) (mA f)) ∧ PySem.Within mA (fs.map (·.1))
  | .own _ => ∃ o, h.get? a = some o
  | .xd fs => ∃ mA, h.Ns1 a mA ∧ ∀ f, RelO (fs.lookup f) (mA f)
  | .rng lo hi => ∃ t u v, h.get? a = some { cls := .type "range", data := .fields #[.int lo t, .int hi u, .int 1 v] }
  | .frz o u => h.get? a = some o ∧ ObjOk H h a u
  | .tbl ps => h.get? a = some { cls := .none, data := .fields ps }
  | .met f x => h.get? a = some (PySem.W.methodObj (.ref f) (.ref x))
  | .ext φ => φ h ∧ (∃ o, h.get? a = some o) ∧ ∀ h1 h2 : Heap, φ h1 → (∀ o, h1.get? a = some o → h2.get? a = some o) → φ h2
def HOk (H : Hp) (h : Heap) : Prop := ∀ a o, H a = some o → ObjOk P w H h a o
end

section
variable {P : Program} {w : World} {H H' : Hp} {h h' : Heap} {a : Addr} {o : HO}
theorem ObjOk.lt (x : ObjOk P w H h a o) : a < h.objs.size := by
  cases o with
  | lst xs => obtain ⟨_, _, _, _, e⟩ := x; exact Heap.lt_size e
  | tup xs => obtain ⟨_, _, _, p⟩ := x; exact p.lt
  | dK kvs => obtain ⟨_, _, _, _, o, _, _, e, _⟩ := x; exact Heap.lt_size e
  | dT kvs => obtain ⟨_, _, _, _, o, _, _, e, _⟩ := x; exact Heap.lt_size e
  | set S n => obtain ⟨o, _, _, _, e, _⟩ := x; exact Heap.lt_size e
  | ins C dx fs => obtain ⟨_, _, _, e, _⟩ := x; exact Heap.lt_size e
  | own y => obtain ⟨_, e⟩ := x; exact Heap.lt_size e
  | xd fs => obtain ⟨_, ⟨_, _, _, e, _⟩, _⟩ := x; exact Heap.lt_size e
  | rng lo hi => obtain ⟨_, _, _, e⟩ := x; exact Heap.lt_size e
  | frz ob u => obtain ⟨e, _⟩ := x; exact Heap.lt_size e
  | tbl ps => exact Heap.lt_size (show h.get? a = some _ from x)
  | met f y => exact Heap.lt_size (show h.get? a = some _ from x)
  | ext φ => obtain ⟨_, ⟨_, e⟩, _⟩ := x; exact Heap.lt_size e
theorem Paired.mapP {α β : Type} {F G : α → β → Prop} : ∀ {l₁ : List α} {l₂ : List β}, Paired F l₁ l₂ → (∀ a b, F a b → G a b) → Paired G l₁ l₂
  | _, _, .nil, _ => .nil
  | _, _, .cons r t, f => .cons (f _ _ r) (Paired.mapP t f)
theorem ObjOk.stay (x : ObjOk P w H h a o) (k : ∀ b u, (b = a ∨ H b = some (.own a)) → h.get? b = some u → h'.get? b = some u)
    (ho : ∀ b, H b = some (.own a) → H' b = some (.own a)) (ht : ∀ b xs, H b = some (.tup xs) → H' b = some (.tup xs)) : ObjOk P w H' h' a o := by
  induction o with
  | lst xs => obtain ⟨z, its, n, r, e⟩ := x; exact ⟨z, its, n, r, k _ _ (.inl rfl) e⟩
  | tup xs => obtain ⟨z, its, r, ob, e, c⟩ := x; exact ⟨z, its, r, ob, k _ _ (.inl rfl) e, c⟩
  | dK kvs => obtain ⟨z, y, vs, r, ob, es, ep, e, c⟩ := x; exact ⟨z, y, vs, r, ob, es, ep, k _ _ (.inl rfl) e, c⟩
  | dT kvs =>
    obtain ⟨z, y, xs, r, ob, es, ep, e, c⟩ := x
    exact ⟨z, y, xs, Paired.mapP r fun p q z => ⟨z.1, ht _ _ z.2.1, z.2.2⟩, ob, es, ep, k _ _ (.inl rfl) e, c⟩
  | set S n => obtain ⟨ob, es, ep, t, e, c⟩ := x; exact ⟨ob, es, ep, t, k _ _ (.inl rfl) e, c⟩
  | ins C dx fs =>
    obtain ⟨d, z, ne, e, mA, ⟨od, es, ep, e2, c⟩, r⟩ := x
    exact ⟨ho _ d, z, ne, k _ _ (.inl rfl) e, mA, ⟨od, es, ep, k _ _ (.inr d) e2, c⟩, r⟩
  | own y => obtain ⟨ob, e⟩ := x; exact ⟨ob, k _ _ (.inl rfl) e⟩
  | xd fs => obtain ⟨mA, ⟨od, es, ep, e, c⟩, r⟩ := x; exact ⟨mA, ⟨od, es, ep, k _ _ (.inl rfl) e, c⟩, r⟩
  | rng lo hi => obtain ⟨t, u, v, e⟩ := x; exact ⟨t, u, v, k _ _ (.inl rfl) e⟩
  | frz ob u ih => obtain ⟨e, q⟩ := x; exact ⟨k _ _ (.inl rfl) e, ih q⟩
  | tbl ps =>
    have e : h.get? a = some { cls := .none, data := .fields ps } := x
    show h'.get? a = some { cls := .none, data := .fields ps }
    exact k a _ (.inl rfl) e
  | met f y =>
    have e : h.get? a = some (PySem.W.methodObj (.ref f) (.ref y)) := x
    show h'.get? a = some (PySem.W.methodObj (.ref f) (.ref y))
    exact k a _ (.inl rfl) e
  | ext φ => obtain ⟨p, ⟨o, e⟩, st⟩ := x; exact ⟨st _ _ p fun o q => k _ _ (.inl rfl) q, ⟨o, k _ _ (.inl rfl) e⟩, st⟩
theorem HOk.lt (x : HOk P w H h) (e : H a = some o) : a < h.objs.size := (x a o e).lt
theorem HOk.fresh (x : HOk P w H h) (e : h.objs.size ≤ a) : H a = none := by
  cases q : H a with
  | none => rfl
  | some u => exact absurd (Nat.lt_of_lt_of_le (x.lt q) e) (Nat.lt_irrefl _)
theorem HOk.kept (x : HOk P w H h) (k : ∀ b u, h.get? b = some u → h'.get? b = some u) : HOk P w H h' := fun a o e =>
  (x a o e).stay (fun b u _ q => k b u q) (fun _ q => q) fun _ _ q => q
theorem HOk.laid (x : HOk P w H h) (k : ∀ b u, h.get? b = some u → h'.get? b = some u) (hp : h.objs.size ≤ a) (new : ObjOk P w (upd H a o) h' a o) : HOk P w (upd H a o) h' := fun b u e => by
  have hn := x.fresh hp
  by_cases hb : b = a
  · subst hb; rw [upd_same] at e; cases e; exact new
  · rw [upd_ne hb] at e
    exact (x b u e).stay (fun c v _ q => k c v q) (fun c q => by rw [upd_ne (ne_of_none q hn)]; exact q) fun c xs q => by rw [upd_ne (ne_of_none q hn)]; exact q
end

def Rd (H : Hp) (a : Addr) (u : HO) : Prop := H a = some u ∨ ∃ o, H a = some (.frz o u)
theorem Rd.of {H : Hp} {a : Addr} {u : HO} (h : H a = some u) : Rd H a u := .inl h
theorem Rd.ok {P : Program} {w : World} {H : Hp} {h : Heap} {a : Addr} {u : HO} (r : Rd H a u) (x : HOk P w H h) : ObjOk P w H h a u := by
  rcases r with r | ⟨o, r⟩
  · exact x a u r
  · obtain ⟨_, q⟩ := x a _ r
    exact q
def Mut : Option HO → Prop
  | some (.lst _) => True
  | some (.dK _) => True
  | some (.dT _) => True
  | some (.set _ _) => True
  | some (.ins _ _ _) => True
  | some (.ext _) => True
  | _ => False
section
variable {P : Program} {w : World} {H : Hp} {h h' : Heap} {x e : Addr} {o' : HO}
theorem HOk.write (ok : HOk P w H h) (mu : Mut (H x)) (he : e = x ∨ H e = some (.own x)) (k : ∀ b u, b ≠ e → h.get? b = some u → h'.get? b = some u) (heo : ∃ u, h'.get? e = some u)
    (new : ObjOk P w (upd H x o') h' x o') : HOk P w (upd H x o') h' := fun b u q => by
  have nown : ∀ c y, H c = some (.own y) → c ≠ x := fun c y r z => by subst z; rw [r] at mu; exact mu
  have ntup : ∀ c xs, H c = some (.tup xs) → c ≠ x := fun c xs r z => by subst z; rw [r] at mu; exact mu
  by_cases hb : b = x
  · subst hb; rw [upd_same] at q; cases q; exact new
  · rw [upd_ne hb] at q
    by_cases hbe : b = e
    · have q' : H b = some (.own x) := by
        rcases he with z | z
        · exact absurd (hbe.trans z) hb
        · rw [hbe]; exact z
      rw [q] at q'; cases q'
      obtain ⟨v, hv⟩ := heo
      exact ⟨v, by rw [hbe]; exact hv⟩
    · refine (ok b u q).stay (fun c v hc r => k c v ?_ r) (fun c r => by rw [upd_ne (nown c b r)]; exact r) fun c xs r => by rw [upd_ne (ntup c xs r)]; exact r
      rcases hc with rfl | hc
      · exact hbe
      · rintro rfl
        rcases he with z | z
        · exact nown c b hc z
        · rw [hc] at z; cases z; exact hb rfl
end

structure Un (fs ex : List Addr) (H H' : Hp) (h h' : Heap) : Prop where
  keep : ∀ b o, h.get? b = some o → H b = none → b ∉ fs → b ∉ ex → h'.get? b = some o
  slot : ∀ b o, h.get? b = some o → H b = none → b ∈ fs → b ∉ ex → ∃ sl, h'.get? b = some { o with slots := sl }
  free : ∀ b o, h.get? b = some o → H b = none → b ∉ ex → H' b = none
  there : ∀ b o, h.get? b = some o → b ∉ ex → ∃ o', h'.get? b = some o'
  tups : ∀ b xs, H b = some (.tup xs) → H' b = some (.tup xs)
  frzs : ∀ b o u, H b = some (.frz o u) → H' b = some (.frz o u)
  tbls : ∀ b ps, H b = some (.tbl ps) → ∃ more, H' b = some (.tbl (ps ++ more))
section
variable {fs fs' ex ex' : List Addr} {H H1 H2 : Hp} {h h1 h2 h' : Heap} {a x e : Addr} {o : HO}
theorem Un.any (u : Un fs ex H H1 h h1) {b : Addr} {ob : Obj} (q : h.get? b = some ob) (n : H b = none) (hx : b ∉ ex) : ∃ sl, h1.get? b = some { ob with slots := sl } := by
  by_cases hb : b ∈ fs
  · exact u.slot b ob q n hb hx
  · exact ⟨ob.slots, u.keep b ob q n hb hx⟩
theorem Un.trans (a : Un fs ex H H1 h h1) (b : Un fs ex H1 H2 h1 h2) : Un fs ex H H2 h h2 where
  keep := fun c ob q n hc hx => b.keep c ob (a.keep c ob q n hc hx) (a.free c ob q n hx) hc hx
  slot := fun c ob q n hc hx => by
    obtain ⟨sl, e1⟩ := a.slot c ob q n hc hx
    obtain ⟨sl', e2⟩ := b.slot c _ e1 (a.free c ob q n hx) hc hx
    exact ⟨sl', e2⟩
  free := fun c ob q n hx => by
    obtain ⟨o', e1⟩ := a.there c ob q hx
    exact b.free c o' e1 (a.free c ob q n hx) hx
  there := fun c ob q hx => by
    obtain ⟨o', e1⟩ := a.there c ob q hx
    exact b.there c o' e1 hx
  tups := fun c xs q => b.tups c xs (a.tups c xs q)
  frzs := fun c ob xs q => b.frzs c ob xs (a.frzs c ob xs q)
  tbls := fun c ps q => by
    obtain ⟨m1, e1⟩ := a.tbls c ps q
    obtain ⟨m2, e2⟩ := b.tbls c _ e1
    exact ⟨m1 ++ m2, by rw [e2, Array.append_assoc]⟩
theorem Un.kept (k : ∀ b u, h.get? b = some u → h'.get? b = some u) : Un fs ex H H h h' :=
  ⟨fun b ob q _ _ _ => k b ob q, fun b ob q _ _ _ => ⟨ob.slots, k b ob q⟩, fun _ _ _ n _ => n, fun b ob q _ => ⟨ob, k b ob q⟩, fun _ _ q => q, fun _ _ _ q => q, fun _ ps q => ⟨#[], by rw [q]; simp⟩⟩
theorem Un.refl : Un fs ex H H h h := Un.kept fun _ _ q => q
theorem Un.laid (k : ∀ b u, h.get? b = some u → h'.get? b = some u) (hp : h.objs.size ≤ a) (hn : H a = none) : Un fs ex H (upd H a o) h h' where
  keep := fun b u q _ _ _ => k b u q
  slot := fun b u q _ _ _ => ⟨u.slots, k b u q⟩
  free := fun b u q n _ => by rw [upd_ne (Nat.ne_of_lt (Nat.lt_of_lt_of_le (Heap.lt_size q) hp))]; exact n
  there := fun b u q _ => ⟨u, k b u q⟩
  tups := fun b xs q => by rw [upd_ne (ne_of_none q hn)]; exact q
  frzs := fun b u xs q => by rw [upd_ne (ne_of_none q hn)]; exact q
  tbls := fun b ps q => ⟨#[], by rw [upd_ne (ne_of_none q hn), q]; simp⟩
theorem Un.write (mu : Mut (H x)) (he : e = x ∨ H e = some (.own x)) (k : ∀ b u, b ≠ e → h.get? b = some u → h'.get? b = some u) (heo : ∃ u, h'.get? e = some u) : Un fs ex H (upd H x o) h h' := by
  have hx : ∀ b, H b = none → b ≠ x := fun b n z => by subst z; rw [n] at mu; exact mu
  have hb : ∀ b, H b = none → b ≠ e := fun b n z => by
    subst z
    rcases he with r | r
    · exact hx b n r
    · rw [n] at r; cases r
  have hm : ∀ b u, H b = some u → ¬ Mut (some u) → b ≠ x := fun b u q nm z => by subst z; rw [q] at mu; exact nm mu
  refine ⟨fun b u q n _ _ => k b u (hb b n) q, fun b u q n _ _ => ⟨u.slots, k b u (hb b n) q⟩, fun b u q n _ => by rw [upd_ne (hx b n)]; exact n, fun b u q _ => ?_,
    fun b xs q => by rw [upd_ne (hm b _ q fun z => z)]; exact q, fun b u xs q => by rw [upd_ne (hm b _ q fun z => z)]; exact q, fun b ps q => ⟨#[], by rw [upd_ne (hm b _ q fun z => z), q]; simp⟩⟩
  by_cases hbe : b = e
  · subst hbe; exact heo
  · exact ⟨u, k b u hbe q⟩
theorem Un.mono (u : Un fs ex H H1 h h1) (hs : ∀ b ∈ fs, b ∈ fs') (hx : ∀ b ∈ ex, b ∈ ex') : Un fs' ex' H H1 h h1 :=
  ⟨fun b ob q n hb he => u.keep b ob q n (fun z => hb (hs b z)) fun z => he (hx b z), fun _ _ q n _ he => u.any q n fun z => he (hx _ z), fun b ob q n he => u.free b ob q n fun z => he (hx b z), fun b ob q he => u.there b ob q fun z => he (hx b z), u.tups, u.frzs, u.tbls⟩
end

def trk (h : Heap) (H : Hp) : List Addr := (List.range h.objs.size).filter fun a => (H a).isSome
def hidT (h : Heap) (H : Hp) : Heap := PySem.W.hideAll h (trk h H)
theorem hidT_size (h : Heap) (H : Hp) : (hidT h H).objs.size = h.objs.size := PySem.W.hideAll_size _ _
theorem hidT_get {h : Heap} {H : Hp} {b : Addr} {o : Obj} (e : h.get? b = some o) (n : H b = none) : (hidT h H).get? b = some o :=
  PySem.W.hideAll_get _ e fun hm => by
    have q : (H b).isSome = true := (List.mem_filter.mp hm).2
    rw [n] at q; simp at q
theorem of_hidT {h : Heap} {H : Hp} {b : Addr} {o : Obj} (e : (hidT h H).get? b = some o) : h.get? b = some o ∧ H b = none := by
  have e' : h.get? b = some o := PySem.W.of_hideAll (trk h H) e
  refine ⟨e', ?_⟩
  cases q : H b with
  | none => rfl
  | some x =>
    have hm : b ∈ trk h H := List.mem_filter.mpr ⟨List.mem_range.mpr (Heap.lt_size e'), by simp [q]⟩
    have z : (hidT h H).get? b = none := PySem.W.hideAll_none (trk h H) hm
    rw [z] at e; cases e

def allNews (g h : Heap) (L : Addr) : List (Addr × Obj) := (List.range h.objs.size).filterMap fun a => if a = L ∨ (g.get? a).isSome = true then none else (h.get? a).map fun o => (a, o)
def rest (g h : Heap) (L d : Addr) : List (Addr × Obj) := (allNews g h L).filter fun p => decide (p.1 ≠ d)
end L2

namespace L2
open PySem PySem.Spec PyProof.Rows

structure Mod (K : PySem.W.Frag) (mg : Str → Option Value) (base : Heap) : Prop where
  kin : K.In base
  glob : base.Ns mainGlobals mg
  blt : ∃ mb, base.Ns builtinsNs mb ∧ ∀ x : Str, x ≠ "__name__" → mb x = bootBuiltins x
  nolimit : base.NoLimit

structure Cx where
  prog : Program
  w : World
  K : PySem.W.Frag
  mg : Str → Option Value
  base : Heap
  A : Around
  N : List Str
  s₀ : Shared
  H₀ : Hp
  env : Env
  outer : List Env
  stack : List Env
  ex : List Addr
  fn : Str → Bool
  calm : Bool
  pn : List (Addr × Obj)
  xe : Value → Shared → Prop
def frs (l : List Env) : List Addr := l.filterMap (·.frame)
abbrev Cx.fs (X : Cx) : List Addr := frs X.outer

def Vis (sc : Scope) (x : Str) : Prop := sc.names.lookup x = some .local ∨ sc.names.lookup x = some .cell ∨ sc.names.lookup x = some .free
def Loc (sc : Scope) (x : Str) : Prop := sc.names.lookup x = some .local ∨ sc.names.lookup x = some .cell
def Look (env : Env) (h : Heap) (m : Str → Option Value) (x : Str) (u : Value) : Prop :=
  (env.kindOf x = some .local ∧ m x = some u) ∨ ((env.kindOf x = some .cell ∨ env.kindOf x = some .free) ∧ ∃ c, env.cells.lookup x = some c ∧ h.IsCell c (some u))

structure Cx.Ok (X : Cx) : Prop where
  mod : Mod X.K X.mg X.base
  kind : X.env.scope.kind = .function
  glob : X.env.globals = mainGlobals
  blt : X.env.builtins = builtinsNs
  above : X.s₀.heap.objs.size ≤ X.env.locals
  inj : ∀ x y c, X.env.cells.lookup x = some c → X.env.cells.lookup y = some c → x = y
  has : ∀ x, (X.env.kindOf x = some .cell ∨ X.env.kindOf x = some .free) → ∃ c, X.env.cells.lookup x = some c
  cab : ∀ x c, X.fn x = true → X.env.cells.lookup x = some c → X.s₀.heap.objs.size ≤ c
  hd : X.calm = true → X.A.handled = none
  frames : X.A.frames = some X.stack
  stk : X.stack = X.outer ∨ (X.stack = X.env :: X.outer ∧ X.env.frame = some X.env.locals)
  exf : ∀ b ∈ X.ex, b ≠ X.env.locals ∧ ∀ x c, X.env.cells.lookup x = some c → c ≠ b
  bs : ∀ b o, X.base.get? b = some o → X.s₀.heap.get? b = some o ∧ X.H₀ b = none
  bsz : X.base.objs.size ≤ X.s₀.heap.objs.size
  noex : ∀ b o, X.base.get? b = some o → b ∉ X.ex
  exfs : ∀ b ∈ X.ex, b ∉ X.fs
  funs : X.s₀.heap.FunFrames X.base X.outer
  frf : ∀ b ∈ X.fs, X.H₀ b = none

structure Inv (X : Cx) (pins : List (Addr × Obj)) (σ : List (Option V)) (H : Hp) (s : Shared) : Prop where
  ok : X.Ok
  os : s.os = X.s₀.os
  bare : AllBare s.gens
  base : Un X.fs X.ex X.H₀ H X.s₀.heap s.heap
  loc : ∃ m, s.heap.Ns X.env.locals m ∧ ∀ (i : Nat) (x : Str) (v : V), X.N[i]? = some x → σ[i]? = some (some v) → Vis X.env.scope x → ∃ u, RelV v u ∧ Look X.env s.heap m x u
  cell : ∀ x c, X.env.cells.lookup x = some c → ∃ v, s.heap.IsCell c v
  free : H X.env.locals = none
  freeC : ∀ x c, X.env.cells.lookup x = some c → H c = none
  pin : ∀ p ∈ X.pn ++ pins, s.heap.get? p.1 = some p.2 ∧ H p.1 = none ∧ p.1 ≠ X.env.locals ∧ p.1 ∉ X.fs ∧ ∀ v, p.2.data ≠ .cell v
  hok : HOk X.prog X.w H s.heap
  len : σ.length = X.N.length

section
variable {X : Cx} {pins : List (Addr × Obj)} {σ : List (Option V)} {H H' : Hp} {s : Shared} {h' : Heap}

theorem Cx.Ok.nofr (ok : X.Ok) {b : Addr} {o : Obj} (e : X.base.get? b = some o) : b ∉ X.fs := fun hb => by
  have := (ok.funs.mem hb).1
  rw [e] at this; cases this
theorem Inv.bs (I : Inv X pins σ H s) : ∀ b o, X.base.get? b = some o → s.heap.get? b = some o ∧ H b = none := fun b o e =>
  ⟨I.base.keep b o (I.ok.bs b o e).1 (I.ok.bs b o e).2 (I.ok.nofr e) (I.ok.noex b o e), I.base.free b o (I.ok.bs b o e).1 (I.ok.bs b o e).2 (I.ok.noex b o e)⟩
theorem Inv.bk (I : Inv X pins σ H s) : ∀ b o, X.base.get? b = some o → s.heap.get? b = some o := fun b o e => (I.bs b o e).1
theorem Inv.mod (I : Inv X pins σ H s) : Mod X.K X.mg X.base := I.ok.mod
theorem Inv.kIn (I : Inv X pins σ H s) : X.K.In s.heap := I.ok.mod.kin.keeps I.bk
theorem Inv.nolimit (I : Inv X pins σ H s) : s.heap.NoLimit := I.ok.mod.nolimit.keeps I.bk
theorem Inv.fr (I : Inv X pins σ H s) : ∃ m, Fr X.base X.env.locals s.heap m :=
  let ⟨m, hn, _⟩ := I.loc
  ⟨m, hn, I.bk, Nat.le_trans I.ok.bsz I.ok.above⟩
theorem Inv.lt (I : Inv X pins σ H s) : X.env.locals < s.heap.objs.size := let ⟨_, hn, _⟩ := I.loc; hn.lt
theorem Inv.sz (I : Inv X pins σ H s) : X.s₀.heap.objs.size ≤ s.heap.objs.size := Nat.le_trans I.ok.above (Nat.le_of_lt I.lt)
theorem Inv.nofs (I : Inv X pins σ H s) {a : Addr} (h : s.heap.objs.size ≤ a) : a ∉ X.fs := fun hb => by
  obtain ⟨_, o, ho, _⟩ := I.ok.funs.mem hb
  exact absurd (Nat.lt_of_lt_of_le (Heap.lt_size ho) (Nat.le_trans I.sz h)) (Nat.lt_irrefl _)
theorem Inv.cne (I : Inv X pins σ H s) : ∀ x c, X.env.cells.lookup x = some c → c ≠ X.env.locals := fun x c e z => by
  obtain ⟨v, o, ho, hd⟩ := I.cell x c e
  obtain ⟨m, ⟨o', es, ep, ho', hd', _⟩, _⟩ := I.loc
  rw [z, ho'] at ho; cases ho; rw [hd'] at hd; cases hd
theorem Inv.funs (I : Inv X pins σ H s) : s.heap.FunFrames X.base X.outer := by
  have all : ∀ (l : List Env), (∀ b ∈ frs l, b ∈ X.fs) → X.s₀.heap.FunFrames X.base l → s.heap.FunFrames X.base l := by
    intro l
    induction l with
    | nil => intro _ _; trivial
    | cons env r ih =>
      intro hs hl
      obtain ⟨hk, ⟨L, o, hf, hn, ho, hd⟩, hr⟩ := hl
      have hL : L ∈ X.fs := hs L (by unfold frs; rw [List.filterMap_cons, hf]; exact List.mem_cons_self)
      obtain ⟨sl, e⟩ := I.base.slot L o ho (I.ok.frf L hL) hL fun z => I.ok.exfs L z hL
      exact ⟨hk, ⟨L, _, hf, hn, e, hd⟩, ih (fun b hb => hs b (by unfold frs; rw [List.filterMap_cons, hf]; exact List.mem_cons_of_mem _ hb)) hr⟩
  exact all X.outer (fun _ hb => hb) I.ok.funs

theorem Inv.stack (I : Inv X pins σ H s) : s.heap.FunFrames X.base X.stack := by
  rcases I.ok.stk with e | ⟨e, hf⟩
  · rw [e]; exact I.funs
  · rw [e]
    obtain ⟨m, hn, _⟩ := I.loc
    refine .cons (by rw [I.ok.kind]; decide) hf hn ?_ I.funs
    exact Heap.get?_none_of_le (Nat.le_trans I.ok.bsz I.ok.above)
theorem Inv.stkSub (I : Inv X pins σ H s) : ∀ b ∈ frs X.stack, b ∈ X.env.locals :: X.fs := fun b hb => by
  rcases I.ok.stk with e | ⟨e, hf⟩
  · rw [e] at hb; exact List.mem_cons_of_mem _ hb
  · rw [e] at hb
    unfold frs at hb
    rw [List.filterMap_cons, hf] at hb
    exact hb
theorem Inv.stkFree (I : Inv X pins σ H s) : ∀ b ∈ frs X.stack, H b = none := fun b hb => by
  rcases List.mem_cons.mp (I.stkSub b hb) with e | hb
  · rw [e]; exact I.free
  · obtain ⟨_, o, ho, _⟩ := I.ok.funs.mem hb
    exact I.base.free b o ho (I.ok.frf b hb) fun z => I.ok.exfs b z hb

theorem Inv.step {g' : Array GenState} {t' : Nat} {d' : Drawn} {ch : List Addr} (I : Inv X pins σ H s)
    (hch : ∀ b ∈ ch, (b ∈ X.ex ∨ X.s₀.heap.objs.size ≤ b) ∧ b ≠ X.env.locals ∧ (∀ x c, X.env.cells.lookup x = some c → c ≠ b) ∧ ∀ p ∈ X.pn ++ pins, p.1 ≠ b)
    (keep : ∀ b o, b ≠ X.env.locals → b ∉ X.fs → b ∉ ch → s.heap.get? b = some o → H b = none → h'.get? b = some o)
    (slot : ∀ b o, b ≠ X.env.locals → b ∈ X.fs → b ∉ ch → s.heap.get? b = some o → H b = none → ∃ sl, h'.get? b = some { o with slots := sl }) (free : ∀ b o, b ∉ ch → s.heap.get? b = some o → H b = none → H' b = none)
    (there : ∀ b o, b ∉ ch → s.heap.get? b = some o → ∃ o', h'.get? b = some o')
    (tups : ∀ b xs, H b = some (.tup xs) → H' b = some (.tup xs)) (frzs : ∀ b o u, H b = some (.frz o u) → H' b = some (.frz o u)) (tbls : ∀ b ps, H b = some (.tbl ps) → ∃ more, H' b = some (.tbl (ps ++ more)))
    (ns : ∀ m, s.heap.Ns X.env.locals m → h'.Ns X.env.locals m) (hok : HOk X.prog X.w H' h') (hg : AllBare g') :
    Inv X pins σ H' { s with heap := h', gens := g', drawn := d', toks := t' } := by
  have neL : ∀ b o, X.s₀.heap.get? b = some o → b ≠ X.env.locals := fun b o e => Nat.ne_of_lt (Nat.lt_of_lt_of_le (Heap.lt_size e) I.ok.above)
  have neC : ∀ b o, X.s₀.heap.get? b = some o → b ∉ X.ex → b ∉ ch := fun b o e hx hb => by
    rcases (hch b hb).1 with z | z
    · exact hx z
    · exact absurd (Nat.lt_of_lt_of_le (Heap.lt_size e) z) (Nat.lt_irrefl _)
  have cellK : ∀ x c, X.env.cells.lookup x = some c → ∀ v, s.heap.IsCell c v → h'.IsCell c v := fun x c e v ⟨o, ho, hd⟩ => by
    have nch : c ∉ ch := fun z => (hch c z).2.2.1 x c e rfl
    by_cases hc : c ∈ X.fs
    · obtain ⟨sl, q⟩ := slot c o (I.cne x c e) hc nch ho (I.freeC x c e)
      exact ⟨_, q, hd⟩
    · exact ⟨o, keep c o (I.cne x c e) hc nch ho (I.freeC x c e), hd⟩
  refine ⟨I.ok, I.os, hg, ⟨fun b o e n hb hx => ?_, fun b o e n hb hx => ?_, fun b o e n hx => ?_, fun b o e hx => ?_, fun b xs e => tups b xs (I.base.tups b xs e), fun b o xs e => frzs b o xs (I.base.frzs b o xs e), fun b ps e => ?_⟩, ?_, fun x c e => ?_, ?_, fun x c e => ?_, fun p hp => ?_, hok, I.len⟩
  · exact keep b o (neL b o e) hb (neC b o e hx) (I.base.keep b o e n hb hx) (I.base.free b o e n hx)
  · obtain ⟨sl, e1⟩ := I.base.slot b o e n hb hx
    obtain ⟨sl', e2⟩ := slot b _ (neL b o e) hb (neC b o e hx) e1 (I.base.free b o e n hx)
    exact ⟨sl', e2⟩
  · obtain ⟨o', e1⟩ := I.base.there b o e hx
    exact free b o' (neC b o e hx) e1 (I.base.free b o e n hx)
  · obtain ⟨o', e1⟩ := I.base.there b o e hx
    exact there b o' (neC b o e hx) e1
  · obtain ⟨m1, e1⟩ := I.base.tbls b ps e
    obtain ⟨m2, e2⟩ := tbls b _ e1
    exact ⟨m1 ++ m2, by rw [e2, Array.append_assoc]⟩
  · obtain ⟨m, hn, hl⟩ := I.loc
    refine ⟨m, ns m hn, fun i x v e1 e2 e3 => ?_⟩
    obtain ⟨u, r, l⟩ := hl i x v e1 e2 e3
    refine ⟨u, r, ?_⟩
    rcases l with l | ⟨k, c, e, z⟩
    · exact .inl l
    · exact .inr ⟨k, c, e, cellK x c e _ z⟩
  · obtain ⟨v, z⟩ := I.cell x c e
    exact ⟨v, cellK x c e v z⟩
  · obtain ⟨m, ⟨o, _, _, ho, _⟩, _⟩ := I.loc
    exact free _ o (fun z => (hch _ z).2.1 rfl) ho I.free
  · obtain ⟨v, o, ho, hd⟩ := I.cell x c e
    exact free c o (fun z => (hch c z).2.2.1 x c e rfl) ho (I.freeC x c e)
  · obtain ⟨e, n, ne, nf, d⟩ := I.pin p hp
    have nch : p.1 ∉ ch := fun z => (hch p.1 z).2.2.2 p hp rfl
    exact ⟨keep p.1 p.2 ne nf nch e n, free p.1 p.2 nch e n, ne, nf, d⟩
theorem Inv.un {t' : Nat} (I : Inv X pins σ H s) (u : Un X.fs [] H H' s.heap h') (hok : HOk X.prog X.w H' h') : Inv X pins σ H' { s with heap := h', toks := t' } := by
  obtain ⟨m, ⟨o, es, ep, ho, r⟩, _⟩ := id I.loc
  obtain ⟨sl, hL⟩ := u.any ho I.free (by simp)
  exact I.step (g' := s.gens) (d' := s.drawn) (ch := []) (fun _ z => nomatch z) (fun b o _ hb _ e n => u.keep b o e n hb (by simp)) (fun b o _ hb _ e n => u.slot b o e n hb (by simp)) (fun b o _ e n => u.free b o e n (by simp)) (fun b o _ e => u.there b o e (by simp)) u.tups u.frzs u.tbls (fun m' hm => by
    obtain ⟨o', es', ep', ho', r'⟩ := hm
    rw [ho] at ho'; cases ho'
    exact ⟨_, es', ep', hL, r'⟩) hok I.bare
theorem Inv.call {g' : Array GenState} {t' : Nat} {d' : Drawn} {ch : List Addr} (I : Inv X pins σ H s) (u : Un (frs X.stack) ch H H' s.heap h') (hok : HOk X.prog X.w H' h') (hg : AllBare g')
    (hch : ∀ b ∈ ch, (b ∈ X.ex ∨ X.s₀.heap.objs.size ≤ b) ∧ b ≠ X.env.locals ∧ (∀ x c, X.env.cells.lookup x = some c → c ≠ b) ∧ ∀ p ∈ X.pn ++ pins, p.1 ≠ b) :
    Inv X pins σ H' { s with heap := h', gens := g', drawn := d', toks := t' } := by
  obtain ⟨m, ⟨o, es, ep, ho, r⟩, _⟩ := id I.loc
  obtain ⟨sl, hL⟩ := u.any ho I.free fun z => (hch _ z).2.1 rfl
  exact I.step (ch := ch) hch (fun b o hL hb hc e n => u.keep b o e n (fun z => (List.mem_cons.mp (I.stkSub b z)).elim hL hb) hc) (fun b o _ _ hc e n => u.any e n hc) (fun b o hc e n => u.free b o e n hc) (fun b o hc e => u.there b o e hc) u.tups u.frzs u.tbls (fun m' hm => by
    obtain ⟨o', es', ep', ho', r'⟩ := hm
    rw [ho] at ho'; cases ho'
    exact ⟨_, es', ep', hL, r'⟩) hok hg
theorem Inv.turned {t' : Nat} {it : Addr} (I : Inv X pins σ H s) (k : ∀ b o, b ≠ it → s.heap.get? b = some o → h'.get? b = some o) (hn : H it = none) (hL : it ≠ X.env.locals)
    (h1 : it ∈ X.ex ∨ X.s₀.heap.objs.size ≤ it) (h2 : ∀ x c, X.env.cells.lookup x = some c → c ≠ it) (h3 : ∀ p ∈ X.pn ++ pins, p.1 ≠ it) : Inv X pins σ H { s with heap := h', toks := t' } := by
  have nit : ∀ b u, H b = some u → b ≠ it := fun b u e z => by rw [z, hn] at e; cases e
  refine I.step (g' := s.gens) (d' := s.drawn) (ch := [it]) (fun b hb => ?_) (fun b o _ _ hc e _ => k b o (fun z => hc (by simp [z])) e) (fun b o _ _ hc e _ => ⟨o.slots, k b o (fun z => hc (by simp [z])) e⟩) (fun _ _ _ _ n => n)
    (fun b o hc e => ⟨o, k b o (fun z => hc (by simp [z])) e⟩) (fun _ _ e => e) (fun _ _ _ e => e) (fun b ps e => ⟨#[], by rw [e]; simp⟩) (fun m hm => ?_) (fun b u e => ?_) I.bare
  · have e : b = it := by simpa using hb
    subst e
    exact ⟨h1, hL, h2, h3⟩
  · obtain ⟨o, es, ep, ho, r⟩ := hm
    exact ⟨o, es, ep, k _ o (Ne.symm hL) ho, r⟩
  · refine (I.hok b u e).stay (fun c v hc q => k c v ?_ q) (fun _ q => q) fun _ _ q => q
    rcases hc with z | z
    · rw [z]; exact nit b u e
    · exact nit c _ z
theorem Inv.tok (I : Inv X pins σ H s) (t : Nat) : Inv X pins σ H { s with toks := t } := I.un (h' := s.heap) (t' := t) Un.refl I.hok
theorem Inv.kept {t' : Nat} (I : Inv X pins σ H s) (k : ∀ b u, s.heap.get? b = some u → h'.get? b = some u) : Inv X pins σ H { s with heap := h', toks := t' } := I.un (Un.kept k) (I.hok.kept k)
theorem Inv.laid {a : Addr} {o : HO} {t' : Nat} (I : Inv X pins σ H s) (k : ∀ b u, s.heap.get? b = some u → h'.get? b = some u) (hp : s.heap.objs.size ≤ a) (new : ObjOk X.prog X.w (upd H a o) h' a o) :
    Inv X pins σ (upd H a o) { s with heap := h', toks := t' } := I.un (Un.laid k hp (I.hok.fresh hp)) (I.hok.laid k hp new)
theorem Inv.write {x e : Addr} {o : HO} {t' : Nat} (I : Inv X pins σ H s) (mu : Mut (H x)) (he : e = x ∨ H e = some (.own x)) (k : ∀ b u, b ≠ e → s.heap.get? b = some u → h'.get? b = some u) (heo : ∃ u, h'.get? e = some u)
    (new : ObjOk X.prog X.w (upd H x o) h' x o) : Inv X pins σ (upd H x o) { s with heap := h', toks := t' } := I.un (Un.write mu he k heo) (I.hok.write mu he k heo new)
theorem Inv.pins_of {pins' : List (Addr × Obj)} (I : Inv X pins σ H s) (h : ∀ p ∈ pins', s.heap.get? p.1 = some p.2 ∧ H p.1 = none ∧ p.1 ≠ X.env.locals ∧ p.1 ∉ X.fs ∧ ∀ v, p.2.data ≠ .cell v) : Inv X pins' σ H s :=
  ⟨I.ok, I.os, I.bare, I.base, I.loc, I.cell, I.free, I.freeC, fun p hp => (List.mem_append.mp hp).elim (fun z => I.pin p (List.mem_append_left _ z)) (h p), I.hok, I.len⟩

theorem nodup_ix {N : List Str} (hN : N.Nodup) {i j : Nat} {x : Str} (a : N[i]? = some x) (b : N[j]? = some x) : i = j := by
  obtain ⟨h1, e1⟩ := List.getElem?_eq_some_iff.mp a
  obtain ⟨h2, e2⟩ := List.getElem?_eq_some_iff.mp b
  exact (List.getElem_inj hN).mp (e1.trans e2.symm)

theorem store_ok2 {M : Model} {A : Around} {E : Value → Shared → Prop} {i : Nat} {x : Str} {v : V} {u : Value} {Q : Unit → Shared → Prop} (I : Inv X pins σ H s) (hN : X.N.Nodup) (hi : X.N[i]? = some x) (hx : Loc X.env.scope x) (r : RelV v u)
    (h : ∀ s', Inv X pins (σ.set i (some v)) H s' → (∃ a, Heap.SameBut a s.heap s'.heap ∧ (a = X.env.locals ∨ X.env.cells.lookup x = some a)) → Q () s') (hf : X.fn x = true ∨ X.env.scope.names.lookup x = some .local := by first | exact .inl rfl | exact .inr rfl | assumption) : wpAny M A (storeName X.env x u) Q E s := by
  obtain ⟨m, hn, hl⟩ := id I.loc
  have hcls : (X.env.scope.kind == .class || (X.env.scope.kind == .module && X.env.locals != X.env.globals)) = false := by rw [I.ok.kind]; rfl
  have hiσ : i < σ.length := by rw [I.len]; exact (List.getElem?_eq_some_iff.mp hi).1
  have cne := I.cne
  have tracked : ∀ {a : Addr} {h' : Heap}, (∃ o, s.heap.get? a = some o ∧ H a = none) → Heap.SameBut a s.heap h' → HOk X.prog X.w H h' := fun {a h'} ha hs b ob e => by
    obtain ⟨_, _, hfree⟩ := ha
    refine (I.hok b ob e).stay (fun c w' hc q => (hs.2 c ?_).trans q) (fun _ q => q) fun _ _ q => q
    rintro rfl
    rcases hc with rfl | hc
    · rw [hfree] at e; cases e
    · rw [hfree] at hc; cases hc
  rcases hx with hk | hk
  · refine wpAny_storeName_local hk hn (fun h' hn' hs => ?_) hcls
    obtain ⟨oL, _, _, hoL, _⟩ := id hn
    refine h _ ⟨I.ok, I.os, I.bare, ⟨fun b o e n hb hx => ?_, fun b o e n hb hx => ?_, I.base.free, fun b o e hx => ?_, I.base.tups, I.base.frzs, I.base.tbls⟩, ⟨_, hn', fun j y v' e1 e2 e3 => ?_⟩, fun y c e => ?_, I.free, I.freeC, fun p hp => ?_, tracked ⟨oL, hoL, I.free⟩ hs, by simpa using I.len⟩ ⟨_, hs, .inl rfl⟩
    · exact (hs.2 b (Nat.ne_of_lt (Nat.lt_of_lt_of_le (Heap.lt_size e) I.ok.above))).trans (I.base.keep b o e n hb hx)
    · obtain ⟨sl, e1⟩ := I.base.slot b o e n hb hx
      exact ⟨sl, (hs.2 b (Nat.ne_of_lt (Nat.lt_of_lt_of_le (Heap.lt_size e) I.ok.above))).trans e1⟩
    · obtain ⟨o', e1⟩ := I.base.there b o e hx
      exact ⟨o', (hs.2 b (Nat.ne_of_lt (Nat.lt_of_lt_of_le (Heap.lt_size e) I.ok.above))).trans e1⟩
    · by_cases hj : j = i
      · subst hj
        rw [hi] at e1; cases e1
        rw [List.getElem?_set_self hiσ] at e2
        cases e2
        exact ⟨u, r, .inl ⟨hk, by simp⟩⟩
      · rw [List.getElem?_set_ne (Ne.symm hj)] at e2
        obtain ⟨u', r', q⟩ := hl j y v' e1 e2 e3
        refine ⟨u', r', ?_⟩
        rcases q with ⟨k, e⟩ | ⟨k, c, e, z⟩
        · refine .inl ⟨k, ?_⟩
          have : y ≠ x := fun e => hj (nodup_ix hN e1 (e ▸ hi))
          simp [this, e]
        · exact .inr ⟨k, c, e, z.sameBut hs (cne y c e)⟩
    · obtain ⟨w', z⟩ := I.cell y c e
      exact ⟨w', z.sameBut hs (cne y c e)⟩
    · obtain ⟨e, n, ne, nf, d⟩ := I.pin p hp
      exact ⟨(hs.2 p.1 ne).trans e, n, ne, nf, d⟩
  · have hfn : X.fn x = true := by
      rcases hf with z | z
      · exact z
      · rw [z] at hk; cases hk
    obtain ⟨c, hc⟩ := I.ok.has x (.inl hk)
    obtain ⟨w', z⟩ := I.cell x c hc
    refine wpAny_storeName_cell I.ok.kind hk hc z (fun h' hc' hs => ?_)
    obtain ⟨oc, hoc, hocd⟩ := id z
    refine h { s with heap := h' } ⟨I.ok, I.os, I.bare, ⟨fun b o e n hb hx => ?_, fun b o e n hb hx => ?_, I.base.free, fun b o e hx => ?_, I.base.tups, I.base.frzs, I.base.tbls⟩, ⟨m, hn.sameBut hs (Ne.symm (cne x c hc)), fun j y v' e1 e2 e3 => ?_⟩, fun y c' e => ?_, I.free, I.freeC, fun p hp => ?_, tracked ⟨oc, hoc, I.freeC x c hc⟩ hs, by simpa using I.len⟩ ⟨c, hs, .inr hc⟩
    · exact (hs.2 b (Nat.ne_of_lt (Nat.lt_of_lt_of_le (Heap.lt_size e) (I.ok.cab x c hfn hc)))).trans (I.base.keep b o e n hb hx)
    · obtain ⟨sl, e1⟩ := I.base.slot b o e n hb hx
      exact ⟨sl, (hs.2 b (Nat.ne_of_lt (Nat.lt_of_lt_of_le (Heap.lt_size e) (I.ok.cab x c hfn hc)))).trans e1⟩
    · obtain ⟨o', e1⟩ := I.base.there b o e hx
      exact ⟨o', (hs.2 b (Nat.ne_of_lt (Nat.lt_of_lt_of_le (Heap.lt_size e) (I.ok.cab x c hfn hc)))).trans e1⟩
    · by_cases hj : j = i
      · subst hj
        rw [hi] at e1; cases e1
        rw [List.getElem?_set_self hiσ] at e2
        cases e2
        exact ⟨u, r, .inr ⟨.inl hk, c, hc, hc'⟩⟩
      · rw [List.getElem?_set_ne (Ne.symm hj)] at e2
        obtain ⟨u', r', q⟩ := hl j y v' e1 e2 e3
        refine ⟨u', r', ?_⟩
        rcases q with q | ⟨k, c', e, z'⟩
        · exact .inl q
        · refine .inr ⟨k, c', e, z'.sameBut hs ?_⟩
          rintro rfl
          exact hj (nodup_ix hN e1 (I.ok.inj _ _ _ e hc ▸ hi))
    · by_cases hcc : c' = c
      · subst hcc; exact ⟨_, hc'⟩
      · obtain ⟨w2, z2⟩ := I.cell y c' e
        exact ⟨w2, z2.sameBut hs hcc⟩
    · obtain ⟨e, n, ne, nf, d⟩ := I.pin p hp
      refine ⟨(hs.2 p.1 ?_).trans e, n, ne, nf, d⟩
      intro q
      rw [q, hoc] at e
      have q' : oc = p.2 := Option.some.inj e
      exact d w' (by rw [← q']; exact hocd)
theorem store_ok {M : Model} {A : Around} {E : Value → Shared → Prop} {i : Nat} {x : Str} {v : V} {u : Value} {Q : Unit → Shared → Prop} (I : Inv X pins σ H s) (hN : X.N.Nodup) (hi : X.N[i]? = some x) (hx : Loc X.env.scope x) (r : RelV v u)
    (h : ∀ s', Inv X pins (σ.set i (some v)) H s' → Q () s') (hf : X.fn x = true ∨ X.env.scope.names.lookup x = some .local := by first | exact .inl rfl | exact .inr rfl | assumption) : wpAny M A (storeName X.env x u) Q E s :=
  store_ok2 I hN hi hx r (fun s' I' _ => h s' I') hf
theorem Inv.call' {s' : Shared} {ch : List Addr} (I : Inv X pins σ H s) (ho : s'.os = s.os) (u : Un (frs X.stack) ch H H' s.heap s'.heap) (hok : HOk X.prog X.w H' s'.heap) (hg : AllBare s'.gens)
    (hch : ∀ b ∈ ch, (b ∈ X.ex ∨ X.s₀.heap.objs.size ≤ b) ∧ b ≠ X.env.locals ∧ (∀ x c, X.env.cells.lookup x = some c → c ≠ b) ∧ ∀ p ∈ X.pn ++ pins, p.1 ≠ b) : Inv X pins σ H' s' := by
  obtain ⟨h', g', d', t', o'⟩ := s'
  have e : o' = s.os := ho
  subst e
  exact I.call (g' := g') (t' := t') (d' := d') u hok hg hch
end

abbrev XK := Value → Option Addr → Hp → Prop
abbrev St := List (Option V)
abbrev VK := V → Hp → Prop
abbrev TE := St → Hp → VK → Prop
abbrev TT := St → Hp → (Bool → Hp → Prop) → Prop
abbrev TA := St → Hp → (List V → Hp → Prop) → Prop
structure Ends where
  nx : St → Hp → Prop
  rt : VK
  bk : St → Hp → Prop := fun _ _ => False
  ct : St → Hp → Prop := fun _ _ => False
abbrev TS := Ends → St → Hp → Prop

def EP (X : Cx) (pins : List (Addr × Obj)) (σ : St) (Q : VK) (u : Value) (s' : Shared) : Prop := ∃ v H', Inv X pins σ H' s' ∧ RelV v u ∧ Q v H'
def TP (X : Cx) (pins : List (Addr × Obj)) (σ : St) (Q : Bool → Hp → Prop) (b : Bool) (s' : Shared) : Prop := ∃ H', Inv X pins σ H' s' ∧ Q b H'
def AP (X : Cx) (pins : List (Addr × Obj)) (σ : St) (Q : List V → Hp → Prop) (us : List Value) (s' : Shared) : Prop := ∃ vs H', Inv X pins σ H' s' ∧ Vals vs us ∧ Q vs H'
def SP (X : Cx) (pins : List (Addr × Obj)) (D : Ends) (f : Flow) (s' : Shared) : Prop :=
  match f with
  | .next => ∃ σ' H', Inv X pins σ' H' s' ∧ D.nx σ' H'
  | .brk => ∃ σ' H', Inv X pins σ' H' s' ∧ D.bk σ' H'
  | .cont => ∃ σ' H', Inv X pins σ' H' s' ∧ D.ct σ' H'
  | .ret u => ∃ v σ' H', Inv X pins σ' H' s' ∧ RelV v u ∧ D.rt v H'

def PE (X : Cx) (e : Expr) (t : TE) : Prop :=
  ∀ (pins : List (Addr × Obj)) (s : Shared) (σ : St) (H : Hp) (Q : VK), Inv X pins σ H s → t σ H Q → wpAny (model X.prog X.w) X.A (eval e X.env) (EP X pins σ Q) X.xe s
def PT (X : Cx) (e : Expr) (t : TT) : Prop :=
  ∀ (pins : List (Addr × Obj)) (s : Shared) (σ : St) (H : Hp) (Q : Bool → Hp → Prop), Inv X pins σ H s → t σ H Q → wpAny (model X.prog X.w) X.A (isTrue e X.env (eval e X.env)) (TP X pins σ Q) X.xe s
def PW (X : Cx) (e : Expr) (t : TT) : Prop :=
  ∀ (whole : Sem Value) (pins : List (Addr × Obj)) (s : Shared) (σ : St) (H : Hp) (Q : Bool → Hp → Prop), Inv X pins σ H s → t σ H Q → wpAny (model X.prog X.w) X.A (isTrue e X.env whole) (TP X pins σ Q) X.xe s
theorem PW.pt {X : Cx} {e : Expr} {t : TT} (h : PW X e t) : PT X e t := h _
def PA (X : Cx) (es : List Expr) (t : TA) : Prop :=
  ∀ (pos : Pos) (pins : List (Addr × Obj)) (s : Shared) (σ : St) (H : Hp) (Q : List V → Hp → Prop), Inv X pins σ H s → t σ H Q → wpAny (model X.prog X.w) X.A (spliced (backTo pos (starEach es X.env))) (AP X pins σ Q) X.xe s
def PS (X : Cx) (st : Stmt) (t : TS) : Prop :=
  ∀ (pins : List (Addr × Obj)) (s : Shared) (σ : St) (H : Hp) (D : Ends), Inv X pins σ H s → t D σ H → wpAny (model X.prog X.w) X.A (exec st X.env) (SP X pins D) X.xe s
def PSs (X : Cx) (st : List Stmt) (t : TS) : Prop :=
  ∀ (pins : List (Addr × Obj)) (s : Shared) (σ : St) (H : Hp) (D : Ends), Inv X pins σ H s → t D σ H → wpAny (model X.prog X.w) X.A (execs st X.env) (SP X pins D) X.xe s
theorem thn {α : Type} {t : Sem α} {Q Q' : α → Shared → Prop} {M : Model} {A : Around} {E : Value → Shared → Prop} {s : Shared} (h : wpAny M A t Q E s) (hQ : ∀ a s, Q a s → Q' a s) : wpAny M A t Q' E s := wpAny_mono h hQ fun _ _ x => x
end L2

namespace L2
open PySem PySem.Spec PyProof.Rows
section
variable {X : Cx}

def tVar (i : Nat) : TE := fun σ H Q => ∃ v, σ[i]? = some (some v) ∧ Q v H
def tC (v : V) : TE := fun _ H Q => Q v H
theorem pe_var {i : Nat} {x : Str} {pos : Pos} (hN : X.N[i]? = some x) (hv : Vis X.env.scope x) (hd : (x == ("__debug__" : Str)) = false := by decide) (hcd : (x == ("__classdict__" : Str)) = false := by decide) : PE X (.Name x pos) (tVar i) := by
  intro pins s σ H Q I h
  obtain ⟨v, e, h⟩ := h
  obtain ⟨m, hn, hl⟩ := I.loc
  obtain ⟨u, r, l⟩ := hl i x v hN e hv
  have fin : EP X pins σ Q u s := ⟨v, H, I, r, h⟩
  rcases l with ⟨hk, hm⟩ | ⟨hk, c, hc, hcell⟩
  · exact wpAny_Name (wpAny_loadName_local I.ok.kind hk hn hm fin) hd
  · rcases hk with hk | hk
    · exact wpAny_Name (wpAny_loadName_cell I.ok.kind hk hc hcell fin) hd
    · exact wpAny_Name (wpAny_loadName_free I.ok.kind hk hc hcell fin hcd) hd
theorem pe_int {i j pos} : PE X (.Constant (.int i) j pos) (tC (.int i)) := fun _ _ _ H _ I h => wpAny_Constant_int ⟨.int i, H, I.tok _, ⟨_, rfl⟩, h⟩
theorem pe_bl {b j pos} : PE X (.Constant (.bool b) j pos) (tC (.bl b)) := fun _ _ _ H _ I h => Constant_bool ⟨.bl b, H, I, rfl, h⟩
theorem pe_non {j pos} : PE X (.Constant .none j pos) (tC .non) := fun _ _ _ H _ I h => Constant_none ⟨.non, H, I, rfl, h⟩
theorem pe_str {x j pos} : PE X (.Constant (.str x) j pos) (tC (.str x)) := fun _ _ _ H _ I h => Calls.Constant_str ⟨.str x, H, I.tok _, ⟨_, rfl⟩, h⟩

def Gl (X : Cx) (x : Str) : Prop := X.env.kindOf x = some .globalImplicit
theorem ld_glob {E : Value → Shared → Prop} {pins : List (Addr × Obj)} {s : Shared} {σ : St} {H : Hp} {x : Str} {u : Value} {pos : Pos} {Q : Value → Shared → Prop} (I : Inv X pins σ H s) (hg : Gl X x) (hm : X.mg x = some u) (h : Q u s)
    (hd : (x == ("__debug__" : Str)) = false := by decide) : wpAny (model X.prog X.w) X.A (eval (.Name x pos) X.env) Q E s :=
  Calls.Name_function_global I.ok.kind hg (Calls.loadGlobal_global (by rw [I.ok.glob]; exact I.mod.glob.keeps I.bk) hm h) hd
theorem ld_blt {E : Value → Shared → Prop} {pins : List (Addr × Obj)} {s : Shared} {σ : St} {H : Hp} {x : Str} {u : Value} {pos : Pos} {Q : Value → Shared → Prop} (I : Inv X pins σ H s) (hg : Gl X x) (hm : X.mg x = none) (hv : bootBuiltins x = some u) (h : Q u s)
    (hn : x ≠ "__name__" := by decide) (hd : (x == ("__debug__" : Str)) = false := by decide) : wpAny (model X.prog X.w) X.A (eval (.Name x pos) X.env) Q E s := by
  obtain ⟨mb, h1, h2⟩ := I.mod.blt
  exact Calls.Name_function_global I.ok.kind hg (Calls.loadGlobal_builtin (by rw [I.ok.glob]; exact I.mod.glob.keeps I.bk) hm (by rw [I.ok.blt]; exact h1.keeps I.bk) ((h2 x hn).trans hv) h) hd
theorem pe_glob {x : Str} {v : V} {u : Value} {pos : Pos} (hg : Gl X x) (hm : X.mg x = some u) (r : RelV v u) (hd : (x == ("__debug__" : Str)) = false := by decide) : PE X (.Name x pos) (tC v) :=
  fun _ _ _ H _ I h => ld_glob I hg hm ⟨v, H, I, r, h⟩ hd
theorem pe_bltn {x : Str} {v : V} {u : Value} {pos : Pos} (hg : Gl X x) (hm : X.mg x = none) (hv : bootBuiltins x = some u) (r : RelV v u) (hn : x ≠ "__name__" := by decide) (hd : (x == ("__debug__" : Str)) = false := by decide) : PE X (.Name x pos) (tC v) :=
  fun _ _ _ H _ I h => ld_blt I hg hm hv ⟨v, H, I, r, h⟩ hn hd

variable {a b : Expr} {ta tb : TE} {pos : Pos}
def tB (t : TE) : TT := fun σ H Q => t σ H fun x H1 => ∃ c, x = .bl c ∧ Q c H1
theorem pt_val {e : Expr} {t : TE} (h : PE X e t) (he : ∀ whole, isTrue e X.env whole = (do let v ← whole; standAt e.pos; holding [v] (truthy v)) := by intro _; rfl) : PT X e (tB t) := by
  intro pins s σ H Q I hw
  refine isTrue_plain (thn (h pins s σ H _ I hw) fun v s1 ⟨x, H1, I1, r1, q1⟩ => ?_) (he _)
  obtain ⟨d, rfl, q⟩ := q1
  cases r1
  exact wpAny_truthy_bool ⟨H1, I1, q⟩

variable {tA tB' : TT} {rest : List Expr}
def tAnd (t u : TT) : TT := fun σ H Q => t σ H fun c H1 => if c = true then u σ H1 Q else Q false H1
def tOr (t u : TT) : TT := fun σ H Q => t σ H fun c H1 => if c = true then Q true H1 else u σ H1 Q
def tNot (t : TT) : TT := fun σ H Q => t σ H fun c H1 => Q (!c) H1
theorem pw_and1 (ha : PT X a tA) : PW X (.BoolOp .And [a] pos) tA := by
  intro wh pins s σ H Q I h
  refine isTrue_and (thn (ha pins s σ H Q I h) fun c s1 e => ?_)
  cases c with
  | true => exact isTrue_and_nil e
  | false => exact e
theorem pw_or1 (ha : PT X a tA) : PW X (.BoolOp .Or [a] pos) tA := by
  intro wh pins s σ H Q I h
  refine isTrue_or (thn (ha pins s σ H Q I h) fun c s1 e => ?_)
  cases c with
  | false => exact isTrue_or_nil e
  | true => exact e
theorem pw_and (ha : PT X a tA) (hb : PW X (.BoolOp .And (b :: rest) pos) tB') : PW X (.BoolOp .And (a :: b :: rest) pos) (tAnd tA tB') := by
  intro wh pins s σ H Q I h
  refine isTrue_and (thn (ha pins s σ H _ I h) fun c s1 ⟨H1, I1, q1⟩ => ?_)
  cases c with
  | true => exact hb wh pins s1 σ H1 Q I1 q1
  | false => exact ⟨H1, I1, q1⟩
theorem pw_or (ha : PT X a tA) (hb : PW X (.BoolOp .Or (b :: rest) pos) tB') : PW X (.BoolOp .Or (a :: b :: rest) pos) (tOr tA tB') := by
  intro wh pins s σ H Q I h
  refine isTrue_or (thn (ha pins s σ H _ I h) fun c s1 ⟨H1, I1, q1⟩ => ?_)
  cases c with
  | true => exact ⟨H1, I1, q1⟩
  | false => exact hb wh pins s1 σ H1 Q I1 q1
theorem pt_not (ha : PT X a tA) : PT X (.UnaryOp .Not a pos) (tNot tA) := by
  intro pins s σ H Q I h
  exact isTrue_not (ha pins s σ H (fun c H1 => Q (!c) H1) I h)
def tAndV (ta tb : TE) : TE := fun σ H Q => ta σ H fun x H1 => ∃ c, x = .bl c ∧ if c = true then tb σ H1 Q else Q (.bl false) H1
def tOrV (ta tb : TE) : TE := fun σ H Q => ta σ H fun x H1 => ∃ c, x = .bl c ∧ if c = true then Q (.bl true) H1 else tb σ H1 Q
def tNotV (ta : TE) : TE := fun σ H Q => ta σ H fun x H1 => ∃ c, x = .bl c ∧ Q (.bl (!c)) H1
theorem pe_one {op} {t : TE} (h : PE X a t) : PE X (.BoolOp op [a] pos) t := fun pins s σ H Q I hw => BoolOp_one (h pins s σ H Q I hw)
theorem pe_and (ha : PE X a ta) (hb : PE X (.BoolOp .And (b :: rest) pos) tb) : PE X (.BoolOp .And (a :: b :: rest) pos) (tAndV ta tb) := by
  intro pins s σ H Q I h
  refine BoolOp_and (thn (ha pins s σ H _ I h) fun v s1 ⟨x, H1, I1, r1, q1⟩ => ?_)
  obtain ⟨c, rfl, q1⟩ := q1
  cases r1
  refine wpAny_truthy_bool ?_
  cases c with
  | true => exact hb pins s1 σ H1 Q I1 q1
  | false => exact ⟨.bl false, H1, I1, rfl, q1⟩
theorem pe_or (ha : PE X a ta) (hb : PE X (.BoolOp .Or (b :: rest) pos) tb) : PE X (.BoolOp .Or (a :: b :: rest) pos) (tOrV ta tb) := by
  intro pins s σ H Q I h
  refine BoolOp_or (thn (ha pins s σ H _ I h) fun v s1 ⟨x, H1, I1, r1, q1⟩ => ?_)
  obtain ⟨c, rfl, q1⟩ := q1
  cases r1
  refine wpAny_truthy_bool ?_
  cases c with
  | false => exact hb pins s1 σ H1 Q I1 q1
  | true => exact ⟨.bl true, H1, I1, rfl, q1⟩
theorem pe_not (ha : PE X a ta) : PE X (.UnaryOp .Not a pos) (tNotV ta) := by
  intro pins s σ H Q I h
  refine UnaryOp_ (thn (ha pins s σ H _ I h) fun v s1 ⟨x, H1, I1, r1, q1⟩ => ?_)
  obtain ⟨c, rfl, q1⟩ := q1
  cases r1
  exact not_of (wpAny_truthy_bool ⟨.bl (!c), H1, I1, rfl, q1⟩)
end
end L2

namespace L2
open PySem PySem.Spec PyProof.Rows

def SqL (K : PySem.W.Frag) (H : Hp) (a : Addr) (xs : List V) : Prop :=
  Rd H a (.lst xs) ∨
    ∃ (o : Obj) (its : Array Value) (n : Nat), K.lookup a = some o ∧ o.cls = .type "list" ∧ o.dict = none ∧ o.data = .seq its n ∧ its.size ≤ sizeLine ∧ Vals xs its.toList
def SqT (K : PySem.W.Frag) (H : Hp) (a : Addr) (xs : List V) : Prop :=
  Rd H a (.tup xs) ∨
    ∃ (o : Obj) (its : Array Value) (n : Nat), K.lookup a = some o ∧ o.cls = .type "tuple" ∧ o.data = .seq its n ∧ its.size ≤ sizeLine ∧ Vals xs its.toList
def absV : Value → Option V
  | .none => some .non
  | .bool b => some (.bl b)
  | .int i _ => some (.int i)
  | .str x _ => some (.str x)
  | .bytes b _ => some (.byt b)
  | .float b _ => some (.flt b)
  | .ref a => some (.ref a)
  | .type n => some (.ty n)
  | _ => none
theorem RelV.abs {x : V} {u : Value} (r : RelV x u) : absV u = some x := by
  cases x with
  | non => cases r; rfl
  | bl _ => cases r; rfl
  | int _ => obtain ⟨t, rfl⟩ := r; rfl
  | str _ => obtain ⟨t, rfl⟩ := r; rfl
  | byt _ => obtain ⟨t, rfl⟩ := r; rfl
  | flt _ => obtain ⟨t, rfl⟩ := r; rfl
  | ref _ => cases r; rfl
  | ty _ => cases r; rfl
theorem RelV.inj {x y : V} {u : Value} (r : RelV x u) (q : RelV y u) : x = y := Option.some.inj (r.abs.symm.trans q.abs)
theorem Vals.inj : ∀ {xs ys : List V} {us : List Value}, Vals xs us → Vals ys us → xs = ys
  | _, _, _, .nil, .nil => rfl
  | _, _, _, .cons r t, .cons r' t' => by rw [r.inj r', Vals.inj t t']
section
variable {X : Cx} {pins : List (Addr × Obj)} {σ : St} {H : Hp} {s : Shared} {a : Addr} {xs ys : List V}
theorem SqL.of {K : PySem.W.Frag} (h : H a = some (.lst xs)) : SqL K H a xs := .inl (.inl h)
theorem SqT.of {K : PySem.W.Frag} (h : H a = some (.tup xs)) : SqT K H a xs := .inl (.inl h)
theorem Inv.list (I : Inv X pins σ H s) (h : SqL X.K H a xs) : ∃ its : List Value, Vals xs its ∧ PlainL s.heap a its.toArray ∧ xs.length ≤ sizeLine := by
  rcases h with h | ⟨o, its, n, hk, hc, hd, hs, hz, r⟩
  · obtain ⟨z, its, n, r, e⟩ := h.ok I.hok
    exact ⟨its, r, ⟨_, n, e, rfl, rfl, rfl⟩, z⟩
  · refine ⟨its.toList, r, ⟨o, n, I.kIn a o hk, hc, hd, by simpa using hs⟩, ?_⟩
    have e := r.length
    simp only [Array.length_toList] at e
    omega
theorem Inv.tuple (I : Inv X pins σ H s) (h : SqT X.K H a xs) : ∃ its : List Value, Vals xs its ∧ IsTup s.heap a its.toArray ∧ xs.length ≤ sizeLine := by
  rcases h with h | ⟨o, its, n, hk, hc, hs, hz, r⟩
  · obtain ⟨z, its, r, p⟩ := h.ok I.hok
    exact ⟨its, r, p, z⟩
  · refine ⟨its.toList, r, ⟨o, I.kIn a o hk, hc, n, by simpa using hs⟩, ?_⟩
    have e := r.length
    simp only [Array.length_toList] at e
    omega
theorem Inv.list_inj (I : Inv X pins σ H s) (h : SqL X.K H a xs) (h' : SqL X.K H a ys) : xs = ys := by
  obtain ⟨its, r, ⟨o, n, e, _, _, d⟩, _⟩ := I.list h
  obtain ⟨its', r', ⟨o', n', e', _, _, d'⟩, _⟩ := I.list h'
  rw [e] at e'; cases e'
  rw [d] at d'
  injection d' with d1 _
  have : its = its' := by simpa using congrArg Array.toList d1
  subst this
  exact r.inj r'
theorem Inv.tuple_inj (I : Inv X pins σ H s) (h : SqT X.K H a xs) (h' : SqT X.K H a ys) : xs = ys := by
  obtain ⟨its, r, ⟨o, e, _, n, d⟩, _⟩ := I.tuple h
  obtain ⟨its', r', ⟨o', e', _, n', d'⟩, _⟩ := I.tuple h'
  rw [e] at e'; cases e'
  rw [d] at d'
  injection d' with d1 _
  have : its = its' := by simpa using congrArg Array.toList d1
  subst this
  exact r.inj r'
end

abbrev Cx.wish (X : Cx) (E : Value → Shared → Prop) : Cx := { X with xe := E }
abbrev Cx.nox (X : Cx) : Cx := X.wish fun _ _ => False
theorem Cx.Ok.wish {X : Cx} (ok : X.Ok) (E : Value → Shared → Prop) : (X.wish E).Ok :=
  ⟨ok.mod, ok.kind, ok.glob, ok.blt, ok.above, ok.inj, ok.has, ok.cab, ok.hd, ok.frames, ok.stk, ok.exf, ok.bs, ok.bsz, ok.noex, ok.exfs, ok.funs, ok.frf⟩
theorem Cx.Ok.unwish {X : Cx} {E : Value → Shared → Prop} (ok : (X.wish E).Ok) : X.Ok :=
  ⟨ok.mod, ok.kind, ok.glob, ok.blt, ok.above, ok.inj, ok.has, ok.cab, ok.hd, ok.frames, ok.stk, ok.exf, ok.bs, ok.bsz, ok.noex, ok.exfs, ok.funs, ok.frf⟩
section
variable {X : Cx} {pins : List (Addr × Obj)} {σ : St} {H : Hp} {s : Shared} {E : Value → Shared → Prop}
theorem Inv.wish (I : Inv X pins σ H s) (E : Value → Shared → Prop) : Inv (X.wish E) pins σ H s := ⟨I.ok.wish E, I.os, I.bare, I.base, I.loc, I.cell, I.free, I.freeC, I.pin, I.hok, I.len⟩
theorem Inv.unwish (I : Inv (X.wish E) pins σ H s) : Inv X pins σ H s := ⟨I.ok.unwish, I.os, I.bare, I.base, I.loc, I.cell, I.free, I.freeC, I.pin, I.hok, I.len⟩
theorem SP.unwish {D : Ends} {f : Flow} {s' : Shared} (h : SP (X.wish E) pins D f s') : SP X pins D f s' := by
  cases f with
  | next => obtain ⟨σ', H', I, q⟩ := h; exact ⟨σ', H', I.unwish, q⟩
  | brk => obtain ⟨σ', H', I, q⟩ := h; exact ⟨σ', H', I.unwish, q⟩
  | cont => obtain ⟨σ', H', I, q⟩ := h; exact ⟨σ', H', I.unwish, q⟩
  | ret u => obtain ⟨v, σ', H', I, r, q⟩ := h; exact ⟨v, σ', H', I.unwish, r, q⟩
theorem PE.nox {e : Expr} {t : TE} (h : PE X.nox e t) : PE X e t := fun pins s σ H Q I hw =>
  wpAny_mono (h pins s σ H Q (I.wish _) hw) (fun _ _ ⟨v, H', I', r, q⟩ => ⟨v, H', I'.unwish, r, q⟩) fun _ _ z => False.elim z
theorem PT.nox {e : Expr} {t : TT} (h : PT X.nox e t) : PT X e t := fun pins s σ H Q I hw =>
  wpAny_mono (h pins s σ H Q (I.wish _) hw) (fun _ _ ⟨H', I', q⟩ => ⟨H', I'.unwish, q⟩) fun _ _ z => False.elim z
theorem PSs.nox {st : List Stmt} {t : TS} (h : PSs X.nox st t) : PSs X st t := fun pins s σ H D I hw =>
  wpAny_mono (h pins s σ H D (I.wish _) hw) (fun _ _ q => q.unwish) fun _ _ z => False.elim z
end

section
variable {X : Cx} {st : Stmt} {rest : List Stmt} {t u : TS} {e : Expr} {te : TE} {pos : Pos}
def tNext : TS := fun D σ H => D.nx σ H
def tSeq (t u : TS) : TS := fun D σ H => t { D with nx := u D } σ H
theorem pss_nil : PSs X [] tNext := fun _ _ σ H _ I h => wpAny_execs_nil ⟨σ, H, I, h⟩
theorem pss_cons (h1 : PS X st t) (h2 : PSs X rest u) : PSs X (st :: rest) (tSeq t u) := by
  intro pins s σ H D I h
  refine wpAny_execs_cons (thn (h1 pins s σ H { D with nx := u D } I h) fun f s1 q => ?_)
  cases f with
  | next =>
    obtain ⟨σ', H', I', q⟩ := q
    exact h2 pins s1 σ' H' D I' q
  | ret v => exact q
  | brk => exact q
  | cont => exact q
theorem pss_one (h1 : PS X st t) : PSs X [st] t := by
  intro pins s σ H D I h
  refine wpAny_execs_cons (thn (h1 pins s σ H D I h) fun f s1 q => ?_)
  cases f with
  | next => exact wpAny_execs_nil q
  | ret v => exact q
  | brk => exact q
  | cont => exact q
theorem Inv.quiet {pins : List (Addr × Obj)} {σ : St} {H : Hp} {s : Shared} (I : Inv X pins σ H s) : interactive X.env = false := by simp [interactive, I.ok.kind]
def tDrop (te : TE) : TS := fun D σ H => te σ H fun _ H1 => D.nx σ H1
theorem ps_expr (he : PE X e te) (hs : swapsWith e none pos.line X.env = pure false := by rfl) : PS X (.Expr e pos) (tDrop te) := by
  intro pins s σ H D I h
  exact wpAny_Expr_any (thn (he pins s σ H _ I h) fun v s1 ⟨x, H1, I1, r1, q1⟩ => ⟨σ, H1, I1, q1⟩) I.quiet hs
def tRet (te : TE) : TS := fun D σ H => te σ H D.rt
theorem ps_ret (he : PE X e te) : PS X (.Return (some e) pos) (tRet te) := by
  intro pins s σ H D I h
  exact wpAny_Return_some (thn (he pins s σ H _ I h) fun v s1 ⟨x, H1, I1, r1, q1⟩ => ⟨x, σ, H1, I1, r1, q1⟩)
def tIfS (c : TT) (t u : TS) : TS := fun D σ H => c σ H fun b H1 => if b = true then t D σ H1 else u D σ H1
theorem ps_if {c : Expr} {a b : List Stmt} {tc : TT} (hc : PT X c tc) (ha : PSs X a t) (hb : PSs X b u) : PS X (.If c a b pos) (tIfS tc t u) := by
  intro pins s σ H D I h
  refine wpAny_If (thn (hc pins s σ H _ I h) fun d s1 ⟨H1, I1, q1⟩ => ?_)
  cases d with
  | true => exact ha pins s1 σ H1 D I1 q1
  | false => exact hb pins s1 σ H1 D I1 q1
end

abbrev TG := V → St → Hp → (St → Hp → Prop) → Prop
abbrev TGs := List V → St → Hp → (St → Hp → Prop) → Prop
def PG (X : Cx) (target : Expr) (t : TG) : Prop :=
  ∀ (pins : List (Addr × Obj)) (s : Shared) (σ : St) (H : Hp) (v : V) (u : Value) (Q : St → Hp → Prop), Inv X pins σ H s → RelV v u → t v σ H Q →
    wpAny (model X.prog X.w) X.A (assign target X.env u) (fun _ s' => ∃ σ' H', Inv X pins σ' H' s' ∧ Q σ' H') X.xe s
def PGs (X : Cx) (ts : List Expr) (t : TGs) : Prop :=
  ∀ (pins : List (Addr × Obj)) (s : Shared) (σ : St) (H : Hp) (vs : List V) (us : List Value) (Q : St → Hp → Prop), Inv X pins σ H s → Vals vs us → t vs σ H Q →
    wpAny (model X.prog X.w) X.A (assignInOrder ((assignEach ts X.env).map (·.2)) us) (fun _ s' => ∃ σ' H', Inv X pins σ' H' s' ∧ Q σ' H') X.xe s
abbrev TSet := V → V → V → Hp → (Hp → Prop) → Prop
def PSet (X : Cx) (t : TSet) : Prop :=
  ∀ (pins : List (Addr × Obj)) (s : Shared) (σ : St) (H : Hp) (o i v : V) (ov iv u : Value) (Q : Hp → Prop), Inv X pins σ H s → RelV o ov → RelV i iv → RelV v u → t o i v H Q →
    wpAny (model X.prog X.w) X.A (setItem ov iv u) (fun _ s' => ∃ H', Inv X pins σ H' s' ∧ Q H') X.xe s
section
variable {X : Cx} {pos : Pos}
def gName (i : Nat) : TG := fun v σ H Q => Q (σ.set i (some v)) H
theorem pg_name {i : Nat} {x : Str} (hN : X.N.Nodup) (hi : X.N[i]? = some x) (hx : Loc X.env.scope x) (hf : X.fn x = true ∨ X.env.scope.names.lookup x = some .local := by first | exact .inl rfl | exact .inr rfl | assumption) : PG X (.Name x pos) (gName i) := by
  intro pins s σ H v u Q I r h
  exact wpAny_assign_Name (store_ok I hN hi hx r (fun s' I' => ⟨_, H, I', h⟩) hf)
def gNil : TGs := fun vs σ H Q => vs = [] ∧ Q σ H
def gCons (t : TG) (u : TGs) : TGs := fun vs σ H Q => ∃ v r, vs = v :: r ∧ t v σ H fun σ' H' => u r σ' H' Q
theorem pgs_nil : PGs X [] gNil := by
  intro pins s σ H vs us Q I r h
  obtain ⟨e, h⟩ := h
  subst e
  cases r
  exact assignInOrder_nil ⟨σ, H, I, h⟩
theorem pgs_cons {e : Expr} {es : List Expr} {t : TG} {u : TGs} (h1 : PG X e t) (h2 : PGs X es u)
    (hs : (assignEach (e :: es) X.env).map (·.2) = assign e X.env :: (assignEach es X.env).map (·.2) := by rfl) : PGs X (e :: es) (gCons t u) := by
  intro pins s σ H vs us Q I r h
  obtain ⟨v, vr, e1, h⟩ := h
  subst e1
  cases r with
  | cons r rr =>
    rw [hs]
    refine assignInOrder_cons (thn (h1 pins s σ H _ _ _ I r h) fun _ s1 ⟨σ1, H1, I1, q1⟩ => ?_)
    exact h2 pins s1 σ1 H1 _ _ Q I1 rr q1
def gTup (K : PySem.W.Frag) (n : Nat) (t : TGs) : TG := fun v σ H Q => ∃ a xs, v = .ref a ∧ SqT K H a xs ∧ xs.length = n ∧ t xs σ H Q
theorem pg_tup {es : List Expr} {k : Nat} {t : TGs} {n : Nat} (hc : X.calm = true) (h : PGs X es t)
    (hn : (assignEach es X.env).length = n := by rfl) (hst : (assignEach es X.env).findIdx? (·.1) = none := by rfl) : PG X (.Tuple es k pos) (gTup X.K n t) := by
  intro pins s σ H v u Q I r hw
  obtain ⟨a, xs, e1, hq, hl, hw⟩ := hw
  subst e1
  cases r
  obtain ⟨its, rv, ht, hz⟩ := I.tuple hq
  refine assign_Tuple_tuple (I.ok.hd hc) ht (by simp [hn, ← hl, rv.length]) hst fun h' hx => ?_
  have I1 : Inv X pins σ H { s with heap := h' } := I.kept (t' := s.toks) fun b o e => hx b o (Nat.ne_of_lt (Heap.lt_size e)) e
  exact h pins _ σ H xs _ Q I1 (by simpa using rv) hw
def gSub (to ti : TE) (t : TSet) : TG := fun v σ H Q => to σ H fun o H1 => ti σ H1 fun i H2 => t o i v H2 fun H3 => Q σ H3
theorem pg_sub {o i : Expr} {to ti : TE} {t : TSet} (ho : PE X o to) (hi : PE X i ti) (hs : PSet X t)
    (ha : ∀ v, assign (.Subscript o i pos) X.env v = (do
      let ov ← holding [v] (eval o X.env)
      let iv ← holding [v, ov] (eval i X.env)
      standAt pos
      holding [v, ov, iv] (setItem ov iv v)
      release [v, ov, iv] []) := by intro _; rfl) : PG X (.Subscript o i pos) (gSub to ti t) := by
  intro pins s σ H v u Q I r h
  rw [ha]
  refine wpAny_bind (wpAny_holding (thn (ho pins s σ H _ I h) fun ov s1 ⟨x, H1, I1, r1, q1⟩ => ?_))
  refine wpAny_bind (wpAny_holding (thn (hi pins s1 σ H1 _ I1 q1) fun iv s2 ⟨y, H2, I2, r2, q2⟩ => ?_))
  refine wpAny_bind (wpAny_standAt (wpAny_bind (wpAny_holding (thn (hs pins s2 σ H2 x y v ov iv u _ I2 r1 r2 r q2) fun _ s3 ⟨H3, I3, q3⟩ => ?_))))
  exact wpAny_release ⟨σ, H3, I3, q3⟩
def tAsg (te : TE) (g : TG) : TS := fun D σ H => te σ H fun x H1 => g x σ H1 D.nx
theorem ps_asg {tg e : Expr} {te : TE} {g : TG} (he : PE X e te) (hg : PG X tg g) (hs : swapsWithSole [tg] e pos.line X.env = pure false := by rfl) (hw : swappedStores [tg] e X.env = pure none := by rfl)
    (h1 : (assignEach [tg] X.env).map (·.2) = [assign tg X.env] := by rfl) : PS X (.Assign [tg] e pos) (tAsg te g) := by
  intro pins s σ H D I h
  refine wpAny_Assign_stores (thn (he pins s σ H _ I h) fun v s1 ⟨x, H1, I1, r1, q1⟩ => ?_) hs hw
  rw [h1]
  exact thn (hg pins s1 σ H1 x v _ I1 r1 q1) fun _ s2 q => q
theorem ps_set {i : Nat} {x : Str} {e : Expr} {te : TE} {pos' : Pos} (hN : X.N.Nodup) (hi : X.N[i]? = some x) (hx : Loc X.env.scope x) (he : PE X e te) (hs : swapsWith e (some (.Name x pos')) pos.line X.env = pure false := by rfl) (hf : X.fn x = true ∨ X.env.scope.names.lookup x = some .local := by first | exact .inl rfl | exact .inr rfl | assumption) :
    PS X (.Assign [.Name x pos'] e pos) (tAsg te (gName i)) := by
  intro pins s σ H D I h
  refine wpAny_Assign_Name (thn (he pins s σ H _ I h) fun v s1 ⟨y, H1, I1, r1, q1⟩ => ?_) hs
  exact store_ok I1 hN hi hx r1 (fun s2 I2 => ⟨_, H1, I2, q1⟩) hf
end

section
variable {X : Cx} {pos : Pos}
end

structure It where
  go : Nat → Hp → Prop
  yld : Nat → Hp → V → Hp → Prop
  stop : Nat → Hp → Prop
def FpOk (X : Cx) (pins : List (Addr × Obj)) (H : Hp) (b : Addr) : Prop :=
  H b = none ∧ b ≠ X.env.locals ∧ b ∉ X.fs ∧ (b ∈ X.ex ∨ X.s₀.heap.objs.size ≤ b) ∧ (∀ x c, X.env.cells.lookup x = some c → c ≠ b) ∧ ∀ p ∈ X.pn ++ pins, p.1 ≠ b
theorem Inv.fpOk {X : Cx} {pins : List (Addr × Obj)} {σ : St} {H H' : Hp} {s : Shared} {b : Addr} (I : Inv X pins σ H s) (hb : s.heap.objs.size ≤ b) (hn : H' b = none) : FpOk X pins H' b := by
  refine ⟨hn, Nat.ne_of_gt (Nat.lt_of_lt_of_le I.lt hb), I.nofs hb, .inr (Nat.le_trans I.sz hb), fun x c e z => ?_, fun p hp z => ?_⟩
  · obtain ⟨v, q⟩ := I.cell x c e
    exact absurd (Nat.lt_of_lt_of_le q.lt (by rw [z]; exact hb)) (Nat.lt_irrefl _)
  · exact absurd (Nat.lt_of_lt_of_le (Heap.lt_size (I.pin p hp).1) (by rw [z]; exact hb)) (Nat.lt_irrefl _)
structure Turn (P : Program) (w : World) (K : PySem.W.Frag) (tg : Expr) (J : It) (fp : List Addr) (it : Addr) (tn : Nat → Heap → Prop) : Prop where
  mem : it ∈ fp
  obj : ∀ i h, tn i h → ∀ b ∈ fp, ∃ o, h.get? b = some o ∧ ∀ v, o.data ≠ .cell v
  keep : ∀ i h h', tn i h → (∀ b ∈ fp, ∀ o, h.get? b = some o → h'.get? b = some o) → tn i h'
  item : ∀ (X : Cx), X.prog = P → X.w = w → X.K = K → X.calm = true → ∀ (i : Nat) (pins : List (Addr × Obj)) (s : Shared) (σ : St) (H : Hp) (E : Value → Shared → Prop), Inv X pins σ H s → (∀ b ∈ fp, FpOk X pins H b) → tn i s.heap → J.go i H →
    wpAny (model P w) X.A (pyNext (.ref it)) (fun r s1 => ∃ u, r = some u ∧
      wpAny (model P w) X.A (letOwnedTupleGo tg (.ref it) u) (fun _ s2 => ∃ x H', Inv X pins σ H' s2 ∧ RelV x u ∧ J.yld i H x H' ∧ tn (i + 1) s2.heap ∧ ∀ b ∈ fp, H' b = none) E s1) E s
  done : ∀ (X : Cx), X.prog = P → X.w = w → X.K = K → X.calm = true → ∀ (i : Nat) (pins : List (Addr × Obj)) (s : Shared) (σ : St) (H : Hp) (E : Value → Shared → Prop), Inv X pins σ H s → (∀ b ∈ fp, FpOk X pins H b) → tn i s.heap → J.stop i H →
    wpAny (model P w) X.A (pyNext (.ref it)) (fun r s1 => r = none ∧ Inv X pins σ H s1) E s
  self : ∀ (A : Around) (i : Nat) (s : Shared) (Q : Value → Shared → Prop) (E : Value → Shared → Prop), tn i s.heap → Q (.ref it) s → wpAny (model P w) A (pyIter (.ref it)) Q E s
abbrev TI := St → Hp → (It → Hp → Prop) → Prop
def PIE (X : Cx) (pins : List (Addr × Obj)) (σ : St) (tg : Expr) (R : It → Hp → Prop) (itv : Value) (s2 : Shared) : Prop :=
  ∃ (it : Addr) (fp : List Addr) (tn : Nat → Heap → Prop) (J : It) (H' : Hp), itv = .ref it ∧ Inv X pins σ H' s2 ∧ Turn X.prog X.w X.K tg J fp it tn ∧ tn 0 s2.heap ∧ (∀ b ∈ fp, FpOk X pins H' b) ∧ R J H'
def PI (X : Cx) (tg iter : Expr) (wi : TI) : Prop :=
  ∀ (pins : List (Addr × Obj)) (s : Shared) (σ : St) (H : Hp) (R : It → Hp → Prop), Inv X pins σ H s → wi σ H R →
    wpAny (model X.prog X.w) X.A (eval iter X.env) (fun v s1 => wpAny (model X.prog X.w) X.A (pyIter v) (PIE X pins σ tg R) X.xe s1) X.xe s

theorem go_of {M : Model} {A : Around} {E : Value → Shared → Prop} {s : Shared} {tg : Expr} {it : Addr} {u : Value} {o : Obj} {n : String} {vs : Array Value} {Q : Unit → Shared → Prop} (ho : s.heap.get? it = some o) (hc : o.cls = .type n) (hd : o.data = .fields vs)
    (hn : ["enumerate", "zip", "dict_itemiterator", "dict_reverseitemiterator", "odict_iterator", "itertools.zip_longest", "itertools.pairwise"].contains n = false) (hQ : Q () s) : wpAny M A (letOwnedTupleGo tg (.ref it) u) Q E s := by
  unfold letOwnedTupleGo
  cases tg <;> first
    | exact wpAny_pure hQ
    | (cases u <;> first
        | exact wpAny_pure hQ
        | (refine wpAny_bind (wpAny_load ho ?_)
           rw [hc, hd]
           show wpAny M A (if (["enumerate", "zip", "dict_itemiterator", "dict_reverseitemiterator", "odict_iterator", "itertools.zip_longest", "itertools.pairwise"].contains n && vs[0]? == some (rawInt _)) = true then _ else _) Q E s
           rw [if_neg (by intro h; rw [hn, Bool.false_and] at h; cases h)]
           exact wpAny_pure hQ))

def Itl (K : PySem.W.Frag) (a : Addr) : It :=
  ⟨fun i H => ∃ xs x, SqL K H a xs ∧ xs[i]? = some x, fun i H x H' => H' = H ∧ ∀ xs, SqL K H a xs → xs[i]? = some x, fun i H => ∃ xs, SqL K H a xs ∧ xs.length ≤ i⟩
def Itr (lo : Int) (n : Nat) : It := ⟨fun i _ => i < n, fun i H x H' => H' = H ∧ x = .int (lo + i), fun i _ => n ≤ i⟩
theorem turn_list {P : Program} {w : World} {K : PySem.W.Frag} {tg : Expr} (a it : Addr) : Turn P w K tg (Itl K a) [it] it (fun i h => h.IsListIter it a i) where
  mem := by simp
  obj := fun i h st b hb => by
    have e : b = it := by simpa using hb
    subst e
    obtain ⟨o, e, c, d⟩ := st
    exact ⟨o, e, fun v z => by rw [d] at z; cases z⟩
  keep := fun i h h' st k => st.at fun o e => k it (by simp) o e
  item := by
    intro X hP hw hK hc i pins s σ H E I hf st hg
    subst hP hw hK
    obtain ⟨xs, x, hq, hx⟩ := hg
    obtain ⟨its, rv, p, hz⟩ := I.list hq
    obtain ⟨u, hu, ru⟩ := rv.get hx
    obtain ⟨f0, f1, f2, f3, f4, f5⟩ := hf it (by simp)
    refine wpAny_pyNext_list_item st p.isList (x := u) (by simpa using hu) fun h' st' sb => ?_
    have I1 : Inv X pins σ H { s with heap := h' } := I.turned (t' := s.toks) (fun b o hb e => (sb.2 b hb).trans e) f0 f1 f3 f4 f5
    obtain ⟨o, e, c, d⟩ := id st'
    exact ⟨u, rfl, go_of (s := { s with heap := h' }) e c d (by decide) ⟨x, H, I1, ru, ⟨rfl, fun ys hy => by rw [I.list_inj hy hq]; exact hx⟩, st', fun b hb => (hf b hb).1⟩⟩
  done := by
    intro X hP hw hK hc i pins s σ H E I hf st hg
    subst hP hw hK
    obtain ⟨xs, hq, hx⟩ := hg
    obtain ⟨its, rv, p, hz⟩ := I.list hq
    obtain ⟨f0, f1, f2, f3, f4, f5⟩ := hf it (by simp)
    have hl := rv.length
    exact wpAny_pyNext_list_end (I.ok.hd hc) st p.isList (by simp; omega) fun h' eb => ⟨rfl, I.turned (t' := s.toks) (fun b o hb e => eb b o hb e) f0 f1 f3 f4 f5⟩
  self := fun _ _ _ _ _ st h => wpAny_pyIter_listiter st h
theorem turn_range {P : Program} {w : World} {K : PySem.W.Frag} {tg : Expr} (it : Addr) (lo : Int) (n : Nat) : Turn P w K tg (Itr lo n) [it] it (fun i h => IsRangeIter h it (lo + (i : Nat) * 1) ((n : Int) - (i : Nat)) 1) where
  mem := by simp
  obj := fun i h st b hb => by
    have e : b = it := by simpa using hb
    subst e
    exact ⟨_, st, fun v z => by
      have z' : Data.fields _ = Data.cell v := z
      cases z'⟩
  keep := fun i h h' st k => k it (by simp) _ st
  item := by
    intro X hP hw hK hc i pins s σ H E I hf st hg
    subst hP hw hK
    obtain ⟨f0, f1, f2, f3, f4, f5⟩ := hf it (by simp)
    have W := Walks.range (prog := X.prog) (w := X.w) (I.ok.hd hc) it lo 1 n
    refine W.item i s _ _ hg st fun v h' tk hv st' kk => ?_
    obtain ⟨t, rfl⟩ := hv
    have I1 : Inv X pins σ H { s with heap := h', toks := tk } := I.turned (fun b o hb e => kk b o (by simpa using hb) e) f0 f1 f3 f4 f5
    refine ⟨_, rfl, go_of (s := { s with heap := h', toks := tk }) (n := "range_iterator") st' rfl rfl (by decide) ⟨.int (lo + i), H, I1, ⟨t, ?_⟩, ⟨rfl, rfl⟩, st', fun b hb => (hf b hb).1⟩⟩
    rw [Int.mul_one]
  done := by
    intro X hP hw hK hc i pins s σ H E I hf st hg
    subst hP hw hK
    obtain ⟨f0, f1, f2, f3, f4, f5⟩ := hf it (by simp)
    exact wpAny_pyNext_range_end (I.ok.hd hc) st (by have : n ≤ i := hg; omega) fun h' eb => ⟨rfl, I.turned (t' := s.toks) (fun b o hb e => eb b o hb e) f0 f1 f3 f4 f5⟩
  self := fun _ _ _ _ _ st h => wpAny_pyIter_rangeiter st h
end L2

namespace L2
open PySem PySem.Spec PyProof.Rows
section
variable {X : Cx} {tg : Expr}
def iList (K : PySem.W.Frag) (tl : TE) : TI := fun σ H R => tl σ H fun x H1 => ∃ a, x = .ref a ∧ (∃ xs, SqL K H1 a xs) ∧ R (Itl K a) H1
theorem pi_list {l : Expr} {tl : TE} (hl : PE X l tl) : PI X tg l (iList X.K tl) := by
  intro pins s σ H R I h
  refine thn (hl pins s σ H _ I h) fun v s1 ⟨x, H1, I1, r1, q1⟩ => ?_
  obtain ⟨a, e, ⟨xs, hq⟩, q⟩ := q1
  subst e
  cases r1
  obtain ⟨its, rv, p, hz⟩ := I1.list hq
  refine wpAny_pyIter_list p.isList ?_
  refine ⟨s1.heap.objs.size, [s1.heap.objs.size], _, _, H1, rfl, I1.kept (t' := s1.toks) fun b o e => Heap.get?_push_of_some _ e, turn_list a _, ⟨_, Heap.get?_push_size _ rfl, rfl, rfl⟩, fun b hb => ?_, q⟩
  have e : b = s1.heap.objs.size := by simpa using hb
  subst e
  exact I1.fpOk (Nat.le_refl _) (I1.hok.fresh (Nat.le_refl _))
theorem range_it {pins : List (Addr × Obj)} {σ : St} {H : Hp} {s : Shared} {R : It → Hp → Prop} {E : Value → Shared → Prop} {lo hi : Int} {t u v : Tok} {tk : Nat} (I : Inv X pins σ H s) (h1 : -(2 ^ 62) ≤ lo) (h2 : lo < 2 ^ 62) (h3 : -(2 ^ 62) ≤ hi) (h4 : hi < 2 ^ 62)
    (q : R (Itr lo (hi - lo).toNat) H) : wpAny (model X.prog X.w) X.A (pyIter (.ref s.heap.objs.size)) (PIE X pins σ tg R) E { s with heap := s.heap.push { cls := .type "range", data := .fields #[.int lo t, .int hi u, .int 1 v] }, toks := tk } := by
  refine wpAny_pyIter_range (IsRange.new ..) (small_one h1 h2 h3 h4) ?_
  have I1 : Inv X pins σ H { s with heap := s.heap.push { cls := .type "range", data := .fields #[.int lo t, .int hi u, .int 1 v] }, toks := tk } := I.kept fun b o e => Heap.get?_push_of_some _ e
  refine ⟨(s.heap.push { cls := .type "range", data := .fields #[.int lo t, .int hi u, .int 1 v] }).objs.size, [(s.heap.push { cls := .type "range", data := .fields #[.int lo t, .int hi u, .int 1 v] }).objs.size], _, _, H, rfl,
    I1.kept (t' := tk) fun b o e => Heap.get?_push_of_some _ e, turn_range _ lo (hi - lo).toNat, ?_, fun b hb => ?_, q⟩
  · have e1 : lo + ((0 : Nat) : Int) * 1 = lo := by simp
    have e2 : (((hi - lo).toNat : Nat) : Int) - ((0 : Nat) : Int) = Builtin.Range.rangeSize lo hi 1 := by rw [rangeSize_one]; split <;> omega
    show IsRangeIter _ _ (lo + ((0 : Nat) : Int) * 1) ((((hi - lo).toNat : Nat) : Int) - ((0 : Nat) : Int)) 1
    rw [e1, e2]
    exact Heap.get?_push_size _ rfl
  · have e : b = (s.heap.push { cls := .type "range", data := .fields #[.int lo t, .int hi u, .int 1 v] }).objs.size := by simpa using hb
    subst e
    exact I1.fpOk (Nat.le_refl _) (I1.hok.fresh (Nat.le_refl _))
def iRng1 (ta : TA) : TI := fun σ H R => ta σ H fun vs H1 => ∃ j : Int, vs = [.int j] ∧ -(2 ^ 62) ≤ j ∧ j < 2 ^ 62 ∧ R (Itr 0 j.toNat) H1
theorem pi_range1 {a : Expr} {ta : TA} {p pos : Pos} (hg : Gl X "range") (hm : X.mg "range" = none) (ha : PA X [a] ta) (hs : starEach [a] X.env = [(false, eval a X.env)] := by rfl) : PI X tg (.Call (.Name "range" p) [a] [] pos) (iRng1 ta) := by
  intro pins s σ H R I h
  refine Call_ (ld_blt I hg hm boot_range (PyProof.Rows.callWith_type1 (thn (ha pos pins s σ H _ I h) fun us s1 ⟨vs, H1, I1, r1, q1⟩ => ?_) hs rfl))
  obtain ⟨j, e, q1, q2, q⟩ := q1
  subst e
  cases r1 with
  | cons r rr =>
    cases rr
    obtain ⟨t, rfl⟩ := r
    exact call_range_1 (range_it I1 (by omega) (by omega) q1 q2 (by simpa using q))
def tFor (wi : TI) (g : TG) (tb : TS) : TS := fun D σ H => wi σ H fun J H1 => ∃ W : Nat → Nat → St → Hp → Prop, (∃ m, W 0 m σ H1) ∧ ∀ i m σ H, W i m σ H →
  (J.stop i H ∧ D.nx σ H) ∨ (J.go i H ∧ ∃ N : St → Hp → Prop, (∀ σ' H', N σ' H' → ∃ m', m' < m ∧ W (i + 1) m' σ' H') ∧ ∀ x H', J.yld i H x H' → g x σ H' fun σ2 H2 => tb { D with nx := N, ct := N, bk := D.nx } σ2 H2)
def pinsAt (fp : List Addr) (h : Heap) : List (Addr × Obj) := fp.filterMap fun b => (h.get? b).map fun o => (b, o)
theorem mem_pinsAt {fp : List Addr} {h : Heap} {b : Addr} {o : Obj} (hb : b ∈ fp) (e : h.get? b = some o) : (b, o) ∈ pinsAt fp h := List.mem_filterMap.mpr ⟨b, hb, by rw [e]; rfl⟩
theorem of_pinsAt {fp : List Addr} {h : Heap} {p : Addr × Obj} (hp : p ∈ pinsAt fp h) : p.1 ∈ fp ∧ h.get? p.1 = some p.2 := by
  obtain ⟨b, hb, e⟩ := List.mem_filterMap.mp hp
  cases q : h.get? b with
  | none => rw [q] at e; cases e
  | some o =>
    rw [q] at e
    have e' : (b, o) = p := Option.some.inj e
    subst e'
    exact ⟨hb, q⟩
theorem Inv.pinned {pins : List (Addr × Obj)} {σ : St} {H : Hp} {s : Shared} {fp : List Addr} (I : Inv X pins σ H s) (hf : ∀ b ∈ fp, FpOk X pins H b) (ho : ∀ b ∈ fp, ∃ o, s.heap.get? b = some o ∧ ∀ v, o.data ≠ .cell v) : Inv X (pins ++ pinsAt fp s.heap) σ H s :=
  I.pins_of fun p hp => (List.mem_append.mp hp).elim (fun z => I.pin p (List.mem_append_right _ z)) fun z => by
    obtain ⟨hb, e⟩ := of_pinsAt z
    obtain ⟨f0, f1, f2, _⟩ := hf p.1 hb
    obtain ⟨o, e', d⟩ := ho p.1 hb
    rw [e] at e'; cases e'
    exact ⟨e, f0, f1, f2, d⟩
theorem Inv.unpinned {pins pl : List (Addr × Obj)} {σ : St} {H : Hp} {s : Shared} (I : Inv X (pins ++ pl) σ H s) : Inv X pins σ H s := I.pins_of fun p hp => I.pin p (List.mem_append_right _ (List.mem_append_left _ hp))
theorem ps_for {iter : Expr} {body : List Stmt} {wi : TI} {g : TG} {tb : TS} {pos : Pos} (hp : PassesOwn (model X.prog X.w) X.A X.env X.xe) (hc : X.calm = true) (hi : PI X tg iter wi) (hg : PG X tg g) (hb : PSs X body tb)
    (hs : ∀ x, foldedSetIterable iter X.env x = pure x := by intro _; rfl) : PS X (.For tg iter body [] pos) (tFor wi g tb) := by
  intro pins s σ H D I h
  refine wpAny_For (thn (hi pins s σ H _ I h) fun v s1 h1 => thn h1 fun itv s2 h2 => ?_) hs
  obtain ⟨it, fp, tn, J, H2, e, I2, T, st2, f2, W, ⟨m0, w0⟩, turn⟩ := h2
  subst e
  -- what stays true of the iterator's objects through the loop
  have stat : ∀ {H' : Hp}, (∀ b ∈ fp, H' b = none) → ∀ b ∈ fp, FpOk X pins H' b := fun hn b hb => ⟨hn b hb, (f2 b hb).2⟩
  refine codeAny_forLoop_any (fun n s' => ∃ i σ' H', Inv X pins σ' H' s' ∧ tn i s'.heap ∧ (∀ b ∈ fp, H' b = none) ∧ W i n σ' H') ?_ m0 ⟨0, σ, H2, I2, st2, fun b hb => (f2 b hb).1, w0⟩
  rintro n s3 ⟨i, σ3, H3, I3, st3, fr3, w3⟩
  rcases turn i n σ3 H3 w3 with ⟨stop, qn⟩ | ⟨go, N, hN, step⟩
  · refine wpAny_passesOwn hp (thn (T.done X rfl rfl rfl hc i pins s3 σ3 H3 X.xe I3 (stat fr3) st3 stop) fun r s4 ⟨hr, I4⟩ => ?_)
    subst hr
    exact wpAny_execs_nil ⟨σ3, H3, I4, qn⟩
  · refine wpAny_passesOwn hp (thn (T.item X rfl rfl rfl hc i pins s3 σ3 H3 X.xe I3 (stat fr3) st3 go) fun r s4 ⟨u, hr, h4⟩ => ?_)
    subst hr
    refine wpAny_passesOwn hp (thn h4 fun _ s5 ⟨x, H5, I5, r5, y5, st5, fr5⟩ => ?_)
    have I5' := I5.pinned (stat fr5) (T.obj _ _ st5)
    refine wpAny_passesOwn hp (thn (hg _ s5 σ3 H5 x u _ I5' r5 (step x H5 y5)) fun _ s6 ⟨σ6, H6, I6, q6⟩ => ?_)
    refine wpAny_passesOwn hp (thn (hb _ s6 σ6 H6 _ I6 q6) fun f s7 q7 => ?_)
    have again : ∀ {σ7 : St} {H7 : Hp}, Inv X (pins ++ pinsAt fp s5.heap) σ7 H7 s7 → N σ7 H7 → ∃ m, m < n ∧ ∃ i σ' H', Inv X pins σ' H' s7 ∧ tn i s7.heap ∧ (∀ b ∈ fp, H' b = none) ∧ W i m σ' H' := fun {σ7 H7} I7 n7 => by
      obtain ⟨m', hm, w7⟩ := hN σ7 H7 n7
      refine ⟨m', hm, i + 1, σ7, H7, I7.unpinned, T.keep _ _ _ st5 fun b hb o e => (I7.pin (b, o) (List.mem_append_right _ (List.mem_append_right _ (mem_pinsAt hb e)))).1, fun b hb => ?_, w7⟩
      obtain ⟨o, e, d⟩ := T.obj _ _ st5 b hb
      exact (I7.pin (b, o) (List.mem_append_right _ (List.mem_append_right _ (mem_pinsAt hb e)))).2.1
    cases f with
    | next => obtain ⟨σ7, H7, I7, n7⟩ := q7; exact again I7 n7
    | cont => obtain ⟨σ7, H7, I7, n7⟩ := q7; exact again I7 n7
    | brk => obtain ⟨σ7, H7, I7, q7⟩ := q7; exact ⟨σ7, H7, I7.unpinned, q7⟩
    | ret v => obtain ⟨x7, σ7, H7, I7, r7, q7⟩ := q7; exact ⟨x7, σ7, H7, I7.unpinned, r7, q7⟩
end

theorem for_range {lo : Int} {n : Nat} {g : TG} {tb : TS} {D : Ends} {σ : St} {H : Hp} (Pv : Nat → St → Hp → Prop) (h0 : Pv 0 σ H)
    (hs : ∀ i σ H, i < n → Pv i σ H → g (.int (lo + i)) σ H fun σ2 H2 => tb { D with nx := Pv (i + 1), ct := Pv (i + 1), bk := D.nx } σ2 H2) (hd : ∀ σ H, Pv n σ H → D.nx σ H) :
    ∃ W : Nat → Nat → St → Hp → Prop, (∃ m, W 0 m σ H) ∧ ∀ i m σ H, W i m σ H →
      ((Itr lo n).stop i H ∧ D.nx σ H) ∨ ((Itr lo n).go i H ∧ ∃ N : St → Hp → Prop, (∀ σ' H', N σ' H' → ∃ m', m' < m ∧ W (i + 1) m' σ' H') ∧ ∀ x H', (Itr lo n).yld i H x H' → g x σ H' fun σ2 H2 => tb { D with nx := N, ct := N, bk := D.nx } σ2 H2) := by
  refine ⟨fun i m σ H => m = n - i ∧ i ≤ n ∧ Pv i σ H, ⟨n, by simp, Nat.zero_le _, h0⟩, ?_⟩
  rintro i m σ H ⟨rfl, hi, p⟩
  by_cases hlt : i < n
  · refine .inr ⟨hlt, Pv (i + 1), fun σ' H' p' => ⟨n - (i + 1), by omega, rfl, hlt, p'⟩, fun x H' y => ?_⟩
    obtain ⟨e, y⟩ := y
    subst e y
    exact hs i σ _ hlt p
  · have e : i = n := by omega
    subst e
    exact .inl ⟨Nat.le_refl _, hd σ H p⟩
end L2

namespace L2
open PySem PySem.Spec PyProof.Rows

abbrev R2 := V → V → Hp → VK → Prop
def OpR (X : Cx) (f : Value → Value → Sem Value) (r : R2) : Prop :=
  ∀ (pins : List (Addr × Obj)) (s : Shared) (σ : St) (H : Hp) (x y : V) (v u : Value) (Q : VK), Inv X pins σ H s → RelV x v → RelV y u → r x y H Q →
    wpAny (model X.prog X.w) X.A (f v u) (EP X pins σ Q) X.xe s
def CallR (X : Cx) (f : Value) (r : List V → Hp → VK → Prop) : Prop :=
  ∀ (pins : List (Addr × Obj)) (s : Shared) (σ : St) (H : Hp) (xs : List V) (us : List Value) (Q : VK), Inv X pins σ H s → Vals xs us → r xs H Q →
    wpAny (model X.prog X.w) X.A (call f us) (EP X pins σ Q) X.xe s
def tOp (r : R2) (ta tb : TE) : TE := fun σ H Q => ta σ H fun x H1 => tb σ H1 fun y H2 => r x y H2 Q
def rI (C : Int → Int → Prop) (g : Int → Int → V) : R2 := fun x y H Q => ∃ i j, x = .int i ∧ y = .int j ∧ C i j ∧ Q (g i j) H
def rI0 (g : Int → Int → V) : R2 := fun x y H Q => ∃ i j, x = .int i ∧ y = .int j ∧ Q (g i j) H
section
variable {X : Cx} {a b c : Expr} {ta tb tc : TE} {pos : Pos}

theorem binT (ha : PE X a ta) (hb : PE X b tb) {pins : List (Addr × Obj)} {s : Shared} {σ : St} {H : Hp} {R : V → V → Hp → Prop} (I : Inv X pins σ H s)
    (h : ta σ H fun x H1 => tb σ H1 fun y H2 => R x y H2) {Q : Value → Shared → Prop} {f : Value → Value → Sem Value}
    (hf : ∀ v u s2 x y H2, Inv X pins σ H2 s2 → RelV x v → RelV y u → R x y H2 → wpAny (model X.prog X.w) X.A (f v u) Q X.xe s2) :
    wpAny (model X.prog X.w) X.A (eval a X.env) (fun v s₁ => wpAny (model X.prog X.w) X.A (eval b X.env) (fun u s₂ => wpAny (model X.prog X.w) X.A (f v u) Q X.xe s₂) X.xe s₁) X.xe s := by
  refine thn (ha pins s σ H _ I h) fun v s1 ⟨x, H1, I1, r1, q1⟩ => ?_
  refine thn (hb pins s1 σ H1 _ I1 q1) fun u s2 ⟨y, H2, I2, r2, q2⟩ => ?_
  exact hf v u s2 x y H2 I2 r1 r2 q2

theorem pe_op {op : Operator} {r : R2} (ho : OpR X (binaryOp op) r) (ha : PE X a ta) (hb : PE X b tb) : PE X (.BinOp a op b pos) (tOp r ta tb) := by
  intro pins s σ H Q I h
  exact wpAny_BinOp (binT ha hb I h fun v u s2 x y H2 I2 rx ry q => ho pins s2 σ H2 x y v u Q I2 rx ry q)
theorem opI {f : Value → Value → Sem Value} {C : Int → Int → Prop} {g : Int → Int → Int}
    (rule : ∀ (i j : Int) (t u : Tok) (s : Shared) (Q : Value → Shared → Prop) (E : Value → Shared → Prop), C i j → Q (.int (g i j) s.toks) { s with toks := s.toks + 1 } → wpAny (model X.prog X.w) X.A (f (.int i t) (.int j u)) Q E s) :
    OpR X f (rI C fun i j => .int (g i j)) := by
  intro pins s σ H x y v u Q I rx ry h
  obtain ⟨i, j, rfl, rfl, hc, q⟩ := h
  obtain ⟨t, rfl⟩ := rx
  obtain ⟨t', rfl⟩ := ry
  exact rule i j t t' s _ _ hc ⟨.int (g i j), H, I.tok _, ⟨_, rfl⟩, q⟩
theorem opI0 {f : Value → Value → Sem Value} {g : Int → Int → Int}
    (rule : ∀ (i j : Int) (t u : Tok) (s : Shared) (Q : Value → Shared → Prop) (E : Value → Shared → Prop), Q (.int (g i j) s.toks) { s with toks := s.toks + 1 } → wpAny (model X.prog X.w) X.A (f (.int i t) (.int j u)) Q E s) :
    OpR X f (rI0 fun i j => .int (g i j)) := by
  intro pins s σ H x y v u Q I rx ry h
  obtain ⟨i, j, rfl, rfl, q⟩ := h
  obtain ⟨t, rfl⟩ := rx
  obtain ⟨t', rfl⟩ := ry
  exact rule i j t t' s _ _ ⟨.int (g i j), H, I.tok _, ⟨_, rfl⟩, q⟩
theorem opB0 {f : Value → Value → Sem Value} {g : Int → Int → Bool}
    (rule : ∀ (i j : Int) (t u : Tok) (s : Shared) (Q : Value → Shared → Prop) (E : Value → Shared → Prop), Q (.bool (g i j)) s → wpAny (model X.prog X.w) X.A (f (.int i t) (.int j u)) Q E s) :
    OpR X f (rI0 fun i j => .bl (g i j)) := by
  intro pins s σ H x y v u Q I rx ry h
  obtain ⟨i, j, rfl, rfl, q⟩ := h
  obtain ⟨t, rfl⟩ := rx
  obtain ⟨t', rfl⟩ := ry
  exact rule i j t t' s _ _ ⟨.bl (g i j), H, I, rfl, q⟩

def CDiv (i j : Int) : Prop := 0 < j ∧ j < 1073741824
def CPow (i j : Int) : Prop := 0 ≤ j ∧ j ≤ 1000000 ∧ i.natAbs < 2 ^ 64
def CMul (i j : Int) : Prop := (-(2 ^ 64) < i ∧ i < 2 ^ 64) ∨ (-(2 ^ 64) < j ∧ j < 2 ^ 64)
theorem CMul.ok {i j : Int} (h : CMul i j) : IntMulOk i j := by
  rcases h with ⟨h1, h2⟩ | ⟨h1, h2⟩
  · exact .of_left (intBits_le_64 h1 h2)
  · exact .of_right (intBits_le_64 h1 h2)
theorem op_add : OpR X (binaryOp .Add) (rI0 fun i j => .int (i + j)) := opI0 fun _ _ _ _ _ _ _ q => add_int q
theorem op_sub : OpR X (binaryOp .Sub) (rI0 fun i j => .int (i - j)) := opI0 fun _ _ _ _ _ _ _ q => sub_int q
theorem op_mul : OpR X (binaryOp .Mult) (rI CMul fun i j => .int (i * j)) := opI fun _ _ _ _ _ _ _ hc q => mul_int q hc.ok
theorem op_fdiv : OpR X (binaryOp .FloorDiv) (rI CDiv fun i j => .int (i / j)) := opI fun i j _ _ _ _ _ hc q => by
  have h1 : (0 : Int) < j := hc.1
  have h2 : j < 1073741824 := hc.2
  exact floordiv_int (by omega) (by rw [Int.fdiv_eq_ediv_of_nonneg i (by omega)]; exact q) (.inl (PyProof.noPylong_small (by omega)))
theorem op_mod : OpR X (binaryOp .Mod) (rI (fun _ j => 0 < j) fun i j => .int (i % j)) := opI fun i j _ _ _ _ _ hc q => by
  have h1 : (0 : Int) < j := hc
  exact mod_int' (by omega) (by rw [Int.fmod_eq_emod_of_nonneg i (by omega)]; exact q)
theorem op_pow : OpR X (binaryOp .Pow) (rI CPow fun i j => .int (i ^ j.toNat)) := opI fun _ _ _ _ _ _ _ hc q => pow_int_small hc.1 hc.2.1 hc.2.2 q
end

def scal : V → V → Bool
  | .non, .non => true | .non, .int _ => true | .int _, .non => true | .non, .bl _ => true | .bl _, .non => true | .non, .str _ => true | .str _, .non => true
  | .int _, .int _ => true | .bl _, .bl _ => true | .str _, .str _ => true | .byt _, .byt _ => true
  | .int _, .str _ => true | .str _, .int _ => true | .bl _, .str _ => true | .str _, .bl _ => true
  | _, _ => false
def rEq : R2 := fun x y H Q => scal x y = true ∧ Q (.bl (decide (x = y))) H
def rNe : R2 := fun x y H Q => scal x y = true ∧ Q (.bl (!decide (x = y))) H

theorem dec_int {i j : Int} : decide (V.int i = V.int j) = (i == j) := by
  rw [Bool.eq_iff_iff]
  simp
theorem dec_bl {i j : Bool} : decide (V.bl i = V.bl j) = (i == j) := by
  rw [Bool.eq_iff_iff]
  simp
theorem dec_str {i j : Str} : decide (V.str i = V.str j) = (i == j) := by
  rw [Bool.eq_iff_iff]
  simp
theorem dec_byt {i j : Array UInt8} : decide (V.byt i = V.byt j) = (i.toList == j.toList) := by
  rw [Bool.eq_iff_iff]
  cases i
  cases j
  simp

section
variable {X : Cx} {a b c : Expr} {ta tb tc : TE} {pos : Pos}
theorem fin_bl {pins : List (Addr × Obj)} {σ : St} {H : Hp} {s : Shared} {Q : VK} {k k' : Bool} (I : Inv X pins σ H s) (q : Q (.bl k) H) (e : k = k') : EP X pins σ Q (.bool k') s := by
  subst e
  exact ⟨.bl k, H, I, rfl, q⟩
theorem op_eq : OpR X (compareOp .Eq) rEq := by
  intro pins s σ H x y v u Q I rx ry h
  obtain ⟨hs, q⟩ := h
  cases x with
  | non =>
    cases rx
    cases y with
    | non => cases ry; exact PySem.EqNone.eq_none_none (fin_bl I q (by simp))
    | bl j => cases ry; exact PySem.EqNone.eq_none_bool (fin_bl I q (by simp))
    | int j => obtain ⟨t', rfl⟩ := ry; exact PySem.EqNone.eq_none_int (fin_bl I q (by simp))
    | str j => obtain ⟨t', rfl⟩ := ry; exact PySem.EqNone.eq_none_str (fin_bl I q (by simp))
    | _ => exact absurd (show false = true from hs) Bool.false_ne_true
  | bl i =>
    cases rx
    cases y with
    | non => cases ry; exact PySem.EqNone.eq_bool_none (fin_bl I q (by simp))
    | bl j => cases ry; exact eq_bool (fin_bl I q dec_bl)
    | str j => obtain ⟨t', rfl⟩ := ry; exact PySem.EqMixed.eq_bool_str (fin_bl I q (by simp))
    | _ => exact absurd (show false = true from hs) Bool.false_ne_true
  | int i =>
    obtain ⟨t, rfl⟩ := rx
    cases y with
    | non => cases ry; exact PySem.EqNone.eq_int_none (fin_bl I q (by simp))
    | int j => obtain ⟨t', rfl⟩ := ry; exact eq_int (fin_bl I q dec_int)
    | str j => obtain ⟨t', rfl⟩ := ry; exact PySem.EqMixed.eq_int_str (fin_bl I q (by simp))
    | _ => exact absurd (show false = true from hs) Bool.false_ne_true
  | str i =>
    obtain ⟨t, rfl⟩ := rx
    cases y with
    | non => cases ry; exact PySem.EqNone.eq_str_none (fin_bl I q (by simp))
    | bl j => cases ry; exact PySem.EqMixed.eq_str_bool (fin_bl I q (by simp))
    | int j => obtain ⟨t', rfl⟩ := ry; exact PySem.EqMixed.eq_str_int (fin_bl I q (by simp))
    | str j => obtain ⟨t', rfl⟩ := ry; exact eq_str (fin_bl I q dec_str)
    | _ => exact absurd (show false = true from hs) Bool.false_ne_true
  | byt i =>
    obtain ⟨t, rfl⟩ := rx
    cases y with
    | byt j => obtain ⟨t', rfl⟩ := ry; exact PySem.W.eq_bytes (fin_bl I q dec_byt)
    | _ => exact absurd (show false = true from hs) Bool.false_ne_true
  | _ => cases y <;> exact absurd (show false = true from hs) Bool.false_ne_true
theorem op_ne : OpR X (compareOp .NotEq) rNe := by
  intro pins s σ H x y v u Q I rx ry h
  obtain ⟨hs, q⟩ := h
  cases x with
  | non =>
    cases rx
    cases y with
    | non => cases ry; exact PySem.EqNone.ne_none_none (fin_bl I q (by simp))
    | bl j => cases ry; exact PySem.EqNone.ne_none_bool (fin_bl I q (by simp))
    | int j => obtain ⟨t', rfl⟩ := ry; exact PySem.EqNone.ne_none_int (fin_bl I q (by simp))
    | str j => obtain ⟨t', rfl⟩ := ry; exact PySem.EqNone.ne_none_str (fin_bl I q (by simp))
    | _ => exact absurd (show false = true from hs) Bool.false_ne_true
  | bl i =>
    cases rx
    cases y with
    | non => cases ry; exact PySem.EqNone.ne_bool_none (fin_bl I q (by simp))
    | bl j => cases ry; exact ne_bool (fin_bl I q (congrArg not dec_bl))
    | str j => obtain ⟨t', rfl⟩ := ry; exact PySem.EqMixed.ne_bool_str (fin_bl I q (by simp))
    | _ => exact absurd (show false = true from hs) Bool.false_ne_true
  | int i =>
    obtain ⟨t, rfl⟩ := rx
    cases y with
    | non => cases ry; exact PySem.EqNone.ne_int_none (fin_bl I q (by simp))
    | int j => obtain ⟨t', rfl⟩ := ry; exact ne_int (fin_bl I q (congrArg not dec_int))
    | str j => obtain ⟨t', rfl⟩ := ry; exact PySem.EqMixed.ne_int_str (fin_bl I q (by simp))
    | _ => exact absurd (show false = true from hs) Bool.false_ne_true
  | str i =>
    obtain ⟨t, rfl⟩ := rx
    cases y with
    | non => cases ry; exact PySem.EqNone.ne_str_none (fin_bl I q (by simp))
    | bl j => cases ry; exact PySem.EqMixed.ne_str_bool (fin_bl I q (by simp))
    | int j => obtain ⟨t', rfl⟩ := ry; exact PySem.EqMixed.ne_str_int (fin_bl I q (by simp))
    | str j => obtain ⟨t', rfl⟩ := ry; exact ne_str (fin_bl I q (congrArg not dec_str))
    | _ => exact absurd (show false = true from hs) Bool.false_ne_true
  | byt i =>
    obtain ⟨t, rfl⟩ := rx
    cases y with
    | byt j => obtain ⟨t', rfl⟩ := ry; exact PySem.W.ne_bytes (fin_bl I q (congrArg not dec_byt))
    | _ => exact absurd (show false = true from hs) Bool.false_ne_true
  | _ => cases y <;> exact absurd (show false = true from hs) Bool.false_ne_true

theorem op_lt : OpR X (compareOp .Lt) (rI0 fun i j => .bl (decide (i < j))) := opB0 fun _ _ _ _ _ _ _ q => lt_int q
theorem op_gt : OpR X (compareOp .Gt) (rI0 fun i j => .bl (decide (j < i))) := opB0 fun _ _ _ _ _ _ _ q => gt_int q
theorem op_ge : OpR X (compareOp .GtE) (rI0 fun i j => .bl (decide (j ≤ i))) := opB0 fun _ _ _ _ _ _ _ q => ge_int q
theorem op_isN : OpR X (compareOp .Is) (fun x y H Q => y = .non ∧ Q (.bl (decide (x = .non))) H) := by
  intro pins s σ H x y v u Q I rx ry h
  obtain ⟨rfl, q⟩ := h
  cases ry
  refine is_none_gen (fin_bl I q ?_)
  cases x <;> first
    | (cases rx; rfl)
    | (obtain ⟨t, rfl⟩ := rx; rfl)
theorem op_notN : OpR X (compareOp .IsNot) (fun x y H Q => y = .non ∧ Q (.bl (!decide (x = .non))) H) := by
  intro pins s σ H x y v u Q I rx ry h
  obtain ⟨rfl, q⟩ := h
  cases ry
  refine isnot_none_gen (fin_bl I q ?_)
  cases x <;> first
    | (cases rx; rfl)
    | (obtain ⟨t, rfl⟩ := rx; rfl)

theorem nomark (b : Expr) {op : CmpOp} (h : op ≠ .In := by decide) (h2 : op ≠ .NotIn := by decide) : behindInMarks op b = false := by
  have e1 : (op == CmpOp.In) = false := by cases op <;> first | rfl | exact absurd rfl h
  have e2 : (op == CmpOp.NotIn) = false := by cases op <;> first | rfl | exact absurd rfl h2
  cases b <;> simp [behindInMarks, e1, e2]
theorem pe_cmpR {op : CmpOp} {r : R2} (ho : OpR X (compareOp op) r) (ha : PE X a ta) (hb : PE X b tb) (hm : behindInMarks op b = false) : PE X (.Compare a [op] [b] pos) (tOp r ta tb) := by
  intro pins s σ H Q I h
  exact wpAny_Compare1 (binT ha hb I h fun v u s2 x y H2 I2 rx ry q => ho pins s2 σ H2 x y v u Q I2 rx ry q) hm
def tTest (t : TE) : TT := fun σ H Q => t σ H fun x H' => ∃ k, x = .bl k ∧ Q k H'
theorem pt_cmpR {op : CmpOp} {r : R2} (ho : OpR X (compareOp op) r) (ha : PE X a ta) (hb : PE X b tb) (hm : behindInMarks op b = false) : PT X (.Compare a [op] [b] pos) (tTest (tOp r ta tb)) := by
  intro pins s σ H Q I h
  refine wpAny_isTrue_Compare1 (thn (ha pins s σ H _ I h) fun v s1 ⟨x, H1, I1, r1, q1⟩ => thn (hb pins s1 σ H1 _ I1 q1) fun u s2 ⟨y, H2, I2, r2, q2⟩ =>
    thn (ho pins s2 σ H2 x y v u _ I2 r1 r2 q2) fun c s3 ⟨z, H3, I3, r3, k, e, q3⟩ => ?_) hm
  subst e
  cases r3
  exact wpAny_truthy_bool ⟨H3, I3, q3⟩
theorem line63 : (sizeLine : Nat) < 2 ^ 63 := by rw [sizeLine_eq]; decide
theorem vals1 {x : V} {us : List Value} (r : Vals [x] us) : ∃ u, us = [u] ∧ RelV x u := by
  cases r with
  | cons r1 r2 => cases r2; exact ⟨_, rfl, r1⟩
theorem vals2 {x y : V} {us : List Value} (r : Vals [x, y] us) : ∃ u w', us = [u, w'] ∧ RelV x u ∧ RelV y w' := by
  cases r with
  | cons r1 r2 =>
    cases r2 with
    | cons r3 r4 => cases r4; exact ⟨_, _, rfl, r1, r3⟩
theorem call_int1 : CallR X (.type "int") (fun xs H Q => (∃ i, xs = [.int i] ∧ Q (.int i) H) ∨ ∃ k, xs = [.bl k] ∧ Q (.int (if k then 1 else 0)) H) := by
  intro pins s σ H xs us Q I r h
  rcases h with ⟨i, rfl, q⟩ | ⟨k, rfl, q⟩
  · obtain ⟨u, rfl, t, rfl⟩ := vals1 r
    exact call_int_int ⟨.int i, H, I, ⟨_, rfl⟩, q⟩
  · obtain ⟨u, rfl, r1⟩ := vals1 r
    cases r1
    exact call_int_bool ⟨.int (if k then 1 else 0), H, I.tok _, ⟨_, rfl⟩, q⟩
end
end L2

namespace L2
open PySem PySem.Spec PyProof.Rows

section
variable {prog : Program} {w : World} {A : Around} {E : Value → Shared → Prop} {s : Shared} {K : PySem.W.Frag} {x dx C f : Addr} {mA : Str → Option Value} {name : Str} {v : Value}

end

section
variable {P : Program} {w : World} {H H' : Hp} {h h' : Heap} {a C dx : Addr} {fs fs' : List (Str × V)}
end

structure Cls (K : PySem.W.Frag) (C : Addr) : Prop where
  pg : PySem.W.plainGet K C Str.empty = true
  hd : PySem.W.hasDictIn K C = true
  po : PySem.W.plainOver K C = true
  sa : PySem.W.findIn K (.ref C) "__setattr__" = some (some (.builtin "object.__setattr__"))
theorem Cls.get {K : PySem.W.Frag} {C : Addr} (c : Cls K C) (f : Str) : PySem.W.plainGet K C f = true := c.pg
section
variable {X : Cx} {pins : List (Addr × Obj)} {σ : St} {H : Hp} {s : Shared} {a C dx : Addr} {fs : List (Str × V)} {f : Str} {v : V} {A : Around} {E : Value → Shared → Prop}

end

section
variable {X : Cx} {o e value : Expr} {f : Str} {pos pos' tpos : Pos} {ta tv : TE}
end

section
variable {X : Cx} {pins : List (Addr × Obj)} {σ : St} {H : Hp} {s : Shared} {A : Around} {E : Value → Shared → Prop} {Q : Value → Shared → Prop} {c : Value} {b : Bool}
end
end L2

namespace L2
open PySem PySem.Spec PyProof.Rows

structure Room (k : Nat) (A : Around) : Prop where
  hd : A.handled = none
  dp : A.depth + 3 * k + 5 < recursionLimit
  un : A.units + 16 * k + 200 < cLine
theorem Room.mono {j k : Nat} {A : Around} (r : Room k A) (h : j ≤ k) : Room j A := ⟨r.hd, by have := r.dp; omega, by have := r.un; omega⟩
theorem Room.deeper {k : Nat} {A : Around} (r : Room (k + 1) A) (env : Env) : Room k (A.deeper env) :=
  ⟨r.hd, by have := r.dp; show A.depth + 1 + 3 * k + 5 < _; omega, by have := r.un; show A.units + 3 + 16 * k + 200 < _; omega⟩
theorem Room.in1 {k : Nat} {A : Around} (r : Room (k + 1) A) : Room k A.in1 :=
  ⟨r.hd, by have := r.dp; show A.depth + 3 * k + 5 < _; omega, by have := r.un; show A.units + 1 + 16 * k + 200 < _; omega⟩
theorem Room.depth {k : Nat} {A : Around} (r : Room k A) : A.depth < recursionLimit := by have := r.dp; omega
theorem Room.units {k : Nat} {A : Around} (r : Room k A) : A.units + 64 < cLine := by have := r.un; omega
def tNil : TA := fun _ H Q => Q [] H
def tCons (ta : TE) (tr : TA) : TA := fun σ H Q => ta σ H fun x H1 => tr σ H1 fun xs H2 => Q (x :: xs) H2
section
variable {X : Cx} {e : Expr} {es : List Expr} {te : TE} {t : TA} {pos : Pos}
theorem pa_nil : PA X [] tNil := fun _ _ _ _ H Q I h => Calls.spliced_nil ⟨[], H, I, .nil, h⟩
theorem pa_cons (ha : PE X e te) (hr : PA X es t) (hs : starEach (e :: es) X.env = (false, eval e X.env) :: starEach es X.env := by rfl) : PA X (e :: es) (tCons te t) := by
  intro pos pins s σ H Q I h
  rw [hs]
  show wpAny _ _ (spliced ((false, eval e X.env) :: backTo pos (starEach es X.env))) _ _ s
  refine Calls.spliced_cons (thn (ha pins s σ H _ I h) fun u s1 ⟨x, H1, I1, r1, q1⟩ => ?_)
  exact thn (hr pos pins s1 σ H1 _ I1 q1) fun us s2 ⟨xs, H2, I2, r2, q2⟩ => ⟨x :: xs, H2, I2, .cons r1 r2, q2⟩

def tTup (t : TA) : TE := fun σ H Q => t σ H fun xs H1 => xs.length ≤ sizeLine ∧ ∀ p, H1 p = none → Q (.ref p) (upd H1 p (.tup xs))
def tLst (t : TA) : TE := fun σ H Q => t σ H fun xs H1 => xs.length ≤ sizeLine ∧ ∀ p, H1 p = none → Q (.ref p) (upd H1 p (.lst xs))
theorem pe_tup {x1} (h : PA X es t) : PE X (.Tuple es x1 pos) (tTup t) := by
  intro pins s σ H Q I hq
  refine wpAny_Tuple_spliced (thn (h pos pins s σ H _ I hq) fun us s1 ⟨xs, H1, I1, r, z, q⟩ => ⟨by rw [← r.length]; exact z, ?_⟩)
  have hf : H1 s1.heap.objs.size = none := I1.hok.fresh (Nat.le_refl _)
  refine ⟨.ref s1.heap.objs.size, upd H1 s1.heap.objs.size (.tup xs), I1.laid (t' := s1.toks) (fun b u e => Heap.get?_push_of_some _ e) (Nat.le_refl _) ?_, rfl, q _ hf⟩
  exact ⟨z, us, r, ⟨_, Heap.get?_push_size _ rfl, rfl, _, rfl⟩⟩
theorem pe_lst (h : PA X es t) : PE X (.List es pos) (tLst t) := by
  intro pins s σ H Q I hq
  refine wpAny_List_spliced (thn (h pos pins s σ H _ I hq) fun us s1 ⟨xs, H1, I1, r, z, q⟩ => ⟨by rw [← r.length]; exact z, ?_⟩)
  have hf : H1 s1.heap.objs.size = none := I1.hok.fresh (Nat.le_refl _)
  refine ⟨.ref s1.heap.objs.size, upd H1 s1.heap.objs.size (.lst xs), I1.laid (t' := s1.toks) (fun b u e => Heap.get?_push_of_some _ e) (Nat.le_refl _) ?_, rfl, q _ hf⟩
  exact ⟨z, us, 0, r, Heap.get?_push_size _ rfl⟩
end

abbrev Sp := List V → Hp → VK → XK → Prop
abbrev CXT := List Env → Hp → Shared → XK → Value → Shared → Prop

structure Env0 (P : Program) (w : World) (K : PySem.W.Frag) (mg : Str → Option Value) (base : Heap) (A : Around) (outer : List Env) (s : Shared) (H : Hp) : Prop where
  frames : A.frames = some outer
  mod : Mod K mg base
  bs : ∀ b o, base.get? b = some o → s.heap.get? b = some o ∧ H b = none
  bsz : base.objs.size ≤ s.heap.objs.size
  funs : s.heap.FunFrames base outer
  frf : ∀ b ∈ frs outer, H b = none
  hok : HOk P w H s.heap
  bare : AllBare s.gens
def CE (outer : List Env) (P : Program) (w : World) (H : Hp) (s : Shared) (Q : VK) (u : Value) (s' : Shared) : Prop :=
  ∃ v H', s'.os = s.os ∧ AllBare s'.gens ∧ Un (frs outer) [] H H' s.heap s'.heap ∧ HOk P w H' s'.heap ∧ RelV v u ∧ Q v H'
def CR (CX : CXT) (outer : List Env) (P : Program) (w : World) (H : Hp) (s : Shared) (Q : VK) (E : XK) (r : Result) (s' : Shared) : Prop :=
  match r with
  | .ok (.ret u) => CE outer P w H s Q u s'
  | .ok _ => False
  | .error e => CX outer H s E e s'
structure FnOk (P : Program) (w : World) (K : PySem.W.Frag) (mg : Str → Option Value) (base : Heap) (CX : CXT) (k : Nat) (f : Addr) (fd : FuncData) (ps : List Str) (sp : Sp) : Prop where
  len : ∀ vs H Q E, sp vs H Q E → vs.length = ps.length
  run : ∀ (A : Around) (outer : List Env) (s : Shared) (H : Hp) (args : Args) (us : List Value) (vs : List V) (Q : VK) (E : XK), Room k A → Env0 P w K mg base A outer s H → BindsTo s fd args (ps.zip us) → Vals vs us → sp vs H Q E →
    codeAny (model P w) A (.call (.ref f) args) (CR CX outer P w H s Q E) s
theorem FnOk.mono {P : Program} {w : World} {K : PySem.W.Frag} {mg : Str → Option Value} {base : Heap} {CX : CXT} {j k : Nat} {f : Addr} {fd : FuncData} {ps : List Str} {sp : Sp} (F : FnOk P w K mg base CX j f fd ps sp) (h : j ≤ k) :
    FnOk P w K mg base CX k f fd ps sp := ⟨F.len, fun A outer s H args us vs Q E hr => F.run A outer s H args us vs Q E (hr.mono h)⟩
theorem Env0.in1 {P : Program} {w : World} {K : PySem.W.Frag} {mg : Str → Option Value} {base : Heap} {A : Around} {outer : List Env} {s : Shared} {H : Hp} (e : Env0 P w K mg base A outer s H) :
    Env0 P w K mg base A.in1 outer s H := ⟨e.frames, e.mod, e.bs, e.bsz, e.funs, e.frf, e.hok, e.bare⟩

section
variable {X : Cx} {pins : List (Addr × Obj)} {σ : St} {H : Hp} {s s' : Shared}
theorem Inv.env0 (I : Inv X pins σ H s) : Env0 X.prog X.w X.K X.mg X.base X.A X.stack s H :=
  ⟨I.ok.frames, I.ok.mod, I.bs, Nat.le_trans I.ok.bsz I.sz, I.stack, I.stkFree, I.hok, I.bare⟩
theorem Inv.after {Q : VK} {u : Value} (I : Inv X pins σ H s) (h : CE X.stack X.prog X.w H s Q u s') : EP X pins σ Q u s' := by
  obtain ⟨v, H', os, bare, un, hok, r, q⟩ := h
  obtain ⟨hh, g, d, t, os'⟩ := s'
  obtain rfl : os' = s.os := os
  exact ⟨v, H', I.call (h' := hh) (g' := g) (d' := d) (t' := t) (ch := []) un hok bare (fun b z => absurd z (by simp)), r, q⟩
end

def tCall (sp : Sp) (dvs : List V) (E : XK) (t : TA) : TE := fun σ H Q => t σ H fun vs H1 => sp (vs ++ dvs) H1 Q E
def Binds (K : PySem.W.Frag) (fd : FuncData) (ps : List Str) (ds : List Value) : Prop :=
  ∀ (s : Shared) (us : List Value), K.In s.heap → (us ++ ds).length = ps.length → BindsTo s fd ⟨us, []⟩ (ps.zip (us ++ ds))
theorem Binds.all {K : PySem.W.Frag} {fd : FuncData} {ps : List Str} (h : ∀ us : List Value, us.length = ps.length → bindArgs fd ⟨us, []⟩ = pure (ps.zip us)) : Binds K fd ps [] := fun s us _ hl => by
  rw [List.append_nil] at hl ⊢
  exact .of_eq (h us hl)

def Passes (CX : CXT) (X : Cx) (E : XK) : Prop := ∀ (pins : List (Addr × Obj)) (σ : St) (H : Hp) (s : Shared) (e : Value) (s' : Shared), Inv X pins σ H s → CX X.stack H s E e s' → X.xe e s'

section
variable {X : Cx} {CX : CXT} {k : Nat} {f C : Addr} {fd : FuncData} {ps : List Str} {sp : Sp} {dvs : List V} {ds : List Value} {E : XK} {x m : Str} {p pos apos : Pos} {e o : Expr} {es : List Expr} {ta : TE} {t : TA}

theorem run_fn {pins : List (Addr × Obj)} {σ : St} {H : Hp} {s : Shared} {Q : VK} {us : List Value} {vs : List V} (F : FnOk X.prog X.w X.K X.mg X.base CX k f fd ps sp) (hr : Room k X.A) (hb : Binds X.K fd ps ds) (hd : Vals dvs ds) (hx : Passes CX X E)
    (I : Inv X pins σ H s) (r : Vals vs us) (h : sp (vs ++ dvs) H Q E) : wpAny (model X.prog X.w) X.A (call (.ref f) us) (EP X pins σ Q) X.xe s := by
  have r2 : Vals (vs ++ dvs) (us ++ ds) := r.append hd
  have hl : (us ++ ds).length = ps.length := by rw [← r2.length]; exact F.len _ _ _ _ h
  refine wpAny_call (codeAny_mono (F.run X.A X.stack s H ⟨us, []⟩ (us ++ ds) (vs ++ dvs) Q E hr I.env0 (hb s us I.kIn hl) r2 h) fun r s' hq => ?_)
  cases r with
  | error e => exact hx pins σ H s e s' I hq
  | ok fl =>
    cases fl with
    | ret u => exact I.after hq
    | next => exact False.elim hq
    | brk => exact False.elim hq
    | cont => exact False.elim hq

theorem pe_call (F : FnOk X.prog X.w X.K X.mg X.base CX k f fd ps sp) (hr : Room k X.A) (hg : Gl X x) (hm : X.mg x = some (.ref f)) (hk : PySem.W.keepIn X.K (.ref f) = true) (hb : Binds X.K fd ps ds) (hd : Vals dvs ds) (hx : Passes CX X E)
    (ha : PA X (e :: es) t) (hdb : (x == ("__debug__" : Str)) = false := by decide) (he : starEach (e :: es) X.env = (false, eval e X.env) :: starEach es X.env := by rfl) (hpl : (backTo pos (starEach es X.env)).any (·.1) = false := by rfl) :
    PE X (.Call (.Name x p) (e :: es) [] pos) (tCall sp dvs E t) := by
  intro pins s σ H Q I h
  refine wpAny_Call_Name_kw (ld_glob I hg hm ?_ hdb)
  refine PySem.W.callWith_K (h₀ := X.base) I.ok.mod.kin hk (thn (ha pos pins s σ H _ I h) fun us s1 ⟨vs, H1, I1, r, q⟩ => ⟨I1.kIn, ?_⟩) he hpl
  exact run_fn F hr hb hd hx I1 r q
end

section
variable {X : Cx} {CX : CXT} {k : Nat} {f C : Addr} {fd : FuncData} {ps ks : List Str} {sp : Sp} {E : XK} {x m : Str} {p pos apos kpos : Pos} {e o : Expr} {es : List Expr} {kws : List Keyword} {te ta : TE} {t tk : TA} {nm : Option Str}
variable {g : List Value → List Value → List Value} {gV : List V → List V → List V}
end

structure FnScope (N P : List Str) (sc : Scope) : Prop where
  kind : sc.kind = .function
  co : sc.isCoroutine = false
  gen : sc.isGenerator = false
  nd : N.Nodup
  pre : N.take P.length = P
  par : ∀ x ∈ P, sc.names.lookup x = some .local ∨ sc.names.lookup x = some .cell
  nofree : ∀ y ∈ sc.names, y.2 ≠ .free

theorem bindL_out {kindOf : Str → Option NameKind} {x : Str} : ∀ {binds : List (Str × Value)} {m : Str → Option Value}, (∀ v, (x, v) ∉ binds) → bindL kindOf binds m x = m x
  | [], _, _ => rfl
  | (n, v) :: r, m, h => by
    unfold bindL
    rw [bindL_out fun w hw => h w (List.mem_cons_of_mem _ hw)]
    split
    · have : x ≠ n := by rintro rfl; exact h v List.mem_cons_self
      simp [this]
    · rfl
theorem bindC_out {kindOf : Str → Option NameKind} {x : Str} : ∀ {binds : List (Str × Value)} {m : Str → Option Value}, (∀ v, (x, v) ∉ binds) → bindC kindOf binds m x = m x
  | [], _, _ => rfl
  | (n, v) :: r, m, h => by
    unfold bindC
    rw [bindC_out fun w hw => h w (List.mem_cons_of_mem _ hw)]
    split
    · rfl
    · have : x ≠ n := by rintro rfl; exact h v List.mem_cons_self
      simp [this]
theorem bindL_get {kindOf : Str → Option NameKind} {x : Str} {v : Value} : ∀ {P : List Str} {vs : List Value} {i : Nat} {m : Str → Option Value}, P.Nodup → P[i]? = some x → vs[i]? = some v → kindOf x = some .local →
    bindL kindOf (P.zip vs) m x = some v
  | [], _, _, _, _, h, _, _ => by simp at h
  | _ :: _, [], _, _, _, _, h, _ => by simp at h
  | p :: P, w :: vs, 0, m, nd, h1, h2, hk => by
    simp at h1 h2; subst h1; subst h2
    show bindL kindOf ((p, w) :: P.zip vs) m p = _
    unfold bindL
    rw [bindL_out fun v hv => (List.nodup_cons.mp nd).1 (List.of_mem_zip hv).1, if_pos hk]
    simp
  | p :: P, w :: vs, i + 1, m, nd, h1, h2, hk => by
    show bindL kindOf ((p, w) :: P.zip vs) m x = _
    unfold bindL
    exact bindL_get (i := i) (List.nodup_cons.mp nd).2 (by simpa using h1) (by simpa using h2) hk
theorem bindC_get {kindOf : Str → Option NameKind} {x : Str} {v : Value} : ∀ {P : List Str} {vs : List Value} {i : Nat} {m : Str → Option Value}, P.Nodup → P[i]? = some x → vs[i]? = some v → kindOf x ≠ some .local →
    bindC kindOf (P.zip vs) m x = some v
  | [], _, _, _, _, h, _, _ => by simp at h
  | _ :: _, [], _, _, _, _, h, _ => by simp at h
  | p :: P, w :: vs, 0, m, nd, h1, h2, hk => by
    simp at h1 h2; subst h1; subst h2
    show bindC kindOf ((p, w) :: P.zip vs) m p = _
    unfold bindC
    rw [bindC_out fun v hv => (List.nodup_cons.mp nd).1 (List.of_mem_zip hv).1, if_neg hk]
    simp
  | p :: P, w :: vs, i + 1, m, nd, h1, h2, hk => by
    show bindC kindOf ((p, w) :: P.zip vs) m x = _
    unfold bindC
    exact bindC_get (i := i) (List.nodup_cons.mp nd).2 (by simpa using h1) (by simpa using h2) hk

def start (N : List Str) (vs : List V) : St := vs.map some ++ List.replicate (N.length - vs.length) none

def cxOf (CX : CXT) (P : Program) (w : World) (K : PySem.W.Frag) (mg : Str → Option Value) (base : Heap) (N : List Str) (qual : Str) (scope : Scope) (f : Addr) (cd : Value) (A : Around) (outer : List Env) (s : Shared) (H : Hp) (E : XK) : Cx where
  prog := P
  w := w
  K := K
  mg := mg
  base := base
  A := A.deeper (envOfC qual scope s.heap.objs.size f cd)
  N := N
  s₀ := s
  H₀ := H
  env := envOfC qual scope s.heap.objs.size f cd
  outer := outer
  stack := envOfC qual scope s.heap.objs.size f cd :: outer
  ex := []
  calm := true
  fn := fun _ => true
  pn := []
  xe := fun e s' => wpAny (model P w) (A.deeper (envOfC qual scope s.heap.objs.size f cd)) (leaving (envOfC qual scope s.heap.objs.size f cd) e) (fun _ s'' => CX outer H s E e s'') (fun e' s'' => CX outer H s E e' s'') s'

theorem cell_has {sc : Scope} {n : Nat} {x : Str} (h : sc.names.lookup x = some .cell) : ∃ c, (cellsFrom n sc.names []).lookup x = some c := by
  have q := PySem.W.cellsFrom_some sc.names n [] (.inl h)
  exact Option.isSome_iff_exists.mp q

theorem inv_start {CX : CXT} {P : Program} {w : World} {K : PySem.W.Frag} {mg : Str → Option Value} {base : Heap} {N ps : List Str} {qual : Str} {scope : Scope} {f : Addr} {cd : Value} {A : Around} {outer : List Env} {s s1 : Shared} {H : Hp} {E : XK} {us : List Value} {vs : List V}
    (S : FnScope N ps scope) (hd : A.handled = none) (e0 : Env0 P w K mg base A outer s H) (hl : vs.length = ps.length) (r : Vals vs us)
    (x : InCallC s s.heap.objs.size (bindL (envOfC qual scope s.heap.objs.size f cd).kindOf (ps.zip us) fun _ => none) (cellsFrom (s.heap.objs.size + 1) scope.names []) (bindC (envOfC qual scope s.heap.objs.size f cd).kindOf (ps.zip us) fun _ => none) s1) :
    Inv (cxOf CX P w K mg base N qual scope f cd A outer s H E) [] (start N vs) H s1 := by
  have hpl : ps.length ≤ N.length := by have := congrArg List.length S.pre; rw [List.length_take] at this; omega
  obtain ⟨h1, tk, rfl, hk⟩ := x.done
  have noA : ∀ b : Addr, b ∉ (cxOf CX P w K mg base N qual scope f cd A outer s H E).ex := fun b z => absurd (show b ∈ ([] : List Addr) from z) (by simp)
  refine ⟨⟨e0.mod, S.kind, rfl, rfl, Nat.le_refl _, fun y z c h1 h2 => ?_, fun y hy => ?_, fun y c _ h => ?_, fun _ => hd, Around.frames_deeper e0.frames, .inr ⟨rfl, rfl⟩, fun b z => absurd z (noA b), e0.bs, e0.bsz, fun b _ _ => noA b, fun b z => absurd z (noA b), e0.funs, e0.frf⟩,
    rfl, e0.bare, Un.kept hk, ⟨_, x.toInCall.ns, fun i y v h1 h2 h3 => ?_⟩, fun y c h => ⟨_, x.cell y c h⟩, e0.hok.fresh (Nat.le_refl _), fun y c h => ?_, fun p hp => absurd (show p ∈ ([] : List (Addr × Obj)) from hp) (by simp), e0.hok.kept hk, ?_⟩
  · exact name_of_addr x.apart (PySem.mem_of_lookup h1) (PySem.mem_of_lookup h2)
  · have hy : scope.names.lookup y = some .cell ∨ scope.names.lookup y = some .free := hy
    rcases hy with hy | hy
    · exact cell_has hy
    · exact absurd rfl (S.nofree _ (PySem.mem_of_lookup hy))
  · exact Nat.le_of_lt (x.above y c (PySem.mem_of_lookup h))
  · have hi : i < vs.length := by
      unfold start at h2
      by_cases hi : i < vs.length
      · exact hi
      · rw [List.getElem?_append_right (by simpa using hi)] at h2
        rw [List.getElem?_replicate] at h2
        split at h2 <;> cases h2
    have ha : vs[i]? = some v := by
      unfold start at h2
      rw [List.getElem?_append_left (by simpa using hi), List.getElem?_map] at h2
      cases e : vs[i]? with
      | none => rw [e] at h2; cases h2
      | some a => rw [e] at h2; cases h2; rfl
    obtain ⟨u, hu, rv⟩ := r.get ha
    have hp : ps[i]? = some y := by
      rw [← S.pre, List.getElem?_take_of_lt (by omega)]; exact h1
    have ndP : ps.Nodup := by rw [← S.pre]; exact S.nd.sublist (List.take_sublist _ _)
    refine ⟨u, rv, ?_⟩
    rcases S.par y (List.mem_of_getElem? hp) with k | k
    · exact .inl ⟨k, bindL_get ndP hp hu k⟩
    · obtain ⟨c, e⟩ := cell_has (n := s.heap.objs.size + 1) k
      refine .inr ⟨.inl k, c, e, ?_⟩
      have q := x.cell y c e
      rw [bindC_get ndP hp hu (by show scope.names.lookup y ≠ _; rw [k]; decide)] at q
      exact q
  · exact e0.hok.fresh (Nat.le_of_lt (x.above y c (PySem.mem_of_lookup h)))
  · unfold start
    show _ = N.length
    rw [List.length_append, List.length_map, List.length_replicate]
    omega

theorem fn_of {CX : CXT} {P : Program} {w : World} {K : PySem.W.Frag} {mg : Str → Option Value} {base : Heap} {k : Nat} {f : Addr} {name qual : Str} {params : Arguments} {body : List Stmt} {scope : Scope} {dV kV doc pm cdv ct oc : Value} {an od : Option Addr}
    {osl : Array (Option Value)} {N ps : List Str} {sp : Sp} (lk : K.lookup f = some ⟨oc, od, .func (PySem.W.fnOf name qual params body scope dV kV doc pm an cdv ct), osl⟩) (hcd : PySem.W.codeIn K cdv qual = true) (S : FnScope N ps scope)
    (len : ∀ vs H Q E, sp vs H Q E → vs.length = ps.length)
    (hbody : ∀ (A : Around) (outer : List Env) (s : Shared) (H : Hp) (vs : List V) (Q : VK) (E : XK), Room k (A.deeper (envOfC qual scope s.heap.objs.size f cdv)) → sp vs H Q E →
      ∃ t, PSs (cxOf CX P w K mg base N qual scope f cdv A outer s H E) body t ∧ t { nx := fun _ H' => Q .non H', rt := Q } (start N vs) H) :
    FnOk P w K mg base CX (k + 1) f (PySem.W.fnOf name qual params body scope dV kV doc pm an cdv ct) ps sp := by
  refine ⟨len, fun A outer s H args us vs Q E hr e0 hb r hsp => ?_⟩
  have hl := len _ _ _ _ hsp
  have KX : K.In s.heap := e0.mod.kin.keeps fun b o e => (e0.bs b o e).1
  have lim : s.heap.NoLimit := e0.mod.nolimit.keeps fun b o e => (e0.bs b o e).1
  have hkind : ∀ y ∈ ps.zip us, scope.names.lookup y.1 = some .local ∨ (scope.names.lookup y.1 = some .cell ∧ ((cellsFrom (s.heap.objs.size + 1) scope.names []).lookup y.1).isSome = true) := fun ⟨n, v⟩ hy => by
    rcases S.par n (List.of_mem_zip hy).1 with q | q
    · exact .inl q
    · exact .inr ⟨q, PySem.W.cellsFrom_some _ _ _ (.inl q)⟩
  refine codeAny_call_function hr.depth (KX _ _ lk) rfl S.co S.gen rfl (PySem.W.codeRec_of KX hcd) (hb _ _ _ _ ?_)
  refine wpAny_newFunctionEnv_cells S.kind hkind fun env he s1 x => ?_
  subst he
  refine ⟨lim.keeps x.toInCall.keep, codeAny_func ?_⟩
  obtain ⟨t, ht, hq⟩ := hbody A outer s H vs Q E (hr.deeper _) hsp
  have I : Inv (cxOf CX P w K mg base N qual scope f cdv A outer s H E) [] (start N vs) H s1 := inv_start S hr.hd e0 hl r x
  refine wpAny_mono (ht [] s1 (start N vs) H _ I hq) (fun fl s' hs => ?_) fun e s' hs => hs
  have fin : ∀ {σ' : St} {H' : Hp} {v : V} {u : Value}, Inv (cxOf CX P w K mg base N qual scope f cdv A outer s H E) [] σ' H' s' → RelV v u → Q v H' → CE outer P w H s Q u s' :=
    fun {σ' H' v u} J rv q => ⟨v, H', J.os, J.bare, J.base, J.hok, rv, q⟩
  cases fl with
  | ret u =>
    obtain ⟨v, σ', H', J, rv, q⟩ := hs
    exact fin J rv q
  | next =>
    obtain ⟨σ', H', J, q⟩ := hs
    exact fin (v := V.non) (u := Value.none) J rfl q
  | brk =>
    obtain ⟨_, _, _, q⟩ := hs
    exact False.elim q
  | cont =>
    obtain ⟨_, _, _, q⟩ := hs
    exact False.elim q
end L2

namespace L2
open PySem PySem.Spec PyProof.Rows
section
variable {X : Cx} {x : Str} {p pos : Pos} {e : Expr} {es : List Expr} {t : TA} {id T : String} {r : List V → Hp → VK → Prop}

def tCB (r : List V → Hp → VK → Prop) (t : TA) : TE := fun σ H Q => t σ H fun vs H1 => r vs H1 Q
theorem pe_callB (hc : CallR X (.builtin id) r) (hg : Gl X x) (hm : X.mg x = none) (hv : bootBuiltins x = some (.builtin id)) (ha : PA X (e :: es) t) (hn : x ≠ "__name__" := by decide) (hdb : (x == ("__debug__" : Str)) = false := by decide)
    (he : starEach (e :: es) X.env = (false, eval e X.env) :: starEach es X.env := by rfl) (hpl : (backTo pos (starEach es X.env)).any (·.1) = false := by rfl) : PE X (.Call (.Name x p) (e :: es) [] pos) (tCB r t) := by
  intro pins s σ H Q I h
  refine wpAny_Call_Name_kw (ld_blt I hg hm hv ?_ hn hdb)
  exact PyProof.Rows.callWith_builtin1 (thn (ha pos pins s σ H _ I h) fun us s1 ⟨vs, H1, I1, r1, q1⟩ => hc pins s1 σ H1 vs us Q I1 r1 q1) he hpl
theorem pe_callTy (hc : CallR X (.type T) r) (hg : Gl X x) (hm : X.mg x = none) (hv : bootBuiltins x = some (.type T)) (ha : PA X (e :: es) t) (hn : x ≠ "__name__" := by decide) (hdb : (x == ("__debug__" : Str)) = false := by decide)
    (he : starEach (e :: es) X.env = (false, eval e X.env) :: starEach es X.env := by rfl) (hpl : (backTo pos (starEach es X.env)).any (·.1) = false := by rfl) : PE X (.Call (.Name x p) (e :: es) [] pos) (tCB r t) := by
  intro pins s σ H Q I h
  refine wpAny_Call_Name_kw (ld_blt I hg hm hv ?_ hn hdb)
  exact PyProof.Rows.callWith_type1 (thn (ha pos pins s σ H _ I h) fun us s1 ⟨vs, H1, I1, r1, q1⟩ => hc pins s1 σ H1 vs us Q I1 r1 q1) he hpl
end
end L2

namespace HT
open PySem PyProof.Rows

section
open PySem.SeqAt
open PySem.AutoSeq1 (wpAny_loadPart')
open PySem.MeetsSeq PySem.MeetsSeq2 PySem.MeetsSeq3

end

section
variable {prog : Program} {w : World} {A : Around} {E : Value → Shared → Prop} {s : Shared}

theorem cat_tup {t b : Addr} {vs ws : List Value} {Q : Value → Shared → Prop} (ht : IsTup s.heap t vs.toArray) (hb : IsTup s.heap b ws.toArray) (hv : vs ≠ [])
    (h1 : ws = [] → Q (.ref t) s) (h2 : ws ≠ [] → Q (.ref s.heap.objs.size) { s with heap := s.heap.push { cls := .type "tuple", data := .seq (vs ++ ws).toArray } })
    (hsz : vs.length + ws.length ≤ sizeLine) : wpAny (model prog w) A (binaryOp .Add (.ref t) (.ref b)) Q E s := by
  obtain ⟨⟨cls, dd, data, sl⟩, ho, hc, n, hd⟩ := id ht
  obtain ⟨⟨cls2, dd2, data2, sl2⟩, ho2, hc2, n2, hd2⟩ := id hb
  simp only at hc hd hc2 hd2
  subst hc hd hc2 hd2
  have e : vs.toArray ++ ws.toArray = (vs ++ ws).toArray := by simp
  by_cases hw : ws = []
  · exact concat_meets ⟨_, ho, rfl⟩ ⟨_, ho2, rfl⟩ noFill_tuple_add seq_tuple_add PySem.F.slot_tuple_add PySem.F.entry_tuple_add (PySem.F.args_tuple_add_2 _ _)
      (tuple_addW1 t b vs.toArray ws.toArray n n2 dd dd2 sl sl2 (by simpa using hv) (by simp [hw])) ⟨ho, ho2, h1 hw⟩
  · refine concat_meets ⟨_, ho, rfl⟩ ⟨_, ho2, rfl⟩ noFill_tuple_add seq_tuple_add PySem.F.slot_tuple_add PySem.F.entry_tuple_add (PySem.F.args_tuple_add_2 _ _)
      (tuple_addW2 t b vs.toArray ws.toArray n n2 dd dd2 sl sl2 (by simpa using hv) (by simpa using hw) (by rw [List.size_toArray, List.size_toArray]; exact hsz)) ⟨ho, ho2, ?_⟩
    rw [e]
    exact h2 hw

def sIx (n d : Nat) : Option Int → Nat
  | none => d
  | some v => if v < 0 then (v + (n : Int)).toNat else min v.toNat n
theorem sIx_none (n d : Nat) : sIx n d none = d := rfl
theorem sIx_nat (n d k : Nat) : sIx n d (some (k : Int)) = min k n := by
  show (if (k : Int) < 0 then ((k : Int) + (n : Int)).toNat else min (k : Int).toNat n) = min k n
  rw [if_neg (by omega), Int.toNat_natCast]
theorem sIx_le (n d : Nat) (hd : d ≤ n) (o : Option Int) : sIx n d o ≤ n := by
  cases o with
  | none => exact hd
  | some v =>
    show (if v < 0 then (v + (n : Int)).toNat else min v.toNat n) ≤ n
    by_cases hv : v < 0
    · rw [if_pos hv]; omega
    · rw [if_neg hv]; exact Nat.min_le_right _ _
theorem clip_eq (v : Int) (n d : Nat) : (if v < 0 then max (v + (n : Int)) 0 else min v (n : Int)) = ((sIx n d (some v) : Nat) : Int) := by
  show (if v < 0 then max (v + (n : Int)) 0 else min v (n : Int)) = (((if v < 0 then (v + (n : Int)).toNat else min v.toNat n) : Nat) : Int)
  by_cases hv : v < 0
  · simp only [if_pos hv]; omega
  · simp only [if_neg hv]; omega
theorem adjust_gen (lo hi : Option Int) (n : Nat) : Builtin.Slice.sliceAdjust lo hi 1 (n : Int) = (((sIx n 0 lo : Nat) : Int), ((sIx n n hi : Nat) : Int)) := by
  have h1 : ¬ ((1 : Int) < 0) := by omega
  unfold Builtin.Slice.sliceAdjust
  simp only [h1, if_false]
  refine Prod.ext ?_ ?_
  · cases lo with
    | none => rfl
    | some v => exact clip_eq v n 0
  · cases hi with
    | none => rfl
    | some v => exact clip_eq v n n
theorem places_gen (i j : Nat) : Builtin.Slice.slicePlaces (i : Int) (j : Int) 1 = j - i := by
  unfold Builtin.Slice.slicePlaces
  have h1 : (1 : Int) > 0 := by omega
  simp only [h1, if_true, Int.ediv_one]
  split <;> omega
theorem slicePart_ {v : Value} {o : Option Int} {Q : Option Int → Shared → Prop} (p : IsPart v o) (h : Q o s) : wpAny (model prog w) A (Builtin.Slice.slicePartIndex v) Q E s := by
  cases p with
  | none => exact slicePart_none h
  | int i t => exact slicePart_int h
theorem sliceApplied_gen {sl : Addr} {vl vu : Value} {lo hi : Option Int} {n : Nat} {Q : Int × Int × Nat → Shared → Prop} (hs : s.heap.IsSliceOf sl vl vu .none) (pl : IsPart vl lo) (pu : IsPart vu hi)
    (h : Q (((sIx n 0 lo : Nat) : Int), 1, sIx n n hi - sIx n 0 lo) s) : wpAny (model prog w) A (Builtin.Slice.sliceApplied (.ref sl) (pure (n : Int))) Q E s := by
  obtain ⟨os, hos, hcs, hds⟩ := id hs
  unfold Builtin.Slice.sliceApplied Builtin.Slice.sliceFields
  refine wpAny_bind (wpAny_bind (wpAny_field hos hds (x := vl) rfl (wpAny_bind (wpAny_field hos hds (x := vu) rfl (wpAny_bind (wpAny_field hos hds (x := .none) rfl (wpAny_pure ?_)))))))
  refine wpAny_bind (slicePart_none ?_)
  show wpAny _ _ (if ((1 : Int) == 0) = true then _ else _) _ _ s
  rw [if_neg (by decide)]
  refine wpAny_bind (slicePart_ pl (wpAny_bind (slicePart_ pu (wpAny_bind (wpAny_pure ?_)))))
  show wpAny _ _ (match Builtin.Slice.sliceAdjust lo hi 1 (n : Int) with | (lo, hi) => pure (lo, (1 : Int), Builtin.Slice.slicePlaces lo hi 1)) _ _ s
  rw [adjust_gen lo hi n]
  show wpAny _ _ (pure (((sIx n 0 lo : Nat) : Int), (1 : Int), Builtin.Slice.slicePlaces ((sIx n 0 lo : Nat) : Int) ((sIx n n hi : Nat) : Int) 1)) _ _ s
  rw [places_gen]
  exact wpAny_pure h
theorem pick_gen (xs : Array Value) (i k : Nat) : ((List.range k).filterMap fun (m : Nat) => xs[((i : Int) + (m : Int) * 1).toNat]?).toArray = ((xs.toList.drop i).take k).toArray := by
  have e : (fun (m : Nat) => xs[((i : Int) + (m : Int) * 1).toNat]?) = fun m => xs[i + m]? := by
    funext m
    have : ((i : Int) + (m : Int) * 1).toNat = i + m := by omega
    rw [this]
  rw [e]
  have := pick_run xs i k
  rw [List.filterMap_map] at this
  have e2 : ((fun x => xs[x]?) ∘ fun x => i + x) = fun m => xs[i + m]? := rfl
  rw [e2] at this
  rw [this]

theorem getItem_tuple_cut {t sl : Addr} {items : Array Value} {vl vu : Value} {lo hi : Option Int} {Q : Value → Shared → Prop} (ht : IsTup s.heap t items) (hs : s.heap.IsSliceOf sl vl vu .none) (pl : IsPart vl lo) (pu : IsPart vu hi)
    (hw : ¬ (sIx items.size 0 lo = 0 ∧ sIx items.size items.size hi = items.size))
    (h : Q (.ref s.heap.objs.size) { s with heap := s.heap.push { cls := .type "tuple", data := .seq ((items.toList.drop (sIx items.size 0 lo)).take (sIx items.size items.size hi - sIx items.size 0 lo)).toArray } })
    (hsz : items.size ≤ sizeLine) : wpAny (model prog w) A (getItem (.ref t) (.ref sl)) Q E s := by
  have htake : sizeOk (.seq ((items.toList.drop (sIx items.size 0 lo)).take (sIx items.size items.size hi - sIx items.size 0 lo)).toArray) := by
    show ((items.toList.drop (sIx items.size 0 lo)).take (sIx items.size items.size hi - sIx items.size 0 lo)).toArray.size ≤ sizeLine
    rw [List.size_toArray, List.length_take, List.length_drop, Array.length_toList]
    omega
  have hj : sIx items.size items.size hi ≤ items.size := sIx_le _ _ (Nat.le_refl _) hi
  obtain ⟨os, hos, hcs, hds⟩ := id hs
  have hTs : s.TypeIs (.ref sl) "slice" := ⟨os, hos, hcs⟩
  unfold getItem
  try with_reducible refine wpAny_holding ?_
  first | refine wpAny_bind (wpAny_pure ?_) | skip
  refine wpAny_bind (wpAny_sequenceKey ht.typeIs (by decide) ?_)
  refine wpAny_bind (wpAny_callSpecial?_slot (name := Str.ofString "__getitem__") ht.typeIs PyProof.Rows.slot_tuple_getitem
    (wpAny_call_entry PyProof.Rows.slot_tuple_getitem ht.typeIs entry_tuple_getitem ?_ (args_tuple_getitem _ _)))
  show wpAny _ _ (Builtin.Tuple.tupleItemsOf (.ref t) >>= _) _ _ s
  refine wpAny_bind (tupleItemsOf_ ht ?_)
  refine wpAny_bind (wpAny_typeOf hTs ?_)
  rw [if_pos (by decide)]
  refine wpAny_bind (sliceApplied_gen hs pl pu ?_)
  have hno : ¬ ((((sIx items.size 0 lo : Nat) : Int) == 0 && (1 : Int) == 1 && (sIx items.size items.size hi - sIx items.size 0 lo) == items.size) = true) := by
    intro q
    rw [Bool.and_eq_true, Bool.and_eq_true] at q
    have q1 : ((sIx items.size 0 lo : Nat) : Int) = 0 := eq_of_beq q.1.1
    have q2 : sIx items.size items.size hi - sIx items.size 0 lo = items.size := eq_of_beq q.2
    exact hw ⟨by omega, by omega⟩
  show wpAny _ _ (if (((sIx items.size 0 lo : Nat) : Int) == 0 && (1 : Int) == 1 && (sIx items.size items.size hi - sIx items.size 0 lo) == items.size) = true then _ else _) _ _ s
  rw [if_neg hno, pick_gen]
  first
    | exact wpAny_bind (m := Builtin.Tuple.tupleExact _) (wpAny_newObj_type (wpAny_pure ⟨_, rfl, wpAny_pure h⟩) htake)
    | exact wpAny_bind (m := Builtin.Tuple.tupleExact _) (wpAny_newObj_type (wpAny_bind (wpAny_pure (wpAny_pure ⟨_, rfl, wpAny_pure h⟩))) htake)
    | exact wpAny_bind (wpAny_bind (m := Builtin.Tuple.tupleExact _) (wpAny_newObj_type (wpAny_pure (wpAny_pure ⟨_, rfl, wpAny_pure h⟩)) htake))
    | exact wpAny_bind (wpAny_bind (m := Builtin.Tuple.tupleExact _) (wpAny_newObj_type (wpAny_pure ⟨_, rfl, wpAny_pure h⟩) htake))
end
end HT

namespace L2
open PySem PySem.Spec PyProof.Rows

abbrev TO := St → Hp → (Option Int → Hp → Prop) → Prop
def PO (X : Cx) (e : Option Expr) (t : TO) : Prop :=
  ∀ (pins : List (Addr × Obj)) (s : Shared) (σ : St) (H : Hp) (Q : Option Int → Hp → Prop), Inv X pins σ H s → t σ H Q →
    wpAny (model X.prog X.w) X.A (evalPart e X.env) (fun u s' => ∃ o H', Inv X pins σ H' s' ∧ IsPart u o ∧ Q o H') X.xe s
def tNoPart : TO := fun _ H Q => Q none H
def tPart (t : TE) : TO := fun σ H Q => t σ H fun x H1 => ∃ i, x = .int i ∧ Q (some i) H1

section
variable {X : Cx} {e : Expr} {te : TE} {lo hi : Option Expr} {tl th : TO} {pos p2 : Pos}

theorem po_none : PO X none tNoPart := by
  intro pins s σ H Q I h
  rw [evalPart_none]
  exact wpAny_pure ⟨none, H, I, .none, h⟩
theorem po_some (h : PE X e te) : PO X (some e) (tPart te) := by
  intro pins s σ H Q I hw
  rw [evalPart_some]
  refine thn (h pins s σ H _ I hw) fun u s1 ⟨x, H1, I1, r1, q1⟩ => ?_
  obtain ⟨i, rfl, q⟩ := q1
  obtain ⟨t, rfl⟩ := r1
  exact ⟨some i, H1, I1, .int i t, q⟩

def SlR (X : Cx) (r : V → Option Int → Option Int → Hp → VK → Prop) : Prop :=
  ∀ (pins : List (Addr × Obj)) (s : Shared) (σ : St) (H : Hp) (x : V) (v vl vu : Value) (lo hi : Option Int) (sl : Addr) (Q : VK), Inv X pins σ H s → RelV x v → s.heap.IsSliceOf sl vl vu .none → IsPart vl lo → IsPart vu hi → r x lo hi H Q →
    ∃ T id, typeLookup (.type T) "__getitem__" = pure (some (.builtin id)) ∧ s.TypeIs v T ∧ wpAny (model X.prog X.w) X.A (getItem v (.ref sl)) (EP X pins σ Q) X.xe s
def tSl (r : V → Option Int → Option Int → Hp → VK → Prop) (te : TE) (tl th : TO) : TE := fun σ H Q => te σ H fun x H1 => tl σ H1 fun l H2 => th σ H2 fun u H3 => r x l u H3 Q
theorem pe_slice {r : V → Option Int → Option Int → Hp → VK → Prop} (hr : SlR X r) (he : PE X e te) (hl : PO X lo tl) (hu : PO X hi th) : PE X (.Subscript e (.Slice lo hi none p2) pos) (tSl r te tl th) := by
  intro pins s σ H Q I h
  refine Subscript_ (thn (he pins s σ H _ I h) fun v s1 ⟨x, H1, I1, r1, q1⟩ => ?_)
  refine wpAny_Slice (thn (hl pins s1 σ H1 _ I1 q1) fun vl s2 ⟨l, H2, I2, pl, q2⟩ => thn (hu pins s2 σ H2 _ I2 q2) fun vu s3 ⟨u, H3, I3, pu, q3⟩ => ?_)
  rw [evalPart_none]
  refine wpAny_pure ?_
  have I4 : Inv X pins σ H3 { s3 with heap := s3.heap.push { cls := .type "slice", data := .fields #[vl, vu, .none] } } := I3.kept (t' := s3.toks) fun b ob q => Heap.get?_push_of_some _ q
  obtain ⟨T, id, hT, ht, hg⟩ := hr pins { s3 with heap := s3.heap.push { cls := .type "slice", data := .fields #[vl, vu, .none] } } σ H3 x v vl vu l u s3.heap.objs.size Q I4 r1 (Heap.IsSliceOf.new ..) pl pu q3
  show wpAny (model X.prog X.w) X.A (subscriptTail e (.Slice lo hi none p2) v (.ref s3.heap.objs.size)) (EP X pins σ Q) X.xe { s3 with heap := s3.heap.push { cls := .type "slice", data := .fields #[vl, vu, .none] } }
  exact tail_any (ops := [.ref s3.heap.objs.size, v]) ht hT hg (by with_unfolding_all rfl)

def cutV (xs : List V) (lo hi : Option Int) : List V := (xs.drop (HT.sIx xs.length 0 lo)).take (HT.sIx xs.length xs.length hi - HT.sIx xs.length 0 lo)
theorem cutV_length (xs : List V) (lo hi : Option Int) : (cutV xs lo hi).length ≤ xs.length := by
  unfold cutV
  rw [List.length_take, List.length_drop]
  omega
def rSlT (K : PySem.W.Frag) : V → Option Int → Option Int → Hp → VK → Prop := fun x lo hi H Q => ∃ a xs, x = .ref a ∧ SqT K H a xs ∧
  ¬ (HT.sIx xs.length 0 lo = 0 ∧ HT.sIx xs.length xs.length hi = xs.length) ∧ ∀ p, H p = none → Q (.ref p) (upd H p (.tup (cutV xs lo hi)))
theorem sl_tup : SlR X (rSlT X.K) := by
  intro pins s σ H x v vl vu lo hi sl Q I rx hs pl pu h
  obtain ⟨a, xs, rfl, hx, hw, q⟩ := h
  cases rx
  obtain ⟨its, r, ht, hz⟩ := I.tuple hx
  have hlen : its.toArray.size = xs.length := by rw [List.size_toArray]; exact r.length.symm
  refine ⟨"tuple", _, PyProof.Rows.slot_tuple_getitem.lookup, ht.typeIs, ?_⟩
  refine HT.getItem_tuple_cut ht hs pl pu (by rw [hlen]; exact hw) ?_ (by rw [hlen]; exact hz)
  rw [hlen]
  refine ⟨.ref s.heap.objs.size, _, I.laid (t' := s.toks) (o := .tup (cutV xs lo hi)) (fun b ob q => Heap.get?_push_of_some _ q) (Nat.le_refl _) ?_, rfl, q _ (I.hok.fresh (Nat.le_refl _))⟩
  exact ⟨Nat.le_trans (cutV_length xs lo hi) hz, _, (r.drop (HT.sIx xs.length 0 lo)).take (HT.sIx xs.length xs.length hi - HT.sIx xs.length 0 lo), IsTup.new _ _⟩

theorem Vals.nil_iff {xs : List V} {us : List Value} (r : Vals xs us) : us = [] ↔ xs = [] := by
  cases r with
  | nil => simp
  | cons _ _ => simp
end
end L2

namespace L2
open PySem PySem.Spec PyProof.Rows

def ixN (n : Nat) (i : Int) : Option Nat := if 0 ≤ i then (if i < n then some i.toNat else none) else if -(n : Int) ≤ i then some (i + n).toNat else none
def atI {α : Type} (xs : List α) (i : Int) : Option α := (ixN xs.length i).bind fun j => xs[j]?
theorem ixN_seq {n : Nat} {i : Int} {j : Nat} (h : ixN n i = some j) : seqIndex? i n = some j ∧ j < n ∧ -(n : Int) ≤ i ∧ i < n := by
  unfold ixN at h
  by_cases h0 : 0 ≤ i
  · rw [if_pos h0] at h
    by_cases h1 : i < n
    · rw [if_pos h1] at h
      have e : i.toNat = j := Option.some.inj h
      exact ⟨by rw [seqIndex_of h0 h1, e], by omega, by omega, h1⟩
    · rw [if_neg h1] at h; cases h
  · rw [if_neg h0] at h
    by_cases h1 : -(n : Int) ≤ i
    · rw [if_pos h1] at h
      have e : (i + n).toNat = j := Option.some.inj h
      exact ⟨by rw [seqIndex_neg (by omega) h1, e], by omega, h1, by omega⟩
    · rw [if_neg h1] at h; cases h
theorem atI_get {α : Type} {xs : List α} {i : Int} {v : α} (h : atI xs i = some v) : ∃ j, seqIndex? i xs.length = some j ∧ xs[j]? = some v ∧ j < xs.length ∧ -(xs.length : Int) ≤ i ∧ i < xs.length := by
  unfold atI at h
  cases e : ixN xs.length i with
  | none => rw [e] at h; cases h
  | some j =>
    rw [e] at h
    obtain ⟨h1, h2, h3, h4⟩ := ixN_seq e
    exact ⟨j, h1, h, h2, h3, h4⟩
theorem atI_nat {α : Type} {xs : List α} {j : Nat} {v : α} (h : xs[j]? = some v) : atI xs (j : Int) = some v := by
  have hj : j < xs.length := (List.getElem?_eq_some_iff.mp h).1
  have e : ixN xs.length (j : Int) = some j := by
    unfold ixN
    rw [if_pos (by omega), if_pos (by omega)]; simp
  unfold atI; rw [e]; exact h
def PlainIx (b : Expr) : Prop := ∀ o i, subscripted b false o i = operate [o, i] (getItem o i)
def IxR (X : Cx) (r : R2) : Prop :=
  ∀ (value slice : Expr) (pins : List (Addr × Obj)) (s : Shared) (σ : St) (H : Hp) (x y : V) (v u : Value) (Q : VK), Inv X pins σ H s → RelV x v → RelV y u → r x y H Q →
    subscripted slice false v u = operate [v, u] (getItem v u) → wpAny (model X.prog X.w) X.A (subscriptTail value slice v u) (EP X pins σ Q) X.xe s
def MtR (X : Cx) (id : String) (r : V → List V → Hp → VK → Prop) : Prop :=
  ∀ (pins : List (Addr × Obj)) (s : Shared) (σ : St) (H : Hp) (x : V) (xs : List V) (v : Value) (us : List Value) (Q : VK), Inv X pins σ H s → RelV x v → Vals xs us → r x xs H Q →
    wpAny (model X.prog X.w) X.A (call (.builtin id) (v :: us)) (EP X pins σ Q) X.xe s
section
variable {X : Cx} {a b : Expr} {ta tb : TE} {pos : Pos}
theorem pe_ix {r : R2} (hr : IxR X r) (ha : PE X a ta) (hb : PE X b tb) (hs : PlainIx b) : PE X (.Subscript a b pos) (tOp r ta tb) := by
  intro pins s σ H Q I h
  exact Subscript_ (binT ha hb I h fun v u s2 x y H2 I2 rx ry q => hr a b pins s2 σ H2 x y v u Q I2 rx ry q (hs _ _))

def rIxL (K : PySem.W.Frag) : R2 := fun x y H Q => ∃ p xs i v, x = .ref p ∧ y = .int i ∧ SqL K H p xs ∧ atI xs i = some v ∧ Q v H
def rIxT (K : PySem.W.Frag) : R2 := fun x y H Q => ∃ p xs i v, x = .ref p ∧ y = .int i ∧ SqT K H p xs ∧ atI xs i = some v ∧ Q v H
theorem ix_list : IxR X (rIxL X.K) := by
  intro value slice pins s σ H x y v u Q I rx ry h hs
  obtain ⟨p, xs, i, z, rfl, rfl, hq, he, q⟩ := h
  cases rx
  obtain ⟨t, rfl⟩ := ry
  obtain ⟨its, r, pl, hz⟩ := I.list hq
  obtain ⟨j, h1, h2, h3, h4, h5⟩ := atI_get he
  obtain ⟨w, ew, rw'⟩ := r.get h2
  have hl := r.length
  have hn := line63
  have fin : EP X pins σ Q w s := ⟨z, H, I, rw', q⟩
  by_cases h0 : 0 ≤ i
  · have hj : i.toNat = j := by
      rw [seqIndex_of h0 h5] at h1
      exact Option.some.inj h1
    exact item_listR pl.isList h0 (by omega) (by rw [hj]; simpa using ew) fin hs
  · have hj : (i + (its.toArray.size : Int)).toNat = j := by
      rw [seqIndex_neg (by omega) h4] at h1
      rw [List.size_toArray, ← hl]
      exact Option.some.inj h1
    exact subscriptTail_builtinR (x := w) pl.isList.typeIs slot_list_getitem.lookup
      (wpAny_getItem_list_neg (Q := fun r s' => r = w ∧ EP X pins σ Q r s') pl.isList (by omega) (by rw [List.size_toArray] <;> omega) (by omega) (by rw [hj]; simpa using ew) ⟨rfl, fin⟩) hs
theorem ix_tup : IxR X (rIxT X.K) := by
  intro value slice pins s σ H x y v u Q I rx ry h hs
  obtain ⟨p, xs, i, z, rfl, rfl, hq, he, q⟩ := h
  cases rx
  obtain ⟨t, rfl⟩ := ry
  obtain ⟨its, r, pl, hz⟩ := I.tuple hq
  obtain ⟨j, h1, h2, h3, h4, h5⟩ := atI_get he
  obtain ⟨w, ew, rw'⟩ := r.get h2
  have hl := r.length
  have hn := line63
  have fin : EP X pins σ Q w s := ⟨z, H, I, rw', q⟩
  exact subscriptTail_builtinR (x := w) pl.typeIs slot_tuple_getitem.lookup
    (getItem_tuple (j := j) (Q := fun r s' => r = w ∧ EP X pins σ Q r s') pl (by omega) (by omega) (by rw [List.size_toArray, ← hl]; exact h1) (by simpa using ew) ⟨rfl, fin⟩) hs
theorem mapSeq_set (its : List Value) (n j : Nat) (u : Value) : Obj.mapSeq (·.setIfInBounds j u) { cls := .type "list", data := .seq its.toArray n } = { cls := .type "list", data := .seq (its.set j u).toArray n } := by
  simp [Obj.mapSeq]
theorem Inv.lst {pins : List (Addr × Obj)} {σ : St} {H : Hp} {s : Shared} {p : Addr} {xs : List V} (I : Inv X pins σ H s) (h : H p = some (.lst xs)) :
    ∃ (its : List Value) (n : Nat), Vals xs its ∧ s.heap.get? p = some { cls := .type "list", data := .seq its.toArray n } ∧ xs.length ≤ sizeLine := by
  obtain ⟨z, its, n, r, e⟩ := I.hok p _ h
  exact ⟨its, n, r, e, z⟩
theorem Inv.lstUpd {pins : List (Addr × Obj)} {σ : St} {H : Hp} {s : Shared} {p : Addr} {xs ys : List V} {its its' : List Value} {n n' : Nat} {f : Obj → Obj} (I : Inv X pins σ H s) (h : H p = some (.lst xs))
    (ho : s.heap.get? p = some { cls := .type "list", data := .seq its.toArray n }) (hf : f { cls := .type "list", data := .seq its.toArray n } = { cls := .type "list", data := .seq its'.toArray n' }) (r : Vals ys its') (hz : ys.length ≤ sizeLine) (t : Nat) :
    Inv X pins σ (upd H p (.lst ys)) { s with heap := s.heap.update p f, toks := t } := by
  have e : (s.heap.update p f).get? p = some { cls := .type "list", data := .seq its'.toArray n' } := by
    rw [Heap.get?_update_self f ho (by rw [hf] <;> rfl), hf]
  refine I.write (x := p) (e := p) (by rw [h]; trivial) (.inl rfl) (fun b u hb q => (Heap.get?_update_other _ _ (Ne.symm hb)).trans q) ⟨_, e⟩ ?_
  exact ⟨hz, its', n', r, e⟩
def rSetL : V → V → V → Hp → (Hp → Prop) → Prop := fun o i v H Q => ∃ p xs k j, o = .ref p ∧ i = .int k ∧ H p = some (.lst xs) ∧ ixN xs.length k = some j ∧ Q (upd H p (.lst (xs.set j v)))
theorem set_list : PSet X rSetL := by
  intro pins s σ H o i v ov iv u Q I ro ri rv h
  obtain ⟨p, xs, k, j, rfl, rfl, hp, hj, q⟩ := h
  cases ro
  obtain ⟨t, rfl⟩ := ri
  obtain ⟨its, n, r, ho, hz⟩ := I.lst hp
  obtain ⟨h1, h2, h3, h4⟩ := ixN_seq hj
  have hl := r.length
  have hn := line63
  have I' : Inv X pins σ (upd H p (.lst (xs.set j v))) { s with heap := s.heap.update p (Obj.mapSeq (·.setIfInBounds j u)) } :=
    I.lstUpd hp ho (mapSeq_set its n j u) (r.set rv j) (by rw [List.length_set]; exact hz) s.toks
  by_cases h0 : 0 ≤ k
  · have hk : k.toNat = j := by
      rw [seqIndex_of h0 h4] at h1
      exact Option.some.inj h1
    exact PySem.W.ki_setAt ho h0 (by omega) (by rw [List.size_toArray, ← hl]; exact h4) (by rw [hk]; exact ⟨_, I', q⟩)
  · have hk : (k + (its.toArray.size : Int)).toNat = j := by
      rw [seqIndex_neg (by omega) h3] at h1
      rw [List.size_toArray, ← hl]
      exact Option.some.inj h1
    exact PySem.W.ki_setBack ho (by omega) (by rw [List.size_toArray, ← hl]; exact h3) (by omega) (by rw [hk]; exact ⟨_, I', q⟩)

theorem slice_bounds (lo hi : Option Int) (n : Nat) : (sliceBounds lo hi none n).1 = ((HT.sIx n 0 lo : Nat) : Int) ∧ (sliceBounds lo hi none n).2.1 = ((HT.sIx n n hi : Nat) : Int) ∧ (sliceBounds lo hi none n).2.2 = 1 := by
  refine ⟨?_, ?_, rfl⟩
  · cases lo with
    | none => simp [sliceBounds, HT.sIx]
    | some i =>
      simp only [sliceBounds, HT.sIx, Option.getD_none, show (1 : Int) > 0 by decide, if_true]
      by_cases h : i < 0
      · simp only [h, if_true] <;> omega
      · simp only [h, if_false] <;> omega
  · cases hi with
    | none => simp [sliceBounds, HT.sIx]
    | some i =>
      simp only [sliceBounds, HT.sIx, Option.getD_none, show (1 : Int) > 0 by decide, if_true]
      by_cases h : i < 0
      · simp only [h, if_true] <;> omega
      · simp only [h, if_false] <;> omega
theorem slicePick_cut (its : List Value) (lo hi : Option Int) : slicePick its.toArray lo hi none = ((its.drop (HT.sIx its.length 0 lo)).take (HT.sIx its.length its.length hi - HT.sIx its.length 0 lo)).toArray := by
  obtain ⟨h1, h2, h3⟩ := slice_bounds lo hi its.toArray.size
  unfold slicePick
  rw [h1, h2, h3]
  simp only [sliceRange_one, pick_run, List.size_toArray] <;> rfl
def rSlL (K : PySem.W.Frag) : V → Option Int → Option Int → Hp → VK → Prop := fun x lo hi H Q => ∃ a xs, x = .ref a ∧ SqL K H a xs ∧ ∀ p, H p = none → Q (.ref p) (upd H p (.lst (cutV xs lo hi)))
theorem sl_list : SlR X (rSlL X.K) := by
  intro pins s σ H x v vl vu lo hi sl Q I rx hs pl pu h
  obtain ⟨a, xs, rfl, hx, q⟩ := h
  cases rx
  obtain ⟨its, r, ht, hz⟩ := I.list hx
  have hlen := r.length
  refine ⟨"list", _, slot_list_getitem.lookup, ht.isList.typeIs, ?_⟩
  refine wpAny_getItem_list_slice ht.isList hs pl pu .none (by simp) ?_ (by rw [List.size_toArray] <;> omega)
  rw [slicePick_cut, ← hlen]
  refine ⟨.ref s.heap.objs.size, _, I.laid (t' := s.toks) (o := .lst (cutV xs lo hi)) (fun b ob q => Heap.get?_push_of_some _ q) (Nat.le_refl _) ?_, rfl, q _ (I.hok.fresh (Nat.le_refl _))⟩
  exact ⟨Nat.le_trans (cutV_length xs lo hi) hz, _, 0, (r.drop (HT.sIx xs.length 0 lo)).take (HT.sIx xs.length xs.length hi - HT.sIx xs.length 0 lo), Heap.get?_push_size _ rfl⟩

def flatV : V → Bool
  | .non => true
  | .bl _ => true
  | .int _ => true
  | .str _ => true
  | _ => false
def eqV : V → V → Bool
  | .non, .non => true
  | .bl a, .bl b => a == b
  | .bl a, .int b => (if a then 1 else 0) == b
  | .int a, .bl b => a == (if b then 1 else 0)
  | .int a, .int b => a == b
  | .str a, .str b => a == b
  | _, _ => false
theorem eqAt_V {A : Around} {s : Shared} {y x : V} {u v : Value} (ry : RelV y u) (rx : RelV x v) (fy : flatV y = true) (fx : flatV x = true) : SeqAt.EqAt A s u v (eqV y x) := by
  cases y with
  | non =>
    cases ry
    cases x with
    | non => cases rx; exact SeqAt.EqAt.same _
    | bl b => cases rx; exact SeqAt.EqAt.none_bool b
    | int b => obtain ⟨t, rfl⟩ := rx; exact SeqAt.EqAt.none_int b t
    | str b => obtain ⟨t, rfl⟩ := rx; exact SeqAt.EqAt.none_str b t
    | _ => exact absurd (show false = true from fx) Bool.false_ne_true
  | bl a =>
    cases ry
    cases x with
    | non => cases rx; exact SeqAt.EqAt.bool_none a
    | bl b => cases rx; exact SeqAt.EqAt.bool_bool a b
    | int b => obtain ⟨t, rfl⟩ := rx; exact SeqAt.EqAt.bool_int a b t
    | str b => obtain ⟨t, rfl⟩ := rx; exact SeqAt.EqAt.bool_str a b t
    | _ => exact absurd (show false = true from fx) Bool.false_ne_true
  | int a =>
    obtain ⟨t', rfl⟩ := ry
    cases x with
    | non => cases rx; exact SeqAt.EqAt.int_none a t'
    | bl b => cases rx; exact SeqAt.EqAt.int_bool a t' b
    | int b => obtain ⟨t, rfl⟩ := rx; exact SeqAt.EqAt.int_int a t' b t
    | str b => obtain ⟨t, rfl⟩ := rx; exact SeqAt.EqAt.int_str a t' b t
    | _ => exact absurd (show false = true from fx) Bool.false_ne_true
  | str a =>
    obtain ⟨t', rfl⟩ := ry
    cases x with
    | non => cases rx; exact SeqAt.EqAt.str_none a t'
    | bl b => cases rx; exact SeqAt.EqAt.str_bool a t' b
    | int b => obtain ⟨t, rfl⟩ := rx; exact SeqAt.EqAt.str_int a t' b t
    | str b => obtain ⟨t, rfl⟩ := rx; exact SeqAt.EqAt.str_str a t' b t
    | _ => exact absurd (show false = true from fx) Bool.false_ne_true
  | _ => exact absurd (show false = true from fy) Bool.false_ne_true
theorem call_len_seq : CallR X (.builtin "len") (fun xs H Q => ∃ p ys, xs = [.ref p] ∧ (SqL X.K H p ys ∨ SqT X.K H p ys) ∧ Q (.int ys.length) H) := by
  intro pins s σ H xs us Q I r h
  obtain ⟨p, ys, rfl, hq, q⟩ := h
  obtain ⟨u, rfl, rx⟩ := vals1 r
  cases rx
  have hn := line63
  rcases hq with hq | hq
  · obtain ⟨its, r', pl, hz⟩ := I.list hq
    have hlen := r'.length
    exact Calls.call_len_list pl.isList (by simp only [List.size_toArray] <;> omega) ⟨.int ys.length, H, I.tok _, ⟨s.toks + 1, by rw [List.size_toArray, hlen]⟩, q⟩
  · obtain ⟨its, r', pl, hz⟩ := I.tuple hq
    have hlen := r'.length
    exact len_tuple pl (by simp only [List.size_toArray] <;> omega) ⟨.int ys.length, H, I.tok _, ⟨s.toks + 1, by rw [List.size_toArray, hlen]⟩, q⟩
theorem call_list_of : CallR X (.type "list") (fun xs H Q => ∃ p ys, xs = [.ref p] ∧ (SqL X.K H p ys ∨ SqT X.K H p ys) ∧ ∀ l, H l = none → Q (.ref l) (upd H l (.lst ys))) := by
  intro pins s σ H xs us Q I r h
  obtain ⟨p, ys, rfl, hq, q⟩ := h
  obtain ⟨u, rfl, rx⟩ := vals1 r
  cases rx
  have fin : ∀ (its : List Value), Vals ys its → ys.length ≤ sizeLine → ∀ (h' : Heap) (c' : Nat), (∀ b o', s.heap.get? b = some o' → h'.get? b = some o') →
      h'.get? s.heap.objs.size = some { cls := .type "list", dict := none, data := .seq its.toArray c', slots := #[] } → EP X pins σ Q (.ref s.heap.objs.size) { s with heap := h' } := fun its r' hz h' c' kp e =>
    ⟨.ref s.heap.objs.size, _, I.laid (t' := s.toks) kp (Nat.le_refl _) (show ObjOk X.prog X.w _ h' _ (.lst ys) from ⟨hz, its, c', r', e⟩), rfl, q _ (I.hok.fresh (Nat.le_refl _))⟩
  rcases hq with hq | hq
  · obtain ⟨its, r', pl, hz⟩ := I.list hq
    have hlen := r'.length
    obtain ⟨o, ho, hc, n, hd⟩ := pl.isList
    exact call_list_seq p (.inl rfl) ho hc hd (fun h' c' kp e => fin its r' hz h' c' kp e) (by simp only [List.size_toArray] <;> omega)
  · obtain ⟨its, r', pl, hz⟩ := I.tuple hq
    have hlen := r'.length
    obtain ⟨o, ho, hc, n, hd⟩ := pl
    exact call_list_seq p (.inr rfl) ho hc hd (fun h' c' kp e => fin its r' hz h' c' kp e) (by simp only [List.size_toArray] <;> omega)
def tyV (K : PySem.W.Frag) (T : String) (x : V) (H : Hp) : Prop := match x with
  | .str _ => T = "str"
  | .int _ => T = "int"
  | .ref p => (T = "list" ∧ ∃ xs, SqL K H p xs) ∨ (T = "tuple" ∧ ∃ o, K.lookup p = some o ∧ o.cls = .type "tuple" ∧ o.dict = none) ∨
      (T = "dict" ∧ ((∃ kvs, H p = some (.dK kvs)) ∨ ∃ kvs, H p = some (.dT kvs))) ∨ (T = "set" ∧ ∃ S n, H p = some (.set S n))
  | _ => False
theorem tyV_is {pins : List (Addr × Obj)} {σ : St} {H : Hp} {s : Shared} {T : String} {x : V} {v : Value} (I : Inv X pins σ H s) (r : RelV x v) (ty : tyV X.K T x H) :
    s.TypeIs v T ∧ ∀ a, v = .ref a → ∃ ob, s.heap.get? a = some ob ∧ ob.dict = none := by
  cases x with
  | str z =>
    obtain ⟨t, rfl⟩ := r
    cases (show T = "str" from ty)
    exact ⟨typeIs_str s z t, fun _ e => nomatch e⟩
  | int i =>
    obtain ⟨t, rfl⟩ := r
    cases (show T = "int" from ty)
    exact ⟨typeIs_int s i t, fun _ e => nomatch e⟩
  | ref p =>
    cases r
    rcases ty with ⟨rfl, xs, hq⟩ | ⟨rfl, o, hk, hc, hd⟩ | ⟨rfl, hk⟩ | ⟨rfl, S, n, hk⟩
    · obtain ⟨its, _, pl, _⟩ := I.list hq
      refine ⟨pl.isList.typeIs, fun a e => ?_⟩
      cases e
      obtain ⟨o, n, e, c, hd, _⟩ := pl
      exact ⟨o, e, hd⟩
    · refine ⟨⟨o, I.kIn p o hk, hc⟩, fun a e => ?_⟩
      cases e
      exact ⟨o, I.kIn _ o hk, hd⟩
    · have z : ∃ o, s.heap.get? p = some o ∧ o.ExactDict := by
        rcases hk with ⟨kvs, hk⟩ | ⟨kvs, hk⟩
        · obtain ⟨_, _, _, _, o, _, _, e, ex, _⟩ := I.hok p _ hk
          exact ⟨o, e, ex⟩
        · obtain ⟨_, _, _, _, o, _, _, e, ex, _⟩ := I.hok p _ hk
          exact ⟨o, e, ex⟩
      obtain ⟨o, e, ex⟩ := z
      refine ⟨⟨o, e, ex.1⟩, fun a e2 => ?_⟩
      cases e2
      exact ⟨o, e, ex.2.1⟩
    · obtain ⟨o, _, _, _, e, ex, _⟩ := I.hok p _ hk
      refine ⟨⟨o, e, ex.1⟩, fun a e2 => ?_⟩
      cases e2
      exact ⟨o, e, ex.2.1⟩
  | _ => exact False.elim ty
def tBM (K : PySem.W.Frag) (T : String) (r : V → List V → Hp → VK → Prop) (to : TE) (t : TA) : TE := fun σ H Q => to σ H fun x H1 => tyV K T x H1 ∧ t σ H1 fun xs H2 => r x xs H2 Q
variable {o e : Expr} {es : List Expr} {to : TE} {t : TA} {name : Str} {apos cpos : Pos} {T id : String} {r : V → List V → Hp → VK → Prop}
theorem pe_bm (pa : PlainAttrs T) (slot : Slot T name id) (hty : typeOf (.builtin id) = pure (.type "method_descriptor")) (hm : MtR X id r) (ho : PE X o to) (ha : PA X (e :: es) t)
    (hbase : attributeBase o name X.env (eval o X.env) = eval o X.env := by rfl)
    (hfew : ((backTo cpos (starEach (e :: es) X.env)).all (fun x => !x.1) && (backToKw cpos (keywordEach [] X.env)).all (fun x => x.1.isSome)
      && decide ((e :: es).length + ([] : List Keyword).length + (if ([] : List Keyword).isEmpty then 0 else 1) < 30)) = true := by rfl)
    (hline : (apos.endLine == cpos.line) = true := by rfl) (hs : starEach (e :: es) X.env = (false, eval e X.env) :: starEach es X.env := by rfl) (hplain : (backTo cpos (starEach es X.env)).any (·.1) = false := by rfl) :
    PE X (.Call (.Attribute o name apos) (e :: es) [] cpos) (tBM X.K T r to t) := by
  intro pins s σ H Q I h
  refine wpAny_Call_method_late hbase hfew hline rfl (thn (ho pins s σ H _ I h) fun v s1 ⟨x, H1, I1, r1, ty, q1⟩ => ?_)
  obtain ⟨h1, h2⟩ := tyV_is I1 r1 ty
  refine ⟨T, id, pa, slot, hty, h1, h2, ?_⟩
  have hA := ha cpos pins s1 σ H1 _ I1 q1
  rw [hs] at hA ⊢
  refine Calls.callWith_builtin (by show (false || (backTo cpos (starEach es X.env)).any (·.1)) = false; rw [hplain] <;> rfl) (Calls.evalArgs_plain ?_)
  exact thn hA fun us s2 ⟨vs, H2, I2, r2, q2⟩ => hm pins s2 σ H2 x vs v us Q I2 r1 r2 q2
end
end L2

namespace L2
open PySem PySem.Spec PyProof.Rows

def MtM (X : Cx) (id : String) (r : V → List V → Hp → VK → Prop) : Prop :=
  ∀ (pins : List (Addr × Obj)) (s : Shared) (σ : St) (H : Hp) (x : V) (xs : List V) (v : Value) (us : List Value) (Q : VK), Inv X pins σ H s → RelV x v → Vals xs us → r x xs H Q →
    wpAny (model X.prog X.w) X.A (call (.builtin id) (v :: us)) (EP X pins σ Q) X.xe s

theorem Vals.one : ∀ {x : V} {us : List Value}, Vals [x] us → ∃ u, us = [u] ∧ RelV x u
  | _, _, .cons r .nil => ⟨_, rfl, r⟩
theorem Vals.two : ∀ {x y : V} {us : List Value}, Vals [x, y] us → ∃ u v, us = [u, v] ∧ RelV x u ∧ RelV y v
  | _, _, _, .cons r (.cons q .nil) => ⟨_, _, rfl, r, q⟩
theorem Vals.zero : ∀ {us : List Value}, Vals [] us → us = []
  | _, .nil => rfl
theorem Vals.dropLast {xs : List V} {us : List Value} (h : Vals xs us) : Vals xs.dropLast us.dropLast := by
  induction h with
  | nil => exact .nil
  | cons r t ih =>
    cases t with
    | nil => exact .nil
    | cons q t' => exact .cons r ih
theorem Vals.eraseIdx : ∀ {xs : List V} {us : List Value} (i : Nat), Vals xs us → Vals (xs.eraseIdx i) (us.eraseIdx i)
  | _, _, _, .nil => .nil
  | _, _, 0, .cons _ t => t
  | _, _, i + 1, .cons r t => .cons r (Vals.eraseIdx i t)
theorem Vals.reverse {xs : List V} {us : List Value} (h : Vals xs us) : Vals xs.reverse us.reverse := by
  induction h with
  | nil => exact .nil
  | cons r t ih => rw [List.reverse_cons, List.reverse_cons]; exact Vals.append ih (.cons r .nil)
theorem Vals.rep {xs : List V} {us : List Value} (h : Vals xs us) : ∀ k : Nat, Vals (List.replicate k xs).flatten (List.replicate k us).flatten
  | 0 => .nil
  | k + 1 => by
    rw [List.replicate_succ, List.replicate_succ, List.flatten_cons, List.flatten_cons]
    exact Vals.append h (Vals.rep h k)
theorem len_erase {α : Type} : ∀ (l : List α) (i : Nat), (l.eraseIdx i).length ≤ l.length
  | [], _ => Nat.le_refl _
  | _ :: _, 0 => Nat.le_succ _
  | _ :: r, i + 1 => Nat.succ_le_succ (len_erase r i)
theorem foldl_rep (its : List Value) : ∀ (k : Nat) (acc : List Value),
    List.foldl (fun x1 x2 => x1 ++ x2) acc.toArray (List.replicate k its.toArray) = (acc ++ (List.replicate k its).flatten).toArray
  | 0, acc => by simp
  | k + 1, acc => by
    have e : acc.toArray ++ its.toArray = (acc ++ its).toArray := by simp
    have e2 : (acc ++ its) ++ (List.replicate k its).flatten = acc ++ (List.replicate (k + 1) its).flatten := by
      rw [List.replicate_succ, List.flatten_cons, List.append_assoc]
    rw [← e2, ← foldl_rep its k (acc ++ its), ← e, List.replicate_succ, List.foldl_cons]

section
variable {X : Cx} {pins : List (Addr × Obj)} {σ : St} {H : Hp} {s : Shared} {l b : Addr} {xs ys zs : List V}

theorem Inv.lset {its its' : List Value} {n : Nat} {f : Array Value → Array Value} {t' : Nat} (I : Inv X pins σ H s) (hH : H l = some (.lst xs))
    (e : s.heap.get? l = some { cls := .type "list", data := .seq its.toArray n }) (hf : f its.toArray = its'.toArray) (hv : Vals ys its') (hz : ys.length ≤ sizeLine) :
    Inv X pins σ (upd H l (.lst ys)) { s with heap := s.heap.update l (Obj.mapSeq f), toks := t' } := by
  have q := PySem.IsL.update e f
  rw [hf] at q
  refine I.write (x := l) (e := l) (by rw [hH]; exact trivial) (.inl rfl) (fun b' u hb hu => (Heap.get?_update_other s.heap (Obj.mapSeq f) (Ne.symm hb)).trans hu) ⟨_, q⟩ ?_
  exact ⟨hz, its', _, hv, q⟩
theorem Inv.lnew {its : List Value} {t' : Nat} (I : Inv X pins σ H s) (hv : Vals ys its) (hz : ys.length ≤ sizeLine) :
    Inv X pins σ (upd H s.heap.objs.size (.lst ys)) { s with heap := s.heap.push { cls := .type "list", data := .seq its.toArray }, toks := t' } :=
  I.laid (fun _ _ q => Heap.get?_push_of_some _ q) (Nat.le_refl _) ⟨hz, its, 0, hv, Heap.get?_push_size _ rfl⟩
theorem Inv.fresh (I : Inv X pins σ H s) : H s.heap.objs.size = none := I.hok.fresh (Nat.le_refl _)
theorem Inv.lstM (I : Inv X pins σ H s) (hH : H l = some (.lst xs)) : xs.length ≤ sizeLine ∧ ∃ (its : List Value) (n : Nat), Vals xs its ∧ xs.length = its.length ∧ s.heap.get? l = some { cls := .type "list", data := .seq its.toArray n } := by
  obtain ⟨z, its, n, r, e⟩ := I.hok l _ hH
  exact ⟨z, its, n, r, r.length, e⟩

theorem notLongL {n : Nat} (h : n ≤ sizeLine) : Builtin.List.listTooLong n = false := by
  unfold Builtin.List.listTooLong
  exact decide_eq_false (by omega)
end

section
variable {X : Cx}

def rAppend : V → List V → Hp → VK → Prop := fun x vs H Q => ∃ l xs y, x = .ref l ∧ vs = [y] ∧ H l = some (.lst xs) ∧ xs.length < sizeLine ∧ Q .non (upd H l (.lst (xs ++ [y])))
theorem mt_append : MtM X "list.append" rAppend := by
  intro pins s σ H x vs v us Q I rx rv h
  obtain ⟨l, xs, y, rfl, rfl, hH, hz, q⟩ := h
  cases rx
  obtain ⟨u, rfl, ru⟩ := rv.one
  obtain ⟨z, its, n, r, hl, e⟩ := I.lstM hH
  refine call_meets F.slot_list_append ⟨_, e, rfl⟩ F.entry_list_append (F.args_list_append_2 _ _) (PySem.list_append l its.toArray n u (by rw [List.size_toArray]; omega)) ⟨e, ?_⟩
  refine ⟨.non, _, I.lset (its' := its ++ [u]) hH e (by simp) (r.append (.cons ru .nil)) ?_, rfl, q⟩
  rw [List.length_append, List.length_singleton]
  omega

def rPopAt : V → List V → Hp → VK → Prop := fun x vs H Q => ∃ l xs i k y, x = .ref l ∧ vs = [.int i] ∧ H l = some (.lst xs) ∧ -(2 ^ 63) ≤ i ∧ i < 2 ^ 63 ∧ seqIndex? i xs.length = some k ∧ xs[k]? = some y ∧ Q y (upd H l (.lst (xs.eraseIdx k)))
theorem mt_popAt : MtM X "list.pop" rPopAt := by
  intro pins s σ H x vs v us Q I rx rv h
  obtain ⟨l, xs, i, k, y, rfl, rfl, hH, h1, h2, hk, hy, q⟩ := h
  cases rx
  obtain ⟨u, rfl, ru⟩ := rv.one
  obtain ⟨t, rfl⟩ := ru
  obtain ⟨z, its, n, r, hl, e⟩ := I.lstM hH
  obtain ⟨w, hw, rw'⟩ := r.get hy
  refine call_meets F.slot_list_pop ⟨_, e, rfl⟩ F.entry_list_pop (F.args_list_pop_2 _ _)
    (MeetsSeq.list_pop_at l its.toArray n i t k w (fitsIndex_both h1 h2) (by rw [List.size_toArray, ← hl]; exact hk) (by rw [← Array.getElem?_toList]; exact hw) (by rw [List.size_toArray]; omega)) ⟨e, ?_⟩
  refine ⟨y, _, I.lset (its' := its.eraseIdx k) hH e ?_ (r.eraseIdx k) ?_, rw', q⟩
  · show its.toArray.eraseIdxIfInBounds k = (its.eraseIdx k).toArray
    rw [List.eraseIdxIfInBounds_toArray]
  · have := len_erase xs k
    omega

def rCat : R2 := fun x y H Q => ∃ l b xs zs, x = .ref l ∧ y = .ref b ∧ H l = some (.lst xs) ∧ H b = some (.lst zs) ∧ xs.length + zs.length ≤ sizeLine ∧ ∀ p, H p = none → Q (.ref p) (upd H p (.lst (xs ++ zs)))
theorem op_cat : OpR X (binaryOp .Add) rCat := by
  intro pins s σ H x y v u Q I rx ry h
  obtain ⟨l, b, xs, zs, rfl, rfl, hH, hB, hz, q⟩ := h
  cases rx
  cases ry
  obtain ⟨z, its, n, r, hl, e⟩ := I.lstM hH
  obtain ⟨z2, its2, n2, r2, hl2, e2⟩ := I.lstM hB
  refine PySem.P.add_list e e2 ?_ (by rw [List.size_toArray, List.size_toArray]; omega)
  have ea : its.toArray ++ its2.toArray = (its ++ its2).toArray := by simp
  rw [ea]
  exact ⟨.ref _, _, I.lnew (t' := s.toks) (r.append r2) (by rw [List.length_append]; omega), rfl, q _ I.fresh⟩
def rRep : R2 := fun x y H Q => ∃ l k xs, x = .ref l ∧ y = .int k ∧ H l = some (.lst xs) ∧ -(2 ^ 63) ≤ k ∧ k < 2 ^ 63 ∧ xs.length * k.toNat ≤ sizeLine ∧
  ∀ p, H p = none → Q (.ref p) (upd H p (.lst (List.replicate k.toNat xs).flatten))
theorem len_rep {α : Type} (xs : List α) (k : Nat) : (List.replicate k xs).flatten.length = k * xs.length := by
  induction k with
  | zero => simp
  | succ k ih => rw [List.replicate_succ, List.flatten_cons, List.length_append, ih, Nat.succ_mul, Nat.add_comm]
theorem op_rep : OpR X (binaryOp .Mult) rRep := by
  intro pins s σ H x y v u Q I rx ry h
  obtain ⟨l, k, xs, rfl, rfl, hH, h1, h2, hz, q⟩ := h
  cases rx
  obtain ⟨t, rfl⟩ := ry
  obtain ⟨z, its, n, r, hl, e⟩ := I.lstM hH
  have hlen : its.toArray.size * k.toNat ≤ sizeLine := by rw [List.size_toArray, ← hl]; exact hz
  have hcap : ¬ its.toArray.size * k.toNat > (2 ^ 63 - 1) / 8 := by
    have : (sizeLine : Nat) ≤ (2 ^ 63 - 1) / 8 := by decide
    omega
  have hfit : ¬ (!Builtin.List.listFitsIndex k) = true := by
    rw [fitsIndex_both h1 h2]
    exact Bool.false_ne_true
  have hlong : ¬ Builtin.List.listTooLong (its.toArray.size * k.toNat) = true := by
    rw [notLongL hlen]
    exact Bool.false_ne_true
  have hnew : List.foldl (fun x1 x2 => x1 ++ x2) #[] (List.replicate (if its.toArray.isEmpty = true then 0 else k.toNat) its.toArray) = (List.replicate k.toNat its).flatten.toArray := by
    have f0 : ∀ m : Nat, List.foldl (fun x1 x2 => x1 ++ x2) #[] (List.replicate m its.toArray) = (List.replicate m its).flatten.toArray := fun m => by
      have := foldl_rep its m []
      rw [List.nil_append] at this
      exact this
    rw [f0]
    cases its with
    | nil => simp
    | cons a r' => rw [if_neg (by simp)]
  refine wpAny_binaryOp_repeat_ref (T := "list") (U := "int") (by decide) ⟨_, e, rfl⟩ (fun s' => typeIs_int s' k t) noFill_list_mul F.fills_int_mul F.slot_int_rmul repeat_list F.slot_int_index.lookup
    (call_meets F.slot_int_rmul (typeIs_int s k t) F.entry_int_rmul (F.args_int_rmul_2 _ _) (int___rmul___int_list k t l its.toArray n)
      ⟨e, rfl, ⟨_, e, rfl⟩, call_meets F.slot_list_mul ⟨_, e, rfl⟩ F.entry_list_mul (F.args_list_mul_2 _ _) (AutoListH.list___mul___list_int_3 l its.toArray n k t hfit hcap hlong) ⟨e, ?_⟩⟩)
  rw [hnew]
  exact ⟨.ref _, _, I.lnew (t' := s.toks) (r.rep k.toNat) (by rw [len_rep, Nat.mul_comm]; exact hz), rfl, q _ I.fresh⟩

end

section
variable {prog : Program} {w : World} {A : Around} {E : Value → Shared → Prop} {s : Shared}
end

section
variable {X : Cx}
end
end L2


namespace L2
open PySem PySem.Spec PyProof.Rows

section
variable {κ : Type} [DecidableEq κ]
def valV (kvs : List (κ × V)) (k : κ) : Option V := (kvs.find? fun kv => decide (kv.1 = k)).map (·.2)
def putK (kvs : List (κ × V)) (k : κ) (v : V) : List (κ × V) :=
  if (kvs.any fun kv => decide (kv.1 = k)) = true then kvs.map (fun kv => if kv.1 = k then (kv.1, v) else kv) else kvs ++ [(k, v)]
def dropK (kvs : List (κ × V)) (k : κ) : List (κ × V) := kvs.filter fun kv => decide (kv.1 ≠ k)

theorem valV_pos {p : κ × V} {r : List (κ × V)} {k : κ} (e : p.1 = k) : valV (p :: r) k = some p.2 := by simp [valV, List.find?_cons, e]
theorem valV_neg {p : κ × V} {r : List (κ × V)} {k : κ} (e : ¬ p.1 = k) : valV (p :: r) k = valV r k := by simp [valV, List.find?_cons, e]
theorem valV_any (k : κ) : ∀ kvs : List (κ × V), (kvs.any fun kv => decide (kv.1 = k)) = (valV kvs k).isSome
  | [] => rfl
  | p :: r => by
    rw [List.any_cons]
    by_cases e : p.1 = k
    · simp only [valV_pos e, decide_eq_true e, Bool.true_or, Option.isSome_some]
    · rw [valV_neg e, decide_eq_false e, Bool.false_or]; exact valV_any k r
theorem RelO.isSome_eq {o : Option V} {u : Option Value} (r : RelO o u) : o.isSome = u.isSome := by
  cases o with
  | none => cases u with
    | none => rfl
    | some _ => exact (show False from r).elim
  | some _ => cases u with
    | none => exact (show False from r).elim
    | some _ => rfl
theorem RelO.getD {o : Option V} {u : Option Value} {d : V} {d' : Value} (r : RelO o u) (rd : RelV d d') : RelV (o.getD d) (u.getD d') := by
  cases o with
  | none => cases u with
    | none => exact rd
    | some _ => exact (show False from r).elim
  | some _ => cases u with
    | none => exact (show False from r).elim
    | some _ => exact r

theorem KV.val {kvs : List (κ × V)} {vs : List (κ × Value)} (r : KV kvs vs) (k : κ) : RelO (valV kvs k) (valueAt vs k) := by
  unfold KV at r
  induction r with
  | nil => exact True.intro
  | @cons p q ps qs h t ih =>
    obtain ⟨h1, h2⟩ := h
    by_cases e : p.1 = k
    · have e' : q.1 = k := h1.symm.trans e
      have b : valueAt (q :: qs) k = some q.2 := by simp [valueAt, List.find?_cons, e']
      rw [valV_pos e, b]; exact h2
    · have e' : ¬ q.1 = k := fun z => e (h1.trans z)
      have b : valueAt (q :: qs) k = valueAt qs k := by simp [valueAt, List.find?_cons, e']
      rw [valV_neg e, b]; exact ih
theorem KV.any {kvs : List (κ × V)} {vs : List (κ × Value)} (r : KV kvs vs) (k : κ) : (kvs.any fun kv => decide (kv.1 = k)) = vs.any fun kv => decide (kv.1 = k) := by
  unfold KV at r
  induction r with
  | nil => rfl
  | cons h t ih => rw [List.any_cons, List.any_cons, ih, h.1]
theorem KV.repl {kvs : List (κ × V)} {vs : List (κ × Value)} (r : KV kvs vs) (k : κ) {y : V} {u : Value} (ry : RelV y u) :
    KV (kvs.map fun kv => if kv.1 = k then (kv.1, y) else kv) (vs.map fun kv => if kv.1 = k then (kv.1, u) else kv) := by
  unfold KV at r ⊢
  induction r with
  | nil => exact .nil
  | @cons p q ps qs h t ih =>
    rw [List.map_cons, List.map_cons]
    refine .cons ?_ ih
    obtain ⟨h1, h2⟩ := h
    by_cases e : p.1 = k
    · rw [if_pos e, if_pos (h1.symm.trans e)]; exact ⟨h1, ry⟩
    · rw [if_neg e, if_neg (fun z => e (h1.trans z))]; exact ⟨h1, h2⟩
theorem KV.put {kvs : List (κ × V)} {vs : List (κ × Value)} (r : KV kvs vs) (k : κ) {y : V} {u : Value} (ry : RelV y u) : KV (putK kvs k y) (stored vs k u) := by
  unfold putK stored
  rw [r.any k]
  by_cases e : (vs.any fun kv => decide (kv.1 = k)) = true
  · rw [if_pos e, if_pos e]; exact r.repl k ry
  · rw [if_neg e, if_neg e]; exact Paired.snoc r ⟨rfl, ry⟩
theorem KV.drop {kvs : List (κ × V)} {vs : List (κ × Value)} (r : KV kvs vs) (k : κ) : KV (dropK kvs k) (without vs k) := by
  unfold KV at r ⊢
  unfold dropK without
  induction r with
  | nil => exact .nil
  | @cons p q ps qs h t ih =>
    obtain ⟨h1, h2⟩ := h
    rw [List.filter_cons, List.filter_cons]
    by_cases e : p.1 = k
    · have a : ¬ decide (p.1 ≠ k) = true := by simp [e]
      have b : ¬ decide (q.1 ≠ k) = true := by simp [h1.symm.trans e]
      rw [if_neg a, if_neg b]; exact ih
    · have e' : ¬ q.1 = k := fun z => e (h1.trans z)
      have a : decide (p.1 ≠ k) = true := by simp [e]
      have b : decide (q.1 ≠ k) = true := by simp [e']
      rw [if_pos a, if_pos b]; exact .cons ⟨h1, h2⟩ ih
theorem KV.length {kvs : List (κ × V)} {vs : List (κ × Value)} (r : KV kvs vs) : kvs.length = vs.length := Paired.length r
end


abbrev KT (H : Hp) : List (List Key × V) → List (List Key × Addr × Value) → Prop := Paired fun p q => p.1 = q.1 ∧ H q.2.1 = some (.tup (p.1.map kV)) ∧ RelV p.2 q.2.2
theorem KT.val {H : Hp} {kvs : List (List Key × V)} {xs : List (List Key × Addr × Value)} (r : KT H kvs xs) (k : List Key) : RelO (valV kvs k) ((atKey xs k).map (·.2)) := by
  induction r with
  | nil => exact True.intro
  | @cons p q ps qs h t ih =>
    obtain ⟨h1, _, h2⟩ := h
    by_cases e : p.1 = k
    · have e' : q.1 = k := h1.symm.trans e
      have b : atKey (q :: qs) k = some q.2 := by simp [atKey, List.find?_cons, e']
      rw [valV_pos e, b]; exact h2
    · have e' : ¬ q.1 = k := fun z => e (h1.trans z)
      have b : atKey (q :: qs) k = atKey qs k := by simp [atKey, List.find?_cons, e']
      rw [valV_neg e, b]; exact ih
theorem KT.repl {H : Hp} {kvs : List (List Key × V)} {xs : List (List Key × Addr × Value)} (r : KT H kvs xs) (k : List Key) {y : V} {u : Value} (ry : RelV y u) :
    KT H (kvs.map fun kv => if kv.1 = k then (kv.1, y) else kv) (xs.map (putAt k u)) := by
  induction r with
  | nil => exact .nil
  | @cons p q ps qs h t ih =>
    rw [List.map_cons, List.map_cons]
    refine .cons ?_ ih
    obtain ⟨h1, h2, h3⟩ := h
    unfold putAt
    by_cases e : p.1 = k
    · rw [if_pos e, if_pos (h1.symm.trans e)]; exact ⟨h1, h2, ry⟩
    · rw [if_neg e, if_neg (fun z => e (h1.trans z))]; exact ⟨h1, h2, h3⟩
theorem KT.put {H : Hp} {kvs : List (List Key × V)} {xs : List (List Key × Addr × Value)} (r : KT H kvs xs) (k : List Key) {b : Addr} {y : V} {u : Value} (hb : H b = some (.tup (k.map kV))) (ry : RelV y u) :
    KT H (putK kvs k y) (storedH xs k b u) := by
  have e : (kvs.any fun kv => decide (kv.1 = k)) = (atKey xs k).isSome := by
    rw [valV_any, (r.val k).isSome_eq, Option.isSome_map]
  unfold putK storedH
  rw [e]
  by_cases q : (atKey xs k).isSome = true
  · rw [if_pos q, if_pos q]; exact r.repl k ry
  · rw [if_neg q, if_neg q]; exact Paired.snoc r ⟨rfl, hb, ry⟩
theorem KT.keeps {H H' : Hp} {kvs : List (List Key × V)} {xs : List (List Key × Addr × Value)} (r : KT H kvs xs) (ht : ∀ b ys, H b = some (.tup ys) → H' b = some (.tup ys)) : KT H' kvs xs :=
  Paired.mapP r fun _ _ z => ⟨z.1, ht _ _ z.2.1, z.2.2⟩

section
variable {P : Program} {w : World} {H : Hp} {h : Heap} {a : Addr}
end

def DGet (H : Hp) (a : Addr) (y : V) (r : Option V) : Prop :=
  (∃ kvs k, Rd H a (.dK kvs) ∧ y = kV k ∧ r = valV kvs k) ∨ ∃ kvs k b, Rd H a (.dT kvs) ∧ y = .ref b ∧ H b = some (.tup (k.map kV)) ∧ r = valV kvs k
def DPut (H : Hp) (a : Addr) (y v : V) (H' : Hp) : Prop :=
  (∃ kvs k, H a = some (.dK kvs) ∧ y = kV k ∧ kvs.length < sizeLine ∧ H' = upd H a (.dK (putK kvs k v))) ∨
  ∃ kvs k b, H a = some (.dT kvs) ∧ y = .ref b ∧ H b = some (.tup (k.map kV)) ∧ kvs.length < sizeLine ∧ H' = upd H a (.dT (putK kvs k v))
theorem DGet.k {H : Hp} {a : Addr} {kvs : List (Key × V)} {k : Key} (e : H a = some (.dK kvs)) : DGet H a (kV k) (valV kvs k) := .inl ⟨kvs, k, .inl e, rfl, rfl⟩
theorem DGet.t {H : Hp} {a b : Addr} {kvs : List (List Key × V)} {k : List Key} (e : H a = some (.dT kvs)) (eb : H b = some (.tup (k.map kV))) : DGet H a (.ref b) (valV kvs k) := .inr ⟨kvs, k, b, .inl e, rfl, eb, rfl⟩
theorem DPut.k {H : Hp} {a : Addr} {kvs : List (Key × V)} {k : Key} {v : V} (e : H a = some (.dK kvs)) (hl : kvs.length < sizeLine) : DPut H a (kV k) v (upd H a (.dK (putK kvs k v))) := .inl ⟨kvs, k, e, rfl, hl, rfl⟩
theorem DPut.t {H : Hp} {a b : Addr} {kvs : List (List Key × V)} {k : List Key} {v : V} (e : H a = some (.dT kvs)) (eb : H b = some (.tup (k.map kV))) (hl : kvs.length < sizeLine) :
    DPut H a (.ref b) v (upd H a (.dT (putK kvs k v))) := .inr ⟨kvs, k, b, e, rfl, eb, hl, rfl⟩


section
variable {X : Cx} {pins : List (Addr × Obj)} {σ : St} {H : Hp} {s : Shared} {a : Addr} {y v : V} {u r : Value} {o : Option V} {A : Around} {E : Value → Shared → Prop}

end

section
variable {X : Cx} {pins : List (Addr × Obj)} {σ : St} {H : Hp} {s : Shared} {a : Addr} {kvs : List (Key × V)} {k : Key} {u : Value} {A : Around} {E : Value → Shared → Prop}
end


section
variable {X : Cx} {o i e value : Expr} {pos pos' tpos : Pos} {td ty tv : TE}
end


section
variable {X : Cx} {pos : Pos}
end

section
variable {X : Cx} {pins : List (Addr × Obj)} {σ : St} {H : Hp} {s : Shared} {a : Addr} {y d : V} {u r : Value} {o : Option V} {A : Around} {E : Value → Shared → Prop}
end

section
variable {X : Cx} {o e f : Expr} {apos cpos : Pos} {td ty tx : TE}
end

section
variable {X : Cx} {pins : List (Addr × Obj)} {σ : St} {H : Hp} {s : Shared} {a : Addr} {kvs : List (Key × V)} {A : Around} {E : Value → Shared → Prop}
end


section
variable {X : Cx} {pins : List (Addr × Obj)} {σ : St} {H : Hp} {s : Shared} {a : Addr} {y : V} {u : Value} {A : Around} {E : Value → Shared → Prop}
end
end L2

namespace Att
open PySem PySem.W PySem.Calls PyProof.Rows

theorem ints_of_wellAll {P : Params} {h : Heap} : ∀ (ns : List Int) (vs : List Value), WellAll P h vs (ns.map WData.int) → IntsAre vs ns := by
  intro ns
  induction ns with
  | nil =>
    intro vs w
    rw [List.map_nil] at w
    cases w
    exact .nil
  | cons n ns ih =>
    intro vs w
    rw [List.map_cons] at w
    cases w with
    | cons a b =>
      cases a
      exact .cons _ _ (ih _ b)

theorem script_of {l : OpenLaw} {n : Nat} (hn : l.most = some n) {P : Params} {h : Heap} {args : List WData} {vals : List Value}
    (hpre : l.row.toRowW.claim.pre args = true) (hwl : WellAll P h vals args) :
    ∃ a vs ns, vals = [Value.ref a] ∧ args = [WData.list (ns.map WData.int)] ∧ h.get? a = some { cls := .type "list", data := .seq vs.toArray } ∧ IntsAre vs ns ∧ ns.length ≤ n := by
  have hsh : WShape.hasAll [] args [.list .int] = true := (pre_splitW hpre).1
  have hc : l.pre.holds [] { args := args } = true := (pre_splitW hpre).2
  obtain ⟨d, r, rfl, h1, h2⟩ := hasAllW_cons hsh
  obtain rfl := hasAllW_nil h2
  obtain ⟨xs, rfl, h3⟩ := hasW_list h1
  obtain ⟨ns, rfl⟩ := items_int h3
  have hlen : ns.length ≤ n := by
    unfold OpenLaw.pre at hc
    have h4 : (WTm.not (.lt (.lit (.int (n : Int))) (.len (.arg 0)))).holds [] { args := [.list (ns.map .int)] } = true := by
      have h4 := (holds_andW hc).1
      rw [hn] at h4
      exact h4
    have h5 := condW_of h4 (w_not (w_lt w_lit (w_len_list (w_arg rfl))))
    rw [List.length_map] at h5
    refine Nat.le_of_not_lt fun q => ?_
    have q' : (n : Int) < ((ns.length : Nat) : Int) := by omega
    first
      | (rw [decide_eq_true q'] at h5; exact absurd h5 (by decide))
      | (simp at h5; omega)
  cases hwl with
  | cons w1 w2 =>
    cases w2
    cases w1 with
    | list ho hall => exact ⟨_, _, ns, rfl, rfl, ho, ints_of_wellAll ns _ hall, hlen⟩

theorem post_true (l : OpenLaw) (args : List WData) : l.row.toRowW.claim.post args (.bool true) args = true :=
  postW_of (r := l.row.toRowW) (X := (true == true))
    (show WShape.has [] (.bool true) .bool = true by first | rfl | decide | simp [WShape.has, WShape.arms, WShape.armsAll])
    (show (WTm.eq .res (.lit (.bool true))).value [] { args := args, res := some (.bool true), after := args } = some (.bool (true == true)) from w_eq_bool (w_res rfl) w_lit) rfl

theorem attach_call {l : OpenLaw} {n : Nat} {q : Program} {loose : List Str} {XP : (Str → Option Value) → Heap → Prop} {YP : World → Heap → Prop} {d : DefRec}
    (hn : l.most = some n) (hdf : d.params.defaults = [])
    (call : ∀ (w : World) (s₀ s₁ : Shared) (mg mb : Str → Option Value) (fa : Addr) (o : Obj) (pm cd doc : Value) (a : Addr) (vs : List Value) (ns : List Int),
      Ground q loose [] XP w s₀ mg mb s₁.heap → YP w s₁.heap →
      s₁.heap.get? fa = some o → o.data = .func (docDef d.name d.params d.body d.scope pm cd doc) → s₁.heap.CodeRec cd d.name → mg d.name = some (.ref fa) →
      s₁.heap.get? a = some { cls := .type "list", data := .seq vs.toArray } → IntsAre vs ns → ns.length ≤ n → s₁.gens = #[] →
      codeAny (model l.prog w) callerA (.call (.ref fa) ⟨[.ref a], []⟩) (fun r s' => r = .ok (.ret (.bool true)) ∧ OldK s₁.heap s'.heap ∧ s'.os = s₁.os ∧ AllBare s'.gens) s₁) :
    WalkO q loose XP YP l.row.toRowW d [] (fun f vs => PySem.call f vs) := by
  intro w s₀ s₁ mg mb G Y fa o pm cd doc dV kV ho hd hcd hD hmg hg args vals as hpre hlay hrd hwl hlo
  obtain rfl : dV = .none := Dflts.none hD hdf
  obtain rfl : kV = .none := Dflts.noKw hD
  obtain ⟨a, vs, ns, rfl, rfl, hobj, hints, hlen⟩ := script_of hn hpre hwl
  refine enter_call (codeAny_mono (call w s₀ s₁ mg mb fa o pm cd doc a vs ns G Y ho (fd_plain hd) hcd hmg hobj hints hlen hg) fun r s' hq => ?_)
  obtain ⟨rfl, h2, h3, h4⟩ := hq
  exact ⟨.inl ⟨.bool true, .bool true, [], rfl, fun _ => rfl, .bool true, post_true l _, fun _ => ⟨List.Pairwise.nil, fun _ hm => (nomatch hm)⟩⟩, h2, h3, h4⟩

section
variable {prog : Program} {w : World} {A : Around} {E : Value → Shared → Prop} {s : Shared} {K : Frag}

end
end Att

namespace L2
open PySem PySem.Spec PyProof.Rows

theorem vals_ints : ∀ {vs : List Value} {ns : List Int}, IntsAre vs ns → Vals (ns.map V.int) vs
  | _, _, .nil => .nil
  | _, _, .cons n t h => .cons ⟨t, rfl⟩ (vals_ints h)

def Only (H : Hp) : Prop := ∀ b, H b = none ∨ ∃ o xs, H b = some (.frz o (.lst xs))

theorem law_call {P : Program} {w : World} {K : PySem.W.Frag} {mg mb : Str → Option Value} {CX : CXT} {k : Nat} {fa a : Addr} {fd : FuncData} {x : Str} {sp : Sp} {s₁ : Shared} {vs : List Value} {ns : List Int}
    (KX : K.In s₁.heap) (hns : s₁.heap.Ns mainGlobals mg) (hb : s₁.heap.Ns builtinsNs mb) (hbb : ∀ x : Str, x ≠ "__name__" → mb x = bootBuiltins x) (hlim : s₁.heap.NoLimit) (hg : s₁.gens = #[])
    (ha : s₁.heap.get? a = some { cls := .type "list", data := .seq vs.toArray }) (hi : IntsAre vs ns) (hl : ns.length ≤ sizeLine) (hr : Room k callerA)
    (F : ∀ base : Heap, K.In base → base.Ns mainGlobals mg → FnOk P w K mg base CX k fa fd [x] sp) (hbind : ∀ (s : Shared) (u : Value), BindsTo s fd ⟨[u], []⟩ [(x, u)])
    (hsp : ∀ H : Hp, Only H → SqL K H a (ns.map V.int) → sp [.ref a] H (fun v _ => v = .bl true) fun _ _ _ => False)
    (hCX : ∀ H e s', CX [] H s₁ (fun _ _ _ => False) e s' → False) :
    codeAny (model P w) callerA (.call (.ref fa) ⟨[.ref a], []⟩) (fun r s' => r = .ok (.ret (.bool true)) ∧ OldK s₁.heap s'.heap ∧ s'.os = s₁.os ∧ AllBare s'.gens) s₁ := by
  have rv := vals_ints hi
  have lenV := hi.length
  -- from an abstract heap in which nothing but the script may be tracked
  have core : ∀ H : Hp, Only H → SqL K H a (ns.map V.int) → HOk P w H s₁.heap → (∀ b, H b ≠ none → b = a) → (H a ≠ none → K.lookup a = none) →
      codeAny (model P w) callerA (.call (.ref fa) ⟨[.ref a], []⟩) (fun r s' => r = .ok (.ret (.bool true)) ∧ OldK s₁.heap s'.heap ∧ s'.os = s₁.os ∧ AllBare s'.gens) s₁ := by
    intro H hO hS hok hA hK
    have base_of : ∀ {b : Addr} {o : Obj}, s₁.heap.get? b = some o → H b = none → (hidT s₁.heap H).get? b = some o := fun e n => hidT_get e n
    have noA : ∀ {b : Addr} {o : Obj} {es : Array DictEntry} {ep : Nat}, s₁.heap.get? b = some o → o.data = .dict es ep → H b = none := fun {b o es ep} e d => by
      cases q : H b with
      | none => rfl
      | some u =>
        have e' : b = a := hA b (by rw [q]; simp)
        subst e'
        rw [ha] at e; cases e
        have d' : Data.seq vs.toArray _ = Data.dict es ep := d
        cases d'
    have nsK : ∀ {b : Addr} {m : Str → Option Value}, s₁.heap.Ns b m → (hidT s₁.heap H).Ns b m := fun {b m} ⟨o, es, ep, e, d, r⟩ => ⟨o, es, ep, base_of e (noA e d), d, r⟩
    have hKb : K.In (hidT s₁.heap H) := fun b o e => base_of (KX b o e) (by
      cases q : H b with
      | none => rfl
      | some u =>
        have e' : b = a := hA b (by rw [q]; simp)
        subst e'
        rw [hK (by rw [q]; simp)] at e; cases e)
    have hM : Mod K mg (hidT s₁.heap H) := ⟨hKb, nsK hns, ⟨mb, nsK hb, hbb⟩, let ⟨mc, h1, h2⟩ := hlim; ⟨mc, nsK h1, h2⟩⟩
    have e0 : Env0 P w K mg (hidT s₁.heap H) callerA [] s₁ H := ⟨rfl, hM, fun b o e => of_hidT e, Nat.le_of_eq (hidT_size _ _), trivial, fun b hb => absurd (show b ∈ ([] : List Addr) from hb) (by simp), hok, .of_eq hg⟩
    refine codeAny_mono ((F _ hKb (nsK hns)).run callerA [] s₁ H ⟨[.ref a], []⟩ [.ref a] [.ref a] _ _ hr e0 (hbind s₁ (.ref a)) (.cons rfl .nil) (hsp H hO hS)) fun r s' h => ?_
    cases r with
    | error e => exact (hCX H e s' h).elim
    | ok fl =>
      cases fl with
      | next => exact False.elim h
      | brk => exact False.elim h
      | cont => exact False.elim h
      | ret u =>
        obtain ⟨v, H', os, bare, un, hok', r', q⟩ := h
        have q' : v = .bl true := q
        subst q'
        obtain rfl : u = Value.bool true := r'
        refine ⟨rfl, OldK.of_keep fun b o e => ?_, os, bare⟩
        cases q : H b with
        | none => exact un.keep b o e q (by intro z; exact absurd (show b ∈ ([] : List Addr) from z) (by simp)) (by simp)
        | some u =>
          rcases hO b with z | ⟨ob, xs, z⟩
          · rw [q] at z; cases z
          · have z2 := un.frzs b ob _ z
            obtain ⟨e1, _⟩ := hok b _ z
            obtain ⟨e2, _⟩ := hok' b _ z2
            rw [e] at e1; cases e1
            exact e2
  cases hk : K.lookup a with
  | some o =>
    -- the script is one of the module's own objects
    have e := KX a o hk
    rw [ha] at e
    cases e
    refine core (fun _ => none) (fun _ => .inl rfl) (.inr ⟨_, vs.toArray, _, hk, rfl, rfl, rfl, by rw [List.size_toArray, lenV]; exact hl, by simpa using rv⟩) (fun b u z => by have z' : (none : Option HO) = some u := z; cases z') (fun b z => absurd rfl z) fun z => absurd rfl z
  | none =>
    refine core (fun b => if b = a then some (.frz { cls := .type "list", data := .seq vs.toArray } (.lst (ns.map V.int))) else none) (fun b => ?_) (.inl (.inr ⟨{ cls := .type "list", data := .seq vs.toArray }, if_pos rfl⟩)) (fun b u z => ?_) (fun b z => ?_) fun _ => hk
    · by_cases hb : b = a
      · exact .inr ⟨_, _, if_pos hb⟩
      · exact .inl (if_neg hb)
    · by_cases hb : b = a
      · have z' := (if_pos hb).symm.trans z
        cases z'
        subst hb
        exact ⟨ha, by rw [List.length_map]; exact hl, vs, _, rv, ha⟩
      · have z' := (if_neg hb).symm.trans z
        cases z'
    · by_cases hb : b = a
      · exact hb
      · exact absurd (if_neg hb) z
end L2

namespace L2
open PySem PySem.Spec PyProof.Rows

theorem walk_of {l : PySem.W.OpenLaw} {n k : Nat} {q : Program} {loose : List Str} {XP : (Str → Option Value) → Heap → Prop} {YP : World → Heap → Prop} {d : DefRec} {K : Params → PySem.W.Frag} {CX : World → CXT} {sp : World → Sp} {x : Str}
    (hn : l.most = some n) (hn2 : n ≤ sizeLine) (hdf : d.params.defaults = []) (hr : Room k callerA)
    (hY : ∀ (w : World) (h : Heap), YP w h → (K w.params).In h)
    (F : ∀ (w : World) (mg : Str → Option Value) (fa : Addr) (h : Heap), (K w.params).In h → h.Ns mainGlobals mg → mg d.name = some (.ref fa) →
      ∃ fd : FuncData, (∀ (s : Shared) (u : Value), BindsTo s fd ⟨[u], []⟩ [(x, u)]) ∧
        ∀ base : Heap, (K w.params).In base → base.Ns mainGlobals mg → FnOk l.prog w (K w.params) mg base (CX w) k fa fd [x] (sp w))
    (hsp : ∀ (w : World) (H : Hp) (a : Addr) (ns : List Int), ns.length ≤ n → Only H → SqL (K w.params) H a (ns.map V.int) → sp w [.ref a] H (fun v _ => v = .bl true) fun _ _ _ => False)
    (hCX : ∀ (w : World) (H : Hp) (s : Shared) (e : Value) (s' : Shared), CX w [] H s (fun _ _ _ => False) e s' → False) :
    PySem.W.WalkO q loose XP YP l.row.toRowW d [] (fun f vs => PySem.call f vs) := by
  refine Att.attach_call hn hdf fun w s₀ s₁ mg mb fa o pm cd doc a vs ns G Y ho hd hcd hmg hobj hints hlen hg => ?_
  have KX := hY w _ Y
  obtain ⟨fd, hb, hF⟩ := F w mg fa _ KX G.T.g hmg
  exact law_call KX G.T.g G.T.b G.T.builtins G.T.nolimit hg hobj hints (Nat.le_trans hlen hn2) hr hF hb (fun H hO hS => hsp w H a ns hlen hO hS) fun H e s' => hCX w H s₁ e s'
end L2


namespace L2
open PySem PySem.Spec PyProof.Rows

abbrev CX0 : CXT := fun _ _ _ _ _ _ => False
abbrev E0 : XK := fun _ _ _ => False
theorem pass0 {X : Cx} : Passes CX0 X E0 := fun _ _ _ _ _ _ _ h => h.elim

structure Fun (K : PySem.W.Frag) (x qual : Str) (st : Stmt) (f : Addr) (fd : FuncData) : Prop where
  ex : ∃ (oc : Value) (od : Option Addr) (kV doc pm : Value) (an : Option Addr) (cdv ct : Value) (osl : Array (Option Value)),
    fd = PySem.W.fnOf x qual (defArgs st) (defBody st) (defScope st) .none kV doc pm an cdv ct ∧ K.lookup f = some ⟨oc, od, .func fd, osl⟩ ∧ PySem.W.codeIn K cdv qual = true
  kp : PySem.W.keepIn K (.ref f) = true
section
variable {P : Program} {w : World} {K : PySem.W.Frag} {mg : Str → Option Value} {base : Heap}
theorem Fun.ok {x qual : Str} {st : Stmt} {f : Addr} {fd : FuncData} {N ps : List Str} {k : Nat} {sp : Sp} (F : Fun K x qual st f fd) (S : FnScope N ps (defScope st)) (len : ∀ vs H Q E, sp vs H Q E → vs.length = ps.length)
    (hbody : ∀ (cdv : Value) (A : Around) (outer : List Env) (s : Shared) (H : Hp) (vs : List V) (Q : VK) (E : XK), Room k (A.deeper (envOfC qual (defScope st) s.heap.objs.size f cdv)) → sp vs H Q E →
      ∃ t, PSs (cxOf CX0 P w K mg base N qual (defScope st) f cdv A outer s H E).nox (defBody st) t ∧ t { nx := fun _ H' => Q .non H', rt := Q } (start N vs) H) : FnOk P w K mg base CX0 (k + 1) f fd ps sp := by
  obtain ⟨oc, od, kV, doc, pm, an, cdv, ct, osl, rfl, lk, hcd⟩ := F.ex
  refine fn_of lk hcd S len fun A outer s H vs Q E hr hsp => ?_
  obtain ⟨t, h, q⟩ := hbody cdv A outer s H vs Q E hr hsp
  exact ⟨t, h.nox, q⟩
theorem Fun.binds {x qual : Str} {st : Stmt} {f : Addr} {fd : FuncData} {ps : List Str} (F : Fun K x qual st f fd)
    (h : ∀ (kV doc pm : Value) (an : Option Addr) (cdv ct : Value) (us : List Value), us.length = ps.length → bindArgs (PySem.W.fnOf x qual (defArgs st) (defBody st) (defScope st) .none kV doc pm an cdv ct) ⟨us, []⟩ = pure (ps.zip us)) : Binds K fd ps [] := by
  obtain ⟨oc, od, kV, doc, pm, an, cdv, ct, osl, rfl, lk, hcd⟩ := F.ex
  exact .all (h kV doc pm an cdv ct)
theorem fun_mk {x qual : Str} {st : Stmt} {f : Addr} {oc : Value} {od an : Option Addr} {osl : Array (Option Value)} {kV doc pm cdv ct : Value} (l : K.lookup f = some ⟨oc, od, .func (PySem.W.fnOf x qual (defArgs st) (defBody st) (defScope st) .none kV doc pm an cdv ct), osl⟩)
    (c : PySem.W.codeIn K cdv qual = true) (k : PySem.W.keepIn K (.ref f) = true) : Fun K x qual st f (PySem.W.fnOf x qual (defArgs st) (defBody st) (defScope st) .none kV doc pm an cdv ct) := ⟨⟨oc, od, kV, doc, pm, an, cdv, ct, osl, rfl, l, c⟩, k⟩
end
theorem hu_of {A : Around} {k : Nat} (hr : Room k A) : A.units + 1 < cLine := Nat.lt_of_le_of_lt (Nat.add_le_add_left (by decide : 1 ≤ 64) _) hr.units
theorem small1000 {n : Nat} (h : n ≤ 1000) : n < sizeLine := Nat.lt_of_le_of_lt h (by decide)

section
variable {X : Cx}
theorem pv (i : Nat) {x : Str} {pos : Pos} (hN : X.N[i]? = some x := by rfl) (hv : Vis X.env.scope x := by first | exact Or.inl rfl | exact Or.inr (Or.inl rfl) | exact Or.inr (Or.inr rfl)) (hd : (x == ("__debug__" : Str)) = false := by decide)
    (hcd : (x == ("__classdict__" : Str)) = false := by decide) : PE X (.Name x pos) (tVar i) := pe_var hN hv hd hcd
end

theorem iteF {A B : Prop} (h : B) : if false = true then A else B := by
  rw [if_neg Bool.false_ne_true]
  exact h
theorem iteT {A B : Prop} (h : A) : if true = true then A else B := by
  rw [if_pos rfl]
  exact h
theorem ite2 {c A B : Prop} [Decidable c] (h1 : c → A) (h2 : ¬ c → B) : if c then A else B := by
  by_cases h : c
  · rw [if_pos h]
    exact h1 h
  · rw [if_neg h]
    exact h2 h
def Same (H H' : Hp) : Prop := ∀ b o, H b = some o → H' b = some o
theorem Same.refl (H : Hp) : Same H H := fun _ _ h => h
theorem Same.trans {H H1 H2 : Hp} (a : Same H H1) (b : Same H1 H2) : Same H H2 := fun c o h => b c o (a c o h)
theorem Same.free {H H' : Hp} (e : Same H H') {l : Addr} (h : H' l = Option.none) : H l = Option.none := by
  cases q : H l with
  | none => rfl
  | some o =>
    rw [e l o q] at h
    cases h
theorem Same.seq {K : PySem.W.Frag} {H H' : Hp} {a : Addr} {xs : List V} (e : Same H H') (h : SqL K H a xs) : SqL K H' a xs := by
  rcases h with (h | ⟨o, h⟩) | h
  · exact .inl (.inl (e _ _ h))
  · exact .inl (.inr ⟨o, e _ _ h⟩)
  · exact .inr h

section
variable {κ : Type} [DecidableEq κ]
end
end L2


namespace L2
open PySem PySem.Spec PyProof.Rows

section
variable {prog : Program} {w : World} {A : Around} {R : Result → Shared → Prop} {s : Shared}
theorem compLoop_any {elt target iter : Expr} {ifs : List Expr} {scope : Scope} {pos : Pos} {it acc : Value} {env : Env} (I : Nat → Shared → Prop)
    (turn : ∀ n s, I n s → wpAny (model prog w) A (pyNext it) (fun r s₁ => match r with
      | none => R (.ok .next) s₁
      | some v => wpAny (model prog w) A (letOwnedTupleGo target it v) (fun _ s₀ => wpAny (model prog w) A (assign target env v) (fun _ s₂ =>
          wpAny (model prog w) A (forIn ifs true fun c r => if r = true then do let ok ← isTrue c env (eval c env); pure (ForInStep.yield ok) else pure (ForInStep.yield r)) (fun ok s₃ =>
            if ok = true then wpAny (model prog w) A (eval elt env) (fun x s₄ =>
              wpAny (model prog w) A (call (.builtin "list.append") [acc, x]) (fun _ s₅ => ∃ m, m < n ∧ I m s₅) (fun _ _ => False) s₄) (fun _ _ => False) s₃
            else ∃ m, m < n ∧ I m s₃) (fun _ _ => False) s₂) (fun _ _ => False) s₀) (fun _ _ => False) s₁) (fun _ _ => False) s)
    (n : Nat) (h : I n s) : codeAny (model prog w) A (.compLoop (.ListComp elt [⟨target, iter, ifs, 0⟩] scope pos) 0 it acc env) R s := by
  refine codeAny_loop rfl I (fun n s hI => ?_) n h
  show wpAny _ A ((compTurn (.ListComp elt [⟨target, iter, ifs, 0⟩] scope pos) 0 it acc env).onRaise (fun x => do noteFrame x env; theTreesLotGoes x)) _ _ s
  refine wpAny_noted ?_
  rw [compTurn_list]
  refine wpAny_bind (wpAny_standAt (wpAny_bind (wpAny_mono (turn n s hI) (fun r s₁ h₁ => ?_) fun _ _ h' => h'.elim)))
  cases r with
  | none => exact wpAny_pure h₁
  | some v =>
    refine wpAny_bind (wpAny_mono h₁ (fun _ s₀ h₀ => ?_) fun _ _ h' => h'.elim)
    refine wpAny_bind (wpAny_mono h₀ (fun _ s₂ h₂ => wpAny_bind (wpAny_mono h₂ (fun ok s₃ h₃ => ?_) fun _ _ h' => h'.elim)) fun _ _ h' => h'.elim)
    cases ok with
    | false => exact wpAny_pure ⟨rfl, h₃⟩
    | true =>
      exact wpAny_bind (wpAny_bind (wpAny_mono h₃ (fun x s₄ h₄ => wpAny_bind (wpAny_mono h₄ (fun _ s₅ h₅ => wpAny_pure (wpAny_pure ⟨rfl, h₅⟩)) fun _ _ h' => h'.elim)) fun _ _ h' => h'.elim))
end

def PTs (X : Cx) (ifs : List Expr) (t : TT) : Prop :=
  ∀ (pins : List (Addr × Obj)) (s : Shared) (σ : St) (H : Hp) (Q : Bool → Hp → Prop), Inv X pins σ H s → t σ H Q →
    wpAny (model X.prog X.w) X.A (forIn ifs true fun c r => if r = true then do let ok ← isTrue c X.env (eval c X.env); pure (ForInStep.yield ok) else pure (ForInStep.yield r)) (TP X pins σ Q) X.xe s
def tYes : TT := fun _ H Q => Q true H
theorem pts_nil {X : Cx} : PTs X [] tYes := fun _ _ _ H _ I h => wpAny_tests_nil ⟨H, I, h⟩
theorem pts_one {X : Cx} {c : Expr} {t : TT} (h : PT X c t) : PTs X [c] t := fun pins s σ H Q I hw => wpAny_tests_one (h pins s σ H Q I hw)

abbrev Cx.blk (X : Cx) (N : List Str) (s : Shared) (H : Hp) (scope : Scope) (cl : List (Str × Addr)) (C : Addr) (ex : List Addr) : Cx :=
  { X with N := N, s₀ := s, H₀ := H, env := compEnvC scope cl C X.env, outer := X.stack, stack := X.stack, ex := ex, fn := fun _ => false, pn := [], xe := fun _ _ => False }

def AllC (env : Env) : List (Str × Addr) → Prop
  | [] => True
  | p :: r => env.cells.lookup p.1 = some p.2 ∧ AllC env r
theorem lookup_mem {α : Type} : ∀ {l : List (Str × α)} {x : Str} {k : α}, l.lookup x = some k → (x, k) ∈ l
  | [], _, _, h => by simp at h
  | (n, k') :: r, x, k, h => by
    rw [List.lookup_cons] at h
    cases hx : x == n with
    | true =>
      rw [hx] at h
      have e : x = n := eq_of_beq hx
      have e2 : k' = k := Option.some.inj h
      rw [e, e2]; exact List.mem_cons_self
    | false =>
      rw [hx] at h
      exact List.mem_cons_of_mem _ (lookup_mem h)
theorem AllC.get {env : Env} : ∀ {cl : List (Str × Addr)} {x : Str} {c : Addr}, AllC env cl → cl.lookup x = some c → env.cells.lookup x = some c := fun {cl x c} h e => by
  have go : ∀ (l : List (Str × Addr)), AllC env l → ∀ p ∈ l, env.cells.lookup p.1 = some p.2 := by
    intro l
    induction l with
    | nil => intro _ p hp; cases hp
    | cons q r ih =>
      intro ha p hp
      rcases List.mem_cons.mp hp with rfl | hp
      · exact ha.1
      · exact ih ha.2 p hp
  exact go cl h (x, c) (lookup_mem e)
def CapOk (X : Cx) (scope : Scope) (cl : List (Str × Addr)) : List Str → List Nat → Prop
  | [], [] => True
  | y :: ys, j :: js => (X.N[j]? = some y ∧ (X.env.kindOf y = some .cell ∨ X.env.kindOf y = some .free) ∧ (cl.lookup y).isSome = true ∧ ((relabel scope X.env).names.lookup y = some .cell ∨ (relabel scope X.env).names.lookup y = some .free)) ∧ CapOk X scope cl ys js
  | _, _ => False
theorem CapOk.get {X : Cx} {scope : Scope} {cl : List (Str × Addr)} : ∀ {ys : List Str} {js : List Nat} {i : Nat} {y : Str}, CapOk X scope cl ys js → ys[i]? = some y →
    ∃ j, js[i]? = some j ∧ X.N[j]? = some y ∧ (X.env.kindOf y = some .cell ∨ X.env.kindOf y = some .free) ∧ (cl.lookup y).isSome = true ∧ ((relabel scope X.env).names.lookup y = some .cell ∨ (relabel scope X.env).names.lookup y = some .free)
  | [], _, _, _, _, e => by simp at e
  | _ :: _, [], _, _, h, _ => h.elim
  | y :: ys, j :: js, 0, z, h, e => by
    have e' : y = z := by simpa using e
    subst e'
    exact ⟨j, rfl, h.1⟩
  | y :: ys, j :: js, i + 1, z, h, e => by
    obtain ⟨k, e1, e2⟩ := CapOk.get (i := i) h.2 (by simpa using e)
    exact ⟨k, by simpa using e1, e2⟩
theorem CapOk.len {X : Cx} {scope : Scope} {cl : List (Str × Addr)} : ∀ {ys : List Str} {js : List Nat}, CapOk X scope cl ys js → ys.length = js.length
  | [], [], _ => rfl
  | [], _ :: _, h => h.elim
  | _ :: _, [], h => h.elim
  | _ :: _, _ :: _, h => by rw [List.length_cons, List.length_cons, CapOk.len h.2]
def capv (σ : St) (js : List Nat) : St := js.map fun j => (σ[j]?).join
theorem relabel_free {scope : Scope} {env : Env} {x : Str} (hcell : ∀ y ∈ scope.names, y.2 ≠ .cell) (h : (relabel scope env).names.lookup x = some .cell ∨ (relabel scope env).names.lookup x = some .free) : (x, NameKind.free) ∈ scope.names := by
  have hm : ∃ k, (k = NameKind.cell ∨ k = NameKind.free) ∧ (x, k) ∈ (relabel scope env).names := by
    rcases h with h | h
    · exact ⟨_, .inl rfl, lookup_mem h⟩
    · exact ⟨_, .inr rfl, lookup_mem h⟩
  obtain ⟨k, hk, hm⟩ := hm
  obtain ⟨⟨n, k'⟩, hin, e⟩ := List.mem_map.mp hm
  dsimp only at e
  by_cases hc : (k' == NameKind.free && env.scope.kind == .function && env.kindOf n == some .cell) = true
  · rw [if_pos hc] at e
    cases e
    have : k' = NameKind.free := by
      rw [Bool.and_eq_true, Bool.and_eq_true] at hc
      exact eq_of_beq hc.1.1
    rw [← this]; exact hin
  · rw [if_neg hc] at e
    cases e
    rcases hk with hk | hk
    · exact absurd hk (hcell _ hin)
    · rw [← hk]; exact hin
section
variable {X : Cx} {pins : List (Addr × Obj)} {σ : St} {H : Hp} {s : Shared}
theorem Inv.adopt {D : Addr} {ys : List V} {its : List Value} {n : Nat} (I : Inv X pins σ H s) (hn : H D = none) (hnew : X.s₀.heap.objs.size ≤ D) (hL : D ≠ X.env.locals) (hc : ∀ x c, X.env.cells.lookup x = some c → c ≠ D) (hp : ∀ p ∈ X.pn ++ pins, p.1 ≠ D)
    (e : s.heap.get? D = some { cls := .type "list", data := .seq its.toArray n }) (hv : Vals ys its) (hz : ys.length ≤ sizeLine) : Inv X pins σ (upd H D (.lst ys)) s := by
  have ne : ∀ b u, H b = some u → b ≠ D := fun b u q => ne_of_none q hn
  refine ⟨I.ok, I.os, I.bare, ⟨I.base.keep, I.base.slot, fun b o q nn hx => ?_, I.base.there, fun b xs q => ?_, fun b o u q => ?_, fun b ps q => ?_⟩, I.loc, I.cell, ?_, fun x c q => ?_, fun p hq => ?_, fun b u q => ?_, I.len⟩
  · rw [upd_ne (Nat.ne_of_lt (Nat.lt_of_lt_of_le (Heap.lt_size q) hnew))]; exact I.base.free b o q nn hx
  · have z := I.base.tups b xs q
    rw [upd_ne (ne b _ z)]; exact z
  · have z := I.base.frzs b o u q
    rw [upd_ne (ne b _ z)]; exact z
  · obtain ⟨more, z⟩ := I.base.tbls b ps q
    exact ⟨more, by rw [upd_ne (ne b _ z)]; exact z⟩
  · rw [upd_ne (Ne.symm hL)]; exact I.free
  · rw [upd_ne (hc x c q)]; exact I.freeC x c q
  · obtain ⟨a1, a2, a3⟩ := I.pin p hq
    exact ⟨a1, by rw [upd_ne (hp p hq)]; exact a2, a3⟩
  · by_cases hb : b = D
    · subst hb
      rw [upd_same] at q; cases q
      exact ⟨hz, its, n, hv, e⟩
    · rw [upd_ne hb] at q
      exact (I.hok b u q).stay (fun c v _ r => r) (fun c r => by rw [upd_ne (ne c _ r)]; exact r) fun c xs r => by rw [upd_ne (ne c _ r)]; exact r
structure Outed (X : Cx) (pins : List (Addr × Obj)) (σ : St) (C D : Addr) (H : Hp) (s : Shared) : Prop where
  inv : Inv X pins σ H s
  ns : ∃ m, s.heap.Ns C m
  nL : C ≠ X.env.locals
  new : X.s₀.heap.objs.size ≤ C
  nc : ∀ x c, X.env.cells.lookup x = some c → c ≠ C
  np : ∀ p ∈ X.pn ++ pins, p.1 ≠ C
  free : H C = none
theorem Outed.gone {C D : Addr} {h' : Heap} (O : Outed X pins σ C D H s) (sb : Heap.SameBut C s.heap h') : Inv X pins σ H { s with heap := h' } :=
  O.inv.turned (t' := s.toks) (it := C) (fun b o hb e => (sb.2 b hb).trans e) O.free O.nL (.inr O.new) O.nc O.np
end

def gLC (J : It) (g : TG) (tc : TT) (te : TE) (n : Nat) (cv : St) (Fin : List V → Hp → Prop) (H1 : Hp) : Prop :=
  ∃ W : Nat → Nat → List V → Hp → Prop, (∃ m, W 0 m [] H1) ∧ ∀ i m ys H, W i m ys H →
    (J.stop i H ∧ Fin ys H) ∨
    (J.go i H ∧ ys.length < sizeLine ∧ ∃ N : List V → Hp → Prop, (∀ ys' H', N ys' H' → ∃ m', m' < m ∧ W (i + 1) m' ys' H') ∧ ∀ x H', J.yld i H x H' → ∀ own : St, own.length = n → g x (own ++ cv) H' fun σ2 H2 => (∃ own2 : St, own2.length = n ∧ σ2 = own2 ++ cv) ∧
      tc σ2 H2 fun b H3 => if b = true then te σ2 H3 fun y H4 => N (ys ++ [y]) H4 else N ys H3)

def clOf (env : Env) : List (Str × NameKind) → List (Str × Addr) → List (Str × Addr)
  | [], acc => acc
  | (n, k) :: r, acc => clOf env r (if k == .free then (match env.cells.lookup n with | some c => (n, c) :: acc | none => acc) else acc)
theorem clOf_all (env : Env) : ∀ (names : List (Str × NameKind)) (acc : List (Str × Addr)), AllC env acc → AllC env (clOf env names acc)
  | [], _, h => h
  | (n, k) :: r, acc, h => by
    refine clOf_all env r _ ?_
    split
    · split
      · exact ⟨by assumption, h⟩
      · exact h
    · exact h
structure LcOk (X : Cx) (scope : Scope) (cl : List (Str × Addr)) (own caps : List Str) (js : List Nat) : Prop where
  clos : closureFor scope X.env = pure cl
  cell : ∀ y ∈ scope.names, y.2 ≠ .cell
  kind : scope.kind = .function
  names : ∀ y ∈ scope.names, y.2 = .local → scope.names.lookup y.1 = some .local
  allc : AllC X.env cl
  free : (scope.names.all fun y => y.2 != .free || (cl.lookup y.1).isSome) = true
  cap : CapOk X scope cl caps js

theorem lcok {X : Cx} {scope : Scope} {own caps : List Str} {js : List Nat} (clos : closureFor scope X.env = pure (clOf X.env scope.names []) := by with_unfolding_all rfl) (cell : ∀ y ∈ scope.names, y.2 ≠ .cell := by decide +kernel) (kind : scope.kind = .function := by rfl)
    (names : ∀ y ∈ scope.names, y.2 = .local → scope.names.lookup y.1 = some .local := by decide +kernel) (free : (scope.names.all fun y => y.2 != .free || ((clOf X.env scope.names []).lookup y.1).isSome) = true := by with_unfolding_all rfl)
    (cap : CapOk X scope (clOf X.env scope.names []) caps js) : LcOk X scope (clOf X.env scope.names []) own caps js := ⟨clos, cell, kind, names, clOf_all _ _ _ trivial, free, cap⟩
section
variable {X : Cx} {elt iter target : Expr} {ifs : List Expr} {scope : Scope} {cl : List (Str × Addr)} {pos : Pos} {own caps : List Str} {js : List Nat} {g : TG} {tc : TT} {te : TE}
theorem lc_block {pins : List (Addr × Obj)} {σ : St} {s₂ : Shared} {H1 : Hp} {it : Addr} {fp : List Addr} {tn : Nat → Heap → Prop} {J : It} {Fin : List V → Hp → Prop} {RR : Value → Addr → Result → Shared → Prop} {E : Value → Shared → Prop}
    (hc : X.calm = true) (L : LcOk X scope cl own caps js)
    (hg : ∀ s H C ex, PG (X.blk (own ++ caps) s H scope cl C ex) target g) (ht : ∀ s H C ex, PTs (X.blk (own ++ caps) s H scope cl C ex) ifs tc) (he : ∀ s H C ex, PE (X.blk (own ++ caps) s H scope cl C ex) elt te)
    (I2 : Inv X pins σ H1 s₂) (T : Turn X.prog X.w X.K target J fp it tn) (st2 : tn 0 s₂.heap) (f2 : ∀ b ∈ fp, FpOk X pins H1 b)
    (G : gLC J g tc te own.length (capv σ js) Fin H1)
    (hRR : ∀ D C H ys s', H D = none → Outed X pins σ C D (upd H D (.lst ys)) s' → Fin ys H → RR (.ref D) C (.ok .next) s') :
    wpAny (model X.prog X.w) X.A (newList []) (fun acc s₃ => wpAny (model X.prog X.w) X.A (newFunctionEnv scope X.env.globals cl [] X.env.qual none .none (some X.env)) (fun cenv s₄ =>
      codeAny (model X.prog X.w) X.A (.compStart (.ListComp elt [⟨target, iter, ifs, 0⟩] scope pos) 0 (.ref it) acc { cenv with scope := relabel scope X.env }) (RR acc cenv.locals) s₄) E s₃) E s₂ := by
  refine wpAny_newObj_type (wpAny_newFunctionEnv L.cell (by intro y hy; simp at hy) (fun h₁ hns₁ hsb₁ => ?_) L.kind)
  dsimp only at hns₁ hsb₁ ⊢
  generalize hH2 : s₂.heap.push { cls := .type "list", dict := none, data := .seq ([] : List Value).toArray } = G2 at hns₁ hsb₁ ⊢
  have hC : G2.objs.size = s₂.heap.objs.size + 1 := by rw [← hH2, Heap.size_push]
  have up2 : ∀ b o, s₂.heap.get? b = some o → G2.get? b = some o := fun b o e => hH2 ▸ Heap.get?_push_of_some _ e
  have hDC : s₂.heap.objs.size ≠ G2.objs.size := by rw [hC]; exact Nat.ne_of_lt (Nat.lt_succ_self _)
  have hD2 : G2.get? s₂.heap.objs.size = some { cls := .type "list", data := .seq ([] : List Value).toArray ([] : List Value).length } := hH2 ▸ Heap.get?_push_size _ rfl
  -- the state with the list laid
  have I3 : Inv X pins σ H1 { s₂ with heap := G2 } := I2.kept (t' := s₂.toks) up2
  have up3 : ∀ b o, G2.get? b = some o → h₁.get? b = some o := fun b o e => hsb₁.extBut b o (Nat.ne_of_lt (Heap.lt_size e)) (Heap.get?_push_of_some _ e)
  have DH : H1 s₂.heap.objs.size = none := I2.fresh
  have CH : H1 G2.objs.size = none := I3.fresh
  have fpl : ∀ b ∈ fp, b < s₂.heap.objs.size := fun b hb => by
    obtain ⟨o, e, _⟩ := T.obj 0 _ st2 b hb
    exact Heap.lt_size e
  have celllt : ∀ x c, X.env.cells.lookup x = some c → c < s₂.heap.objs.size := fun x c e => by
    obtain ⟨v, q⟩ := I2.cell x c e
    exact q.lt
  have locl : X.env.locals < s₂.heap.objs.size := I2.lt
  generalize hD : s₂.heap.objs.size = D at *
  generalize hCC : G2.objs.size = C at *
  have hDltC : D < C := by omega
  have noF : ∀ b, b ∈ frs X.stack → b < D := fun b hb => by
    rcases List.mem_cons.mp (I2.stkSub b hb) with e | hb
    · rw [e]; exact locl
    · obtain ⟨_, o, ho, _⟩ := I2.ok.funs.mem hb
      exact Nat.lt_of_lt_of_le (Heap.lt_size ho) (hD ▸ I2.sz)
  have fpF : ∀ b ∈ fp, b ∉ frs X.stack := fun b hb z => by
    obtain ⟨_, e1, e2, _⟩ := f2 b hb
    rcases List.mem_cons.mp (I2.stkSub b z) with e | z
    · exact e1 e
    · exact e2 z
  have ok' : (X.blk (own ++ caps) { s₂ with heap := G2 } H1 scope cl C (D :: fp)).Ok := {
    mod := I2.ok.mod
    kind := L.kind
    glob := I2.ok.glob
    blt := I2.ok.blt
    above := Nat.le_of_eq hCC
    inj := fun x y c e1 e2 => I2.ok.inj x y c (L.allc.get e1) (L.allc.get e2)
    has := fun x hx => by
      have hm := relabel_free L.cell hx
      have q := List.all_eq_true.mp L.free _ hm
      have q' : (cl.lookup x).isSome = true := by simpa using q
      exact Option.isSome_iff_exists.mp q'
    cab := fun x c e => nomatch e
    hd := I2.ok.hd
    frames := I2.ok.frames
    stk := .inl rfl
    exf := fun b hb => by
      rcases List.mem_cons.mp hb with rfl | hb
      · exact ⟨Nat.ne_of_lt hDltC, fun x c e => Nat.ne_of_lt (celllt x c (L.allc.get e))⟩
      · obtain ⟨_, e1, e2, _, e4, _⟩ := f2 b hb
        exact ⟨Nat.ne_of_lt (Nat.lt_trans (fpl b hb) hDltC), fun x c e => e4 x c (L.allc.get e)⟩
    bs := fun b o e => ⟨up2 b o (I2.bs b o e).1, (I2.bs b o e).2⟩
    bsz := by
      show X.base.objs.size ≤ G2.objs.size
      have := I2.ok.bsz
      have := I2.sz
      omega
    noex := fun b o e hb => by
      have hlt := Heap.lt_size (I2.bs b o e).1
      rcases List.mem_cons.mp hb with z | hb
      · exact absurd (show b < D from hD ▸ hlt) (by rw [z]; exact Nat.lt_irrefl _)
      · obtain ⟨_, _, _, e3, _⟩ := f2 b hb
        rcases e3 with e3 | e3
        · exact I2.ok.noex b o e e3
        · exact absurd (Nat.lt_of_lt_of_le (Heap.lt_size (I2.ok.bs b o e).1) e3) (Nat.lt_irrefl _)
    exfs := fun b hb z => by
      rcases List.mem_cons.mp hb with e | hb
      · exact absurd (noF b z) (by rw [e]; exact Nat.lt_irrefl _)
      · exact fpF b hb z
    funs := I3.stack
    frf := I3.stkFree }
  have hns : h₁.Ns C (fun x => ([] : List (Str × Value)).reverse.lookup x) := hns₁
  have start : Inv (X.blk (own ++ caps) { s₂ with heap := G2 } H1 scope cl C (D :: fp)) [(D, LCg.lst [])] (List.replicate own.length none ++ capv σ js) H1 { s₂ with heap := h₁, toks := s₂.toks + ([] : List (Str × Value)).length } := by
    refine ⟨ok', rfl, I2.bare, Un.kept up3, ⟨_, hns, fun i x v e1 e2 e3 => ?_⟩, fun x c e => ?_, CH, fun x c e => I2.freeC x c (L.allc.get e), fun p hp => ?_, I3.hok.kept up3, ?_⟩
    · have hlo : own.length ≤ i := by
        refine Nat.le_of_not_lt fun hlt => ?_
        rw [List.getElem?_append_left (by rw [List.length_replicate]; exact hlt), List.getElem?_replicate, if_pos hlt] at e2
        cases e2
      have e1' : caps[i - own.length]? = some x := by rw [← List.getElem?_append_right hlo]; exact e1
      obtain ⟨j, j1, j2, j3, j4, j5⟩ := L.cap.get e1'
      have e2' : (capv σ js)[i - own.length]? = some (some v) := by
        rw [← e2, List.getElem?_append_right (by rw [List.length_replicate]; exact hlo), List.length_replicate]
      have e4 : σ[j]? = some (some v) := by
        unfold capv at e2'
        rw [List.getElem?_map, j1] at e2'
        have e5 : (σ[j]?).join = some v := Option.some.inj e2'
        cases hq : σ[j]? with
        | none => rw [hq] at e5; cases e5
        | some q => rw [hq] at e5; exact congrArg some e5
      obtain ⟨m, hn, hl⟩ := I2.loc
      obtain ⟨u, ru, lk⟩ := hl j x v j2 e4 (.inr j3)
      refine ⟨u, ru, .inr ⟨j5, ?_⟩⟩
      rcases lk with ⟨k, _⟩ | ⟨_, c, ec, o, ho, hd⟩
      · rcases j3 with z | z <;> (rw [k] at z; cases z)
      · obtain ⟨c', ec'⟩ := Option.isSome_iff_exists.mp j4
        have := L.allc.get ec'
        rw [ec] at this
        cases this
        exact ⟨c, ec', o, up3 _ _ (up2 _ _ ho), hd⟩
    · obtain ⟨v, o, ho, hd⟩ := I2.cell x c (L.allc.get e)
      exact ⟨v, o, up3 _ _ (up2 _ _ ho), hd⟩
    · have e : p = (D, LCg.lst []) := by simpa using hp
      subst e
      exact ⟨up3 _ _ hD2, DH, Nat.ne_of_lt hDltC, fun z => absurd (noF D z) (Nat.lt_irrefl _), fun v z => by cases z⟩
    · rw [List.length_append, List.length_append, List.length_replicate]
      unfold capv
      rw [List.length_map, L.cap.len]
  obtain ⟨W, ⟨m0, w0⟩, turn⟩ := G
  have loop : codeAny (model X.prog X.w) X.A (.compLoop (.ListComp elt [⟨target, iter, ifs, 0⟩] scope pos) 0 (.ref it) (.ref D) (compEnvC scope cl C X.env)) (RR (.ref D) C) { s₂ with heap := h₁, toks := s₂.toks + ([] : List (Str × Value)).length } := by
    refine compLoop_any (fun n s' => ∃ i ys its ow H', Inv (X.blk (own ++ caps) { s₂ with heap := G2 } H1 scope cl C (D :: fp)) [(D, LCg.lst its)] (ow ++ capv σ js) H' s' ∧ ow.length = own.length ∧ tn i s'.heap ∧ (∀ b ∈ fp, H' b = none) ∧ Vals ys its ∧ ys.length ≤ sizeLine ∧ W i n ys H') ?_ m0
      ⟨0, [], [], List.replicate own.length none, H1, start, List.length_replicate, T.keep _ _ _ st2 fun b _ o e => up3 _ _ (up2 _ _ e), fun b hb => (f2 b hb).1, .nil, Nat.zero_le _, w0⟩
    rintro n s' ⟨i, ys, its, ow, H', I', hlo, st, fr, hv, hz, wv⟩
    have fpok : ∀ {H'' : Hp}, (∀ b ∈ fp, H'' b = none) → ∀ b ∈ fp, FpOk (X.blk (own ++ caps) { s₂ with heap := G2 } H1 scope cl C (D :: fp)) [(D, LCg.lst its)] H'' b := fun hn b hb => by
      obtain ⟨_, e1, e2, e3, e4, e5⟩ := f2 b hb
      refine ⟨hn b hb, Nat.ne_of_lt (Nat.lt_trans (fpl b hb) hDltC), fpF b hb, .inl (List.mem_cons_of_mem _ hb), fun x c e => e4 x c (L.allc.get e), fun p hp => ?_⟩
      have e : p = (D, LCg.lst its) := by simpa using hp
      subst e
      exact Nat.ne_of_gt (fpl b hb)
    rcases turn i n ys H' wv with ⟨stop, fin⟩ | ⟨go, hlt, N, hN, step⟩
    · refine wpAny_mono (T.done (X.blk (own ++ caps) { s₂ with heap := G2 } H1 scope cl C (D :: fp)) rfl rfl rfl hc i _ s' _ H' (fun _ _ => False) I' (fpok fr) st stop) (fun r s4 ⟨hr, I4⟩ => ?_) fun _ _ f => f
      subst hr
      have pD := I4.pin (D, LCg.lst its) (by simp)
      have hch : ∀ b ∈ D :: fp, (b ∈ X.ex ∨ X.s₀.heap.objs.size ≤ b) ∧ b ≠ X.env.locals ∧ (∀ x c, X.env.cells.lookup x = some c → c ≠ b) ∧ ∀ p ∈ X.pn ++ pins, p.1 ≠ b := fun b hb => by
        rcases List.mem_cons.mp hb with rfl | hb
        · exact ⟨.inr (hD ▸ I2.sz), Nat.ne_of_gt locl, fun x c e => Nat.ne_of_lt (celllt x c e), fun p hp => Nat.ne_of_lt (hD ▸ Heap.lt_size (I2.pin p hp).1)⟩
        · obtain ⟨_, e1, e2, e3, e4, e5⟩ := f2 b hb
          exact ⟨e3, e1, e4, e5⟩
      have IX : Inv X pins σ H' s4 := I2.call' (ch := D :: fp) I4.os ((Un.kept up2).trans I4.base) I4.hok I4.bare hch
      have cD := hch D List.mem_cons_self
      have IA : Inv X pins σ (upd H' D (.lst ys)) s4 := IX.adopt pD.2.1 (hD ▸ I2.sz) cD.2.1 cD.2.2.1 cD.2.2.2 pD.1 hv hz
      obtain ⟨mm, hmm, _⟩ := I4.loc
      refine hRR D C H' ys s4 pD.2.1 ⟨IA, ⟨mm, hmm⟩, Nat.ne_of_gt (Nat.lt_trans locl hDltC), ?_, fun x c e => Nat.ne_of_lt (Nat.lt_trans (celllt x c e) hDltC), fun p hp => ?_, ?_⟩ fin
      · have := I2.sz
        omega
      · exact Nat.ne_of_lt (Nat.lt_trans (show p.1 < D from hD ▸ Heap.lt_size (I2.pin p hp).1) hDltC)
      · rw [upd_ne (Nat.ne_of_gt hDltC)]; exact I4.free
    · refine wpAny_mono (T.item (X.blk (own ++ caps) { s₂ with heap := G2 } H1 scope cl C (D :: fp)) rfl rfl rfl hc i _ s' _ H' (fun _ _ => False) I' (fpok fr) st go) (fun r s4 ⟨u, hr, h4⟩ => ?_) fun _ _ f => f
      subst hr
      refine wpAny_mono h4 (fun _ s5 ⟨x, H5, I5, r5, y5, st5, fr5⟩ => ?_) fun _ _ f => f
      have I5' := I5.pinned (fpok fr5) (T.obj _ _ st5)
      have keepT : ∀ {σ8 : St} {H8 : Hp} {s8 : Shared}, Inv (X.blk (own ++ caps) { s₂ with heap := G2 } H1 scope cl C (D :: fp)) ([(D, LCg.lst its)] ++ pinsAt fp s5.heap) σ8 H8 s8 → tn (i + 1) s8.heap ∧ ∀ b ∈ fp, H8 b = none := fun {σ8 H8 s8} I8 =>
        ⟨T.keep _ _ _ st5 fun b hb o e => (I8.pin (b, o) (List.mem_append_right _ (List.mem_append_right _ (mem_pinsAt hb e)))).1, fun b hb => by
          obtain ⟨o, e, d⟩ := T.obj _ _ st5 b hb
          exact (I8.pin (b, o) (List.mem_append_right _ (List.mem_append_right _ (mem_pinsAt hb e)))).2.1⟩
      refine wpAny_mono (hg _ _ _ _ _ s5 _ H5 x u _ I5' r5 (step x H5 y5 ow hlo)) (fun _ s6 ⟨σ6, H6, I6, ⟨own2, hl2, e6⟩, q6⟩ => ?_) fun _ _ f => f
      subst e6
      refine wpAny_mono (ht _ _ _ _ _ s6 _ H6 _ I6 q6) (fun b s7 ⟨H7, I7, q7⟩ => ?_) fun _ _ f => f
      cases b with
      | false =>
        rw [if_neg Bool.false_ne_true]
        rw [if_neg Bool.false_ne_true] at q7
        obtain ⟨m', hm, w7⟩ := hN _ _ q7
        obtain ⟨k1, k2⟩ := keepT I7
        exact ⟨m', hm, i + 1, ys, its, own2, H7, I7.unpinned, hl2, k1, k2, hv, hz, w7⟩
      | true =>
        rw [if_pos rfl]
        rw [if_pos rfl] at q7
        refine wpAny_mono (he _ _ _ _ _ s7 _ H7 _ I7 q7) (fun y s8 ⟨vy, H8, I8, r8, n8⟩ => ?_) fun _ _ f => f
        obtain ⟨m', hm, w8⟩ := hN _ _ n8
        obtain ⟨k1, k2⟩ := keepT I8
        have pD := I8.pin (D, LCg.lst its) (by simp)
        have hyl := hv.length
        refine append_at (hsz := by show its.toArray.size ≤ sizeLine; rw [List.size_toArray]; omega) pD.1 fun h9 hs9 hD9 => ?_
        have I9 : Inv (X.blk (own ++ caps) { s₂ with heap := G2 } H1 scope cl C (D :: fp)) [] (own2 ++ capv σ js) H8 { s8 with heap := h9 } := by
          refine (I8.pins_of (pins' := []) fun p hp => nomatch hp).turned (t' := s8.toks) (it := D) (fun b o hb e => (hs9.2 b hb).trans e) pD.2.1 (Nat.ne_of_lt hDltC) (.inl List.mem_cons_self) (fun x c e => Nat.ne_of_lt (celllt x c (L.allc.get e))) fun p hp => ?_
          simp at hp
        refine ⟨m', hm, i + 1, ys ++ [vy], its ++ [y], own2, H8, I9.pins_of fun p hp => ?_, hl2, T.keep _ _ _ k1 fun b hb o e => (hs9.2 b (Nat.ne_of_lt (fpl b hb))).trans e, k2, hv.append (.cons r8 .nil), ?_, w8⟩
        · have e : p = (D, LCg.lst (its ++ [y])) := by simpa using hp
          subst e
          exact ⟨hD9.trans (congrArg some (LCg.lst_snoc its y)), pD.2.1, Nat.ne_of_lt hDltC, fun z => absurd (noF D z) (Nat.lt_irrefl _), fun v z => by cases z⟩
        · rw [List.length_append, List.length_singleton]; omega
  exact codeAny_compStart_list loop (T.self _ _ _ _ _ (T.keep _ _ _ st2 fun b _ o e => up3 _ _ (up2 _ _ e)) loop)

def tLCg (wi : TI) (g : TG) (tc : TT) (te : TE) (n : Nat) (js : List Nat) : TE := fun σ H Q => wi σ H fun J H1 => gLC J g tc te n (capv σ js) (fun ys H => ∀ p, H p = none → Q (.ref p) (upd H p (.lst ys))) H1
variable {wi : TI}
theorem pe_lcg (hc : X.calm = true) (L : LcOk X scope cl own caps js) (hi : PI X target iter wi)
    (hg : ∀ s H C ex, PG (X.blk (own ++ caps) s H scope cl C ex) target g) (ht : ∀ s H C ex, PTs (X.blk (own ++ caps) s H scope cl C ex) ifs tc) (he : ∀ s H C ex, PE (X.blk (own ++ caps) s H scope cl C ex) elt te)
    (hs : ∀ x, foldedSetIterable iter X.env x = pure x := by intro _; rfl) : PE X (.ListComp elt [⟨target, iter, ifs, 0⟩] scope pos) (tLCg wi g tc te own.length js) := by
  intro pins s σ H Q I h
  rw [eval_ListComp]
  refine wpAny_comprehension_free (use := none) rfl hs L.clos L.kind L.names (thn (hi pins s σ H _ I h) fun v s1 h1 => thn h1 fun itv s2 h2 => ?_)
  obtain ⟨it, fp, tn, J, H2, e, I2, T, st2, f2, G⟩ := h2
  subst e
  refine lc_block hc L hg ht he I2 T st2 f2 G ?_
  intro D C H3 ys s' hD O fin
  obtain ⟨m, hn⟩ := O.ns
  exact ⟨m, hn, fun h' sb => ⟨.ref D, _, O.gone sb, rfl, fin D hD⟩⟩
theorem ps_lcg {k : Nat} {y : Str} {py spos : Pos} (hc : X.calm = true) (L : LcOk X scope cl own caps js) (hi : PI X target iter wi)
    (hg : ∀ s H C ex, PG (X.blk (own ++ caps) s H scope cl C ex) target g) (ht : ∀ s H C ex, PTs (X.blk (own ++ caps) s H scope cl C ex) ifs tc) (he : ∀ s H C ex, PE (X.blk (own ++ caps) s H scope cl C ex) elt te)
    (hN : X.N.Nodup) (hk : X.N[k]? = some y) (hy : X.env.scope.names.lookup y = some .local)
    (hsw : swapsWith (.ListComp elt [⟨target, iter, ifs, 0⟩] scope pos) (some (.Name y py)) spos.line X.env = pure true := by rfl)
    (hs : ∀ x, foldedSetIterable iter X.env x = pure x := by intro _; rfl) : PS X (.Assign [.Name y py] (.ListComp elt [⟨target, iter, ifs, 0⟩] scope pos) spos) (tAsg (tLCg wi g tc te own.length js) (gName k)) := by
  intro pins s σ H De I h
  rw [exec_Assign_Name_used _ _ _ _ hsw]
  refine wpAny_bind (wpAny_standAt (wpAny_bind ?_))
  show wpAny _ _ (do let _ ← comprehension (.ListComp elt [⟨target, iter, ifs, 0⟩] scope pos) scope X.env _ (newList []) false (eval iter X.env) (some (assign (.Name y py) X.env))) _ _ s
  refine wpAny_bind (wpAny_mono (wpAny_comprehension_free (use := some (assign (.Name y py) X.env)) (Q := fun _ s' => SP X pins De .next s') rfl hs L.clos L.kind L.names
    (thn (hi pins s σ H _ I h) fun v s1 h1 => thn h1 fun itv s2 h2 => ?_)) (fun _ s' hq => wpAny_pure (wpAny_pure hq)) fun _ _ e => e)
  obtain ⟨it, fp, tn, J, H2, e, I2, T, st2, f2, G⟩ := h2
  subst e
  refine lc_block hc L hg ht he I2 T st2 f2 G ?_
  intro D C H3 ys s' hD O fin
  show wpAny _ _ (assign (.Name y py) X.env (.ref D)) _ _ _
  refine wpAny_assign_Name (store_ok2 O.inv hN hk (.inl hy) (show RelV (.ref D) (.ref D) from rfl) (fun s'' I'' sb => ?_) (.inr hy))
  obtain ⟨a, hsb, ha⟩ := sb
  have hne : C ≠ a := by
    rcases ha with rfl | ha
    · exact O.nL
    · exact Ne.symm (O.nc _ _ ha)
  obtain ⟨m, hn⟩ := O.ns
  refine ⟨m, hn.sameBut hsb hne, fun h' sb' => ⟨_, _, ?_, fin D hD⟩⟩
  exact I''.turned (t' := s''.toks) (it := C) (fun b o hb e => (sb'.2 b hb).trans e) O.free O.nL (.inr O.new) O.nc O.np
end
end L2

namespace L2
open PySem PySem.Spec PyProof.Rows

section
variable {X : Cx} {elt iter : Expr} {ifs : List Expr} {scope : Scope} {cl : List (Str × Addr)} {pos : Pos} {caps : List Str} {js : List Nat} {tc : TT} {te : TE} {wi : TI} {x : Str} {px : Pos}
theorem gLC1 {J : It} {cv : St} {Fin : List V → Hp → Prop} {H1 : Hp} (h : ∃ W : Nat → Nat → List V → Hp → Prop, (∃ m, W 0 m [] H1) ∧ ∀ i m ys H, W i m ys H →
    (J.stop i H ∧ Fin ys H) ∨
    (J.go i H ∧ ys.length < sizeLine ∧ ∃ N : List V → Hp → Prop, (∀ ys' H', N ys' H' → ∃ m', m' < m ∧ W (i + 1) m' ys' H') ∧ ∀ x H', J.yld i H x H' →
      tc (some x :: cv) H' fun b H3 => if b = true then te (some x :: cv) H3 fun y H4 => N (ys ++ [y]) H4 else N ys H3)) : gLC J (gName 0) tc te 1 cv Fin H1 := by
  obtain ⟨W, w0, turn⟩ := h
  refine ⟨W, w0, fun i m ys H w => ?_⟩
  rcases turn i m ys H w with ⟨a, b⟩ | ⟨a, b, N, hN, c⟩
  · exact .inl ⟨a, b⟩
  · refine .inr ⟨a, b, N, hN, fun v H' y own ho => ?_⟩
    match own, ho with
    | [τ], _ => exact ⟨⟨[some v], rfl, rfl⟩, c v H' y⟩
def tLC (wi : TI) (tc : TT) (te : TE) (js : List Nat) : TE := tLCg wi (gName 0) tc te 1 js
theorem pe_lc (hc : X.calm = true) (L : LcOk X scope cl [x] caps js) (hi : PI X (.Name x px) iter wi)
    (ht : ∀ s H C ex, PTs (X.blk (x :: caps) s H scope cl C ex) ifs tc) (he : ∀ s H C ex, PE (X.blk (x :: caps) s H scope cl C ex) elt te)
    (hN : (x :: caps).Nodup := by decide +kernel) (hx : (relabel scope X.env).names.lookup x = some .local := by with_unfolding_all rfl)
    (hs : ∀ x, foldedSetIterable iter X.env x = pure x := by intro _; rfl) : PE X (.ListComp elt [⟨.Name x px, iter, ifs, 0⟩] scope pos) (tLC wi tc te js) :=
  pe_lcg (own := [x]) (g := gName 0) hc L hi (fun s H C ex => pg_name (i := 0) hN rfl (.inl hx) (.inr hx)) ht he hs
theorem ps_lc {k : Nat} {y : Str} {py spos : Pos} (hc : X.calm = true) (L : LcOk X scope cl [x] caps js) (hi : PI X (.Name x px) iter wi)
    (ht : ∀ s H C ex, PTs (X.blk (x :: caps) s H scope cl C ex) ifs tc) (he : ∀ s H C ex, PE (X.blk (x :: caps) s H scope cl C ex) elt te)
    (hXN : X.N.Nodup) (hk : X.N[k]? = some y) (hy : X.env.scope.names.lookup y = some .local) (hN : (x :: caps).Nodup := by decide +kernel) (hx : (relabel scope X.env).names.lookup x = some .local := by with_unfolding_all rfl)
    (hsw : swapsWith (.ListComp elt [⟨.Name x px, iter, ifs, 0⟩] scope pos) (some (.Name y py)) spos.line X.env = pure true := by rfl)
    (hs : ∀ x, foldedSetIterable iter X.env x = pure x := by intro _; rfl) : PS X (.Assign [.Name y py] (.ListComp elt [⟨.Name x px, iter, ifs, 0⟩] scope pos) spos) (tAsg (tLC wi tc te js) (gName k)) :=
  ps_lcg (own := [x]) (g := gName 0) hc L hi (fun s H C ex => pg_name (i := 0) hN rfl (.inl hx) (.inr hx)) ht he hXN hk hy hsw hs
theorem lc_list {K : PySem.W.Frag} {a : Addr} {xs : List V} {cv : St} {Fin : List V → Hp → Prop} {H1 : Hp} (Pv : Nat → List V → Hp → Prop) (h0 : Pv 0 [] H1) (hl : ∀ i ys H, i ≤ xs.length → Pv i ys H → SqL K H a xs) (hz : ∀ i ys H, i < xs.length → Pv i ys H → ys.length < sizeLine)
    (hs : ∀ i x ys H, xs[i]? = some x → Pv i ys H → tc (some x :: cv) H fun b H3 => if b = true then te (some x :: cv) H3 fun y H4 => Pv (i + 1) (ys ++ [y]) H4 else Pv (i + 1) ys H3)
    (hd : ∀ ys H, Pv xs.length ys H → Fin ys H) : gLC (Itl K a) (gName 0) tc te 1 cv Fin H1 := by
  refine gLC1 ⟨fun i m ys H => m = xs.length - i ∧ i ≤ xs.length ∧ Pv i ys H, ⟨xs.length, by simp, Nat.zero_le _, h0⟩, ?_⟩
  rintro i m ys H ⟨rfl, hi, p⟩
  have q := hl i ys H hi p
  by_cases hlt : i < xs.length
  · refine .inr ⟨⟨xs, xs[i], q, by simp [hlt]⟩, hz i ys H hlt p, Pv (i + 1), fun ys' H' p' => ⟨xs.length - (i + 1), by omega, rfl, hlt, p'⟩, fun v H' y => ?_⟩
    obtain ⟨e, y⟩ := y
    subst e
    exact hs i v ys _ (y xs q) p
  · have e : i = xs.length := by omega
    subst e
    exact .inl ⟨⟨xs, q, Nat.le_refl _⟩, hd ys H p⟩
theorem lc_range {lo : Int} {n : Nat} {cv : St} {Fin : List V → Hp → Prop} {H1 : Hp} (Pv : Nat → List V → Hp → Prop) (h0 : Pv 0 [] H1) (hz : ∀ i ys H, i < n → Pv i ys H → ys.length < sizeLine)
    (hs : ∀ i ys H, i < n → Pv i ys H → tc (some (.int (lo + i)) :: cv) H fun b H3 => if b = true then te (some (.int (lo + i)) :: cv) H3 fun y H4 => Pv (i + 1) (ys ++ [y]) H4 else Pv (i + 1) ys H3)
    (hd : ∀ ys H, Pv n ys H → Fin ys H) : gLC (Itr lo n) (gName 0) tc te 1 cv Fin H1 := by
  refine gLC1 ⟨fun i m ys H => m = n - i ∧ i ≤ n ∧ Pv i ys H, ⟨n, by simp, Nat.zero_le _, h0⟩, ?_⟩
  rintro i m ys H ⟨rfl, hi, p⟩
  by_cases hlt : i < n
  · refine .inr ⟨hlt, hz i ys H hlt p, Pv (i + 1), fun ys' H' p' => ⟨n - (i + 1), by omega, rfl, hlt, p'⟩, fun v H' y => ?_⟩
    obtain ⟨e, y⟩ := y
    subst e y
    exact hs i ys _ hlt p
  · have e : i = n := by omega
    subst e
    exact .inl ⟨Nat.le_refl _, hd ys H p⟩
end

theorem yes_go {A B : Hp → Prop} {σ : St} {H : Hp} (h : A H) : tYes σ H (fun b H3 => if b = true then A H3 else B H3) := by
  show if true = true then A H else B H
  rw [if_pos rfl]
  exact h
section
variable {X : Cx} {tg : Expr}
end
section
variable {X : Cx}
end
end L2

namespace Tl
open PySem PySem.Builtin PySem.Builtin.Str L2

abbrev tx (l : List Nat) : Str := ⟨l.toArray⟩
theorem tx_inj {a b : List Nat} (h : tx a = tx b) : a = b := by
  have e : a.toArray = b.toArray := congrArg Str.cps h
  have e2 := congrArg Array.toList e
  simpa using e2
def cutL {α : Type} (l : List α) (lo hi : Option Int) : List α := (l.drop (HT.sIx l.length 0 lo)).take (HT.sIx l.length l.length hi - HT.sIx l.length 0 lo)
theorem clip_eq (n d : Nat) (i : Int) : max 0 (min (if i < 0 then i + (n : Int) else i) (n : Int)) = ((HT.sIx n d (some i) : Nat) : Int) := by
  show _ = (((if i < 0 then (i + (n : Int)).toNat else min i.toNat n) : Nat) : Int)
  by_cases h : i < 0
  · rw [if_pos h, if_pos h]; omega
  · rw [if_neg h, if_neg h]; omega
theorem cut_to {α : Type} (l : List α) (j : Nat) : cutL l none (some (j : Int)) = l.take j := by
  unfold cutL
  rw [HT.sIx_none, HT.sIx_nat, List.drop_zero, Nat.sub_zero]
  by_cases h : j ≤ l.length
  · rw [Nat.min_eq_left h]
  · rw [Nat.min_eq_right (by omega), List.take_of_length_le (Nat.le_refl _), List.take_of_length_le (by omega)]
end Tl

namespace L2
open PySem PySem.Spec PyProof.Rows

def isiV (K : PySem.W.Frag) (T : String) (x : V) (H : Hp) (b : Bool) : Prop := match x with
  | .non => b = false
  | .bl _ => b = (T == "bool" || T == "int")
  | .int _ => b = (T == "int")
  | .str _ => b = (T == "str")
  | .ref p => ((∃ xs, SqL K H p xs) ∧ b = (T == "list")) ∨ ((∃ xs, SqT K H p xs) ∧ b = (T == "tuple"))
  | _ => False
section
variable {X : Cx}
theorem call_isi : CallR X (.builtin "isinstance") (fun xs H Q => ∃ x T b, xs = [x, .ty T] ∧ (T = "bool" ∨ T = "int" ∨ T = "str" ∨ T = "tuple" ∨ T = "list") ∧ isiV X.K T x H b ∧ Q (.bl b) H) := by
  intro pins s σ H xs us Q I r h
  obtain ⟨x, T, b, rfl, hT, hv, q⟩ := h
  obtain ⟨u, w', rfl, r1, r2⟩ := vals2 r
  cases r2
  have no : b = false → EP X pins σ Q (.bool false) { s with toks := s.toks + 1 } := fun e => ⟨.bl false, H, I.tok _, rfl, e ▸ q⟩
  have yes : b = true → EP X pins σ Q (.bool true) s := fun e => ⟨.bl true, H, I, rfl, e ▸ q⟩
  cases x with
  | non =>
    cases r1
    have hv' : b = false := hv
    rcases hT with rfl | rfl | rfl | rfl | rfl
    · exact IsiPair.NoneType_bool (no hv')
    · exact IsiPair.NoneType_int (no hv')
    · exact IsiPair.NoneType_str (no hv')
    · exact IsiPair.NoneType_tuple (no hv')
    · exact IsiPair.NoneType_list (no hv')
  | bl c =>
    cases r1
    rcases hT with rfl | rfl | rfl | rfl | rfl
    · exact IsiPair.bool_bool (yes (hv.trans (by decide)))
    · exact IsiPair.bool_int (yes (hv.trans (by decide)))
    · exact IsiPair.bool_str (no (hv.trans (by decide)))
    · exact IsiPair.bool_tuple (no (hv.trans (by decide)))
    · exact IsiPair.bool_list (no (hv.trans (by decide)))
  | int c =>
    obtain ⟨t, rfl⟩ := r1
    rcases hT with rfl | rfl | rfl | rfl | rfl
    · exact IsiPair.int_bool (no (hv.trans (by decide)))
    · exact IsiPair.int_int (yes (hv.trans (by decide)))
    · exact IsiPair.int_str (no (hv.trans (by decide)))
    · exact IsiPair.int_tuple (no (hv.trans (by decide)))
    · exact IsiPair.int_list (no (hv.trans (by decide)))
  | str c =>
    obtain ⟨t, rfl⟩ := r1
    rcases hT with rfl | rfl | rfl | rfl | rfl
    · exact IsiPair.str_bool (no (hv.trans (by decide)))
    · exact IsiPair.str_int (no (hv.trans (by decide)))
    · exact IsiPair.str_str (yes (hv.trans (by decide)))
    · exact IsiPair.str_tuple (no (hv.trans (by decide)))
    · exact IsiPair.str_list (no (hv.trans (by decide)))
  | ref p =>
    cases r1
    rcases hv with ⟨⟨xs, hq⟩, hb⟩ | ⟨⟨xs, hq⟩, hb⟩
    · obtain ⟨its, _, p', _⟩ := I.list hq
      obtain ⟨o, n, e, c, _⟩ := p'
      rcases hT with rfl | rfl | rfl | rfl | rfl
      · exact IsiPair.list_bool e c (no (hb.trans (by decide)))
      · exact IsiPair.list_int e c (no (hb.trans (by decide)))
      · exact IsiPair.list_str e c (no (hb.trans (by decide)))
      · exact IsiPair.list_tuple e c (no (hb.trans (by decide)))
      · exact IsiPair.list_list e c (yes (hb.trans (by decide)))
    · obtain ⟨its, _, p', _⟩ := I.tuple hq
      obtain ⟨o, e, c, _⟩ := p'
      rcases hT with rfl | rfl | rfl | rfl | rfl
      · exact IsiPair.tuple_bool e c (no (hb.trans (by decide)))
      · exact IsiPair.tuple_int e c (no (hb.trans (by decide)))
      · exact IsiPair.tuple_str e c (no (hb.trans (by decide)))
      · exact IsiPair.tuple_tuple e c (yes (hb.trans (by decide)))
      · exact IsiPair.tuple_list e c (no (hb.trans (by decide)))
  | byt c => exact hv.elim
  | flt c => exact hv.elim
  | ty c => exact hv.elim
end

section
variable {X : Cx}
theorem op_catS : OpR X (binaryOp .Add) (fun x y H Q => ∃ l b xs zs, x = .ref l ∧ y = .ref b ∧ SqL X.K H l xs ∧ SqL X.K H b zs ∧ xs.length + zs.length ≤ sizeLine ∧ ∀ p, H p = none → Q (.ref p) (upd H p (.lst (xs ++ zs)))) := by
  intro pins s σ H x y v u Q I rx ry h
  obtain ⟨l, b, xs, zs, rfl, rfl, hH, hB, hz, q⟩ := h
  cases rx
  cases ry
  obtain ⟨its, r, p1, z⟩ := I.list hH
  obtain ⟨its2, r2, p2, z2⟩ := I.list hB
  obtain ⟨⟨cls, dd, data, sl⟩, n, e, c, d, k⟩ := p1
  obtain ⟨⟨cls2, dd2, data2, sl2⟩, n2, e2, c2, d2, k2⟩ := p2
  simp only at c d k c2 d2 k2
  subst c d k c2 d2 k2
  have hl := r.length
  have hl2 := r2.length
  refine concat_meets ⟨_, e, rfl⟩ ⟨_, e2, rfl⟩ noFill_list_add seq_list_add PySem.F.slot_list_add PySem.F.entry_list_add (PySem.F.args_list_add_2 _ _) (list_addW l b its.toArray its2.toArray n n2 none none sl sl2 (by rw [List.size_toArray, List.size_toArray]; omega)) ⟨e, e2, ?_⟩
  have ea : its.toArray ++ its2.toArray = (its ++ its2).toArray := by simp
  rw [ea]
  exact ⟨.ref _, _, I.lnew (t' := s.toks) (r.append r2) (by rw [List.length_append]; omega), rfl, q _ I.fresh⟩
end
structure DefOk (K : PySem.W.Frag) (mg : Str → Option Value) (x : Str) (st : Stmt) (ps : List Str) (f : Addr) (fd : FuncData) : Prop where
  fn : Fun K x x st f fd
  bd : Binds K fd ps []
  mg : mg x = some (.ref f)
  ba : ∀ us : List Value, us.length = ps.length → bindArgs fd ⟨us, []⟩ = pure (ps.zip us)
section
variable {X : Cx} {x : Str} {st : Stmt} {ps : List Str} {f : Addr} {fd : FuncData} {k : Nat} {sp : Sp} {e : Expr} {es : List Expr} {t : TA} {p pos : Pos}
theorem pe_callD (D : DefOk X.K X.mg x st ps f fd) (G : FnOk X.prog X.w X.K X.mg X.base CX0 k f fd ps sp) (hr : Room k X.A) (hg : Gl X x) (ha : PA X (e :: es) t) (hd : (x == ("__debug__" : Str)) = false := by decide)
    (he : starEach (e :: es) X.env = (false, eval e X.env) :: starEach es X.env := by rfl) (hpl : (backTo pos (starEach es X.env)).any (·.1) = false := by rfl) : PE X (.Call (.Name x p) (e :: es) [] pos) (tCall sp [] E0 t) := pe_call G hr hg D.mg D.fn.kp D.bd .nil pass0 ha hd he hpl
theorem defok_mk {K : PySem.W.Frag} {h : Heap} {mg : Str → Option Value} (KX : K.In h) (G : h.Ns mainGlobals mg) {od an : Option Addr} {sl : Array (Option Value)} {oc kV dc pm cd ct : Value} (a : PySem.W.nsIn K mainGlobals x = some (some (.ref f)))
    (l : K.lookup f = some ⟨oc, od, .func (PySem.W.fnOf x x (defArgs st) (defBody st) (defScope st) .none kV dc pm an cd ct), sl⟩) (c : PySem.W.codeIn K cd x = true) (k : PySem.W.keepIn K (.ref f) = true)
    (b : ∀ (kV doc pm : Value) (an : Option Addr) (cdv ct : Value) (us : List Value), us.length = ps.length → bindArgs (PySem.W.fnOf x x (defArgs st) (defBody st) (defScope st) .none kV doc pm an cdv ct) ⟨us, []⟩ = pure (ps.zip us)) :
    DefOk K mg x st ps f (PySem.W.fnOf x x (defArgs st) (defBody st) (defScope st) .none kV dc pm an cd ct) :=
  ⟨fun_mk l c k, (fun_mk l c k).binds b, PySem.W.mg_of KX G a, fun us hl => b _ _ _ _ _ _ us hl⟩
end
end L2

namespace L2
open PySem PySem.Spec PyProof.Rows

theorem cut_seq {t u : TS} {D : Ends} {σ : St} {H : Hp} (Mid : St → Hp → Prop) (h2 : ∀ σ' H', Mid σ' H' → u D σ' H') (h1 : (∀ σ' H', Mid σ' H' → u D σ' H') → t { D with nx := u D } σ H) : tSeq t u D σ H := h1 h2

def eqVs : List V → List V → Bool
  | [], [] => true
  | a :: r, b :: s => eqV a b && eqVs r s
  | _, _ => false
theorem eqVs_len : ∀ {xs ys : List V}, xs.length ≠ ys.length → eqVs xs ys = false
  | [], [], h => absurd rfl h
  | [], _ :: _, _ => rfl
  | _ :: _, [], _ => rfl
  | a :: r, b :: s, h => by
    show (eqV a b && eqVs r s) = false
    rw [eqVs_len (xs := r) (ys := s) (fun e => h (by rw [List.length_cons, List.length_cons, e])), Bool.and_false]
theorem eqVs_range : ∀ {xs ys : List V}, xs.length = ys.length → (List.range xs.length).all (fun j => eqV ((xs[j]?).getD .non) ((ys[j]?).getD .non)) = eqVs xs ys
  | [], [], _ => rfl
  | [], _ :: _, h => by simp at h
  | _ :: _, [], h => by simp at h
  | a :: r, b :: s, h => by
    have ih := eqVs_range (xs := r) (ys := s) (by simpa using h)
    rw [List.length_cons, List.range_succ_eq_map, List.all_cons, List.all_map]
    show (eqV a b && _) = (eqV a b && eqVs r s)
    rw [← ih]
    rfl
theorem eqV_refl : ∀ {x : V}, flatV x = true → eqV x x = true := by
  intro x f
  cases x with
  | non => rfl
  | bl b => show (b == b) = true; simp
  | int i => show (i == i) = true; simp
  | str s => show (s == s) = true; simp
  | _ => exact absurd (show false = true from f) Bool.false_ne_true
theorem eqVs_refl : ∀ {xs : List V}, xs.all flatV = true → eqVs xs xs = true
  | [], _ => rfl
  | a :: r, h => by
    rw [List.all_cons, Bool.and_eq_true] at h
    show (eqV a a && eqVs r r) = true
    rw [eqV_refl h.1, eqVs_refl h.2]
    rfl
section
variable {X : Cx}
theorem flat_get {xs : List V} (f : xs.all flatV = true) {j : Nat} {x : V} (h : xs[j]? = some x) : flatV x = true := List.all_eq_true.mp f x (List.mem_of_getElem? h)
theorem items_eq {A : Around} {s : Shared} {xs ys : List V} {its its2 : List Value} (r : Vals xs its) (r2 : Vals ys its2) (fx : xs.all flatV = true) (fy : ys.all flatV = true) (j : Nat) (h1 : j < its.toArray.size) (h2 : j < its2.toArray.size) :
    SeqAt.EqAt A s its.toArray[j] its2.toArray[j] (eqV ((xs[j]?).getD .non) ((ys[j]?).getD .non)) := by
  have l1 := r.length
  have l2 := r2.length
  have h1' : j < its.length := by simpa using h1
  have h2' : j < its2.length := by simpa using h2
  have e1 : xs[j]? = some xs[j] := List.getElem?_eq_getElem (by omega)
  have e2 : ys[j]? = some ys[j] := List.getElem?_eq_getElem (by omega)
  obtain ⟨u, hu, ru⟩ := r.get e1
  obtain ⟨v, hv, rv⟩ := r2.get e2
  have eu : its.toArray[j] = u := by
    have : its[j]? = some its[j] := List.getElem?_eq_getElem h1'
    rw [hu] at this
    simpa using this.symm
  have ev : its2.toArray[j] = v := by
    have : its2[j]? = some its2[j] := List.getElem?_eq_getElem h2'
    rw [hv] at this
    simpa using this.symm
  rw [eu, ev, e1, e2]
  exact eqAt_V ru rv (flat_get fx e1) (flat_get fy e2)
theorem call_all (hc : X.calm = true) : CallR X (.builtin "all") (fun xs H Q => ∃ (l : Addr) (bs : List Bool), xs = [.ref l] ∧ SqL X.K H l (bs.map V.bl) ∧ Q (.bl (bs.all id)) H) := by
  intro pins s σ H xs us Q I r h
  obtain ⟨l, bs, rfl, hl, q⟩ := h
  obtain ⟨u, rfl, ru⟩ := vals1 r
  cases ru
  obtain ⟨its, rv, p, z⟩ := I.list hl
  have hlt : l < s.heap.objs.size := by obtain ⟨_, _, e, _⟩ := p; exact Heap.lt_size e
  have len := rv.length
  refine call_all_walk (wpAny_pyIter_list p.isList ?_)
  refine ⟨s.heap.objs.size, [s.heap.objs.size, l], [s.heap.objs.size], its.toArray.size, _, _, fun i => (bs[i]?).getD true, rfl, Walks.list (A := X.A.in1) (I.ok.hd hc) _ l (Nat.ne_of_lt hlt) its.toArray,
    ⟨⟨_, Heap.get?_push_size _ rfl, rfl, rfl⟩, p.isList.push _⟩, fun i v s' Q' E' hP hQ => ?_, fun h' tk hk => ?_⟩
  · have hi : its[i]? = some v := by simpa using hP
    have hlt2 : i < bs.length := by
      have := (List.getElem?_eq_some_iff.mp hi).1
      rw [List.length_map] at len
      omega
    have eb : (bs.map V.bl)[i]? = some (V.bl bs[i]) := by rw [List.getElem?_map, List.getElem?_eq_getElem hlt2]; rfl
    obtain ⟨w', hw, rw'⟩ := rv.get eb
    rw [hi] at hw
    cases hw
    cases rw'
    have e2 : (bs[i]?).getD true = bs[i] := by rw [List.getElem?_eq_getElem hlt2]; rfl
    have hQ2 : Q' ((bs[i]?).getD true) s' := hQ
    rw [e2] at hQ2
    exact wpAny_truthy_bool hQ2
  · have e : ((List.range its.toArray.size).all fun i => (bs[i]?).getD true) = bs.all id := by
      have : its.toArray.size = bs.length := by rw [List.length_map] at len; simp; omega
      rw [this]
      exact LSm.range_all bs
    rw [e]
    exact ⟨.bl _, H, I.kept fun b x e => hk b x (fun hm => by rw [List.mem_singleton.mp hm] at e; exact Nat.lt_irrefl _ (Heap.lt_size e)) (Heap.get?_push_of_some _ e), rfl, q⟩

end

inductive DD where
  | bl (b : Bool)
  | int (i : Int)
  | str (s : Str)
  | tup (l : List DD)
  | lst (l : List DD)
mutual
def Rep (K : PySem.W.Frag) (H : Hp) : DD → V → Prop
  | .bl b, v => v = .bl b
  | .int i, v => v = .int i
  | .str s, v => v = .str s
  | .tup l, v => ∃ a xs, v = .ref a ∧ SqT K H a xs ∧ l.length ≤ 1000 ∧ Reps K H l xs
  | .lst l, v => ∃ a xs, v = .ref a ∧ SqL K H a xs ∧ l.length ≤ 1000 ∧ Reps K H l xs
def Reps (K : PySem.W.Frag) (H : Hp) : List DD → List V → Prop
  | [], xs => xs = []
  | d :: l, xs => ∃ x r, xs = x :: r ∧ Rep K H d x ∧ Reps K H l r
end
theorem Reps.len {K : PySem.W.Frag} {H : Hp} : ∀ {l : List DD} {xs : List V}, Reps K H l xs → xs.length = l.length
  | [], xs, h => by
    unfold Reps at h
    rw [h]; rfl
  | d :: l, xs, h => by
    unfold Reps at h
    obtain ⟨x, r, rfl, _, h⟩ := h
    rw [List.length_cons, List.length_cons, h.len]
theorem Reps.get {K : PySem.W.Frag} {H : Hp} : ∀ {l : List DD} {xs : List V} {i : Nat} {d : DD}, Reps K H l xs → l[i]? = some d → ∃ x, xs[i]? = some x ∧ Rep K H d x
  | [], _, _, _, _, e => by simp at e
  | d :: l, xs, 0, d', h, e => by
    unfold Reps at h
    obtain ⟨x, r, rfl, hx, h⟩ := h
    have : d = d' := by simpa using e
    subst this
    exact ⟨x, rfl, hx⟩
  | d :: l, xs, i + 1, d', h, e => by
    unfold Reps at h
    obtain ⟨x, r, rfl, hx, h⟩ := h
    obtain ⟨y, ey, hy⟩ := h.get (i := i) (by simpa using e)
    exact ⟨y, by simpa using ey, hy⟩
theorem Reps.strs {K : PySem.W.Frag} {H : Hp} : ∀ (l : List Str), Reps K H (l.map DD.str) (l.map V.str)
  | [] => by unfold Reps; rfl
  | s :: r => by
    show Reps K H (DD.str s :: r.map DD.str) (V.str s :: r.map V.str)
    unfold Reps
    exact ⟨_, _, rfl, by unfold Rep; rfl, Reps.strs r⟩
end L2

namespace L2
open PySem PySem.Spec PyProof.Rows

section
variable {X : Cx} {o i : Expr} {pos : Pos} {td ty : TE}
end
end L2

set_option maxHeartbeats 4000000
namespace L2
open PySem PySem.Spec PyProof.Rows

def CXe (P : Program) (w : World) : CXT := fun outer H s E e s' =>
  ∃ (x C : Addr) (H' : Hp) (B : Heap) (a0 : Value), e = .ref x ∧ s'.os = s.os ∧ AllBare s'.gens ∧ Un (frs outer) [] H H' s.heap s'.heap ∧ HOk P w H' B ∧
    (∀ b o, s.heap.get? b = some o → H b = none → b ∉ frs outer → B.get? b = some o) ∧ (∀ b o, s.heap.get? b = some o → b ∉ frs outer → ∃ o', B.get? b = some o') ∧
    Heap.FlyingW B outer x (.ref C) a0 s'.heap ∧ E (.ref C) none H'
def Wish (X : Cx) (E : XK) : Prop := ∀ (pins : List (Addr × Obj)) (σ : St) (H : Hp) (s : Shared) (x C : Addr) (vs : List Value) (h' : Heap), Inv X pins σ H s → Heap.MadeExcOf s.heap h' x (.ref C) vs → E (.ref C) none H → X.xe (.ref x) { s with heap := h' }
theorem mem_frs {env : Env} {l : List Env} {b L : Addr} (hf : env.frame = some L) (h : b ∈ frs (env :: l)) : b = L ∨ b ∈ frs l := by
  unfold frs at h
  rw [List.filterMap_cons, hf] at h
  exact List.mem_cons.mp h
theorem frs_all (l : List Env) : ∀ env ∈ l, ∀ a, env.frame = some a → a ∈ frs l := fun env he a hf => List.mem_filterMap.mpr ⟨env, he, hf⟩
section
variable {P : Program} {w : World} {K : PySem.W.Frag} {mg : Str → Option Value} {base : Heap} {N : List Str} {qual : Str} {scope : Scope} {f : Addr} {cd : Value} {A : Around} {outer : List Env} {s : Shared} {H : Hp} {E : XK}
theorem wish_cx : Wish (cxOf (CXe P w) P w K mg base N qual scope f cd A outer s H E) E := by
  intro pins σ H1 s1 x C vs h' I hx ee
  have hfr : (envOfC qual scope s.heap.objs.size f cd).frame = some (envOfC qual scope s.heap.objs.size f cd).locals := rfl
  have hst := I.stack
  have hfree := I.stkFree
  have hsub := I.stkSub
  show wpAny (model P w) (A.deeper (envOfC qual scope s.heap.objs.size f cd)) (leaving (envOfC qual scope s.heap.objs.size f cd) (.ref x)) (fun _ s'' => CXe P w outer H s E (.ref x) s'') _ _
  have hin := frs_all (envOfC qual scope s.heap.objs.size f cd :: outer)
  have hff : s1.heap.FunFrames (PySem.W.hideAll s1.heap (frs (envOfC qual scope s.heap.objs.size f cd :: outer))) (envOfC qual scope s.heap.objs.size f cd :: outer) := PySem.W.funFrames_hide hst hin
  have notfr : ∀ b, b < s.heap.objs.size → b ∉ frs outer → b ∉ frs (envOfC qual scope s.heap.objs.size f cd :: outer) := fun b hlt hb hm => by
    rcases mem_frs hfr hm with e | hm
    · exact absurd (Nat.lt_of_lt_of_le hlt I.ok.above) (by rw [e]; exact Nat.lt_irrefl _)
    · exact hb hm
  refine wpAny_leaves_madeW (base := PySem.W.hideAll s1.heap (frs (envOfC qual scope s.heap.objs.size f cd :: outer))) (h := s1.heap) I.ok.frames hfr (fun b o q => PySem.W.of_hideAll _ q) hff hx fun h'' t x1 x2 x3 x4 => ?_
  have cov1 : ∀ b o, s.heap.get? b = some o → H b = none → b ∉ frs outer → (PySem.W.hideAll s1.heap (frs (envOfC qual scope s.heap.objs.size f cd :: outer))).get? b = some o := fun b o q n hb =>
    PySem.W.hideAll_get _ (I.base.keep b o q n hb (show b ∉ ([] : List Addr) by simp)) (notfr b (Heap.lt_size q) hb)
  have cov2 : ∀ b o, s.heap.get? b = some o → b ∉ frs outer → ∃ o', (PySem.W.hideAll s1.heap (frs (envOfC qual scope s.heap.objs.size f cd :: outer))).get? b = some o' := fun b o q hb => by
    obtain ⟨o', e⟩ := I.base.there b o q (show b ∉ ([] : List Addr) by simp)
    exact ⟨o', PySem.W.hideAll_get _ e (notfr b (Heap.lt_size q) hb)⟩
  have slot : ∀ b, b ∈ frs outer → ∀ o, s1.heap.get? b = some o → ∃ sl, h''.get? b = some { o with slots := sl } := fun b hb o q => by
    have hm : b ∈ frs (envOfC qual scope s.heap.objs.size f cd :: outer) := by
      unfold frs
      rw [List.filterMap_cons, hfr]
      exact List.mem_cons_of_mem _ hb
    obtain ⟨_, o2, e2, nd⟩ := hff.mem hm
    rw [q] at e2
    cases e2
    exact x4 b o (hx.keeps b o q) nd
  refine ⟨x, C, H1, _, _, rfl, I.os, I.bare, ⟨fun b o q n hb _ => x1.1 b o (cov1 b o q n hb), fun b o q n hb hx' => ?_, I.base.free, fun b o q _ => ?_, I.base.tups, I.base.frzs, I.base.tbls⟩, fun b ob e => ?_, cov1, cov2, x1, ee⟩
  · obtain ⟨sl, e1⟩ := I.base.slot b o q n hb hx'
    obtain ⟨sl2, e2⟩ := slot b hb _ e1
    exact ⟨sl2, e2⟩
  · by_cases hb : b ∈ frs outer
    · obtain ⟨o', e⟩ := I.base.there b o q (show b ∉ ([] : List Addr) by simp)
      obtain ⟨sl2, e2⟩ := slot b hb _ e
      exact ⟨_, e2⟩
    · obtain ⟨o', e⟩ := cov2 b o q hb
      exact ⟨o', x1.1 b o' e⟩
  · refine (I.hok b ob e).stay (fun c v hc q => PySem.W.hideAll_get _ q fun hm => ?_) (fun _ q => q) fun _ _ q => q
    have z := hfree c hm
    rcases hc with rfl | hc
    · rw [e] at z; cases z
    · rw [hc] at z; cases z
end

abbrev veTail : List Value := [.type "ValueError", .type "Exception", .type "BaseException", .type "object"]
structure ExcOk (K : PySem.W.Frag) (mg : Str → Option Value) (c : Str) (C : Addr) : Prop where
  mg : mg c = some (.ref C)
  ex : PySem.W.excIn K C veTail "ValueError.__new__" = true
theorem exc_obj {K : PySem.W.Frag} {h : Heap} {C : Addr} {bmB : List Value} {newId : String} (X : K.In h) (q : PySem.W.excIn K C bmB newId = true) :
    ∃ bm N nm q bs hdct sn sub ab col dd k0 k1 k2 k3 k5 mN, h.get? C = some (excClassObj nm q C N bs bm hdct sn sub ab col dd k0 k1 k2 k3 k5 newId) ∧ h.Ns N mN ∧ mN "__init__" = none ∧ OwnTail h bmB bm := by
  unfold PySem.W.excIn at q
  split at q
  · rename_i dd cd sl ho
    split at q
    · rename_i C' bm k0 k1 k2 k3 n k5 hm hs
      simp only [Bool.and_eq_true, beq_iff_eq, Bool.not_eq_true'] at q
      obtain ⟨⟨⟨⟨⟨rfl, rfl⟩, hdel⟩, ht⟩, hok⟩, hni⟩ := q
      obtain ⟨nm, bs, mro, ns, qn, hd, sn, sub, ab, col, del⟩ := cd
      dsimp only at hm hdel hok hni
      subst hm hdel
      have hsl : sl = #[k0, k1, k2, k3, some (.builtin n), k5] := by
        obtain ⟨l⟩ := sl
        simp only at hs
        rw [hs]
      subst hsl
      exact ⟨bm, ns, nm, qn, bs, hd, sn, sub, ab, col, dd, k0, k1, k2, k3, k5, _, X _ _ ho, .of_isNs (PySem.W.isNs_of_in X hok), PySem.W.nsMap_none_of_in X hok hni, PySem.W.tail_of_in X ht⟩
    · cases q
  · cases q
def tRaise (E : XK) (C : Addr) (t : TA) : TS := fun _ σ H => t σ H fun vs H1 => vs.length ≤ sizeLine ∧ E (.ref C) none H1
section
variable {X : Cx} {E : XK} {c : Str} {C : Addr} {e : Expr} {es : List Expr} {t : TA} {np cpos pos : Pos}
theorem ps_raise (hc : X.calm = true) (hw : Wish X E) (O : ExcOk X.K X.mg c C) (hg : Gl X c) (ha : PA X (e :: es) t) (hd : (c == ("__debug__" : Str)) = false := by decide)
    (he : starEach (e :: es) X.env = (false, eval e X.env) :: starEach es X.env := by rfl) (hpl : (backTo cpos (starEach es X.env)).any (·.1) = false := by rfl) :
    PS X (.Raise (some (.Call (.Name c np) (e :: es) [] cpos)) none pos) (tRaise E C t) := by
  intro pins s σ H D I h
  obtain ⟨bm, N, nm, q, bs, hdct, sn, sub, ab, col, dd, k0, k1, k2, k3, k5, mN, hC, hN, hni, T⟩ := exc_obj I.ok.mod.kin O.ex
  refine wpAny_Raise_call_subU (C := C) (nm := nm) (q := q) (N := N) (bs := bs) (bm := bm) (hdct := hdct) (sn := sn) (sub := sub) (ab := ab) (col := col) (dd := dd) (k0 := k0) (k1 := k1) (k2 := k2) (k3 := k3) (k5 := k5)
    PySem.F.excBase_ValueError (by decide +kernel) PySem.F.excBase_ValueError (mN := mN) (T.hasType PySem.F.excBase_ValueError.hasBase) (I.ok.hd hc) (by rw [he]; show (false || (backTo cpos (starEach es X.env)).any (·.1)) = false; rw [hpl]; rfl) hni
    (ld_glob I hg O.mg ⟨rfl, ?_⟩ hd)
  have ha' := ha cpos pins s σ H _ I h
  rw [he] at ha' ⊢
  refine Calls.evalArgs_plain (wpAny_mono ha' (fun vs s₂ h₂ => ?_) fun _ _ y => y)
  obtain ⟨xs, H1, I1, r, hz, ee⟩ := h₂
  exact ⟨rfl, by rw [← r.length]; exact hz, I1.bk _ _ hC, hN.keeps I1.bk, T.keeps I1.bk, fun h' x hm => hw pins σ H1 s₂ x C _ h' I1 hm ee⟩
end
theorem Fun.okE {P : Program} {w : World} {K : PySem.W.Frag} {mg : Str → Option Value} {base : Heap} {x qual : Str} {st : Stmt} {f : Addr} {fd : FuncData} {N ps : List Str} {k : Nat} {sp : Sp} (F : Fun K x qual st f fd) (S : FnScope N ps (defScope st)) (len : ∀ vs H Q E, sp vs H Q E → vs.length = ps.length)
    (hbody : ∀ (cdv : Value) (A : Around) (outer : List Env) (s : Shared) (H : Hp) (vs : List V) (Q : VK) (E : XK), Room k (A.deeper (envOfC qual (defScope st) s.heap.objs.size f cdv)) → sp vs H Q E →
      ∃ t, PSs (cxOf (CXe P w) P w K mg base N qual (defScope st) f cdv A outer s H E) (defBody st) t ∧ t { nx := fun _ H' => Q .non H', rt := Q } (start N vs) H) : FnOk P w K mg base (CXe P w) (k + 1) f fd ps sp := by
  obtain ⟨oc, od, kV, doc, pm, an, cdv, ct, osl, rfl, lk, hcd⟩ := F.ex
  exact fn_of lk hcd S len fun A outer s H vs Q E hr hsp => hbody cdv A outer s H vs Q E hr hsp
theorem FnOk.calm {P : Program} {w : World} {K : PySem.W.Frag} {mg : Str → Option Value} {base : Heap} {k : Nat} {f : Addr} {fd : FuncData} {ps : List Str} {sp : Sp} (F : FnOk P w K mg base CX0 k f fd ps sp) (CX : CXT) : FnOk P w K mg base CX k f fd ps sp :=
  ⟨F.len, fun A outer s H args us vs Q E hr e0 hb r hs => codeAny_mono (F.run A outer s H args us vs Q E hr e0 hb r hs) fun r s' h => by
    cases r with
    | error e => exact False.elim h
    | ok fl => cases fl <;> exact h⟩
theorem pe_callX {X : Cx} {x : Str} {st : Stmt} {ps : List Str} {f : Addr} {fd : FuncData} {k : Nat} {sp : Sp} {e : Expr} {es : List Expr} {t : TA} {p pos : Pos} {CX : CXT} {E : XK} (hx : Passes CX X E) (D : DefOk X.K X.mg x st ps f fd) (G : FnOk X.prog X.w X.K X.mg X.base CX k f fd ps sp) (hr : Room k X.A) (hg : Gl X x) (ha : PA X (e :: es) t) (hd : (x == ("__debug__" : Str)) = false := by decide)
    (he : starEach (e :: es) X.env = (false, eval e X.env) :: starEach es X.env := by rfl) (hpl : (backTo pos (starEach es X.env)).any (·.1) = false := by rfl) : PE X (.Call (.Name x p) (e :: es) [] pos) (tCall sp [] E t) := pe_call G hr hg D.mg D.fn.kp D.bd .nil hx ha hd he hpl

abbrev Cx.marked (X : Cx) (v : Value) : Cx := { X with A := X.A.mark (some v), calm := false, xe := fun _ _ => False }
theorem Inv.marked {X : Cx} {pins : List (Addr × Obj)} {σ : St} {H : Hp} {s : Shared} (I : Inv X pins σ H s) (v : Value) : Inv (X.marked v) pins σ H s :=
  ⟨⟨I.ok.mod, I.ok.kind, I.ok.glob, I.ok.blt, I.ok.above, I.ok.inj, I.ok.has, I.ok.cab, (fun h => nomatch h), I.ok.frames, I.ok.stk, I.ok.exf, I.ok.bs, I.ok.bsz, I.ok.noex, I.ok.exfs, I.ok.funs, I.ok.frf⟩, I.os, I.bare, I.base, I.loc, I.cell, I.free, I.freeC, I.pin, I.hok, I.len⟩
theorem Inv.unmarked {X : Cx} {pins : List (Addr × Obj)} {σ : St} {H : Hp} {s : Shared} {v : Value} (I : Inv (X.marked v) pins σ H s) (hd : X.calm = true → X.A.handled = none) : Inv X pins σ H s :=
  ⟨⟨I.ok.mod, I.ok.kind, I.ok.glob, I.ok.blt, I.ok.above, I.ok.inj, I.ok.has, I.ok.cab, hd, I.ok.frames, I.ok.stk, I.ok.exf, I.ok.bs, I.ok.bsz, I.ok.noex, I.ok.exfs, I.ok.funs, I.ok.frf⟩, I.os, I.bare, I.base, I.loc, I.cell, I.free, I.freeC, I.pin, I.hok, I.len⟩
theorem SP.unmarked {X : Cx} {pins : List (Addr × Obj)} {D : Ends} {f : Flow} {s' : Shared} {v : Value} (hd : X.calm = true → X.A.handled = none) (h : SP (X.marked v) pins D f s') : SP X pins D f s' := by
  cases f with
  | next => obtain ⟨σ', H', I, q⟩ := h; exact ⟨σ', H', I.unmarked hd, q⟩
  | brk => obtain ⟨σ', H', I, q⟩ := h; exact ⟨σ', H', I.unmarked hd, q⟩
  | cont => obtain ⟨σ', H', I, q⟩ := h; exact ⟨σ', H', I.unmarked hd, q⟩
  | ret u => obtain ⟨v, σ', H', I, r, q⟩ := h; exact ⟨v, σ', H', I.unmarked hd, r, q⟩
def Takes (K : PySem.W.Frag) (C T : Addr) : Prop := PySem.W.exmOne K (.ref C) (.ref T) = some true
section
variable {X : Cx} {k : Nat} {f T : Addr} {fd : FuncData} {ps : List Str} {sp : Sp} {fx c : Str} {st : Stmt} {e : Expr} {es : List Expr} {t : TA} {b₀ : Stmt} {suite : List Stmt} {th : TS} {np pf cpos apos hpos pos : Pos}
theorem call_try {W : Value → Shared → Prop} {pins : List (Addr × Obj)} {σ : St} {H : Hp} {s : Shared} {Q : VK} {E : XK} (I : Inv X pins σ H s) (D : DefOk X.K X.mg fx st ps f fd) (G : FnOk X.prog X.w X.K X.mg X.base (CXe X.prog X.w) k f fd ps sp) (hr : Room k X.A) (hg : Gl X fx)
    (ha : PA (X.wish W) (e :: es) t) (h : t σ H fun vs H1 => sp (vs ++ []) H1 Q E) (hW : ∀ H1 s1 e s2, Inv X pins σ H1 s1 → CXe X.prog X.w X.stack H1 s1 E e s2 → W e s2)
    (hd : (fx == ("__debug__" : Str)) = false := by decide) (he : starEach (e :: es) X.env = (false, eval e X.env) :: starEach es X.env := by rfl) (hpl : (backTo cpos (starEach es X.env)).any (·.1) = false := by rfl) :
    wpAny (model X.prog X.w) X.A (eval (.Call (.Name fx pf) (e :: es) [] cpos) X.env) (EP X pins σ Q) W s := by
  have I' := I.wish W
  refine wpAny_Call_Name_kw (ld_glob I hg D.mg ?_ hd)
  refine PySem.W.callWith_K (h₀ := X.base) I.ok.mod.kin D.fn.kp (thn (ha cpos pins s σ H _ I' h) fun us s1 ⟨vs, H1, I1, r, q⟩ => ⟨I1.kIn, ?_⟩) he hpl
  have r2 : Vals (vs ++ []) (us ++ []) := r.append .nil
  have hl : (us ++ []).length = ps.length := by rw [← r2.length]; exact G.len _ _ _ _ q
  refine wpAny_call (codeAny_mono (G.run X.A X.stack s1 H1 ⟨us, []⟩ (us ++ []) (vs ++ []) Q E hr I1.env0 (D.bd s1 us I1.kIn hl) r2 q) fun r s' hq => ?_)
  cases r with
  | error ex => exact hW H1 s1 ex s' I1.unwish hq
  | ok fl =>
    cases fl with
    | ret u => exact I1.unwish.after hq
    | next => exact False.elim hq
    | brk => exact False.elim hq
    | cont => exact False.elim hq
end
end L2

set_option maxHeartbeats 4000000
namespace L2
open PySem PySem.Spec PyProof.Rows Tl

section
variable {X : Cx}
end
end L2

set_option maxHeartbeats 4000000
namespace L2
open PySem PySem.Spec PyProof.Rows Tl

theorem Inv.track {X : Cx} {pins : List (Addr × Obj)} {σ : St} {H : Hp} {s : Shared} {D : Addr} {o : HO} (I : Inv X pins σ H s) (hn : H D = none) (hnew : X.s₀.heap.objs.size ≤ D) (hL : D ≠ X.env.locals) (hc : ∀ x c, X.env.cells.lookup x = some c → c ≠ D) (hp : ∀ p ∈ X.pn ++ pins, p.1 ≠ D)
    (ok : ObjOk X.prog X.w (upd H D o) s.heap D o) : Inv X pins σ (upd H D o) s := by
  have ne : ∀ b u, H b = some u → b ≠ D := fun b u q => ne_of_none q hn
  refine ⟨I.ok, I.os, I.bare, ⟨I.base.keep, I.base.slot, fun b o q nn hx => ?_, I.base.there, fun b xs q => ?_, fun b o u q => ?_, fun b ps q => ?_⟩, I.loc, I.cell, ?_, fun x c q => ?_, fun p hq => ?_, fun b u q => ?_, I.len⟩
  · rw [upd_ne (Nat.ne_of_lt (Nat.lt_of_lt_of_le (Heap.lt_size q) hnew))]; exact I.base.free b o q nn hx
  · have z := I.base.tups b xs q
    rw [upd_ne (ne b _ z)]; exact z
  · have z := I.base.frzs b o u q
    rw [upd_ne (ne b _ z)]; exact z
  · obtain ⟨more, z⟩ := I.base.tbls b ps q
    exact ⟨more, by rw [upd_ne (ne b _ z)]; exact z⟩
  · rw [upd_ne (Ne.symm hL)]; exact I.free
  · rw [upd_ne (hc x c q)]; exact I.freeC x c q
  · obtain ⟨a1, a2, a3⟩ := I.pin p hq
    exact ⟨a1, by rw [upd_ne (hp p hq)]; exact a2, a3⟩
  · by_cases hb : b = D
    · subst hb
      rw [upd_same] at q; cases q
      exact ok
    · rw [upd_ne hb] at q
      exact (I.hok b u q).stay (fun c v _ r => r) (fun c r => by rw [upd_ne (ne c _ r)]; exact r) fun c xs r => by rw [upd_ne (ne c _ r)]; exact r
def Ite (K : PySem.W.Frag) (a : Addr) : It :=
  ⟨fun i H => ∃ xs x, SqL K H a xs ∧ xs[i]? = some x, fun i H x H' => ∃ p, H p = none ∧ x = .ref p ∧ ∀ xs y, SqL K H a xs → xs[i]? = some y → H' = upd H p (.tup [.int (i : Int), y]), fun i H => ∃ xs, SqL K H a xs ∧ xs.length ≤ i⟩
theorem turn_enum {P : Program} {w : World} {K : PySem.W.Frag} {elts : List Expr} {k1} {tp : Pos} (a e it : Addr) (hei : e ≠ it) : Turn P w K (.Tuple elts k1 tp) (Ite K a) [e, it] e (fun i h => (∃ old, IsEnum h e it (i : Nat) old) ∧ h.IsListIter it a i) where
  mem := by simp
  obj := fun i h st b hb => by
    have hb' : b = e ∨ b = it := by simpa using hb
    rcases hb' with rfl | rfl
    · obtain ⟨⟨old, h1⟩, _⟩ := st
      exact ⟨_, h1, fun v z => by cases z⟩
    · obtain ⟨_, o, h1, c, d⟩ := st
      exact ⟨o, h1, fun v z => by rw [d] at z; cases z⟩
  keep := fun i h h' st k => ⟨let ⟨old, h1⟩ := st.1; ⟨old, k e (by simp) _ h1⟩, st.2.at fun o h1 => k it (by simp) o h1⟩
  item := by
    intro X hP hw hK hc i pins s σ H E I hf st hg
    subst hP hw hK
    obtain ⟨xs, x, hq, hx⟩ := hg
    obtain ⟨its, rv, p, hz⟩ := I.list hq
    obtain ⟨u, hu, ru⟩ := rv.get hx
    obtain ⟨f0, f1, f2, f3, f4, f5⟩ := hf e (by simp)
    obtain ⟨g0, g1, g2, g3, g4, g5⟩ := hf it (by simp)
    obtain ⟨⟨old, he⟩, hit⟩ := st
    refine wpAny_pyNext_enum_item he hit p.isList (x := u) (by simpa using hu) hei fun h' heo hit' hT hz' hk => ?_
    have kk : ∀ b o, b ∉ [e, it] → s.heap.get? b = some o → h'.get? b = some o := fun b o hb q => hk b o (fun z => hb (by simp [z])) (fun z => hb (by simp [z])) q
    have nit : ∀ b v, H b = some v → b ∉ [e, it] := fun b v q z => by
      have z' : b = e ∨ b = it := by simpa using z
      rcases z' with rfl | rfl
      · rw [f0] at q; cases q
      · rw [g0] at q; cases q
    have I1 : Inv X pins σ H { s with heap := h', toks := s.toks + 1 } := by
      refine I.step (g' := s.gens) (d' := s.drawn) (ch := [e, it]) (fun b hb => ?_) (fun b o _ _ hb q _ => kk b o hb q) (fun b o _ _ hb q _ => ⟨o.slots, kk b o hb q⟩) (fun _ _ _ _ n => n)
        (fun b o hb q => ⟨o, kk b o hb q⟩) (fun _ _ q => q) (fun _ _ _ q => q) (fun b ps q => ⟨#[], by rw [q]; simp⟩) (fun m hm => ?_) (fun b v q => ?_) I.bare
      · have z' : b = e ∨ b = it := by simpa using hb
        rcases z' with rfl | rfl
        · exact ⟨f3, f1, f4, f5⟩
        · exact ⟨g3, g1, g4, g5⟩
      · obtain ⟨o, es, ep, ho, r⟩ := hm
        exact ⟨o, es, ep, kk _ o (fun z => by
          have z' : X.env.locals = e ∨ X.env.locals = it := by simpa using z
          rcases z' with z' | z'
          · exact f1 z'.symm
          · exact g1 z'.symm) ho, r⟩
      · refine (I.hok b v q).stay (fun c o hc r => kk c o ?_ r) (fun _ r => r) fun _ _ r => r
        rcases hc with rfl | hc
        · exact nit _ _ q
        · exact nit _ _ hc
    have hsz : s.heap.objs.size < h'.objs.size := by rw [hz']; exact Nat.lt_succ_self _
    have hTn : H s.heap.objs.size = none := I.fresh
    have elt : e < s.heap.objs.size := Heap.lt_size he
    have I2 : Inv X pins σ (upd H s.heap.objs.size (.tup [.int (i : Int), x])) { s with heap := h', toks := s.toks + 1 } := by
      refine I1.track hTn I.sz (Nat.ne_of_gt I.lt) (fun y c q => ?_) (fun p hp => ?_) ⟨by show 2 ≤ sizeLine; decide, [.int i s.toks, u], .cons ⟨_, rfl⟩ (.cons ru .nil), ⟨_, hT, rfl, _, rfl⟩⟩
      · obtain ⟨v, q2⟩ := I.cell y c q
        exact Nat.ne_of_lt q2.lt
      · exact Nat.ne_of_lt (Heap.lt_size (I.pin p hp).1)
    refine ⟨_, rfl, wpAny_letOwnedTupleGo_enum (s := { s with heap := h', toks := s.toks + 1 }) heo fun h'' he'' hs'' => ?_⟩
    have I3 : Inv X pins σ (upd H s.heap.objs.size (.tup [.int (i : Int), x])) { s with heap := h'', toks := s.toks + 1 } := Inv.turned (s := { s with heap := h', toks := s.toks + 1 }) (h' := h'') (t' := s.toks + 1) (it := e) I2 (fun b o hb q => (hs''.2 b hb).trans q) (by rw [upd_ne (Nat.ne_of_lt elt)]; exact f0) f1 f3 f4 f5
    refine ⟨.ref s.heap.objs.size, _, I3, rfl, ⟨_, hTn, rfl, fun ys y hy hy2 => ?_⟩, ⟨⟨_, he''⟩, ?_⟩, fun b hb => ?_⟩
    · rw [I.list_inj hy hq, hx] at hy2
      cases hy2
      rfl
    · exact hit'.at fun o h1 => (hs''.2 it (Ne.symm hei)).trans h1
    · have z' : b = e ∨ b = it := by simpa using hb
      rcases z' with rfl | rfl
      · rw [upd_ne (Nat.ne_of_lt elt)]; exact f0
      · have ilt : b < s.heap.objs.size := by
          obtain ⟨o, h1, _⟩ := hit
          exact Heap.lt_size h1
        rw [upd_ne (Nat.ne_of_lt ilt)]; exact g0
  done := by
    intro X hP hw hK hc i pins s σ H E I hf st hg
    subst hP hw hK
    obtain ⟨xs, hq, hx⟩ := hg
    obtain ⟨its, rv, p, hz⟩ := I.list hq
    obtain ⟨g0, g1, g2, g3, g4, g5⟩ := hf it (by simp)
    obtain ⟨⟨old, he⟩, hit⟩ := st
    have hl := rv.length
    exact wpAny_pyNext_enum_end (I.ok.hd hc) he hit p.isList (by simp; omega) fun h' eb => ⟨rfl, I.turned (t' := s.toks) (fun b o hb e => eb b o hb e) g0 g1 g3 g4 g5⟩
  self := fun _ _ _ _ _ st h => by
    obtain ⟨⟨old, he⟩, _⟩ := st
    exact wpAny_pyIter_enum he h
section
variable {X : Cx} {elts : List Expr} {k1 : Nat} {tp : Pos}
def iEnum (K : PySem.W.Frag) (tl : TE) : TI := fun σ H R => tl σ H fun x H1 => ∃ a, x = .ref a ∧ (∃ xs, SqL K H1 a xs) ∧ R (Ite K a) H1
theorem pi_enum {l : Expr} {k1} {tl : TE} {p pos : Pos} (hg : Gl X "enumerate") (hm : X.mg "enumerate" = none) (hl : PE X l tl) (hs : starEach [l] X.env = [(false, eval l X.env)] := by rfl) : PI X (.Tuple elts k1 tp) (.Call (.Name "enumerate" p) [l] [] pos) (iEnum X.K tl) := by
  intro pins s σ H R I h
  have ha : PA X [l] (tCons tl tNil) := pa_cons hl pa_nil hs
  refine Call_ (ld_blt I hg hm (by decide +kernel : bootBuiltins "enumerate" = some (.type "enumerate")) (PyProof.Rows.callWith_type1 (thn (ha pos pins s σ H (fun vs H1 => match vs with | [x] => ∃ a, x = .ref a ∧ (∃ xs, SqL X.K H1 a xs) ∧ R (Ite X.K a) H1 | _ => False) I h) fun us s1 ⟨vs, H1, I1, r1, q1⟩ => ?_) hs rfl))
  match vs, r1, q1 with
  | [x], r1, q1 =>
  obtain ⟨a, rfl, ⟨xs, hq⟩, q⟩ := q1
  obtain ⟨u, rfl, ru⟩ := vals1 r1
  cases ru
  obtain ⟨its, rv, p, hz⟩ := I1.list hq
  refine call_enumerate_list p.isList fun h' he hit hz' hk => ?_
  refine wpAny_pyIter_enum he ?_
  refine ⟨s1.heap.objs.size + 1, [s1.heap.objs.size + 1, s1.heap.objs.size], _, _, H1, rfl, I1.kept (t' := s1.toks) hk, turn_enum a _ _ (Nat.succ_ne_self _), ⟨⟨_, he⟩, hit⟩, fun b hb => ?_, q⟩
  have z' : b = s1.heap.objs.size + 1 ∨ b = s1.heap.objs.size := by simpa using hb
  have I2 := I1.kept (h' := h') (t' := s1.toks) hk
  rcases z' with rfl | rfl
  · exact I1.fpOk (Nat.le_succ _) (I1.hok.fresh (Nat.le_succ _))
  · exact I1.fpOk (Nat.le_refl _) (I1.hok.fresh (Nat.le_refl _))
end
theorem for_enum {K : PySem.W.Frag} {a : Addr} {xs : List V} {g : TG} {tb : TS} {D : Ends} {σ : St} {H : Hp} (Pv : Nat → St → Hp → Prop) (h0 : Pv 0 σ H) (hl : ∀ i σ H, i ≤ xs.length → Pv i σ H → SqL K H a xs)
    (hs : ∀ i x σ H p, xs[i]? = some x → Pv i σ H → H p = none → g (.ref p) σ (upd H p (.tup [.int (i : Int), x])) fun σ2 H2 => tb { D with nx := Pv (i + 1), ct := Pv (i + 1), bk := D.nx } σ2 H2) (hd : ∀ σ H, Pv xs.length σ H → D.nx σ H) :
    ∃ W : Nat → Nat → St → Hp → Prop, (∃ m, W 0 m σ H) ∧ ∀ i m σ H, W i m σ H →
      ((Ite K a).stop i H ∧ D.nx σ H) ∨ ((Ite K a).go i H ∧ ∃ N : St → Hp → Prop, (∀ σ' H', N σ' H' → ∃ m', m' < m ∧ W (i + 1) m' σ' H') ∧ ∀ x H', (Ite K a).yld i H x H' → g x σ H' fun σ2 H2 => tb { D with nx := N, ct := N, bk := D.nx } σ2 H2) := by
  refine ⟨fun i m σ H => m = xs.length - i ∧ i ≤ xs.length ∧ Pv i σ H, ⟨xs.length, by simp, Nat.zero_le _, h0⟩, ?_⟩
  rintro i m σ H ⟨rfl, hi, p⟩
  have q := hl i σ H hi p
  by_cases hlt : i < xs.length
  · refine .inr ⟨⟨xs, xs[i], q, by simp [hlt]⟩, Pv (i + 1), fun σ' H' p' => ⟨xs.length - (i + 1), by omega, rfl, hlt, p'⟩, fun x H' y => ?_⟩
    obtain ⟨t, ht, e, y⟩ := y
    subst e
    have e2 := y xs xs[i] q (by simp [hlt])
    subst e2
    exact hs i xs[i] σ H t (by simp [hlt]) p ht
  · have e : i = xs.length := by omega
    subst e
    exact .inl ⟨⟨xs, q, Nat.le_refl _⟩, hd σ H p⟩
end L2

set_option maxHeartbeats 4000000
namespace L2
open PySem PySem.Spec PyProof.Rows Tl

section
variable {X : Cx} {tg : Expr}
end
end L2
namespace L2
open PySem PySem.Spec PyProof.Rows Tl
end L2

set_option maxHeartbeats 4000000
namespace L2
open PySem PySem.Spec PyProof.Rows Tl
end L2

namespace L2
open PySem PySem.Spec PyProof.Rows

section
variable {X : Cx}
theorem eqVs_min {xs ys : List V} : ((List.range (min xs.length ys.length)).all (fun j => eqV ((xs[j]?).getD .non) ((ys[j]?).getD .non)) && (xs.length == ys.length)) = eqVs xs ys := by
  by_cases hl : xs.length = ys.length
  · rw [← hl, Nat.min_self, eqVs_range hl]
    simp
  · rw [eqVs_len hl]
    simp [hl]
def rEqT (K : PySem.W.Frag) (neg : Bool) : R2 := fun x y H Q => ∃ a b xs ys, x = .ref a ∧ y = .ref b ∧ SqT K H a xs ∧ SqT K H b ys ∧ xs.all flatV = true ∧ ys.all flatV = true ∧ Q (.bl (if neg then !eqVs xs ys else eqVs xs ys)) H
theorem op_eqT (hu : X.A.units < cLine) : OpR X (compareOp .Eq) (rEqT X.K false) := by
  intro pins s σ H x y v u Q I rx ry h
  obtain ⟨a, b, xs, ys, rfl, rfl, ha, hb, fx, fy, q⟩ := h
  cases rx
  cases ry
  obtain ⟨its, r, p, z⟩ := I.tuple ha
  obtain ⟨its2, r2, p2, z2⟩ := I.tuple hb
  have l1 := r.length
  have l2 := r2.length
  refine SeqAt.eq_tupleAt (e := fun j => eqV ((xs[j]?).getD .non) ((ys[j]?).getD .non)) p p2 hu (fun j h1 h2 => items_eq r r2 fx fy j h1 h2) ⟨.bl _, H, I, rfl, ?_⟩
  have e1 : its.toArray.size = xs.length := by simp; omega
  have e2 : its2.toArray.size = ys.length := by simp; omega
  rw [e1, e2, eqVs_min]
  exact q
theorem op_neT (hu : X.A.units < cLine) : OpR X (compareOp .NotEq) (rEqT X.K true) := by
  intro pins s σ H x y v u Q I rx ry h
  obtain ⟨a, b, xs, ys, rfl, rfl, ha, hb, fx, fy, q⟩ := h
  cases rx
  cases ry
  obtain ⟨its, r, p, z⟩ := I.tuple ha
  obtain ⟨its2, r2, p2, z2⟩ := I.tuple hb
  have l1 := r.length
  have l2 := r2.length
  refine SeqAt.RcNeAt.tuples (e := fun j => eqV ((xs[j]?).getD .non) ((ys[j]?).getD .non)) p p2 hu (fun j h1 h2 => items_eq r r2 fx fy j h1 h2) _ _ _ _ ⟨.bl _, H, I, rfl, ?_⟩
  have e1 : its.toArray.size = xs.length := by simp; omega
  have e2 : its2.toArray.size = ys.length := by simp; omega
  rw [e1, e2, eqVs_min]
  exact q
def sameV (x : V) : Prop := flatV x = true ∨ ∃ a, x = .ref a
theorem all_true {n : Nat} : (List.range n).all (fun _ => true) = true := List.all_eq_true.mpr fun _ _ => rfl
theorem same_new {H : Hp} {p : Addr} (h : H p = none) (o : HO) : Same H (upd H p o) := fun b u q => by rw [upd_ne (ne_of_none q h)]; exact q
theorem Same.tup {K : PySem.W.Frag} {H H' : Hp} {a : Addr} {xs : List V} (e : Same H H') (h : SqT K H a xs) : SqT K H' a xs := by
  rcases h with (h | ⟨o, h⟩) | h
  · exact .inl (.inl (e _ _ h))
  · exact .inl (.inr ⟨o, e _ _ h⟩)
  · exact .inr h
theorem SqT.lst {K : PySem.W.Frag} {H : Hp} {a l : Addr} {xs ys zs : List V} (e : H l = some (.lst ys)) (h : SqT K H a xs) : SqT K (upd H l (.lst zs)) a xs := by
  rcases h with (h | ⟨o, h⟩) | h
  · exact .inl (.inl (by rw [upd_ne (ne_of h e (fun z => nomatch z))]; exact h))
  · exact .inl (.inr ⟨o, by rw [upd_ne (ne_of h e (fun z => nomatch z))]; exact h⟩)
  · exact .inr h
def SameX (l : Addr) (H H' : Hp) : Prop := ∀ b o, b ≠ l → H b = some o → H' b = some o
theorem SameX.refl (l : Addr) (H : Hp) : SameX l H H := fun _ _ _ h => h
theorem SameX.trans {l : Addr} {H H1 H2 : Hp} (a : SameX l H H1) (b : SameX l H1 H2) : SameX l H H2 := fun c o n h => b c o n (a c o n h)
theorem SameX.put {l : Addr} {H H1 : Hp} {o : HO} (a : SameX l H H1) : SameX l H (upd H1 l o) := fun c u n h => by rw [upd_ne n]; exact a c u n h
theorem Same.x {l : Addr} {H H' : Hp} (e : Same H H') : SameX l H H' := fun b o _ h => e b o h
theorem SameX.seq {K : PySem.W.Frag} {H H' : Hp} {a l : Addr} {xs : List V} (e : SameX l H H') (n : a ≠ l) (h : SqL K H a xs) : SqL K H' a xs := by
  rcases h with (h | ⟨o, h⟩) | h
  · exact .inl (.inl (e _ _ n h))
  · exact .inl (.inr ⟨o, e _ _ n h⟩)
  · exact .inr h
theorem SameX.tup {K : PySem.W.Frag} {H H' : Hp} {a l : Addr} {xs : List V} (e : SameX l H H') (n : a ≠ l) (h : SqT K H a xs) : SqT K H' a xs := by
  rcases h with (h | ⟨o, h⟩) | h
  · exact .inl (.inl (e _ _ n h))
  · exact .inl (.inr ⟨o, e _ _ n h⟩)
  · exact .inr h
def sp_law (K : PySem.W.Frag) : Sp := fun vs H Q _ => ∃ (a : Addr) (ns : List Int), vs = [.ref a] ∧ SqL K H a (ns.map V.int) ∧ ns.length ≤ 63 ∧ ∀ H', Q (.bl true) H'
theorem small {n : Nat} (h : n ≤ 1000) : n ≤ sizeLine := Nat.le_of_lt (small1000 h)
theorem le1 : 1 ≤ sizeLine := by decide
theorem le2 : 2 ≤ sizeLine := by decide
theorem le4 : 4 ≤ sizeLine := by decide
theorem andG {a : Prop} {_inst : Decidable a} {X A B : Prop} (hb : ¬ a → B) (hx : a → X) : if a then X else (if false = true then A else B) := by
  by_cases h : a
  · rw [if_pos h]; exact hx h
  · rw [if_neg h]; exact hb h
theorem orG {a : Prop} {_inst : Decidable a} {X A B : Prop} (ha : a → A) (hx : ¬ a → X) : if a then (if true = true then A else B) else X := by
  by_cases h : a
  · rw [if_pos h]; exact ha h
  · rw [if_neg h]; exact hx h
theorem map_snoc (n : Int) (ns : List Int) : (ns.map V.int) ++ [V.int n] = (ns ++ [n]).map V.int := by simp
end
end L2

namespace HT
open PySem PyProof.Rows
section
open PySem.SeqAt
open PySem.AutoSeq1 (wpAny_loadPart')
open PySem.MeetsSeq PySem.MeetsSeq2 PySem.MeetsSeq3

end
end HT

namespace L2
open PySem PySem.Spec PyProof.Rows
section
variable {X : Cx}

end
end L2

set_option maxHeartbeats 4000000
namespace L2
open PySem PySem.Spec PyProof.Rows Tl
def figs (n : Nat) : List Nat := (Nat.toDigits 10 n).map Char.toNat
theorem digit_char : ∀ d : Nat, d < 10 → (Nat.digitChar d).toNat = d + 48 := by decide
theorem figs_small {n : Nat} (h : n < 10) : figs n = [n + 48] := by
  unfold figs
  rw [Nat.toDigits_of_lt_base h, List.map_singleton, digit_char n h]
theorem figs_step {n : Nat} (h : 10 ≤ n) : figs n = figs (n / 10) ++ [n % 10 + 48] := by
  have hm : n % 10 < 10 := Nat.mod_lt n (by decide)
  have t : Nat.toDigits 10 (n / 10) ++ Nat.toDigits 10 (n % 10) = Nat.toDigits 10 (10 * (n / 10) + n % 10) := Nat.toDigits_append_toDigits (by decide) (by omega) hm
  rw [Nat.div_add_mod] at t
  unfold figs
  rw [← t, List.map_append, Nat.toDigits_of_lt_base hm, List.map_singleton, digit_char _ hm]
theorem figs_pos (n : Nat) : 1 ≤ (figs n).length := by
  by_cases h : n < 10
  · rw [figs_small h]; simp
  · rw [figs_step (by omega), List.length_append, List.length_singleton]
    omega
theorem figs_mono : ∀ (m n : Nat), n ≤ m → (figs n).length ≤ (figs m).length := by
  intro m
  induction m using Nat.strongRecOn with
  | _ m ih =>
    intro n h
    by_cases hn : n < 10
    · rw [figs_small hn]
      exact figs_pos m
    · rw [figs_step (n := n) (by omega), figs_step (n := m) (by omega), List.length_append, List.length_append, List.length_singleton, List.length_singleton]
      have := ih (m / 10) (by omega) (n / 10) (by omega)
      omega
abbrev pl (x : Int × Int) : List V := [.int x.1, .int x.2]
abbrev fm (w h f m : Int) : List V := [.int w, .int h, .int f, .int m]
structure FormOk (w h f m : Int) : Prop where
  w1 : 1 ≤ w
  w2 : w ≤ 4000
  h1 : 1 ≤ h
  h2 : h ≤ 60
  f1 : 0 ≤ f
  f2 : f ≤ 10 ^ 60
  m1 : 1 ≤ m
  m2 : m ≤ 60
def nextTop (x : Int × Int) : Int × Int := (x.1 + 1, 0)
def rowsOn (h : Int) (x : Int × Int) (k : Int) : Int × Int := if h ≤ x.2 + k then nextTop x else (x.1, x.2 + k)
def firstFrom (f : Int) (x : Int × Int) (l : Int) : Int × Int := if l = 4 ∧ (f + x.1) % 2 = 0 then nextTop x else x
def behindI (h f : Int) (x : Int × Int) (l : Int) : Int × Int := if l = 0 then x else if l = 1 then rowsOn h x 1 else if l = 2 then rowsOn h x 2 else firstFrom f (nextTop x) l
def sooner (x y : Int × Int) : Bool := decide (x.1 < y.1) || (decide (x.1 = y.1) && decide (x.2 < y.2))
theorem sooner_iff {x y : Int × Int} : sooner x y = true ↔ x.1 < y.1 ∨ (x.1 = y.1 ∧ x.2 < y.2) := by simp [sooner]
theorem not_sooner {x y : Int × Int} : sooner x y = false ↔ ¬ (x.1 < y.1 ∨ (x.1 = y.1 ∧ x.2 < y.2)) := by rw [← sooner_iff]; simp
structure RowIn (h : Int) (x : Int × Int) : Prop where
  p1 : 0 ≤ x.1
  r1 : 0 ≤ x.2
  r2 : x.2 < h
theorem behind_desc (h f l p r : Int) (h0 : 0 ≤ l) (h1 : l ≤ 4) : ∃ q s, behindI h f (p, r) l = (q, s) ∧ (l = 0 ∧ q = p ∧ s = r ∨ l = 1 ∧ (h ≤ r + 1 ∧ q = p + 1 ∧ s = 0 ∨ r + 1 < h ∧ q = p ∧ s = r + 1) ∨
    l = 2 ∧ (h ≤ r + 2 ∧ q = p + 1 ∧ s = 0 ∨ r + 2 < h ∧ q = p ∧ s = r + 2) ∨ l = 3 ∧ q = p + 1 ∧ s = 0 ∨ l = 4 ∧ s = 0 ∧ ((f + p) % 2 = 1 ∧ q = p + 2 ∨ (f + p) % 2 = 0 ∧ q = p + 1)) := by
  have hc : l = 0 ∨ l = 1 ∨ l = 2 ∨ l = 3 ∨ l = 4 := by omega
  rcases hc with rfl | rfl | rfl | rfl | rfl
  · exact ⟨p, r, rfl, .inl ⟨rfl, rfl, rfl⟩⟩
  · by_cases c : h ≤ r + 1
    · exact ⟨p + 1, 0, by show (if h ≤ r + 1 then (p + 1, (0 : Int)) else (p, r + 1)) = _; rw [if_pos c], .inr (.inl ⟨rfl, .inl ⟨c, rfl, rfl⟩⟩)⟩
    · exact ⟨p, r + 1, by show (if h ≤ r + 1 then (p + 1, (0 : Int)) else (p, r + 1)) = _; rw [if_neg c], .inr (.inl ⟨rfl, .inr ⟨Int.not_le.mp c, rfl, rfl⟩⟩)⟩
  · by_cases c : h ≤ r + 2
    · exact ⟨p + 1, 0, by show (if h ≤ r + 2 then (p + 1, (0 : Int)) else (p, r + 2)) = _; rw [if_pos c], .inr (.inr (.inl ⟨rfl, .inl ⟨c, rfl, rfl⟩⟩))⟩
    · exact ⟨p, r + 2, by show (if h ≤ r + 2 then (p + 1, (0 : Int)) else (p, r + 2)) = _; rw [if_neg c], .inr (.inr (.inl ⟨rfl, .inr ⟨Int.not_le.mp c, rfl, rfl⟩⟩))⟩
  · exact ⟨p + 1, 0, by show (if (3 : Int) = 4 ∧ (f + (p + 1)) % 2 = 0 then (p + 1 + 1, (0 : Int)) else (p + 1, 0)) = _; rw [if_neg (fun z => absurd z.1 (by decide))], .inr (.inr (.inr (.inl ⟨rfl, rfl, rfl⟩)))⟩
  · by_cases c : (f + (p + 1)) % 2 = 0
    · exact ⟨p + 1 + 1, 0, by show (if (4 : Int) = 4 ∧ (f + (p + 1)) % 2 = 0 then (p + 1 + 1, (0 : Int)) else (p + 1, 0)) = _; rw [if_pos ⟨rfl, c⟩], .inr (.inr (.inr (.inr ⟨rfl, rfl, .inl ⟨by omega, by omega⟩⟩)))⟩
    · exact ⟨p + 1, 0, by show (if (4 : Int) = 4 ∧ (f + (p + 1)) % 2 = 0 then (p + 1 + 1, (0 : Int)) else (p + 1, 0)) = _; rw [if_neg (fun z => c z.2)], .inr (.inr (.inr (.inr ⟨rfl, rfl, .inr ⟨by omega, rfl⟩⟩)))⟩
theorem first_desc (f l p r : Int) : ∃ q s, firstFrom f (p, r) l = (q, s) ∧ (l = 4 ∧ (f + p) % 2 = 0 ∧ q = p + 1 ∧ s = 0 ∨ (l ≠ 4 ∨ (f + p) % 2 = 1) ∧ q = p ∧ s = r) := by
  unfold firstFrom nextTop
  dsimp only
  split
  all_goals exact ⟨_, _, rfl, by omega⟩
theorem behind_in {h f l : Int} {x : Int × Int} (i : RowIn h x) (h0 : 0 ≤ l) (h1 : l ≤ 4) : RowIn h (behindI h f x l) := by
  obtain ⟨p, r⟩ := x
  obtain ⟨a, b, c⟩ := i
  simp only at a b c
  obtain ⟨q, s, e, d⟩ := behind_desc h f l p r h0 h1
  rw [e]
  constructor <;> simp only <;> omega
theorem behind_self {h f l : Int} {x : Int × Int} (i : RowIn h x) (h0 : 0 ≤ l) (h1 : l ≤ 4) : sooner (behindI h f x l) x = false := by
  obtain ⟨p, r⟩ := x
  obtain ⟨a, b, c⟩ := i
  simp only at a b c
  obtain ⟨q, s, e, d⟩ := behind_desc h f l p r h0 h1
  rw [e, not_sooner]
  simp only
  omega
theorem behind_grows {h f l k : Int} {x y : Int × Int} (i : RowIn h x) (j : RowIn h y) (le : sooner y x = false) (h0 : 0 ≤ l) (h1 : l ≤ k) (h2 : k ≤ 4) : sooner (behindI h f y k) (behindI h f x l) = false := by
  obtain ⟨p, r⟩ := x
  obtain ⟨p', r'⟩ := y
  obtain ⟨a, b, c⟩ := i
  obtain ⟨a', b', c'⟩ := j
  rw [not_sooner] at le ⊢
  simp only at a b c a' b' c' le
  obtain ⟨q, s, e, d⟩ := behind_desc h f l p r h0 (by omega)
  obtain ⟨q', s', e', d'⟩ := behind_desc h f k p' r' (by omega) h2
  rw [e, e']
  simp only
  rcases d with d | d | d | d | d <;> rcases d' with d' | d' | d' | d' | d' <;> omega
theorem first_grows {h f l k : Int} {x y : Int × Int} (i : RowIn h x) (j : RowIn h y) (le : sooner y x = false) (h1 : l ≤ k) (h2 : k ≤ 4) : sooner (firstFrom f y k) (firstFrom f x l) = false := by
  obtain ⟨p, r⟩ := x
  obtain ⟨p', r'⟩ := y
  obtain ⟨a, b, c⟩ := i
  obtain ⟨a', b', c'⟩ := j
  rw [not_sooner] at le ⊢
  simp only at a b c a' b' c' le
  obtain ⟨q, s, e, d⟩ := first_desc f l p r
  obtain ⟨q', s', e', d'⟩ := first_desc f k p' r'
  rw [e, e']
  simp only
  rcases d with d | d <;> rcases d' with d' | d' <;> omega
theorem sooner_refl (x : Int × Int) : sooner x x = false := by rw [not_sooner]; omega
inductive Say where
  | text (l : List Nat)
  | page (k : Nat)
  | row (k : Nat)
def sayV : Say → List V
  | .text l => [.str (PySem.Str.ofString "text"), .str (tx l)]
  | .page k => [.str (PySem.Str.ofString "page"), .int (k : Int)]
  | .row k => [.str (PySem.Str.ofString "row"), .int (k : Int)]
def saidL (h f : Int) (xs : List (Int × Int)) : Say → List Nat
  | .text l => l
  | .page k => figs (f + (xs.getD k (0, 0)).1).toNat
  | .row k => figs ((xs.getD k (0, 0)).1 * h + (xs.getD k (0, 0)).2 + 1).toNat
def SayOk (n : Nat) : Say → Prop
  | .text l => 1 ≤ l.length ∧ l.length ≤ 60 ∧ ∀ c ∈ l, 33 ≤ c ∧ c < 127
  | .page k => k < n
  | .row k => k < n
def PlsOk (h : Int) (xs : List (Int × Int)) : Prop := ∀ x ∈ xs, RowIn h x ∧ x.1 < 10 ^ 60
def PlsA (K : PySem.W.Frag) (H : Hp) (as : List Addr) (xs : List (Int × Int)) : Prop := as.length = xs.length ∧ ∀ (i : Nat) a x, as[i]? = some a → xs[i]? = some x → SqT K H a (pl x)
theorem PlsA.same {K : PySem.W.Frag} {H H' : Hp} {as : List Addr} {xs : List (Int × Int)} (s : Same H H') (h : PlsA K H as xs) : PlsA K H' as xs := ⟨h.1, fun i a x e e' => s.tup (h.2 i a x e e')⟩
theorem PlsA.lst {K : PySem.W.Frag} {H : Hp} {l : Addr} {ys zs : List V} {as : List Addr} {xs : List (Int × Int)} (e : H l = some (.lst ys)) (h : PlsA K H as xs) : PlsA K (upd H l (.lst zs)) as xs := ⟨h.1, fun i a x e1 e' => SqT.lst e (h.2 i a x e1 e')⟩
theorem PlsA.nil {K : PySem.W.Frag} {H : Hp} : PlsA K H [] [] := ⟨rfl, fun i a x e _ => by simp at e⟩
theorem PlsA.snoc {K : PySem.W.Frag} {H : Hp} {as : List Addr} {xs : List (Int × Int)} {a : Addr} {x : Int × Int} (h : PlsA K H as xs) (hx : SqT K H a (pl x)) : PlsA K H (as ++ [a]) (xs ++ [x]) := by
  refine ⟨by simp [h.1], fun i b y e e' => ?_⟩
  by_cases hi : i < as.length
  · rw [List.getElem?_append_left hi] at e
    rw [List.getElem?_append_left (by rw [← h.1]; exact hi)] at e'
    exact h.2 i b y e e'
  · rw [List.getElem?_append_right (by omega)] at e
    rw [List.getElem?_append_right (by rw [← h.1]; omega)] at e'
    have : i - as.length = 0 := by
      rcases Nat.eq_zero_or_pos (i - as.length) with z | z
      · exact z
      · rw [List.getElem?_eq_none (by simp; omega)] at e; cases e
    rw [this] at e
    rw [← h.1, this] at e'
    cases e
    cases e'
    exact hx
theorem PlsA.get {K : PySem.W.Frag} {H : Hp} {as : List Addr} {xs : List (Int × Int)} (h : PlsA K H as xs) {k : Nat} (hk : k < xs.length) : ∃ a, atI (as.map V.ref) (k : Int) = some (V.ref a) ∧ SqT K H a (pl (xs.getD k (0, 0))) := by
  have hk2 : k < as.length := by rw [h.1]; exact hk
  refine ⟨as[k], atI_nat (by rw [List.getElem?_map, List.getElem?_eq_getElem hk2]; rfl), ?_⟩
  rw [List.getD_eq_getElem?_getD, List.getElem?_eq_getElem hk]
  exact h.2 k _ _ (List.getElem?_eq_getElem hk2) (List.getElem?_eq_getElem hk)
theorem PlsOk.get {h : Int} {xs : List (Int × Int)} (o : PlsOk h xs) {k : Nat} (hk : k < xs.length) : RowIn h (xs.getD k (0, 0)) ∧ (xs.getD k (0, 0)).1 < 10 ^ 60 := by
  rw [List.getD_eq_getElem?_getD, List.getElem?_eq_getElem hk]
  exact o _ (List.getElem_mem hk)
theorem PlsOk.snoc {h : Int} {xs : List (Int × Int)} {x : Int × Int} (o : PlsOk h xs) (i : RowIn h x) (b : x.1 < 10 ^ 60) : PlsOk h (xs ++ [x]) := by
  intro y hy
  rcases List.mem_append.mp hy with hy | hy
  · exact o y hy
  · rw [List.mem_singleton.mp hy]
    exact ⟨i, b⟩
theorem ref_same (as : List Addr) : ∀ x ∈ as.map V.ref, sameV x := fun x hx => by
  obtain ⟨a, _, rfl⟩ := List.mem_map.mp hx
  exact .inr ⟨a, rfl⟩
theorem refs_snoc (as : List Addr) (a : Addr) : as.map V.ref ++ [V.ref a] = (as ++ [a]).map V.ref := by simp
def PlsLe (xs ys : List (Int × Int)) : Prop := xs.length = ys.length ∧ ∀ k, k < xs.length → sooner (ys.getD k (0, 0)) (xs.getD k (0, 0)) = false
theorem getD_app {α : Type} (xs ys : List α) (d : α) (k : Nat) : (xs ++ ys).getD k d = if k < xs.length then xs.getD k d else ys.getD (k - xs.length) d := by
  rw [List.getD_eq_getElem?_getD]
  by_cases e : k < xs.length
  · rw [if_pos e, List.getElem?_append_left e, List.getD_eq_getElem?_getD]
  · rw [if_neg e, List.getElem?_append_right (by omega), List.getD_eq_getElem?_getD]
theorem PlsLe.snoc {xs ys : List (Int × Int)} {x y : Int × Int} (h : PlsLe xs ys) (l : sooner y x = false) : PlsLe (xs ++ [x]) (ys ++ [y]) := by
  refine ⟨by simp [h.1], fun k hk => ?_⟩
  rw [getD_app, getD_app]
  by_cases e : k < xs.length
  · rw [if_pos e, if_pos (by rw [← h.1]; exact e)]
    exact h.2 k e
  · have hk2 : k = xs.length := by simp at hk; omega
    rw [if_neg e, if_neg (by rw [← h.1]; exact e), ← h.1, hk2, Nat.sub_self]
    exact l
theorem row_le {h : Int} {x y : Int × Int} (i : RowIn h x) (j : RowIn h y) (le : sooner y x = false) : x.1 * h + x.2 ≤ y.1 * h + y.2 := by
  rw [not_sooner] at le
  obtain ⟨p, r⟩ := x
  obtain ⟨p', r'⟩ := y
  obtain ⟨a, b, c⟩ := i
  obtain ⟨a', b', c'⟩ := j
  simp only at *
  by_cases e : p = p'
  · subst e
    omega
  · have h1 : (p + 1) * h ≤ p' * h := Int.mul_le_mul_of_nonneg_right (by omega) (by omega)
    rw [Int.add_mul] at h1
    omega
theorem said_grows {w h f m : Int} {xs ys : List (Int × Int)} {s : Say} (fo : FormOk w h f m) (po : PlsOk h xs) (qo : PlsOk h ys) (le : PlsLe xs ys) (so : SayOk xs.length s) : (saidL h f xs s).length ≤ (saidL h f ys s).length := by
  cases s with
  | text l => exact Nat.le_refl _
  | page k =>
    have lk := le.2 k so
    rw [not_sooner] at lk
    exact figs_mono _ _ (Int.toNat_le_toNat (by omega))
  | row k =>
    have := row_le (po.get so).1 (qo.get (le.1 ▸ so)).1 (le.2 k so)
    exact figs_mono _ _ (Int.toNat_le_toNat (by omega))
end L2

set_option maxHeartbeats 4000000
namespace L2
open PySem PySem.Spec PyProof.Rows Tl
def Dq (K : PySem.W.Frag) (H : Hp) : Nat → V → V → Prop
  | 0, x, y => (flatV x = true ∧ flatV y = true ∧ eqV x y = true) ∨ ∃ a, x = .ref a ∧ y = .ref a
  | n + 1, x, y => ((flatV x = true ∧ flatV y = true ∧ eqV x y = true) ∨ ∃ a, x = .ref a ∧ y = .ref a) ∨
      ∃ a b xs ys, x = .ref a ∧ y = .ref b ∧ ((SqL K H a xs ∧ SqL K H b ys) ∨ (SqT K H a xs ∧ SqT K H b ys)) ∧ xs.length = ys.length ∧ ∀ (i : Nat) x y, xs[i]? = some x → ys[i]? = some y → Dq K H n x y
theorem items_deep {X : Cx} {pins : List (Addr × Obj)} {σ : St} {H : Hp} {s : Shared} {xs ys : List V} {its its2 : List Value} {n : Nat} {A : Around} (r : Vals xs its) (r2 : Vals ys its2)
    (d : ∀ (i : Nat) x y, xs[i]? = some x → ys[i]? = some y → ∀ u v, RelV x u → RelV y v → SeqAt.EqAt A s u v true) (j : Nat) (h1 : j < its.toArray.size) (h2 : j < its2.toArray.size) : SeqAt.EqAt A s its.toArray[j] its2.toArray[j] true := by
  have l1 := r.length
  have l2 := r2.length
  have h1' : j < its.length := by simpa using h1
  have h2' : j < its2.length := by simpa using h2
  have hx : j < xs.length := by omega
  have hy : j < ys.length := by omega
  have e1 : xs[j]? = some xs[j] := List.getElem?_eq_getElem hx
  have e2 : ys[j]? = some ys[j] := List.getElem?_eq_getElem hy
  obtain ⟨u, hu, ru⟩ := r.get e1
  obtain ⟨v, hv, rv⟩ := r2.get e2
  have eu : its.toArray[j] = u := by
    have : its[j]? = some its[j] := List.getElem?_eq_getElem h1'
    rw [hu] at this
    simpa using this.symm
  have ev : its2.toArray[j] = v := by
    have : its2[j]? = some its2[j] := List.getElem?_eq_getElem h2'
    rw [hv] at this
    simpa using this.symm
  rw [eu, ev]
  exact d j _ _ e1 e2 u v ru rv
theorem min_true {n m : Nat} (h : n = m) : ((List.range (min n m)).all (fun _ => true) && (n == m)) = true := by
  rw [all_true, h]
  simp
theorem deep_eq {X : Cx} {pins : List (Addr × Obj)} {σ : St} {H : Hp} {s : Shared} (I : Inv X pins σ H s) : ∀ (n : Nat) (A : Around) (x y : V) (u v : Value), Dq X.K H n x y → RelV x u → RelV y v → A.units + n < cLine → SeqAt.EqAt A s u v true
  | 0, A, x, y, u, v, d, ru, rv, hu => by
    rcases d with ⟨f, g, e⟩ | ⟨a, rfl, rfl⟩
    · have := eqAt_V (A := A) (s := s) ru rv f g
      rw [e] at this
      exact this
    · cases ru
      cases rv
      exact SeqAt.EqAt.same _
  | n + 1, A, x, y, u, v, d, ru, rv, hu => by
    rcases d with (⟨f, g, e⟩ | ⟨a, rfl, rfl⟩) | ⟨a, b, xs, ys, rfl, rfl, hab, hl, hd⟩
    · have := eqAt_V (A := A) (s := s) ru rv f g
      rw [e] at this
      exact this
    · cases ru
      cases rv
      exact SeqAt.EqAt.same _
    · cases ru
      cases rv
      by_cases e : a = b
      · subst e
        exact SeqAt.EqAt.same _
      have hrec := fun i x y (e1 : xs[i]? = some x) (e2 : ys[i]? = some y) u v (ru : RelV x u) (rv : RelV y v) => deep_eq I n A.in1 x y u v (hd i x y e1 e2) ru rv (by show A.units + 1 + n < cLine; omega)
      rcases hab with ⟨ha, hb⟩ | ⟨ha, hb⟩
      · obtain ⟨its, r, p, z⟩ := I.list ha
        obtain ⟨its2, r2, p2, z2⟩ := I.list hb
        have l1 := r.length
        have l2 := r2.length
        have := SeqAt.RcAt.lists (A := A) (e := fun _ => true) p.isList p2.isList (by simp; omega) (by omega) (fun j h1 h2 => items_deep (X := X) (pins := pins) (σ := σ) (H := H) (n := n) r r2 hrec j h1 h2)
        rw [all_true] at this
        exact SeqAt.EqAt.of_refs e this
      · obtain ⟨its, r, p, z⟩ := I.tuple ha
        obtain ⟨its2, r2, p2, z2⟩ := I.tuple hb
        have l1 := r.length
        have l2 := r2.length
        have := SeqAt.RcAt.tuples (A := A) (e := fun _ => true) p p2 (by omega) (fun j h1 h2 => items_deep (X := X) (pins := pins) (σ := σ) (H := H) (n := n) r r2 hrec j h1 h2)
        rw [min_true (by simp; omega)] at this
        exact SeqAt.EqAt.of_refs e this
section
variable {X : Cx}
def rEqQ (K : PySem.W.Frag) (neg : Bool) : R2 := fun x y H Q => ∃ n a b xs ys, n ≤ 90 ∧ x = .ref a ∧ y = .ref b ∧ ((SqL K H a xs ∧ SqL K H b ys) ∨ (SqT K H a xs ∧ SqT K H b ys)) ∧ xs.length = ys.length ∧ (∀ (i : Nat) x y, xs[i]? = some x → ys[i]? = some y → Dq K H n x y) ∧ Q (.bl (!neg)) H
theorem op_eqQ (hu : X.A.units + 100 < cLine) : OpR X (compareOp .Eq) (rEqQ X.K false) := by
  intro pins s σ H x y v u Q I rx ry h
  obtain ⟨n, a, b, xs, ys, hn, rfl, rfl, hab, hl, hd, q⟩ := h
  cases rx
  cases ry
  have hrec := fun i x y (e1 : xs[i]? = some x) (e2 : ys[i]? = some y) u v (ru : RelV x u) (rv : RelV y v) => deep_eq I n X.A.in1 x y u v (hd i x y e1 e2) ru rv (by show X.A.units + 1 + n < cLine; omega)
  rcases hab with ⟨ha, hb⟩ | ⟨ha, hb⟩
  · obtain ⟨its, r, p, z⟩ := I.list ha
    obtain ⟨its2, r2, p2, z2⟩ := I.list hb
    have l1 := r.length
    have l2 := r2.length
    refine SeqAt.eq_listAt (e := fun _ => true) p.isList p2.isList (by simp; omega) (by omega) (fun j h1 h2 => items_deep (X := X) (pins := pins) (σ := σ) (H := H) (n := n) r r2 hrec j h1 h2) ⟨.bl _, H, I, rfl, ?_⟩
    rw [all_true]
    exact q
  · obtain ⟨its, r, p, z⟩ := I.tuple ha
    obtain ⟨its2, r2, p2, z2⟩ := I.tuple hb
    have l1 := r.length
    have l2 := r2.length
    refine SeqAt.eq_tupleAt (e := fun _ => true) p p2 (by omega) (fun j h1 h2 => items_deep (X := X) (pins := pins) (σ := σ) (H := H) (n := n) r r2 hrec j h1 h2) ⟨.bl _, H, I, rfl, ?_⟩
    rw [min_true (by simp; omega)]
    exact q
theorem op_neQ (hu : X.A.units + 100 < cLine) : OpR X (compareOp .NotEq) (rEqQ X.K true) := by
  intro pins s σ H x y v u Q I rx ry h
  obtain ⟨n, a, b, xs, ys, hn, rfl, rfl, hab, hl, hd, q⟩ := h
  cases rx
  cases ry
  have hrec := fun i x y (e1 : xs[i]? = some x) (e2 : ys[i]? = some y) u v (ru : RelV x u) (rv : RelV y v) => deep_eq I n X.A.in1 x y u v (hd i x y e1 e2) ru rv (by show X.A.units + 1 + n < cLine; omega)
  rcases hab with ⟨ha, hb⟩ | ⟨ha, hb⟩
  · obtain ⟨its, r, p, z⟩ := I.list ha
    obtain ⟨its2, r2, p2, z2⟩ := I.list hb
    have l1 := r.length
    have l2 := r2.length
    refine SeqAt.RcNeAt.lists (e := fun _ => true) p.isList p2.isList (by simp; omega) (by omega) (fun j h1 h2 => items_deep (X := X) (pins := pins) (σ := σ) (H := H) (n := n) r r2 hrec j h1 h2) _ _ _ _ ⟨.bl _, H, I, rfl, ?_⟩
    rw [all_true]
    exact q
  · obtain ⟨its, r, p, z⟩ := I.tuple ha
    obtain ⟨its2, r2, p2, z2⟩ := I.tuple hb
    have l1 := r.length
    have l2 := r2.length
    refine SeqAt.RcNeAt.tuples (e := fun _ => true) p p2 (by omega) (fun j h1 h2 => items_deep (X := X) (pins := pins) (σ := σ) (H := H) (n := n) r r2 hrec j h1 h2) _ _ _ _ ⟨.bl _, H, I, rfl, ?_⟩
    rw [min_true (by simp; omega)]
    exact q
end
end L2

set_option maxHeartbeats 4000000
namespace L2
open PySem PySem.Spec PyProof.Rows Tl
def fillStep (w : Int) (rows : List (List Nat)) (t : List Nat) : List (List Nat) :=
  match rows.getLast? with
  | none => [t]
  | some l => if (l.length : Int) + 1 + t.length ≤ w then rows.dropLast ++ [l ++ 32 :: t] else rows ++ [t]
theorem fillStep_nil (w : Int) (t : List Nat) : fillStep w [] t = [t] := rfl
theorem fillStep_snoc (w : Int) (rs : List (List Nat)) (l t : List Nat) : fillStep w (rs ++ [l]) t = if (l.length : Int) + 1 + t.length ≤ w then rs ++ [l ++ 32 :: t] else rs ++ [l] ++ [t] := by simp [fillStep]
def fillW (w : Int) (ts : List (List Nat)) : List (List Nat) := ts.foldl (fillStep w) []
theorem fillW_snoc (w : Int) (ts : List (List Nat)) (t : List Nat) : fillW w (ts ++ [t]) = fillStep w (fillW w ts) t := by simp [fillW, List.foldl_append]
theorem list_snoc {α : Type} (l : List α) : l = [] ∨ ∃ r c, l = r ++ [c] := by
  by_cases h : l = []
  · exact .inl h
  · exact .inr ⟨l.dropLast, l.getLast h, (List.dropLast_concat_getLast h).symm⟩
theorem snoc_ind {α : Type} {P : List α → Prop} (h0 : P []) (h1 : ∀ l a, P l → P (l ++ [a])) : ∀ l, P l := by
  intro l
  have : ∀ n (l : List α), l.length = n → P l := by
    intro n
    induction n with
    | zero => intro l hl; rw [List.eq_nil_of_length_eq_zero hl]; exact h0
    | succ n ih =>
      intro l hl
      rcases list_snoc l with rfl | ⟨r, c, rfl⟩
      · exact h0
      · exact h1 r c (ih r (by simp at hl; exact hl))
  exact this _ l rfl
def numStep (w : Int) (x : Int × Int) (t : Int) : Int × Int := if 0 < x.1 ∧ x.2 + 1 + t ≤ w then (x.1, x.2 + 1 + t) else (x.1 + 1, t)
def numW (w : Int) (ts : List Int) : Int × Int := ts.foldl (numStep w) (0, 0)
theorem numW_snoc (w : Int) (ts : List Int) (t : Int) : numW w (ts ++ [t]) = numStep w (numW w ts) t := by simp [numW, List.foldl_append]
theorem fill_num (w : Int) (ts : List (List Nat)) : (numW w (ts.map fun t => (t.length : Int))).1 = (fillW w ts).length ∧ ((fillW w ts = [] ∧ ts = []) ∨ ∃ rs l, fillW w ts = rs ++ [l] ∧ (numW w (ts.map fun t => (t.length : Int))).2 = l.length) := by
  refine snoc_ind (P := fun ts => (numW w (ts.map fun t => (t.length : Int))).1 = (fillW w ts).length ∧ ((fillW w ts = [] ∧ ts = []) ∨ ∃ rs l, fillW w ts = rs ++ [l] ∧ (numW w (ts.map fun t => (t.length : Int))).2 = l.length)) ⟨rfl, .inl ⟨rfl, rfl⟩⟩ ?_ ts
  intro ts t ih
  rw [List.map_append, List.map_singleton, numW_snoc, fillW_snoc]
  obtain ⟨h1, h2⟩ := ih
  rcases h2 with ⟨h2, h3⟩ | ⟨rs, l, h2, h3⟩
  · rw [h2] at h1 ⊢
    rw [fillStep_nil, numStep, if_neg (by simp at h1; omega)]
    exact ⟨by simp at h1 ⊢; omega, .inr ⟨[], t, rfl, rfl⟩⟩
  · rw [h2] at h1 ⊢
    rw [fillStep_snoc, numStep]
    by_cases e : (l.length : Int) + 1 + t.length ≤ w
    · rw [if_pos e, if_pos ⟨by simp at h1; omega, by rw [h3]; exact e⟩]
      refine ⟨by simp at h1 ⊢; omega, .inr ⟨rs, _, rfl, ?_⟩⟩
      simp
      omega
    · rw [if_neg e, if_neg (by rw [h3]; omega)]
      exact ⟨by simp at h1 ⊢; omega, .inr ⟨rs ++ [l], t, rfl, rfl⟩⟩
theorem fill_wide (w : Int) (ts : List (List Nat)) : (fillW w ts).any (fun r => decide (w < r.length)) = ts.any (fun t => decide (w < t.length)) := by
  refine snoc_ind (P := fun ts => (fillW w ts).any (fun r => decide (w < r.length)) = ts.any (fun t => decide (w < t.length))) rfl ?_ ts
  intro ts t ih
  rw [fillW_snoc, List.any_append, ← ih]
  rcases list_snoc (fillW w ts) with e | ⟨rs, l, e⟩
  · rw [e, fillStep_nil]
    rfl
  · rw [e, fillStep_snoc]
    by_cases c : (l.length : Int) + 1 + t.length ≤ w
    · rw [if_pos c, List.any_append, List.any_append]
      have c1 : ¬ w < ((l ++ 32 :: t).length : Int) := by simp; omega
      have c2 : ¬ w < (l.length : Int) := by omega
      have c3 : ¬ w < (t.length : Int) := by omega
      simp [c2, c3]
      all_goals omega
    · rw [if_neg c, List.any_append]
def highF (w h : Int) (ts : List (List Nat)) : Int := if (fillW w ts).any (fun r => decide (w < r.length)) then h else if h < (fillW w ts).length then h else (fillW w ts).length
def highN (w h : Int) (ts : List Int) : Int := if ts.any (fun t => decide (w < t)) then h else if h < (numW w ts).1 then h else (numW w ts).1
theorem high_eq (w h : Int) (ts : List (List Nat)) : highF w h ts = highN w h (ts.map fun t => (t.length : Int)) := by
  unfold highF highN
  rw [fill_wide, (fill_num w ts).1, List.any_map]
  rfl
def lexLe (x y : Int × Int) : Prop := x.1 < y.1 ∨ (x.1 = y.1 ∧ x.2 ≤ y.2)
theorem step_grows {w t u : Int} {x y : Int × Int} (h : lexLe x y) (hx : 0 ≤ x.1) (hx2 : 0 ≤ x.2) (hy2 : 0 ≤ y.2) (ht : t ≤ u) (t0 : 0 ≤ t) : lexLe (numStep w x t) (numStep w y u) := by
  obtain ⟨a, b⟩ := x
  obtain ⟨c, d⟩ := y
  unfold lexLe numStep at *
  simp only at *
  repeat' split
  all_goals (simp only; omega)
theorem lexLe.refl (x : Int × Int) : lexLe x x := .inr ⟨rfl, Int.le_refl _⟩
theorem lexLe.trans {x y z : Int × Int} (a : lexLe x y) (b : lexLe y z) : lexLe x z := by
  unfold lexLe at *
  omega
theorem fold_grows {w : Int} : ∀ {ts us : List Int} {x y : Int × Int}, ts.length = us.length → (∀ k, k < ts.length → ts.getD k 0 ≤ us.getD k 0) → (∀ t ∈ ts, 0 ≤ t) → lexLe x y → 0 ≤ x.1 → 0 ≤ x.2 → 0 ≤ y.2 → lexLe (ts.foldl (numStep w) x) (us.foldl (numStep w) y)
  | [], [], x, y, _, _, _, h, _, _, _ => h
  | [], _ :: _, _, _, e, _, _, _, _, _, _ => by simp at e
  | _ :: _, [], _, _, e, _, _, _, _, _, _ => by simp at e
  | t :: ts, u :: us, x, y, e, hk, h0, h, a, b, c => by
    have t0 := h0 t (by simp)
    have tu : t ≤ u := hk 0 (by simp)
    rw [List.foldl_cons, List.foldl_cons]
    refine fold_grows (by simpa using e) (fun k hk2 => ?_) (fun v hv => h0 v (List.mem_cons_of_mem _ hv)) (step_grows h a b c tu t0) ?_ ?_ ?_
    · have := hk (k + 1) (by simp; omega)
      simpa using this
    · unfold numStep; split <;> simp only <;> omega
    · unfold numStep; split <;> simp only <;> omega
    · unfold numStep; split <;> simp only <;> omega
theorem any_grows {w : Int} : ∀ {ts us : List Int}, ts.length = us.length → (∀ k, k < ts.length → ts.getD k 0 ≤ us.getD k 0) → ts.any (fun t => decide (w < t)) = true → us.any (fun t => decide (w < t)) = true
  | [], [], _, _, h => h
  | [], _ :: _, e, _, _ => by simp at e
  | _ :: _, [], e, _, _ => by simp at e
  | t :: ts, u :: us, e, hk, h => by
    have tu : t ≤ u := hk 0 (by simp)
    rw [List.any_cons, Bool.or_eq_true] at h ⊢
    rcases h with h | h
    · exact .inl (decide_eq_true (by have := of_decide_eq_true h; omega))
    · exact .inr (any_grows (by simpa using e) (fun k hk2 => by have := hk (k + 1) (by simp; omega); simpa using this) h)
theorem high_grows {w h : Int} {ts us : List Int} (e : ts.length = us.length) (hk : ∀ k, k < ts.length → ts.getD k 0 ≤ us.getD k 0) (h0 : ∀ t ∈ ts, 0 ≤ t) : highN w h ts ≤ highN w h us := by
  have a := fold_grows (w := w) e hk h0 (lexLe.refl (0, 0)) (by decide) (by decide) (by decide)
  have b := any_grows (w := w) e hk
  have c : lexLe (numW w ts) (numW w us) := a
  unfold highN
  by_cases x : ts.any (fun t => decide (w < t)) = true
  · rw [if_pos x, if_pos (b x)]
    exact Int.le_refl _
  · rw [if_neg x]
    unfold lexLe at c
    repeat' split
    all_goals omega
def SaysA (K : PySem.W.Frag) (H : Hp) (bs : List Addr) (ss : List Say) : Prop := bs.length = ss.length ∧ ∀ (i : Nat) b s, bs[i]? = some b → ss[i]? = some s → SqT K H b (sayV s)
theorem SaysA.same {K : PySem.W.Frag} {H H' : Hp} {bs : List Addr} {ss : List Say} (s : Same H H') (h : SaysA K H bs ss) : SaysA K H' bs ss := ⟨h.1, fun i a x e e' => s.tup (h.2 i a x e e')⟩
theorem SaysA.lst {K : PySem.W.Frag} {H : Hp} {l : Addr} {ys zs : List V} {bs : List Addr} {ss : List Say} (e : H l = some (.lst ys)) (h : SaysA K H bs ss) : SaysA K (upd H l (.lst zs)) bs ss := ⟨h.1, fun i a x e1 e' => SqT.lst e (h.2 i a x e1 e')⟩
theorem SaysA.nil {K : PySem.W.Frag} {H : Hp} : SaysA K H [] [] := ⟨rfl, fun i a x e _ => by simp at e⟩
theorem SaysA.app {K : PySem.W.Frag} {H : Hp} {bs cs : List Addr} {ss ts : List Say} (h : SaysA K H bs ss) (g : SaysA K H cs ts) : SaysA K H (bs ++ cs) (ss ++ ts) := by
  refine ⟨by simp [h.1, g.1], fun i b y e e' => ?_⟩
  by_cases hi : i < bs.length
  · rw [List.getElem?_append_left hi] at e
    rw [List.getElem?_append_left (by rw [← h.1]; exact hi)] at e'
    exact h.2 i b y e e'
  · rw [List.getElem?_append_right (by omega)] at e
    rw [List.getElem?_append_right (by rw [← h.1]; omega), ← h.1] at e'
    exact g.2 _ b y e e'
theorem SaysA.one {K : PySem.W.Frag} {H : Hp} {b : Addr} {s : Say} (h : SqT K H b (sayV s)) : SaysA K H [b] [s] := by
  refine ⟨rfl, fun i a x e e' => ?_⟩
  match i, e, e' with
  | 0, e, e' =>
    cases e
    cases e'
    exact h
theorem SaysA.take {K : PySem.W.Frag} {H : Hp} {bs : List Addr} {ss : List Say} (h : SaysA K H bs ss) (n : Nat) : SaysA K H (bs.take n) (ss.take n) := by
  refine ⟨by simp [h.1], fun i b y e e' => ?_⟩
  rw [List.getElem?_take] at e e'
  split at e
  · rename_i c
    rw [if_pos c] at e'
    exact h.2 i b y e e'
  · cases e
theorem SaysA.drop {K : PySem.W.Frag} {H : Hp} {bs : List Addr} {ss : List Say} (h : SaysA K H bs ss) (n : Nat) : SaysA K H (bs.drop n) (ss.drop n) := by
  refine ⟨by simp [h.1], fun i b y e e' => ?_⟩
  rw [List.getElem?_drop] at e e'
  exact h.2 _ b y e e'
theorem Same.put {H H2 : Hp} {r : Addr} {o : HO} (s : Same H H2) (hr : H r = none) : Same H (upd H2 r o) := fun b u q => by rw [upd_ne (ne_of_none q hr)]; exact s b u q
theorem foot_at {bs : List Addr} {ss : List Say} (e : bs.length = ss.length) {i : Nat} {y : V} (h : (bs.map V.ref)[i]? = some y) : ∃ b s, y = V.ref b ∧ bs[i]? = some b ∧ ss[i]? = some s := by
  rw [List.getElem?_map] at h
  cases eb : bs[i]? with
  | none => rw [eb] at h; cases h
  | some b =>
    rw [eb] at h
    have hi : i < ss.length := by rw [← e]; exact (List.getElem?_eq_some_iff.mp eb).1
    exact ⟨b, ss[i], (Option.some.inj h).symm, rfl, List.getElem?_eq_getElem hi⟩
theorem take_snoc {α : Type} {l : List α} {i : Nat} {a : α} (h : l[i]? = some a) : l.take (i + 1) = l.take i ++ [a] := by rw [List.take_add_one, h]; rfl
theorem cutV_map {α : Type} (f : α → V) (ns : List α) (lo hi : Option Int) : cutV (ns.map f) lo hi = (cutL ns lo hi).map f := by
  unfold cutV cutL
  rw [List.length_map, List.map_take, List.map_drop]
end L2

set_option maxHeartbeats 4000000
namespace L2
open PySem PySem.Spec PyProof.Rows Tl
theorem at_int {xs : List Int} (k : Nat) (h : k < xs.length) : atI (xs.map V.int) (k : Int) = some (V.int (xs.getD k 0)) := by
  refine atI_nat ?_
  rw [List.getElem?_map, List.getD_eq_getElem?_getD, List.getElem?_eq_getElem h]
  rfl
def StrOk (n : Nat) (xs : List Int) : Prop := xs.length = n ∧ ∀ x ∈ xs, 0 ≤ x ∧ x < 2147483647
theorem StrOk.get {n k : Nat} {xs : List Int} (h : StrOk n xs) (hk : k < n) : 0 ≤ xs.getD k 0 ∧ xs.getD k 0 < 2147483647 := by
  have hk2 : k < xs.length := by rw [h.1]; exact hk
  rw [List.getD_eq_getElem?_getD, List.getElem?_eq_getElem hk2]
  exact h.2 _ (List.getElem_mem hk2)
theorem StrOk.at {n k : Nat} {xs : List Int} (h : StrOk n xs) (hk : k < n) : atI (xs.map V.int) (k : Int) = some (V.int (xs.getD k 0)) := at_int k (by rw [h.1]; exact hk)
end L2
namespace L2
open PySem PySem.Spec PyProof.Rows Tl
structure Wd where
  lead : Int
  kept : Bool
  say : Say
  foot : List Say
structure WdOk (n : Nat) (d : Wd) : Prop where
  l0 : 0 ≤ d.lead
  l1 : d.lead ≤ 4
  s : SayOk n d.say
  f : ∀ s ∈ d.foot, SayOk n s
  n : d.foot.length ≤ 40
def WdAt (K : PySem.W.Frag) (H : Hp) (a : Addr) (d : Wd) : Prop := ∃ (sa fo : Addr) (bs : List Addr), SqT K H a [.int d.lead, .bl d.kept, .ref sa, .ref fo] ∧ SqT K H sa (sayV d.say) ∧ SqL K H fo (bs.map V.ref) ∧ SaysA K H bs d.foot
theorem WdAt.same {K : PySem.W.Frag} {H H' : Hp} {a : Addr} {d : Wd} (s : Same H H') (h : WdAt K H a d) : WdAt K H' a d := by
  obtain ⟨sa, fo, bs, h1, h2, h3, h4⟩ := h
  exact ⟨sa, fo, bs, s.tup h1, s.tup h2, s.seq h3, h4.same s⟩
def WdsA (K : PySem.W.Frag) (H : Hp) (as : List Addr) (ds : List Wd) : Prop := as.length = ds.length ∧ ∀ (i : Nat) a d, as[i]? = some a → ds[i]? = some d → WdAt K H a d
theorem WdsA.same {K : PySem.W.Frag} {H H' : Hp} {as : List Addr} {ds : List Wd} (s : Same H H') (h : WdsA K H as ds) : WdsA K H' as ds := ⟨h.1, fun i a d e e' => (h.2 i a d e e').same s⟩
theorem WdsA.nil {K : PySem.W.Frag} {H : Hp} : WdsA K H [] [] := ⟨rfl, fun i a x e _ => by simp at e⟩
theorem WdsA.snoc {K : PySem.W.Frag} {H : Hp} {as : List Addr} {ds : List Wd} {a : Addr} {d : Wd} (h : WdsA K H as ds) (hx : WdAt K H a d) : WdsA K H (as ++ [a]) (ds ++ [d]) := by
  refine ⟨by simp [h.1], fun i b y e e' => ?_⟩
  by_cases hi : i < as.length
  · rw [List.getElem?_append_left hi] at e
    rw [List.getElem?_append_left (by rw [← h.1]; exact hi)] at e'
    exact h.2 i b y e e'
  · rw [List.getElem?_append_right (by omega)] at e
    rw [List.getElem?_append_right (by rw [← h.1]; omega)] at e'
    have : i - as.length = 0 := by
      rcases Nat.eq_zero_or_pos (i - as.length) with z | z
      · exact z
      · rw [List.getElem?_eq_none (by simp; omega)] at e; cases e
    rw [this] at e
    rw [← h.1, this] at e'
    cases e
    cases e'
    exact hx
def BkAt (K : PySem.W.Frag) (H : Hp) (b : Addr) (w h f m : Int) (ds : List Wd) : Prop := ∃ (fa wa : Addr) (as : List Addr), SqT K H b [.ref fa, .ref wa] ∧ SqT K H fa (fm w h f m) ∧ SqL K H wa (as.map V.ref) ∧ WdsA K H as ds
theorem BkAt.same {K : PySem.W.Frag} {H H' : Hp} {b : Addr} {w h f m : Int} {ds : List Wd} (s : Same H H') (g : BkAt K H b w h f m ds) : BkAt K H' b w h f m ds := by
  obtain ⟨fa, wa, as, h1, h2, h3, h4⟩ := g
  exact ⟨fa, wa, as, s.tup h1, s.tup h2, s.seq h3, h4.same s⟩
def LwAt (K : PySem.W.Frag) (H : Hp) (a : Addr) (xs : List (Int × Int)) : Prop := ∃ as : List Addr, SqL K H a (as.map V.ref) ∧ PlsA K H as xs
theorem LwAt.same {K : PySem.W.Frag} {H H' : Hp} {a : Addr} {xs : List (Int × Int)} (s : Same H H') (h : LwAt K H a xs) : LwAt K H' a xs := by
  obtain ⟨as, h1, h2⟩ := h
  exact ⟨as, s.seq h1, h2.same s⟩
end L2
namespace L2
open PySem PySem.Spec PyProof.Rows Tl
theorem cut_nat {α : Type} (xs : List α) (a b : Nat) : cutL xs (some (a : Int)) (some (b : Int)) = (xs.drop a).take (b - a) := by
  unfold cutL HT.sIx
  have h1 : ¬ ((a : Int) < 0) := by omega
  have h2 : ¬ ((b : Int) < 0) := by omega
  simp only [if_neg h1, if_neg h2, Int.toNat_natCast]
  by_cases h : a ≤ xs.length
  · rw [Nat.min_eq_left h]
    by_cases g : b ≤ xs.length
    · rw [Nat.min_eq_left g]
    · rw [Nat.min_eq_right (by omega), List.take_of_length_le (by simp), List.take_of_length_le (by simp; omega)]
  · rw [List.drop_of_length_le (by omega), List.drop_of_length_le (by omega)]
    simp
theorem StrOk.cut {n a : Nat} {xs : List Int} (h : StrOk n xs) (b : Nat) (hb : a + b ≤ n) : StrOk b ((xs.drop a).take b) := by
  refine ⟨by simp [h.1]; omega, fun x hx => h.2 x (List.mem_of_mem_drop (List.mem_of_mem_take hx))⟩
end L2

set_option maxHeartbeats 4000000
namespace L2
open PySem PySem.Spec PyProof.Rows Tl

section
variable {prog : Program} {w : World} {A : Around} {R : Result → Shared → Prop} {I : Addr} {fp wr : List Addr} {P : Nat → Value → Prop} {St : Nat → Heap → Prop}
end
section
variable {prog : Program} {w : World} {A : Around} {R : Result → Shared → Prop} {I : Addr} {fp wr : List Addr} {P : Nat → Value → Prop} {St : Nat → Heap → Prop}
end
end L2

set_option maxHeartbeats 4000000
namespace L2
open PySem PySem.Spec PyProof.Rows Tl
def laterI (x y : Int × Int) : Int × Int := if sooner x y then y else x
structure Frm where
  w : Int
  h : Int
  f : Int
  m : Int
structure BkOk (F : Frm) (ds : List Wd) (xs : List (Int × Int)) : Prop where
  fo : FormOk F.w F.h F.f F.m
  len : ds.length = xs.length
  wd : ∀ d ∈ ds, WdOk ds.length d
  po : PlsOk F.h xs
  n : ds.length ≤ 400
def wd0 : Wd := ⟨0, false, .text [], []⟩
abbrev dAt (ds : List Wd) (i : Nat) : Wd := ds.getD i wd0
abbrev xAt (xs : List (Int × Int)) (i : Nat) : Int × Int := xs.getD i (0, 0)
def wideW (F : Frm) (xs : List (Int × Int)) (d : Wd) : Int := ((saidL F.h F.f xs d.say).length : Int)
def highW (F : Frm) (xs : List (Int × Int)) (d : Wd) : Int := highF F.w F.h (d.foot.map (saidL F.h F.f xs))
def toldBehind (F : Frm) (ds : List Wd) (xs : List (Int × Int)) (i : Nat) : Int × Int :=
  firstFrom F.f (if 0 < i then laterI (xAt xs i) (behindI F.h F.f (xAt xs (i - 1)) (dAt ds i).lead) else xAt xs i) (dAt ds i).lead
def toldWide (F : Frm) (xs : List (Int × Int)) (j : Nat) (wide : Int) : Option (Int × Int) := if wide ≤ F.w then none else some (behindI F.h F.f (xAt xs j) 1)
def toldHigh (F : Frm) (xs : List (Int × Int)) (i j : Nat) (high : Int) : Option (Int × Int) := if (xAt xs j).1 < (xAt xs i).1 ∨ (xAt xs i).2 + 1 + high ≤ F.h then none else some ((xAt xs i).1 + 1, 0)
def toldKept (ds : List Wd) (xs : List (Int × Int)) (i : Nat) : Option (Int × Int) := if i + 1 = ds.length ∨ (dAt ds (i + 1)).kept = false then none else some ((xAt xs (i + 1)).1, 0)
def toldNever (F : Frm) (ds : List Wd) (xs : List (Int × Int)) (i : Nat) : Option (Int × Int) := if wideW F xs (dAt ds i) ≤ F.w ∧ highW F xs (dAt ds i) + 1 ≤ F.h then none else some (F.m, 0)
def segD (ds : List Wd) (j i : Nat) : List Wd := (ds.drop j).take (i + 1 - j)
def wides (F : Frm) (ds : List Wd) (xs : List (Int × Int)) (j i : Nat) : List Int := (segD ds j i).map (wideW F xs)
def highs (F : Frm) (ds : List Wd) (xs : List (Int × Int)) (j i : Nat) : List Int := (segD ds j i).map (highW F xs)
def together (l : List Int) : Int := l.sum + l.length - 1
def PlO (K : PySem.W.Frag) (H : Hp) (v : V) : Option (Int × Int) → Prop
  | none => v = .non
  | some x => ∃ q, v = .ref q ∧ SqT K H q (pl x)
theorem PlO.same {K : PySem.W.Frag} {H H' : Hp} {v : V} {o : Option (Int × Int)} (s : Same H H') (h : PlO K H v o) : PlO K H' v o := by
  cases o with
  | none => exact h
  | some x => obtain ⟨q, e, hq⟩ := h; exact ⟨q, e, s.tup hq⟩
theorem BkOk.d {F : Frm} {ds : List Wd} {xs : List (Int × Int)} (B : BkOk F ds xs) {i : Nat} (h : i < ds.length) : ds[i]? = some (dAt ds i) ∧ WdOk xs.length (dAt ds i) := by
  have e : ds[i]? = some ds[i] := List.getElem?_eq_getElem h
  have e2 : dAt ds i = ds[i] := by show ds.getD i wd0 = _; rw [List.getD_eq_getElem?_getD, e]; rfl
  rw [e2]
  exact ⟨e, B.len ▸ B.wd _ (List.getElem_mem h)⟩
theorem BkOk.x {F : Frm} {ds : List Wd} {xs : List (Int × Int)} (B : BkOk F ds xs) {i : Nat} (h : i < ds.length) : RowIn F.h (xAt xs i) ∧ (xAt xs i).1 < 10 ^ 60 := B.po.get (B.len ▸ h)
theorem WdsA.get {K : PySem.W.Frag} {H : Hp} {as : List Addr} {ds : List Wd} (h : WdsA K H as ds) {k : Nat} (hk : k < ds.length) : ∃ a, atI (as.map V.ref) (k : Int) = some (V.ref a) ∧ WdAt K H a (dAt ds k) := by
  have hk2 : k < as.length := by rw [h.1]; exact hk
  refine ⟨as[k], atI_nat (by rw [List.getElem?_map, List.getElem?_eq_getElem hk2]; rfl), ?_⟩
  have e : ds[k]? = some (dAt ds k) := by
    show _ = some (ds.getD k wd0)
    rw [List.getD_eq_getElem?_getD, List.getElem?_eq_getElem hk]
    rfl
  exact h.2 k _ _ (List.getElem?_eq_getElem hk2) e
theorem WdsA.drop {K : PySem.W.Frag} {H : Hp} {as : List Addr} {ds : List Wd} (h : WdsA K H as ds) (n : Nat) : WdsA K H (as.drop n) (ds.drop n) := by
  refine ⟨by simp [h.1], fun i b y e e' => ?_⟩
  rw [List.getElem?_drop] at e e'
  exact h.2 _ b y e e'
theorem WdsA.take {K : PySem.W.Frag} {H : Hp} {as : List Addr} {ds : List Wd} (h : WdsA K H as ds) (n : Nat) : WdsA K H (as.take n) (ds.take n) := by
  refine ⟨by simp [h.1], fun i b y e e' => ?_⟩
  rw [List.getElem?_take] at e e'
  split at e
  · rename_i c
    rw [if_pos c] at e'
    exact h.2 i b y e e'
  · cases e
theorem wd_at {as : List Addr} {ds : List Wd} (e : as.length = ds.length) {i : Nat} {y : V} (h : (as.map V.ref)[i]? = some y) : ∃ b d, y = V.ref b ∧ as[i]? = some b ∧ ds[i]? = some d := by
  rw [List.getElem?_map] at h
  cases eb : as[i]? with
  | none => rw [eb] at h; cases h
  | some b =>
    rw [eb] at h
    have hi : i < ds.length := by rw [← e]; exact (List.getElem?_eq_some_iff.mp eb).1
    exact ⟨b, ds[i], (Option.some.inj h).symm, rfl, List.getElem?_eq_getElem hi⟩
theorem LwAt.get {K : PySem.W.Frag} {H : Hp} {a : Addr} {xs : List (Int × Int)} {as : List Addr} (h : PlsA K H as xs) {k : Nat} (hk : k < xs.length) : ∃ b, atI (as.map V.ref) (k : Int) = some (V.ref b) ∧ SqT K H b (pl (xAt xs k)) := h.get hk
def PlOs (K : PySem.W.Frag) (H : Hp) (vs : List V) (os : List (Option (Int × Int))) : Prop := vs.length = os.length ∧ ∀ (k : Nat) v o, vs[k]? = some v → os[k]? = some o → PlO K H v o
theorem PlOs.same {K : PySem.W.Frag} {H H' : Hp} {vs : List V} {os : List (Option (Int × Int))} (s : Same H H') (h : PlOs K H vs os) : PlOs K H' vs os := ⟨h.1, fun k v o e e' => (h.2 k v o e e').same s⟩
theorem PlO.lst {K : PySem.W.Frag} {H : Hp} {l : Addr} {ys zs : List V} {v : V} {o : Option (Int × Int)} (e : H l = some (.lst ys)) (h : PlO K H v o) : PlO K (upd H l (.lst zs)) v o := by
  cases o with
  | none => exact h
  | some x => obtain ⟨q, e1, hq⟩ := h; exact ⟨q, e1, SqT.lst e hq⟩
theorem PlOs.lst {K : PySem.W.Frag} {H : Hp} {l : Addr} {ys zs : List V} {vs : List V} {os : List (Option (Int × Int))} (e : H l = some (.lst ys)) (h : PlOs K H vs os) : PlOs K (upd H l (.lst zs)) vs os := ⟨h.1, fun k v o e1 e' => (h.2 k v o e1 e').lst e⟩
theorem PlOs.nil {K : PySem.W.Frag} {H : Hp} : PlOs K H [] [] := ⟨rfl, fun k v o e _ => by simp at e⟩
theorem PlOs.snoc {K : PySem.W.Frag} {H : Hp} {vs : List V} {os : List (Option (Int × Int))} {v : V} {o : Option (Int × Int)} (h : PlOs K H vs os) (hx : PlO K H v o) : PlOs K H (vs ++ [v]) (os ++ [o]) := by
  refine ⟨by simp [h.1], fun i b y e e' => ?_⟩
  by_cases hi : i < vs.length
  · rw [List.getElem?_append_left hi] at e
    rw [List.getElem?_append_left (by rw [← h.1]; exact hi)] at e'
    exact h.2 i b y e e'
  · rw [List.getElem?_append_right (by omega)] at e
    rw [List.getElem?_append_right (by rw [← h.1]; omega)] at e'
    have : i - vs.length = 0 := by
      rcases Nat.eq_zero_or_pos (i - vs.length) with z | z
      · exact z
      · rw [List.getElem?_eq_none (by simp; omega)] at e; cases e
    rw [this] at e
    rw [← h.1, this] at e'
    cases e
    cases e'
    exact hx
def allTold (F : Frm) (ds : List Wd) (xs : List (Int × Int)) (i : Nat) : List (Option (Int × Int)) :=
  [some (toldBehind F ds xs i), toldKept ds xs i, toldNever F ds xs i] ++ (List.range i).map (fun j => toldWide F xs j (together (wides F ds xs j i))) ++ (List.range (i + 1)).map (fun j => toldHigh F xs i j (highs F ds xs j i).sum)
def bestOf (b : Int × Int) (os : List (Option (Int × Int))) : Int × Int := os.foldl (fun b o => match o with | none => b | some x => laterI b x) b
def raisedI (F : Frm) (ds : List Wd) (xs : List (Int × Int)) (i : Nat) : Int × Int := bestOf (xAt xs i) (allTold F ds xs i)
theorem cut_fr {α : Type} (xs : List α) (a : Nat) : cutL xs (some (a : Int)) none = xs.drop a := by
  unfold cutL HT.sIx
  have h2 : ¬ ((a : Int) < 0) := by omega
  simp only [if_neg h2, Int.toNat_natCast]
  rw [List.take_of_length_le (by simp)]
  by_cases g : a ≤ xs.length
  · rw [Nat.min_eq_left g]
  · rw [Nat.min_eq_right (by omega), List.drop_of_length_le (by omega), List.drop_of_length_le (by omega)]
theorem op_neNil {X : Cx} (hu : X.A.units < cLine) : OpR X (compareOp .NotEq) (fun x y H Q => ∃ a b xs, x = .ref a ∧ y = .ref b ∧ SqL X.K H a xs ∧ SqL X.K H b [] ∧ Q (.bl (!xs.isEmpty)) H) := by
  intro pins s σ H x y v u Q I rx ry h
  obtain ⟨a, b, xs, rfl, rfl, ha, hb, q⟩ := h
  cases rx
  cases ry
  obtain ⟨its, r, p, z⟩ := I.list ha
  obtain ⟨its2, r2, p2, z2⟩ := I.list hb
  have l1 := r.length
  have l2 := r2.length
  cases xs with
  | nil =>
    refine SeqAt.RcNeAt.lists (e := fun _ => true) p.isList p2.isList (by simp at l1 l2 ⊢; omega) hu (fun j h1 h2 => absurd h1 (by simp at l1 ⊢; omega)) _ _ _ _ ⟨.bl _, H, I, rfl, ?_⟩
    have e : its.toArray.size = 0 := by rw [List.size_toArray]; exact l1.symm
    rw [e]
    exact q
  | cons x r => exact SeqAt.RcNeAt.lists_lengths p.isList p2.isList (by simp at l1 l2 ⊢; omega) hu _ _ _ _ ⟨.bl true, H, I, rfl, q⟩
theorem PlsA.set {K : PySem.W.Frag} {H : Hp} {as : List Addr} {xs : List (Int × Int)} {a : Addr} {x : Int × Int} (h : PlsA K H as xs) (k : Nat) (hx : SqT K H a (pl x)) : PlsA K H (as.set k a) (xs.set k x) := by
  refine ⟨by simp [h.1], fun i b y e e' => ?_⟩
  rw [List.getElem?_set] at e e'
  by_cases c : k = i
  · rw [if_pos c] at e e'
    split at e
    · split at e'
      · cases e; cases e'; exact hx
      · cases e'
    · cases e
  · rw [if_neg c] at e e'
    exact h.2 i b y e e'
theorem PlsOk.set {h : Int} {xs : List (Int × Int)} {x : Int × Int} (o : PlsOk h xs) (k : Nat) (i : RowIn h x) (b : x.1 < 10 ^ 60) : PlsOk h (xs.set k x) := by
  intro y hy
  rcases List.mem_or_eq_of_mem_set hy with hy | rfl
  · exact o y hy
  · exact ⟨i, b⟩
end L2
namespace L2
open PySem PySem.Spec PyProof.Rows Tl
def Cp (K : PySem.W.Frag) (H : Hp) (a b : Addr) : Prop := ∃ (l : Int) (k : Bool) (sa fo fo' : Addr) (bs : List Addr), SqT K H a [.int l, .bl k, .ref sa, .ref fo] ∧ SqT K H b [.int l, .bl k, .ref sa, .ref fo'] ∧ SqL K H fo (bs.map V.ref) ∧ SqL K H fo' (bs.map V.ref)
theorem Cp.same {K : PySem.W.Frag} {H H' : Hp} {a b : Addr} (s : Same H H') (h : Cp K H a b) : Cp K H' a b := by
  obtain ⟨l, k, sa, fo, fo', bs, h1, h2, h3, h4⟩ := h
  exact ⟨l, k, sa, fo, fo', bs, s.tup h1, s.tup h2, s.seq h3, s.seq h4⟩
def CpA (K : PySem.W.Frag) (H : Hp) (as bs : List Addr) : Prop := as.length = bs.length ∧ ∀ (i : Nat) a b, as[i]? = some a → bs[i]? = some b → Cp K H a b
theorem CpA.same {K : PySem.W.Frag} {H H' : Hp} {as bs : List Addr} (s : Same H H') (h : CpA K H as bs) : CpA K H' as bs := ⟨h.1, fun i a b e e' => (h.2 i a b e e').same s⟩
theorem CpA.snoc {K : PySem.W.Frag} {H : Hp} {as bs : List Addr} {a b : Addr} (h : CpA K H as bs) (hx : Cp K H a b) : CpA K H (as ++ [a]) (bs ++ [b]) := by
  refine ⟨by simp [h.1], fun i c y e e' => ?_⟩
  by_cases hi : i < as.length
  · rw [List.getElem?_append_left hi] at e
    rw [List.getElem?_append_left (by rw [← h.1]; exact hi)] at e'
    exact h.2 i c y e e'
  · rw [List.getElem?_append_right (by omega)] at e
    rw [List.getElem?_append_right (by rw [← h.1]; omega)] at e'
    have : i - as.length = 0 := by
      rcases Nat.eq_zero_or_pos (i - as.length) with z | z
      · exact z
      · rw [List.getElem?_eq_none (by simp; omega)] at e; cases e
    rw [this] at e
    rw [← h.1, this] at e'
    cases e
    cases e'
    exact hx
theorem Dq.refs {K : PySem.W.Frag} {H : Hp} {n : Nat} {xs : List V} (h : ∀ x ∈ xs, sameV x) : ∀ (i : Nat) x y, xs[i]? = some x → xs[i]? = some y → Dq K H n x y := by
  intro i x y e e'
  rw [e] at e'
  cases e'
  have b : (flatV x = true ∧ flatV x = true ∧ eqV x x = true) ∨ ∃ a, x = .ref a ∧ x = .ref a := by
    rcases h x (List.mem_of_getElem? e) with f | ⟨a, rfl⟩
    · exact .inl ⟨f, f, eqV_refl f⟩
    · exact .inr ⟨a, rfl, rfl⟩
  cases n with
  | zero => exact b
  | succ n => exact .inl b
theorem Cp.dq {K : PySem.W.Frag} {H : Hp} {a b : Addr} (h : Cp K H a b) : Dq K H 2 (V.ref b) (V.ref a) := by
  obtain ⟨l, k, sa, fo, fo', bs, h1, h2, h3, h4⟩ := h
  refine .inr ⟨b, a, _, _, rfl, rfl, .inr ⟨h2, h1⟩, rfl, fun i x y e e' => ?_⟩
  match i, e, e' with
  | 0, e, e' => cases e; cases e'; exact .inl (.inl ⟨rfl, rfl, eqV_refl rfl⟩)
  | 1, e, e' => cases e; cases e'; exact .inl (.inl ⟨rfl, rfl, eqV_refl rfl⟩)
  | 2, e, e' => cases e; cases e'; exact .inl (.inr ⟨_, rfl, rfl⟩)
  | 3, e, e' => cases e; cases e'; exact .inr ⟨_, _, _, _, rfl, rfl, .inl ⟨h4, h3⟩, rfl, Dq.refs (ref_same bs)⟩
theorem CpA.dq {K : PySem.W.Frag} {H : Hp} {as bs : List Addr} (h : CpA K H as bs) {wa wb : Addr} (h1 : SqL K H wa (as.map V.ref)) (h2 : SqL K H wb (bs.map V.ref)) : Dq K H 3 (V.ref wb) (V.ref wa) := by
  refine .inr ⟨wb, wa, _, _, rfl, rfl, .inl ⟨h2, h1⟩, by simp [h.1], fun i x y e e' => ?_⟩
  rw [List.getElem?_map] at e e'
  cases eb : bs[i]? with
  | none => rw [eb] at e; cases e
  | some b =>
    cases ea : as[i]? with
    | none => rw [ea] at e'; cases e'
    | some a =>
      rw [eb] at e
      rw [ea] at e'
      cases e
      cases e'
      exact (h.2 i a b ea eb).dq
end L2
namespace L2
open PySem PySem.Spec PyProof.Rows Tl
end L2
namespace L2
open PySem PySem.Spec PyProof.Rows Tl
end L2
namespace L2
open PySem PySem.Spec PyProof.Rows Tl
def rLen (K : PySem.W.Frag) : List V → Hp → VK → Prop := fun xs H Q => ∃ p ys, xs = [.ref p] ∧ (SqL K H p ys ∨ SqT K H p ys) ∧ Q (.int (ys.length : Nat)) H
end L2

namespace L2
open PySem PySem.Spec PyProof.Rows Tl
def kB : Str := PySem.Str.ofString "behind"
def kK : Str := PySem.Str.ofString "kept"
section
variable (F : Frm) (ds : List Wd) (xs : List (Int × Int)) (k : Str) (i : Nat) (j : Int)
end
end L2
namespace L2
open PySem PySem.Spec PyProof.Rows Tl
def rList (K : PySem.W.Frag) : List V → Hp → VK → Prop := fun xs H Q => ∃ p ys, xs = [.ref p] ∧ (SqL K H p ys ∨ SqT K H p ys) ∧ ∀ l, H l = none → Q (.ref l) (upd H l (.lst ys))
theorem hu100 {A : Around} {k : Nat} (hr : Room k A) : A.units + 100 < cLine := by have := hr.un; omega
end L2
namespace L2
open PySem PySem.Spec PyProof.Rows Tl
end L2

set_option maxHeartbeats 4000000
namespace L2
open PySem PySem.Spec PyProof.Rows Tl
theorem le_tr {x y z : Int × Int} (a : sooner y x = false) (b : sooner z y = false) : sooner z x = false := by
  rw [not_sooner] at a b ⊢
  omega
theorem later_ge1 (x y : Int × Int) : sooner (laterI x y) x = false := by
  unfold laterI
  cases e : sooner x y with
  | true =>
    rw [if_pos rfl]
    rw [sooner_iff] at e
    rw [not_sooner]
    omega
  | false => rw [if_neg (by decide)]; exact sooner_refl x
theorem later_ge2 (x y : Int × Int) : sooner (laterI x y) y = false := by
  unfold laterI
  cases e : sooner x y with
  | true => rw [if_pos rfl]; exact sooner_refl y
  | false => rw [if_neg (by decide)]; exact e
theorem later_le {x y z : Int × Int} (a : sooner z x = false) (b : sooner z y = false) : sooner z (laterI x y) = false := by
  unfold laterI
  cases e : sooner x y with
  | true => rw [if_pos rfl]; exact b
  | false => rw [if_neg (by decide)]; exact a
theorem best_ge : ∀ (os : List (Option (Int × Int))) (b : Int × Int), sooner (bestOf b os) b = false ∧ ∀ x, some x ∈ os → sooner (bestOf b os) x = false
  | [], b => ⟨sooner_refl b, fun x h => by cases h⟩
  | none :: r, b => by
    obtain ⟨h1, h2⟩ := best_ge r b
    refine ⟨h1, fun x h => h2 x ?_⟩
    rcases List.mem_cons.mp h with h | h
    · cases h
    · exact h
  | some y :: r, b => by
    obtain ⟨h1, h2⟩ := best_ge r (laterI b y)
    refine ⟨le_tr (later_ge1 b y) h1, fun x h => ?_⟩
    rcases List.mem_cons.mp h with h | h
    · have e : x = y := by cases h; rfl
      rw [e]
      exact le_tr (later_ge2 b y) h1
    · exact h2 x h
theorem best_le : ∀ (os : List (Option (Int × Int))) (b z : Int × Int), sooner z b = false → (∀ x, some x ∈ os → sooner z x = false) → sooner z (bestOf b os) = false
  | [], b, z, h, _ => h
  | none :: r, b, z, h, h2 => best_le r b z h fun x hx => h2 x (List.mem_cons_of_mem _ hx)
  | some y :: r, b, z, h, h2 => best_le r (laterI b y) z (later_le h (h2 y List.mem_cons_self)) fun x hx => h2 x (List.mem_cons_of_mem _ hx)
theorem sum_le {α : Type} {f g : α → Int} : ∀ (l : List α), (∀ d ∈ l, f d ≤ g d) → (l.map f).sum ≤ (l.map g).sum
  | [], _ => Int.le_refl _
  | a :: r, h => by
    have h1 := h a List.mem_cons_self
    have h2 := sum_le r fun d hd => h d (List.mem_cons_of_mem _ hd)
    rw [List.map_cons, List.map_cons, List.sum_cons, List.sum_cons]
    omega
section
variable {F : Frm} {ds : List Wd} {xs ys : List (Int × Int)}
theorem wide_grows (B : BkOk F ds xs) (C : BkOk F ds ys) (le : PlsLe xs ys) {d : Wd} (hd : d ∈ ds) : wideW F xs d ≤ wideW F ys d := by
  have wk := B.wd d hd
  rw [B.len] at wk
  have := said_grows B.fo B.po C.po le wk.s
  unfold wideW
  omega
theorem foot_grows (B : BkOk F ds xs) (C : BkOk F ds ys) (le : PlsLe xs ys) {d : Wd} (hd : d ∈ ds) : highW F xs d ≤ highW F ys d := by
  have wk := B.wd d hd
  rw [B.len] at wk
  unfold highW
  rw [high_eq, high_eq]
  refine high_grows (by simp) (fun k hk => ?_) (fun t ht => ?_)
  · rw [List.length_map, List.length_map] at hk
    have hs := wk.f (d.foot[k]) (List.getElem_mem hk)
    have := said_grows B.fo B.po C.po le hs
    simp only [List.getD_eq_getElem?_getD, List.getElem?_map, List.getElem?_eq_getElem hk, Option.map_some, Option.getD_some]
    omega
  · obtain ⟨u, _, rfl⟩ := List.mem_map.mp ht
    omega
theorem seg_mem {j i : Nat} {d : Wd} (h : d ∈ segD ds j i) : d ∈ ds := List.mem_of_mem_drop (List.mem_of_mem_take h)
theorem wides_grow (B : BkOk F ds xs) (C : BkOk F ds ys) (le : PlsLe xs ys) (j i : Nat) : together (wides F ds xs j i) ≤ together (wides F ds ys j i) := by
  have := sum_le (f := wideW F xs) (g := wideW F ys) (segD ds j i) fun d hd => wide_grows B C le (seg_mem hd)
  unfold together wides
  rw [List.length_map, List.length_map]
  omega
theorem highs_grow (B : BkOk F ds xs) (C : BkOk F ds ys) (le : PlsLe xs ys) (j i : Nat) : (highs F ds xs j i).sum ≤ (highs F ds ys j i).sum :=
  sum_le (segD ds j i) fun d hd => foot_grows B C le (seg_mem hd)
theorem all_mem {i : Nat} {x : Int × Int} : some x ∈ allTold F ds xs i ↔ (x = toldBehind F ds xs i ∨ toldKept ds xs i = some x ∨ toldNever F ds xs i = some x ∨ (∃ j, j < i ∧ toldWide F xs j (together (wides F ds xs j i)) = some x) ∨ ∃ j, j < i + 1 ∧ toldHigh F xs i j (highs F ds xs j i).sum = some x) := by
  unfold allTold
  simp only [List.mem_append, List.mem_cons, List.mem_map, List.mem_range, List.not_mem_nil, or_false, Option.some.injEq]
  constructor
  · rintro (((h | h | h) | ⟨j, h1, h2⟩) | ⟨j, h1, h2⟩)
    · exact .inl h
    · exact .inr (.inl h.symm)
    · exact .inr (.inr (.inl h.symm))
    · exact .inr (.inr (.inr (.inl ⟨j, h1, h2⟩)))
    · exact .inr (.inr (.inr (.inr ⟨j, h1, h2⟩)))
  · rintro (h | h | h | ⟨j, h1, h2⟩ | ⟨j, h1, h2⟩)
    · exact .inl (.inl (.inl h))
    · exact .inl (.inl (.inr (.inl h.symm)))
    · exact .inl (.inl (.inr (.inr h.symm)))
    · exact .inl (.inr ⟨j, h1, h2⟩)
    · exact .inr ⟨j, h1, h2⟩
theorem behind_told_grows (B : BkOk F ds xs) (C : BkOk F ds ys) (le : PlsLe xs ys) {i : Nat} (hi : i < ds.length) : sooner (toldBehind F ds ys i) (toldBehind F ds xs i) = false := by
  have wk := (B.d hi).2
  have rx := (B.x hi).1
  have ry := (C.x hi).1
  have l0 : sooner (xAt ys i) (xAt xs i) = false := le.2 i (by rw [← B.len]; exact hi)
  unfold toldBehind
  by_cases c : 0 < i
  · rw [if_pos c, if_pos c]
    have rx1 := (B.x (show i - 1 < ds.length by omega)).1
    have ry1 := (C.x (show i - 1 < ds.length by omega)).1
    have l1 : sooner (xAt ys (i - 1)) (xAt xs (i - 1)) = false := le.2 (i - 1) (by rw [← B.len]; omega)
    have g := behind_grows (f := F.f) rx1 ry1 l1 wk.l0 (Int.le_refl _) wk.l1
    have bx := behind_in (f := F.f) rx1 wk.l0 wk.l1
    have byy := behind_in (f := F.f) ry1 wk.l0 wk.l1
    have li : ∀ {a b : Int × Int}, RowIn F.h a → RowIn F.h b → RowIn F.h (laterI a b) := fun {a b} ha hb => by
      unfold laterI
      split
      · exact hb
      · exact ha
    refine first_grows (li rx bx) (li ry byy) ?_ (Int.le_refl _) wk.l1
    exact later_le (le_tr l0 (later_ge1 _ _)) (le_tr g (later_ge2 _ _))
  · rw [if_neg c, if_neg c]
    exact first_grows rx ry l0 (Int.le_refl _) wk.l1
theorem raised_grows (B : BkOk F ds xs) (C : BkOk F ds ys) (le : PlsLe xs ys) {i : Nat} (hi : i < ds.length) : sooner (raisedI F ds ys i) (raisedI F ds xs i) = false := by
  have l0 : sooner (xAt ys i) (xAt xs i) = false := le.2 i (by rw [← B.len]; exact hi)
  obtain ⟨g1, g2⟩ := best_ge (allTold F ds ys i) (xAt ys i)
  have gi : sooner (raisedI F ds ys i) (xAt ys i) = false := g1
  have gm : ∀ x, some x ∈ allTold F ds ys i → sooner (raisedI F ds ys i) x = false := g2
  have hmem : dAt ds i ∈ ds := List.mem_of_getElem? (B.d hi).1
  refine best_le _ _ _ (le_tr l0 gi) fun x hx => ?_
  rcases all_mem.mp hx with h | h | h | ⟨j, hj, h⟩ | ⟨j, hj, h⟩
  · rw [h]
    exact le_tr (behind_told_grows B C le hi) (gm _ (all_mem.mpr (.inl rfl)))
  · unfold toldKept at h
    split at h
    · cases h
    · rename_i c
      cases h
      have hi1 : i + 1 < ds.length := by omega
      refine le_tr (y := ((xAt ys (i + 1)).1, 0)) ?_ (gm _ (all_mem.mpr (.inr (.inl ?_))))
      · have l1 : sooner (xAt ys (i + 1)) (xAt xs (i + 1)) = false := le.2 (i + 1) (by rw [← B.len]; exact hi1)
        rw [not_sooner] at l1 ⊢
        simp only
        omega
      · unfold toldKept
        rw [if_neg c]
  · unfold toldNever at h
    split at h
    · cases h
    · rename_i c
      cases h
      refine gm _ (all_mem.mpr (.inr (.inr (.inl ?_))))
      unfold toldNever
      have w1 := wide_grows B C le hmem
      have w2 := foot_grows B C le hmem
      rw [if_neg (by omega)]
  · unfold toldWide at h
    split at h
    · cases h
    · rename_i c
      cases h
      have w1 := wides_grow B C le j i
      have hj2 : j < ds.length := by omega
      have l1 : sooner (xAt ys j) (xAt xs j) = false := le.2 j (by rw [← B.len]; exact hj2)
      refine le_tr (behind_grows (f := F.f) (B.x hj2).1 (C.x hj2).1 l1 (by decide) (Int.le_refl _) (by decide)) (gm _ (all_mem.mpr (.inr (.inr (.inr (.inl ⟨j, hj, ?_⟩))))))
      unfold toldWide
      rw [if_neg (by omega)]
  · unfold toldHigh at h
    split at h
    · cases h
    · rename_i c
      cases h
      have w1 := highs_grow B C le j i
      have hj2 : j < ds.length := by omega
      have l1 : sooner (xAt ys j) (xAt xs j) = false := le.2 j (by rw [← B.len]; exact hj2)
      have rx := (C.x hi).1.r1
      by_cases c2 : (xAt xs i).1 < (xAt ys i).1
      · refine le_tr ?_ gi
        rw [not_sooner]
        simp only
        omega
      · rw [not_sooner] at l0 l1
        have e1 : (xAt ys i).1 = (xAt xs i).1 := by omega
        refine gm _ (all_mem.mpr (.inr (.inr (.inr (.inr ⟨j, hj, ?_⟩)))))
        unfold toldHigh
        rw [if_neg (by omega), e1]
end
def PlsB (h : Int) (xs : List (Int × Int)) : Prop := ∀ x ∈ xs, RowIn h x ∧ x.1 < 10 ^ 60 - 900
theorem PlsB.ok {h : Int} {xs : List (Int × Int)} (o : PlsB h xs) : PlsOk h xs := fun x hx => ⟨(o x hx).1, by have := (o x hx).2; omega⟩
theorem PlsB.get {h : Int} {xs : List (Int × Int)} (o : PlsB h xs) {k : Nat} (hk : k < xs.length) : RowIn h (xs.getD k (0, 0)) ∧ (xs.getD k (0, 0)).1 < 10 ^ 60 - 900 := by
  rw [List.getD_eq_getElem?_getD, List.getElem?_eq_getElem hk]
  exact o _ (List.getElem_mem hk)
theorem PlsB.snoc {h : Int} {xs : List (Int × Int)} {x : Int × Int} (o : PlsB h xs) (i : RowIn h x) (b : x.1 < 10 ^ 60 - 900) : PlsB h (xs ++ [x]) := by
  intro y hy
  rcases List.mem_append.mp hy with hy | hy
  · exact o y hy
  · rw [List.mem_singleton.mp hy]
    exact ⟨i, b⟩
theorem PlsB.set {h : Int} {xs : List (Int × Int)} {x : Int × Int} (o : PlsB h xs) (k : Nat) (i : RowIn h x) (b : x.1 < 10 ^ 60 - 900) : PlsB h (xs.set k x) := by
  intro y hy
  rcases List.mem_or_eq_of_mem_set hy with hy | rfl
  · exact o y hy
  · exact ⟨i, b⟩
end L2

set_option maxHeartbeats 4000000
namespace L2
open PySem PySem.Spec PyProof.Rows Tl
section
variable {prog : Program} {w : World} {A : Around} {R : Result → Shared → Prop} {I : Addr} {fp wr : List Addr} {n : Nat} {P : Nat → Value → Prop} {St : Nat → Heap → Prop}
end
def Cov (ps : List (Int × Int)) (x : Int × Int) : Prop := ∃ p ∈ ps, sooner p x = false
theorem Cov.app {ps : List (Int × Int)} {x : Int × Int} (h : Cov ps x) (y : Int × Int) : Cov (ps ++ [y]) x := by
  obtain ⟨p, hp, e⟩ := h
  exact ⟨p, List.mem_append_left _ hp, e⟩
theorem Cov.last (ps : List (Int × Int)) (y : Int × Int) : Cov (ps ++ [y]) y := ⟨y, by simp, sooner_refl y⟩
def CovO (ps : List (Int × Int)) (o : Option (Int × Int)) : Prop := ∀ x, o = some x → Cov ps x
theorem CovO.app {ps : List (Int × Int)} {o : Option (Int × Int)} (h : CovO ps o) (y : Int × Int) : CovO (ps ++ [y]) o := fun x e => (h x e).app y
section
variable {F : Frm} {ds : List Wd} {xs : List (Int × Int)} {i : Nat}
def told3 (F : Frm) (ds : List Wd) (xs : List (Int × Int)) (i : Nat) : Nat → Option (Int × Int)
  | 0 => some (toldBehind F ds xs i)
  | 1 => toldKept ds xs i
  | _ => toldNever F ds xs i
structure Lat1 (F : Frm) (ds : List Wd) (xs : List (Int × Int)) (i n : Nat) (ps : List (Int × Int)) : Prop where
  und : ∀ p ∈ ps, sooner (raisedI F ds xs i) p = false
  c0 : Cov ps (xAt xs i)
  c : ∀ k, k < n → CovO ps (told3 F ds xs i k)
structure Lat2 (F : Frm) (ds : List Wd) (xs : List (Int × Int)) (i t : Nat) (ps : List (Int × Int)) : Prop where
  base : Lat1 F ds xs i 3 ps
  cw : ∀ j, i + 1 ≤ t + j → j < i → CovO ps (toldWide F xs j (together (wides F ds xs j i)))
  ch : ∀ j, i + 1 ≤ t + j → j ≤ i → CovO ps (toldHigh F xs i j (highs F ds xs j i).sum)
theorem Lat1.start : Lat1 F ds xs i 0 [xAt xs i] := by
  refine ⟨fun p hp => ?_, ⟨_, List.mem_singleton.mpr rfl, sooner_refl _⟩, fun k hk => absurd hk (Nat.not_lt_zero _)⟩
  rw [List.mem_singleton.mp hp]
  exact (best_ge _ _).1
theorem in_raised {x : Int × Int} (h : some x ∈ allTold F ds xs i) : sooner (raisedI F ds xs i) x = false := (best_ge _ _).2 x h
theorem told3_mem {k : Nat} {x : Int × Int} (h : told3 F ds xs i k = some x) : some x ∈ allTold F ds xs i := by
  rw [all_mem]
  match k, h with
  | 0, h => exact .inl (Option.some.inj h).symm
  | 1, h => exact .inr (.inl h)
  | k + 2, h => exact .inr (.inr (.inl h))
theorem Lat1.no {n : Nat} {ps : List (Int × Int)} (h : Lat1 F ds xs i n ps) (e : ∀ x, told3 F ds xs i n = some x → sooner (xAt xs i) x = false) : Lat1 F ds xs i (n + 1) ps := by
  refine ⟨h.und, h.c0, fun k hk x ex => ?_⟩
  by_cases c : k = n
  · subst c
    obtain ⟨p, hp, e0⟩ := h.c0
    exact ⟨p, hp, le_tr (e x ex) e0⟩
  · exact h.c k (by omega) x ex
theorem Lat1.yes {n : Nat} {ps : List (Int × Int)} {y : Int × Int} (h : Lat1 F ds xs i n ps) (e : told3 F ds xs i n = some y) : Lat1 F ds xs i (n + 1) (ps ++ [y]) := by
  refine ⟨fun p hp => ?_, h.c0.app y, fun k hk x ex => ?_⟩
  · rcases List.mem_append.mp hp with hp | hp
    · exact h.und p hp
    · rw [List.mem_singleton.mp hp]
      exact in_raised (told3_mem e)
  · by_cases c : k = n
    · subst c
      rw [e] at ex
      cases ex
      exact Cov.last ps _
    · exact (h.c k (by omega)).app y x ex
theorem Lat1.snoc {n : Nat} {ps : List (Int × Int)} {y : Int × Int} (h : Lat1 F ds xs i n ps) (hy : some y ∈ allTold F ds xs i) : Lat1 F ds xs i n (ps ++ [y]) := by
  refine ⟨fun p hp => ?_, h.c0.app y, fun k hk => (h.c k hk).app y⟩
  rcases List.mem_append.mp hp with hp | hp
  · exact h.und p hp
  · rw [List.mem_singleton.mp hp]
    exact in_raised hy
theorem Lat2.start {ps : List (Int × Int)} (h : Lat1 F ds xs i 3 ps) : Lat2 F ds xs i 0 ps := ⟨h, fun j a b => by omega, fun j a b => by omega⟩
end
end L2

set_option maxHeartbeats 4000000
namespace L2
open PySem PySem.Spec PyProof.Rows Tl
section
variable {F : Frm} {ds : List Wd} {xs ys : List (Int × Int)} {i : Nat}
def Fixd (F : Frm) (ds : List Wd) (xs : List (Int × Int)) : Prop := ∀ i, i < ds.length → raisedI F ds xs i = xAt xs i
def Pages (m : Int) (xs : List (Int × Int)) : Prop := ∀ x ∈ xs, x.1 < m
def LowX (F : Frm) (ds : List Wd) (xs : List (Int × Int)) : Prop := ∀ X, BkOk F ds X → Fixd F ds X → PlsLe xs X
theorem xAt_set {k : Nat} {y : Int × Int} (hi : i < xs.length) : xAt (xs.set i y) k = if k = i then y else xAt xs k := by
  show (xs.set i y).getD k (0, 0) = if k = i then y else xs.getD k (0, 0)
  rw [List.getD_eq_getElem?_getD, List.getElem?_set]
  by_cases c : i = k
  · subst c
    rw [if_pos rfl, if_pos rfl, if_pos hi]
    rfl
  · rw [if_neg c, if_neg (Ne.symm c), ← List.getD_eq_getElem?_getD]
theorem xAt_mem {k : Nat} (hk : k < xs.length) : xAt xs k ∈ xs := by
  show xs.getD k (0, 0) ∈ xs
  rw [List.getD_eq_getElem?_getD, List.getElem?_eq_getElem hk]
  exact List.getElem_mem hk
theorem BkOk.set (B : BkOk F ds xs) {y : Int × Int} (r : RowIn F.h y) (b : y.1 < 10 ^ 60) : BkOk F ds (xs.set i y) := ⟨B.fo, by rw [List.length_set]; exact B.len, B.wd, B.po.set i r b, B.n⟩
theorem LowX.set (L : LowX F ds xs) (B : BkOk F ds xs) (hi : i < ds.length) : LowX F ds (xs.set i (raisedI F ds xs i)) := by
  intro X C fx
  have le := L X C fx
  refine ⟨by rw [List.length_set]; exact le.1, fun k hk => ?_⟩
  rw [List.length_set] at hk
  have e := xAt_set (k := k) (y := raisedI F ds xs i) (show i < xs.length by rw [← B.len]; exact hi)
  show sooner (xAt X k) (xAt (xs.set i (raisedI F ds xs i)) k) = false
  rw [e]
  by_cases c : k = i
  · rw [if_pos c, c, ← fx i hi]
    exact raised_grows B C le hi
  · rw [if_neg c]
    exact le.2 k hk
theorem LowX.zero (e : xs.length = ds.length) (z : ∀ x ∈ xs, x = (0, 0)) : LowX F ds xs := by
  intro X C _
  refine ⟨by rw [e, C.len], fun k hk => ?_⟩
  have h1 := z _ (xAt_mem hk)
  show sooner (xAt X k) (xAt xs k) = false
  rw [h1]
  have r := (C.x (i := k) (by omega)).1
  have p := r.p1
  have q := r.r1
  rw [not_sooner]
  simp only
  omega
def rank (h : Int) (x : Int × Int) : Int := x.1 * h + x.2
theorem sum_bound {f : Int × Int → Int} {c : Int} : ∀ (xs : List (Int × Int)), (∀ x ∈ xs, f x ≤ c) → (xs.map f).sum ≤ xs.length * c
  | [], _ => by simp
  | x :: r, h => by
    have h1 := h x List.mem_cons_self
    have h2 := sum_bound r fun y hy => h y (List.mem_cons_of_mem _ hy)
    rw [List.map_cons, List.sum_cons, List.length_cons, Int.natCast_succ, Int.add_mul]
    omega
theorem rank_small {h m : Int} {x : Int × Int} (r : RowIn h x) (p : x.1 < m) : rank h x ≤ h * m := by
  unfold rank
  have h0 : 0 ≤ h := by have := r.r1; have := r.r2; omega
  have := Int.mul_le_mul_of_nonneg_right (show x.1 + 1 ≤ m by omega) h0
  rw [Int.add_mul] at this
  have e := Int.mul_comm m h
  have a := r.r2
  omega
end
theorem PlsA.dq {K : PySem.W.Frag} {H : Hp} {as bs : List Addr} {xs : List (Int × Int)} (h1 : PlsA K H as xs) (h2 : PlsA K H bs xs) : ∀ (i : Nat) x y, (as.map V.ref)[i]? = some x → (bs.map V.ref)[i]? = some y → Dq K H 1 x y := by
  intro i x y e e'
  rw [List.getElem?_map] at e e'
  cases ea : as[i]? with
  | none => rw [ea] at e; cases e
  | some a =>
    cases eb : bs[i]? with
    | none => rw [eb] at e'; cases e'
    | some b =>
      rw [ea] at e
      rw [eb] at e'
      cases e
      cases e'
      have hi : i < xs.length := by rw [← h1.1]; exact (List.getElem?_eq_some_iff.mp ea).1
      refine .inr ⟨a, b, _, _, rfl, rfl, .inr ⟨h1.2 i a xs[i] ea (List.getElem?_eq_getElem hi), h2.2 i b xs[i] eb (List.getElem?_eq_getElem hi)⟩, rfl, fun j u v eu ev => ?_⟩
      rw [eu] at ev
      cases ev
      match j, eu with
      | 0, eu => cases eu; exact .inl ⟨rfl, rfl, eqV_refl rfl⟩
      | 1, eu => cases eu; exact .inl ⟨rfl, rfl, eqV_refl rfl⟩
theorem rep1 {α : Type} (x : α) : ∀ n : Nat, (List.replicate n [x]).flatten = List.replicate n x
  | 0 => rfl
  | n + 1 => by rw [List.replicate_succ, List.flatten_cons, rep1 x n]; rfl
theorem PlsA.rep {K : PySem.W.Frag} {H : Hp} {a : Addr} {x : Int × Int} (n : Nat) (h : SqT K H a (pl x)) : PlsA K H (List.replicate n a) (List.replicate n x) := by
  refine ⟨by simp, fun i b y e e' => ?_⟩
  rw [List.getElem?_replicate] at e e'
  split at e
  · rename_i c
    rw [if_pos c] at e'
    cases e
    cases e'
    exact h
  · cases e
end L2

set_option maxHeartbeats 4000000
namespace L2
open PySem PySem.Spec PyProof.Rows Tl
section
variable {X : Cx} {elts : List Expr} {k1 : Nat} {tp : Pos}
end
end L2

set_option maxHeartbeats 4000000
namespace PySem
abbrev IsZ2 (h : Heap) (z TI TO : Addr) (f0 f1 : Value) : Prop :=
  h.get? z = some { cls := .type "zip", dict := none, data := .fields #[f0, f1, .bool false, .ref TI, .ref TO], slots := #[] }
section
variable {prog : Program} {w : World} {A : Around} {E : Value → Shared → Prop} {s : Shared}
def ZAt (z TI TO : Addr) (i : Nat) (h : Heap) : Prop := (i = 0 ∧ IsZip h z TI TO .none) ∨ (0 < i ∧ ∃ (T : Addr) (b : Bool) (oT : Obj), IsZ2 h z TI TO (rawInt T) (.bool b) ∧ h.get? T = some oT ∧ T ∉ [z, TO] ∧ oT.cls = .type "tuple")
end
section
variable {prog : Program} {w : World} {A : Around} {R : Result → Shared → Prop}
theorem ZAt.keep {z TI TO S : Addr} {i : Nat} {h h' : Heap} {acc : Array Value} {c : Nat} (hz : ZAt z TI TO i h) (nz : S ≠ z) (hS : h.get? S = some { cls := .type "list", dict := none, data := .seq acc c, slots := #[] }) (k : ∀ b o, b ≠ S → h.get? b = some o → h'.get? b = some o) : ZAt z TI TO i h' := by
  rcases hz with ⟨i0, hz⟩ | ⟨i0, T, b, oT, hz, hT, nT, cT⟩
  · exact .inl ⟨i0, k z _ (Ne.symm nz) hz⟩
  · refine .inr ⟨i0, T, b, oT, k z _ (Ne.symm nz) hz, k T _ (fun e => ?_) hT, nT, cT⟩
    rw [e, hS] at hT
    cases hT
    simp at cT
end
namespace F
end F
section
variable {prog : Program} {w : World} {A : Around} {s : Shared} {R : Result → Shared → Prop}
end
section
variable {prog : Program} {w : World} {A : Around} {E : Value → Shared → Prop} {s : Shared}
end
end PySem

set_option maxHeartbeats 4000000
namespace L2
open PySem PySem.Spec PyProof.Rows Tl
def trkP (H : Hp) (N : Nat) : List (V × V) → Hp
  | [] => H
  | p :: r => trkP (upd H N (.tup [p.1, p.2])) (N + 1) r
theorem Inv.tups {X : Cx} {pins : List (Addr × Obj)} {σ : St} {s : Shared} : ∀ {ps : List (V × V)} {H : Hp} {N : Nat}, Inv X pins σ H s → (∀ a, N ≤ a → H a = none) → X.s₀.heap.objs.size ≤ N → X.env.locals < N → (∀ x c, X.env.cells.lookup x = some c → c < N) → (∀ p ∈ X.pn ++ pins, p.1 < N) →
    (∀ (j : Nat) p, ps[j]? = some p → ∃ u v, RelV p.1 u ∧ RelV p.2 v ∧ IsPair s.heap (N + j) u v) → Inv X pins σ (trkP H N ps) s
  | [], H, N, I, _, _, _, _, _, _ => I
  | p :: r, H, N, I, hf, h0, h1, h2, h3, ok => by
    obtain ⟨u, v, ru, rv, hp⟩ := ok 0 p rfl
    have I1 : Inv X pins σ (upd H N (.tup [p.1, p.2])) s := I.track (hf N (Nat.le_refl _)) h0 (Nat.ne_of_gt h1) (fun x c q => Nat.ne_of_lt (h2 x c q)) (fun p hp => Nat.ne_of_lt (h3 p hp)) ⟨by show 2 ≤ sizeLine; decide, [u, v], .cons ru (.cons rv .nil), ⟨_, hp, rfl, _, rfl⟩⟩
    refine Inv.tups (ps := r) (N := N + 1) I1 (fun a ha => ?_) (Nat.le_succ_of_le h0) (Nat.lt_succ_of_lt h1) (fun x c q => Nat.lt_succ_of_lt (h2 x c q)) (fun p hp => Nat.lt_succ_of_lt (h3 p hp)) (fun j q e => ?_)
    · rw [upd_ne (Nat.ne_of_gt ha)]
      exact hf a (Nat.le_of_succ_le ha)
    · have := ok (j + 1) q (by simpa using e)
      rw [show N + (j + 1) = N + 1 + j by rw [Nat.add_assoc, Nat.add_comm 1]] at this
      exact this
end L2

set_option maxHeartbeats 4000000
namespace L2
open PySem PySem.Spec PyProof.Rows Tl
structure FunV (K : PySem.W.Frag) (x qual : Str) (st : Stmt) (f : Addr) (fd : FuncData) : Prop where
  ex : ∃ (oc : Value) (od : Option Addr) (dV kV doc pm : Value) (an : Option Addr) (cdv ct : Value) (osl : Array (Option Value)), fd = PySem.W.fnOf x qual (defArgs st) (defBody st) (defScope st) dV kV doc pm an cdv ct ∧ K.lookup f = some ⟨oc, od, .func fd, osl⟩ ∧ PySem.W.codeIn K cdv qual = true
  kp : PySem.W.keepIn K (.ref f) = true
theorem FunV.ok {P : Program} {w : World} {K : PySem.W.Frag} {mg : Str → Option Value} {base : Heap} {x qual : Str} {st : Stmt} {f : Addr} {fd : FuncData} {N ps : List Str} {k : Nat} {sp : Sp} (F : FunV K x qual st f fd) (S : FnScope N ps (defScope st)) (len : ∀ vs H Q E, sp vs H Q E → vs.length = ps.length) (hbody : ∀ (cdv : Value) (A : Around) (outer : List Env) (s : Shared) (H : Hp) (vs : List V) (Q : VK) (E : XK), Room k (A.deeper (envOfC qual (defScope st) s.heap.objs.size f cdv)) → sp vs H Q E →
      ∃ t, PSs (cxOf CX0 P w K mg base N qual (defScope st) f cdv A outer s H E).nox (defBody st) t ∧ t { nx := fun _ H' => Q .non H', rt := Q } (start N vs) H) : FnOk P w K mg base CX0 (k + 1) f fd ps sp := by
  obtain ⟨oc, od, dV, kV, doc, pm, an, cdv, ct, osl, rfl, lk, hcd⟩ := F.ex
  exact fn_of lk hcd S len fun A outer s H vs Q E hr hsp => let ⟨t, h, q⟩ := hbody cdv A outer s H vs Q E hr hsp; ⟨t, h.nox, q⟩
section
variable {X : Cx} {x : Str} {st : Stmt} {ps : List Str} {f : Addr} {fd : FuncData} {dv : Value} {k : Nat} {sp : Sp} {e : Expr} {es : List Expr} {t : TA} {p pos : Pos}
end
end L2

set_option maxHeartbeats 4000000
namespace L2
open PySem PySem.Spec PyProof.Rows Tl
def sizesL (F : Frm) (ds : List Wd) (xs : List (Int × Int)) : List (Int × Int) := ds.map fun d => (wideW F xs d, highW F xs d)
def LeZ (zs ys : List (Int × Int)) : Prop := zs.length = ys.length ∧ ∀ k, k < zs.length → (xAt zs k).1 ≤ (xAt ys k).1 ∧ (xAt zs k).2 ≤ (xAt ys k).2
section
variable {F : Frm} {ds : List Wd} {xs ys zs : List (Int × Int)} {i j : Nat}
theorem chain_le (h : ∀ k, 0 < k → k ≤ i → sooner (xAt xs k) (xAt xs (k - 1)) = false) : ∀ (d n : Nat), n + d ≤ i → sooner (xAt xs (n + d)) (xAt xs n) = false
  | 0, n, _ => sooner_refl _
  | d + 1, n, e => le_tr (chain_le h d n (by omega)) (h (n + (d + 1)) (by omega) e)
def LowF (F : Frm) (ds : List Wd) (x0 xs : List (Int × Int)) : Prop := ∀ X, BkOk F ds X → Fixd F ds X → PlsLe x0 X → PlsLe xs X
theorem LowF.set {x0 : List (Int × Int)} {y : Int × Int} (L : LowF F ds x0 xs) (B : BkOk F ds xs) (hi : i < ds.length) (hy : some y ∈ allTold F ds xs i) : LowF F ds x0 (xs.set i y) := by
  intro X C fx l0
  have le := L X C fx l0
  refine ⟨by rw [List.length_set]; exact le.1, fun k hk => ?_⟩
  rw [List.length_set] at hk
  have e := xAt_set (k := k) (y := y) (show i < xs.length by rw [← B.len]; exact hi)
  show sooner (xAt X k) (xAt (xs.set i y) k) = false
  rw [e]
  by_cases c : k = i
  · rw [if_pos c, c]
    have g := raised_grows B C le hi
    rw [fx i hi] at g
    exact le_tr ((best_ge _ _).2 y hy) g
  · rw [if_neg c]
    exact le.2 k hk
end
theorem LeZ.trans {a b c : List (Int × Int)} (h : LeZ a b) (g : LeZ b c) : LeZ a c := ⟨h.1.trans g.1, fun k hk => by
  have h1 := h.2 k hk
  have h2 := g.2 k (by rw [← h.1]; exact hk)
  omega⟩
theorem PlsLe.trans {a b c : List (Int × Int)} (h : PlsLe a b) (g : PlsLe b c) : PlsLe a c := ⟨h.1.trans g.1, fun k hk => le_tr (h.2 k hk) (g.2 k (by rw [← h.1]; exact hk))⟩
theorem PlsLe.refl (a : List (Int × Int)) : PlsLe a a := ⟨rfl, fun k _ => sooner_refl _⟩
structure RunOk (F : Frm) (ds : List Wd) (x0 zs xs : List (Int × Int)) (np : Nat) : Prop where
  B : BkOk F ds xs
  low : LowF F ds x0 xs
  le0 : PlsLe x0 xs
  lz : LeZ zs (sizesL F ds xs)
  pg : ∀ k, k < ds.length → (xAt xs k).1 ≤ F.m + 2
  ps : (np : Int) ≤ (xs.map (rank F.h)).sum
section
variable {F : Frm} {ds : List Wd} {x0 xs zs : List (Int × Int)} {np i : Nat}
theorem RunOk.sum_le (R : RunOk F ds x0 zs xs np) : (xs.map (rank F.h)).sum ≤ 1512000 := by
  have h1 := R.B.fo.h1
  have h2 := R.B.fo.h2
  have m1 := R.B.fo.m1
  have m2 := R.B.fo.m2
  have n := R.B.n
  have b := sum_bound (f := rank F.h) (c := 3780) xs (fun x hx => by
    obtain ⟨k, hk, rfl⟩ := List.mem_iff_getElem.mp hx
    have hk2 : k < ds.length := by rw [R.B.len]; exact hk
    have p := R.pg k hk2
    have r := (R.B.x hk2).1
    have e : xAt xs k = xs[k] := by
      show xs.getD k (0, 0) = _
      rw [List.getD_eq_getElem?_getD, List.getElem?_eq_getElem hk]
      rfl
    rw [e] at p r
    have s := rank_small (m := F.m + 3) r (by omega)
    have t : F.h * (F.m + 3) ≤ 60 * 63 := Int.mul_le_mul h2 (by omega) (by omega) (by decide)
    omega)
  have l : (xs.length : Int) ≤ 400 := by rw [← R.B.len]; omega
  have t : (xs.length : Int) * 3780 ≤ 400 * 3780 := Int.mul_le_mul_of_nonneg_right l (by decide)
  omega
end
end L2
namespace L2
open PySem PySem.Spec PyProof.Rows Tl
theorem WdsA.set {K : PySem.W.Frag} {H : Hp} {as : List Addr} {ds : List Wd} {a : Addr} {d : Wd} (h : WdsA K H as ds) (k : Nat) (hx : WdAt K H a d) : WdsA K H (as.set k a) (ds.set k d) := by
  refine ⟨by simp [h.1], fun i b y e e' => ?_⟩
  rw [List.getElem?_set] at e e'
  by_cases c : k = i
  · rw [if_pos c] at e e'
    split at e
    · split at e'
      · cases e; cases e'; exact hx
      · cases e'
    · cases e
  · rw [if_neg c] at e e'
    exact h.2 i b y e e'
theorem SaysA.rep {K : PySem.W.Frag} {H : Hp} {a : Addr} {s : Say} (n : Nat) (h : SqT K H a (sayV s)) : SaysA K H (List.replicate n a) (List.replicate n s) := by
  refine ⟨by simp, fun i b y e e' => ?_⟩
  rw [List.getElem?_replicate] at e e'
  split at e
  · rename_i c
    rw [if_pos c] at e'
    cases e
    cases e'
    exact h
  · cases e
end L2

set_option maxHeartbeats 4000000
namespace L2
open PySem PySem.Spec PyProof.Rows Tl
end L2

set_option maxHeartbeats 4000000
namespace L2
open PySem PySem.Spec PyProof.Rows Tl
structure SpotsOk (h f : Int) (xs : List (Int × Int)) (ls : List Int) : Prop where
  len : xs.length = ls.length
  l : ∀ i, i < xs.length → 0 ≤ ls.getD i 0 ∧ ls.getD i 0 ≤ 4
  r : ∀ i, i < xs.length → RowIn h (xAt xs i)
  ff : ∀ i, i < xs.length → firstFrom f (xAt xs i) (ls.getD i 0) = xAt xs i
  bh : ∀ i, 0 < i → i < xs.length → sooner (xAt xs i) (behindI h f (xAt xs (i - 1)) (ls.getD i 0)) = false
theorem SpotsOk.nil {h f : Int} : SpotsOk h f [] [] := ⟨rfl, fun i hi => absurd hi (Nat.not_lt_zero _), fun i hi => absurd hi (Nat.not_lt_zero _), fun i hi => absurd hi (Nat.not_lt_zero _), fun i _ hi => absurd hi (Nat.not_lt_zero _)⟩
theorem getD_snoc {α : Type} (xs : List α) (x d : α) (k : Nat) : (xs ++ [x]).getD k d = if k < xs.length then xs.getD k d else if k = xs.length then x else d := by
  rw [getD_app]
  split
  · rfl
  · rename_i c
    split
    · rename_i e
      rw [e, Nat.sub_self]
      rfl
    · rename_i e
      obtain ⟨m, hm⟩ : ∃ m, k - xs.length = m + 1 := ⟨k - xs.length - 1, by omega⟩
      rw [hm]
      rfl
theorem SpotsOk.snoc {h f l : Int} {xs : List (Int × Int)} {ls : List Int} {x : Int × Int} (S : SpotsOk h f xs ls) (l0 : 0 ≤ l) (l1 : l ≤ 4) (r : RowIn h x) (ff : firstFrom f x l = x) (bh : 0 < xs.length → sooner x (behindI h f (xAt xs (xs.length - 1)) l) = false) : SpotsOk h f (xs ++ [x]) (ls ++ [l]) := by
  have ex : ∀ k, xAt (xs ++ [x]) k = if k < xs.length then xAt xs k else if k = xs.length then x else (0, 0) := fun k => getD_snoc xs x (0, 0) k
  have el : ∀ k, (ls ++ [l]).getD k 0 = if k < xs.length then ls.getD k 0 else if k = xs.length then l else 0 := fun k => by rw [getD_snoc, S.len]
  have cs : ∀ i, i < (xs ++ [x]).length → i < xs.length ∨ i = xs.length := fun i hi => by
    rw [List.length_append] at hi
    simp at hi
    omega
  refine ⟨by simp [S.len], fun i hi => ?_, fun i hi => ?_, fun i hi => ?_, fun i i0 hi => ?_⟩
  · rw [el]
    rcases cs i hi with c | c
    · rw [if_pos c]; exact S.l i c
    · rw [if_neg (by omega), if_pos c]; exact ⟨l0, l1⟩
  · rw [ex]
    rcases cs i hi with c | c
    · rw [if_pos c]; exact S.r i c
    · rw [if_neg (by omega), if_pos c]; exact r
  · rw [ex, el]
    rcases cs i hi with c | c
    · rw [if_pos c, if_pos c]; exact S.ff i c
    · rw [if_neg (by omega), if_pos c, if_neg (by omega), if_pos c]; exact ff
  · rcases cs i hi with c | c
    · have e1 : xAt (xs ++ [x]) i = xAt xs i := by rw [ex, if_pos c]
      have e2 : (ls ++ [l]).getD i 0 = ls.getD i 0 := by rw [el, if_pos c]
      have e3 : xAt (xs ++ [x]) (i - 1) = xAt xs (i - 1) := by rw [ex, if_pos (by omega)]
      rw [e1, e2, e3]
      exact S.bh i i0 c
    · have e1 : xAt (xs ++ [x]) i = x := by rw [ex, if_neg (by omega), if_pos c]
      have e2 : (ls ++ [l]).getD i 0 = l := by rw [el, if_neg (by omega), if_pos c]
      have e3 : xAt (xs ++ [x]) (i - 1) = xAt xs (i - 1) := by rw [ex, if_pos (by omega)]
      rw [e1, e2, e3, c]
      exact bh (by omega)
theorem SpotsOk.mono {h f : Int} {xs : List (Int × Int)} {ls : List Int} (S : SpotsOk h f xs ls) : ∀ k, 0 < k → k < xs.length → sooner (xAt xs k) (xAt xs (k - 1)) = false := fun k k0 hk =>
  le_tr (behind_self (f := f) (S.r (k - 1) (by omega)) (S.l k hk).1 (S.l k hk).2) (S.bh k k0 hk)
theorem SpotsOk.le {h f : Int} {xs : List (Int × Int)} {ls : List Int} (S : SpotsOk h f xs ls) {j i : Nat} (hj : j ≤ i) (hi : i < xs.length) : sooner (xAt xs i) (xAt xs j) = false := by
  have := chain_le (i := i) (xs := xs) (fun k k0 k1 => S.mono k k0 (by omega)) (i - j) j (by omega)
  rwa [show j + (i - j) = i by omega] at this
section
variable {F : Frm} {ds : List Wd} {xs : List (Int × Int)} {i j : Nat}
end
def StsA (K : PySem.W.Frag) (H : Hp) (bs : List Addr) : Prop := ∀ b ∈ bs, ∃ xs : List Int, SqL K H b (xs.map V.int) ∧ StrOk 18 xs
theorem StsA.same {K : PySem.W.Frag} {H H' : Hp} {bs : List Addr} (s : Same H H') (h : StsA K H bs) : StsA K H' bs := fun b hb => by
  obtain ⟨xs, h1, h2⟩ := h b hb
  exact ⟨xs, s.seq h1, h2⟩
theorem xAt_of {xs : List (Int × Int)} {x : Int × Int} {k : Nat} (e : xs[k]? = some x) : xAt xs k = x := by
  show xs.getD k (0, 0) = x
  rw [List.getD_eq_getElem?_getD, e]
  rfl
end L2

set_option maxHeartbeats 4000000
namespace L2
open PySem PySem.Spec PyProof.Rows Tl
section
variable {room : Int} {brk : Nat → Bool}
end
section
variable {F : Frm} {ds : List Wd} {L room : Int} {brk : Nat → Bool}
end
def er1 (H : Hp) (wa : Addr) : Hp := fun b => if b = wa then none else H b
theorem er1_same (H : Hp) (wa : Addr) : Same (er1 H wa) H := fun b o h => by
  unfold er1 at h
  split at h
  · cases h
  · exact h
theorem er1_at {H : Hp} {wa b : Addr} (n : b ≠ wa) : er1 H wa b = H b := by
  unfold er1
  rw [if_neg n]
theorem er1_mono {H H' : Hp} {wa : Addr} (s : Same H H') : Same (er1 H wa) (er1 H' wa) := fun b o h => by
  unfold er1 at h ⊢
  split at h
  · cases h
  · rename_i c
    rw [if_neg c]
    exact s b o h
theorem er1_put {H : Hp} {wa : Addr} {o : HO} : er1 (upd H wa o) wa = er1 H wa := by
  funext b
  unfold er1
  by_cases c : b = wa
  · rw [if_pos c, if_pos c]
  · rw [if_neg c, if_neg c, upd_ne c]
theorem er1_tup {K : PySem.W.Frag} {H : Hp} {wa a : Addr} {xs zs : List V} (h2 : H wa = some (.lst zs)) (h : SqT K H a xs) : SqT K (er1 H wa) a xs := by
  have ne : ∀ o, H a = some o → (∀ l, o ≠ .lst l) → er1 H wa a = some o := fun o e n => by
    rw [er1_at (fun z => by rw [z, h2] at e; cases e; exact n _ rfl)]
    exact e
  rcases h with (h | ⟨o, h⟩) | h
  · exact .inl (.inl (ne _ h (fun l z => by cases z)))
  · exact .inl (.inr ⟨o, ne _ h (fun l z => by cases z)⟩)
  · exact .inr h
end L2

set_option maxHeartbeats 4000000
namespace L2
open PySem PySem.Spec PyProof.Rows Tl
section
variable {F : Frm} {ds : List Wd} {xs : List (Int × Int)} {i j : Nat}
end
theorem PlsA.take {K : PySem.W.Frag} {H : Hp} {as : List Addr} {xs : List (Int × Int)} (h : PlsA K H as xs) (n : Nat) : PlsA K H (as.take n) (xs.take n) := by
  refine ⟨by simp [h.1], fun i a x e e' => ?_⟩
  rw [List.getElem?_take] at e e'
  split at e
  · rename_i c
    rw [if_pos c] at e'
    exact h.2 i a x e e'
  · cases e
theorem PlsA.drop {K : PySem.W.Frag} {H : Hp} {as : List Addr} {xs : List (Int × Int)} (h : PlsA K H as xs) (n : Nat) : PlsA K H (as.drop n) (xs.drop n) := by
  refine ⟨by simp [h.1], fun i a x e e' => ?_⟩
  rw [List.getElem?_drop] at e e'
  exact h.2 _ a x e e'
theorem PlsA.app {K : PySem.W.Frag} {H : Hp} {as bs : List Addr} {xs ys : List (Int × Int)} (h : PlsA K H as xs) (g : PlsA K H bs ys) : PlsA K H (as ++ bs) (xs ++ ys) := by
  refine ⟨by simp [h.1, g.1], fun i a x e e' => ?_⟩
  by_cases c : i < as.length
  · rw [List.getElem?_append_left c] at e
    rw [List.getElem?_append_left (by rw [← h.1]; exact c)] at e'
    exact h.2 i a x e e'
  · rw [List.getElem?_append_right (by omega)] at e
    rw [List.getElem?_append_right (by rw [← h.1]; omega), ← h.1] at e'
    exact g.2 _ a x e e'
end L2

set_option maxHeartbeats 4000000
namespace L2
open PySem PySem.Spec PyProof.Rows Tl
def gI (a r k : Nat) : Nat := if k < a then k else k + r
section
variable {F : Frm} {ds es : List Wd} {xs ys : List (Int × Int)} {a r : Nat}
end
def mvSay (a r : Nat) : Say → Say
  | .text l => .text l
  | .page k => .page (gI a r k)
  | .row k => .row (gI a r k)
def mvW (a r : Nat) (d : Wd) : Wd := ⟨d.lead, d.kept, mvSay a r d.say, d.foot.map (mvSay a r)⟩
structure Stg (d e : Wd) : Prop where
  lead : d.lead ≤ e.lead
  kept : d.kept = true → e.kept = true
  say : e.say = d.say ∨ ∃ t u, d.say = .text t ∧ e.say = .text u ∧ t.length ≤ u.length
  foot : e.foot = d.foot ∨ ∃ s, e.foot = d.foot ++ [s]
theorem Stg.refl (d : Wd) : Stg d d := ⟨Int.le_refl _, fun h => h, .inl rfl, .inl rfl⟩
def kpW (b : Bool) (d : Wd) : Wd := ⟨d.lead, d.kept || b, d.say, d.foot⟩
def putIn (a : Nat) (ds rs : List Wd) : List Wd := (ds.map (mvW a rs.length)).take a ++ (rs.map (kpW (decide (a < ds.length) && (dAt ds a).kept))) ++ (ds.map (mvW a rs.length)).drop a
section
variable {a : Nat} {ds rs : List Wd}
theorem put_len (h : a ≤ ds.length) : (putIn a ds rs).length = ds.length + rs.length := by
  unfold putIn
  simp only [List.length_append, List.length_take, List.length_drop, List.length_map]
  omega
theorem put_at (h : a ≤ ds.length) {k : Nat} (hk : k < ds.length) : dAt (putIn a ds rs) (gI a rs.length k) = mvW a rs.length (dAt ds k) := by
  have e : dAt (ds.map (mvW a rs.length)) k = mvW a rs.length (dAt ds k) := by
    show (ds.map (mvW a rs.length)).getD k wd0 = mvW a rs.length (ds.getD k wd0)
    rw [List.getD_eq_getElem?_getD, List.getElem?_map, List.getElem?_eq_getElem hk, List.getD_eq_getElem?_getD, List.getElem?_eq_getElem hk]
    rfl
  rw [← e]
  show (putIn a ds rs).getD _ wd0 = (ds.map (mvW a rs.length)).getD k wd0
  unfold putIn gI
  have lt : ((ds.map (mvW a rs.length)).take a).length = a := by rw [List.length_take, List.length_map]; omega
  rw [List.append_assoc, getD_app, lt]
  split
  · rename_i c
    rw [List.getD_eq_getElem?_getD, List.getElem?_take, if_pos c, List.getD_eq_getElem?_getD]
  · rename_i c
    rw [if_neg (by omega), getD_app, List.length_map, if_neg (by omega), List.getD_eq_getElem?_getD, List.getElem?_drop, List.getD_eq_getElem?_getD, show a + (k + rs.length - a - rs.length) = k by omega]
theorem put_run (h : a ≤ ds.length) {q : Nat} (h1 : a ≤ q) (h2 : q < a + rs.length) : dAt (putIn a ds rs) q = kpW (decide (a < ds.length) && (dAt ds a).kept) (dAt rs (q - a)) := by
  show (putIn a ds rs).getD _ wd0 = _
  unfold putIn
  have lt : ((ds.map (mvW a rs.length)).take a).length = a := by rw [List.length_take, List.length_map]; omega
  have hq : q - a < rs.length := by omega
  rw [List.append_assoc, getD_app, lt, if_neg (by omega), getD_app, List.length_map, if_pos hq, List.getD_eq_getElem?_getD, List.getElem?_map, List.getElem?_eq_getElem hq]
  have : dAt rs (q - a) = rs[q - a] := by
    show rs.getD (q - a) wd0 = _
    rw [List.getD_eq_getElem?_getD, List.getElem?_eq_getElem hq]
    rfl
  rw [this]
  rfl
end
theorem WdsA.app {K : PySem.W.Frag} {H : Hp} {as bs : List Addr} {ds es : List Wd} (h : WdsA K H as ds) (g : WdsA K H bs es) : WdsA K H (as ++ bs) (ds ++ es) := by
  refine ⟨by simp [h.1, g.1], fun i a x e e' => ?_⟩
  by_cases c : i < as.length
  · rw [List.getElem?_append_left c] at e
    rw [List.getElem?_append_left (by rw [← h.1]; exact c)] at e'
    exact h.2 i a x e e'
  · rw [List.getElem?_append_right (by omega)] at e
    rw [List.getElem?_append_right (by rw [← h.1]; omega), ← h.1] at e'
    exact g.2 _ a x e e'
theorem ne_tp : (PySem.Str.ofString "page") ≠ (PySem.Str.ofString "text") := by decide +kernel
theorem ne_tr : (PySem.Str.ofString "row") ≠ (PySem.Str.ofString "text") := by decide +kernel
end L2

set_option maxHeartbeats 4000000
namespace L2
open PySem PySem.Spec PyProof.Rows Tl
section
variable {F : Frm} {ds : List Wd} {xs : List (Int × Int)} {k : Nat}
end
structure Ris (b : Int) (xs : List (Int × Int)) : Prop where
  row : ∀ k, k < xs.length → RowIn b (xAt xs k)
  pg : ∀ k, k < xs.length → (xAt xs k).1 ≤ (k : Int) + 2
  up : ∀ k, 0 < k → k < xs.length → sooner (xAt xs k) (xAt xs (k - 1)) = false
structure Szd (F : Frm) (ds : List Wd) (xs : List (Int × Int)) (n : Nat) (W T : Int) : Prop where
  w1 : 1 ≤ W
  w2 : W ≤ 62 + 63 * (n : Int)
  wide : ∀ k, k < n → ∀ j, j ≤ k → (∀ n, j ≤ n → n ≤ k → xAt xs n = xAt xs k) → together (wides F ds xs j k) ≤ W
  foot : ∀ k, k < n → ∀ s ∈ (dAt ds k).foot, ((saidL F.h F.f xs s).length : Int) ≤ W
  high : ∀ k, k < n → ∀ j, j ≤ k → (∀ n, j ≤ n → n ≤ k → (xAt xs n).1 = (xAt xs k).1) → (xAt xs k).2 + 1 + (highs F ds xs j k).sum ≤ T
  top : T = 1 ∨ ∃ k j, k < n ∧ j ≤ k ∧ T = (xAt xs k).2 + 1 + (highs F ds xs j k).sum
section
variable {F : Frm} {ds es : List Wd} {xs : List (Int × Int)} {k j : Nat} {h h' f w : Int}
theorem said_high (h1 : h ≤ h') (po : PlsOk h xs) {s : Say} (so : SayOk xs.length s) : (saidL h f xs s).length ≤ (saidL h' f xs s).length := by
  cases s with
  | text l => exact Nat.le_refl _
  | page k => exact Nat.le_refl _
  | row k =>
    have p := (po.get (show k < xs.length from so)).1.p1
    refine figs_mono _ _ ?_
    show ((xs.getD k (0, 0)).1 * h + (xs.getD k (0, 0)).2 + 1).toNat ≤ ((xs.getD k (0, 0)).1 * h' + (xs.getD k (0, 0)).2 + 1).toNat
    have := Int.mul_le_mul_of_nonneg_left h1 p
    omega
theorem high_low {ts us : List Int} (hh : h ≤ h') (e : ts.length = us.length) (hk : ∀ k, k < ts.length → ts.getD k 0 ≤ us.getD k 0) (h0 : ∀ t ∈ ts, 0 ≤ t) (no : us.any (fun t => decide (w < t)) = false) : highN w h ts ≤ highN w h' us := by
  have no2 : ts.any (fun t => decide (w < t)) = false := by
    cases c : ts.any (fun t => decide (w < t)) with
    | false => rfl
    | true => rw [any_grows e hk c] at no; cases no
  have g := fold_grows (w := w) e hk h0 (lexLe.refl (0, 0)) (Int.le_refl 0) (Int.le_refl 0) (Int.le_refl 0)
  have n1 : (numW w ts).1 ≤ (numW w us).1 := by
    rcases g with z | z
    · exact Int.le_of_lt z
    · exact Int.le_of_eq z.1
  unfold highN
  rw [no, no2, if_neg (show ¬ (false = true) by decide), if_neg (show ¬ (false = true) by decide)]
  split <;> split <;> omega
theorem num_count (w : Int) (ts : List Int) : (numW w ts).1 ≤ ts.length := by
  refine snoc_ind (P := fun ts => (numW w ts).1 ≤ (ts.length : Int)) (Int.le_refl 0) (fun l t ih => ?_) ts
  rw [numW_snoc, List.length_append]
  unfold numStep
  split
  · show (numW w l).1 ≤ _
    simp
    omega
  · show (numW w l).1 + 1 ≤ _
    simp
    omega
theorem high_count {ts : List Int} (no : ts.any (fun t => decide (w < t)) = false) : highN w h ts ≤ ts.length := by
  have := num_count w ts
  unfold highN
  rw [no, if_neg (show ¬ (false = true) by decide)]
  split <;> omega
theorem any_no {ts : List Int} (h : ∀ t ∈ ts, t ≤ w) : ts.any (fun t => decide (w < t)) = false := by
  rw [List.any_eq_false]
  intro t ht
  have := h t ht
  simp
  omega
theorem seg_sum {α : Type} {f : α → Int} : ∀ (l : List α), (∀ d ∈ l, 0 ≤ f d) → 0 ≤ (l.map f).sum
  | [], _ => Int.le_refl 0
  | a :: l, h => by
    have := seg_sum l (fun d hd => h d (List.mem_cons_of_mem _ hd))
    have := h a List.mem_cons_self
    show 0 ≤ f a + (l.map f).sum
    omega
theorem sum_take {α : Type} {f : α → Int} : ∀ (l : List α) (n : Nat), (∀ d ∈ l, 0 ≤ f d) → ((l.take n).map f).sum ≤ (l.map f).sum
  | [], n, _ => by simp
  | a :: l, 0, h => by
    have := seg_sum (f := f) (a :: l) h
    simpa using this
  | a :: l, n + 1, h => by
    have := sum_take l n (fun d hd => h d (List.mem_cons_of_mem _ hd))
    show f a + ((l.take n).map f).sum ≤ f a + (l.map f).sum
    omega
theorem sum_drop {α : Type} {f : α → Int} : ∀ (l : List α) (n : Nat), (∀ d ∈ l, 0 ≤ f d) → ((l.drop n).map f).sum ≤ (l.map f).sum
  | [], n, _ => by simp
  | a :: l, 0, h => Int.le_refl _
  | a :: l, n + 1, h => by
    have := sum_drop l n (fun d hd => h d (List.mem_cons_of_mem _ hd))
    have h0 := h a List.mem_cons_self
    show ((l.drop n).map f).sum ≤ f a + (l.map f).sum
    omega
def feetN (ds : List Wd) : Int := (ds.map fun d => (d.foot.length : Int)).sum
theorem feet_nonneg (ds : List Wd) : 0 ≤ feetN ds := seg_sum ds fun d _ => by omega
theorem szd_low {W T b : Int} (S : Szd F ds xs ds.length W T) (R : Ris b xs) (l : ds.length = xs.length) (b1 : 1 ≤ b) (hw : ∀ k, k < ds.length → ∀ s ∈ (dAt ds k).foot, ((saidL F.h F.f xs s).length : Int) ≤ F.w) : T ≤ b + feetN ds := by
  have f0 := feet_nonneg ds
  rcases S.top with z | ⟨k, j, hk, hj, z⟩
  · omega
  · have r := (R.row k (by omega)).r2
    have hm : ∀ d ∈ ds, highW F xs d ≤ (d.foot.length : Int) := fun d hd => by
      obtain ⟨i, hi, rfl⟩ := List.mem_iff_getElem.mp hd
      have e : dAt ds i = ds[i] := by
        show ds.getD i wd0 = _
        rw [List.getD_eq_getElem?_getD, List.getElem?_eq_getElem hi]
        rfl
      have h1 := hw i hi
      rw [e] at h1
      unfold highW
      rw [high_eq]
      have := high_count (w := F.w) (h := F.h) (ts := (ds[i].foot.map (saidL F.h F.f xs)).map fun t => (t.length : Int)) (any_no fun t ht => by
        obtain ⟨u, hu, rfl⟩ := List.mem_map.mp ht
        obtain ⟨s, hs, rfl⟩ := List.mem_map.mp hu
        exact h1 s hs)
      simpa using this
    have s1 : (highs F ds xs j k).sum ≤ feetN ds := by
      unfold highs segD feetN
      refine Int.le_trans (sum_le _ fun d hd => hm d (List.mem_of_mem_drop (List.mem_of_mem_take hd))) ?_
      exact Int.le_trans (sum_take (f := fun d : Wd => (d.foot.length : Int)) _ _ fun d _ => by omega) (sum_drop (f := fun d : Wd => (d.foot.length : Int)) _ _ fun d _ => by omega)
    omega
theorem ris_pls {b : Int} (R : Ris b xs) (hb : b ≤ h) (hn : xs.length ≤ 400) : PlsOk h xs := fun x hx => by
  obtain ⟨k, hk, rfl⟩ := List.mem_iff_getElem.mp hx
  have e : xAt xs k = xs[k] := xAt_of (List.getElem?_eq_getElem hk)
  have r := R.row k hk
  have p := R.pg k hk
  rw [e] at r p
  exact ⟨⟨r.p1, r.r1, Int.lt_of_lt_of_le r.r2 hb⟩, by omega⟩
theorem fit_wide {F1 : Frm} {W T : Int} (S : Szd F1 ds xs ds.length W T) (hf : F.f = F1.f) (hh : F.h ≤ F1.h) (po : PlsOk F.h xs) (wd : ∀ d ∈ ds, WdOk xs.length d) (hw : W ≤ F.w) (hk : k < ds.length) : ∀ j, j ≤ k → (∀ n, j ≤ n → n ≤ k → xAt xs n = xAt xs k) → together (wides F ds xs j k) ≤ F.w := fun j hj hn => by
  refine Int.le_trans ?_ (Int.le_trans (S.wide k hk j hj hn) hw)
  have s1 : ((segD ds j k).map (wideW F xs)).sum ≤ ((segD ds j k).map (wideW F1 xs)).sum := sum_le _ fun d hd => by
    have := said_high (f := F.f) hh po (wd d (List.mem_of_mem_drop (List.mem_of_mem_take hd))).s
    unfold wideW
    rw [← hf]
    omega
  unfold together wides
  rw [List.length_map, List.length_map]
  omega
theorem foot_low {F1 : Frm} {d : Wd} (hf : F.f = F1.f) (hh : F.h ≤ F1.h) (hw : F.w = F1.w) (po : PlsOk F.h xs) (wd : WdOk xs.length d) (no : ∀ s ∈ d.foot, ((saidL F1.h F1.f xs s).length : Int) ≤ F1.w) : highW F xs d ≤ highW F1 xs d := by
  unfold highW
  rw [high_eq, high_eq, hw]
  refine high_low hh (by simp) (fun k hk => ?_) (fun t ht => ?_) (any_no fun t ht => ?_)
  · simp only [List.length_map] at hk
    rw [List.getD_eq_getElem?_getD, List.getElem?_map, List.getElem?_map, List.getElem?_eq_getElem hk, List.getD_eq_getElem?_getD, List.getElem?_map, List.getElem?_map, List.getElem?_eq_getElem hk]
    have := said_high (f := F.f) hh po (wd.f _ (List.getElem_mem hk))
    show ((saidL F.h F.f xs d.foot[k]).length : Int) ≤ ((saidL F1.h F1.f xs d.foot[k]).length : Int)
    rw [← hf]
    omega
  · obtain ⟨u, _, rfl⟩ := List.mem_map.mp ht
    omega
  · obtain ⟨u, hu, rfl⟩ := List.mem_map.mp ht
    obtain ⟨s, hs, rfl⟩ := List.mem_map.mp hu
    exact no s hs
theorem fit_high {F2 : Frm} {W T : Int} (S : Szd F2 ds xs ds.length W T) (hf : F.f = F2.f) (hh : F.h ≤ F2.h) (hw : F.w = F2.w) (po : PlsOk F.h xs) (wd : ∀ d ∈ ds, WdOk xs.length d) (no : ∀ d ∈ ds, ∀ s ∈ d.foot, ((saidL F2.h F2.f xs s).length : Int) ≤ F2.w) (ht : T ≤ F.h) (hk : k < ds.length) : ∀ j, j ≤ k → (∀ n, j ≤ n → n ≤ k → (xAt xs n).1 = (xAt xs k).1) → (xAt xs k).2 + 1 + (highs F ds xs j k).sum ≤ F.h := fun j hj hn => by
  have s := S.high k hk j hj hn
  have s1 : (highs F ds xs j k).sum ≤ (highs F2 ds xs j k).sum := by
    unfold highs
    refine sum_le _ fun d hd => ?_
    have hm := List.mem_of_mem_drop (List.mem_of_mem_take hd)
    exact foot_low hf hh hw po (wd d hm) (no d hm)
  omega
structure Fits (F : Frm) (ds : List Wd) (xs : List (Int × Int)) : Prop where
  len : ds.length = xs.length
  wide : ∀ k, k < ds.length → ∀ j, j ≤ k → (∀ n, j ≤ n → n ≤ k → xAt xs n = xAt xs k) → together (wides F ds xs j k) ≤ F.w
  high : ∀ k, k < ds.length → ∀ j, j ≤ k → (∀ n, j ≤ n → n ≤ k → (xAt xs n).1 = (xAt xs k).1) → (xAt xs k).2 + 1 + (highs F ds xs j k).sum ≤ F.h
  pg : Pages F.m xs
  po : PlsOk F.h xs
theorem Fits.of {F1 F2 : Frm} {W1 T1 W2 T2 b : Int} (S1 : Szd F1 ds xs ds.length W1 T1) (S2 : Szd F2 ds xs ds.length W2 T2) (R : Ris b xs) (l : ds.length = xs.length) (n4 : ds.length ≤ 400) (b1 : 1 ≤ b) (wd : ∀ d ∈ ds, WdOk ds.length d)
    (f1 : F.f = F1.f) (f2 : F.f = F2.f) (h1 : F1.h = b + feetN ds) (h2 : F2.h = F1.h) (w2 : F.w = F2.w) (ww : W1 ≤ F.w) (hb : b ≤ F.h) (hm : F.h ≤ F1.h) (ht : (if T2 < F1.h then T2 else F1.h) ≤ F.h) (pg : Pages F.m xs) : Fits F ds xs := by
  have po := ris_pls (h := F.h) R hb (by omega)
  have wdx : ∀ d ∈ ds, WdOk xs.length d := fun d hd => by have := wd d hd; rwa [l] at this
  have no : ∀ k, k < ds.length → ∀ s ∈ (dAt ds k).foot, ((saidL F2.h F2.f xs s).length : Int) ≤ F2.w := fun k hk s hs => by
    have := S1.foot k hk s hs
    rw [h2, ← f2, f1, ← w2]
    omega
  have no2 : ∀ d ∈ ds, ∀ s ∈ d.foot, ((saidL F2.h F2.f xs s).length : Int) ≤ F2.w := fun d hd s hs => by
    obtain ⟨i, hi, rfl⟩ := List.mem_iff_getElem.mp hd
    have e : dAt ds i = ds[i] := by
      show ds.getD i wd0 = _
      rw [List.getD_eq_getElem?_getD, List.getElem?_eq_getElem hi]
      rfl
    exact no i hi s (by rw [e]; exact hs)
  have tl := szd_low S2 R l b1 no
  refine ⟨l, fun k hk => fit_wide S1 f1 hm po wdx ww hk, fun k hk => fit_high S2 f2 (by omega) w2 po wdx no2 ?_ hk, pg, po⟩
  split at ht <;> omega
end
def PtAt (K : PySem.W.Frag) (H : Hp) (a : Addr) (d : Wd) : Prop := ∃ (sa fo : Addr) (bs : List Addr), SqT K H a [.ref sa, .ref fo] ∧ SqT K H sa (sayV d.say) ∧ SqL K H fo (bs.map V.ref) ∧ SaysA K H bs d.foot
theorem PtAt.same {K : PySem.W.Frag} {H H' : Hp} {a : Addr} {d : Wd} (s : Same H H') (h : PtAt K H a d) : PtAt K H' a d := by
  obtain ⟨sa, fo, bs, h1, h2, h3, h4⟩ := h
  exact ⟨sa, fo, bs, s.tup h1, s.tup h2, s.seq h3, h4.same s⟩
def PtsA (K : PySem.W.Frag) (H : Hp) (as : List Addr) (ds : List Wd) : Prop := as.length = ds.length ∧ ∀ (i : Nat) a d, as[i]? = some a → ds[i]? = some d → PtAt K H a d
theorem PtsA.same {K : PySem.W.Frag} {H H' : Hp} {as : List Addr} {ds : List Wd} (s : Same H H') (h : PtsA K H as ds) : PtsA K H' as ds := ⟨h.1, fun i a d e e' => (h.2 i a d e e').same s⟩
theorem PtsA.nil {K : PySem.W.Frag} {H : Hp} : PtsA K H [] [] := ⟨rfl, fun i a x e _ => by simp at e⟩
theorem PtsA.snoc {K : PySem.W.Frag} {H : Hp} {as : List Addr} {ds : List Wd} {a : Addr} {d : Wd} (h : PtsA K H as ds) (hx : PtAt K H a d) : PtsA K H (as ++ [a]) (ds ++ [d]) := by
  refine ⟨by simp [h.1], fun i b y e e' => ?_⟩
  by_cases hi : i < as.length
  · rw [List.getElem?_append_left hi] at e
    rw [List.getElem?_append_left (by rw [← h.1]; exact hi)] at e'
    exact h.2 i b y e e'
  · rw [List.getElem?_append_right (by omega)] at e
    rw [List.getElem?_append_right (by rw [← h.1]; omega), ← h.1] at e'
    cases c : i - as.length with
    | zero => rw [c] at e e'; cases e; cases e'; exact hx
    | succ n => rw [c] at e; simp at e
theorem er1_sub {H H2 : Hp} {wa : Addr} (s : Same H H2) (h : H wa = none) : Same H (er1 H2 wa) := fun b o e => by
  rw [er1_at (ne_of_none e h)]
  exact s b o e
def LysA (K : PySem.W.Frag) (H : Hp) (as : List Addr) (xss : List (List (Int × Int))) : Prop := as.length = xss.length ∧ ∀ (i : Nat) a xs, as[i]? = some a → xss[i]? = some xs → LwAt K H a xs
theorem LysA.same {K : PySem.W.Frag} {H H' : Hp} {as : List Addr} {xss : List (List (Int × Int))} (s : Same H H') (h : LysA K H as xss) : LysA K H' as xss := ⟨h.1, fun i a d e e' => (h.2 i a d e e').same s⟩
def rNeNil (K : PySem.W.Frag) : R2 := fun x y H Q => ∃ a b xs, x = .ref a ∧ y = .ref b ∧ SqL K H a xs ∧ SqL K H b [] ∧ Q (.bl (!xs.isEmpty)) H
theorem op_neNil' {X : Cx} (hu : X.A.units < cLine) : OpR X (compareOp .NotEq) (rNeNil X.K) := op_neNil hu
end L2
namespace L2
open PySem PySem.Spec PyProof.Rows Tl
def WdT (K : PySem.W.Frag) (H0 H : Hp) (a : Addr) (d : Wd) : Prop := ∃ (sa fo : Addr) (bs : List Addr), SqT K H a [.int d.lead, .bl d.kept, .ref sa, .ref fo] ∧ SqT K H sa (sayV d.say) ∧ SqL K H0 fo (bs.map V.ref) ∧ SaysA K H0 bs d.foot
def WdsT (K : PySem.W.Frag) (H0 H : Hp) (as : List Addr) (ds : List Wd) : Prop := as.length = ds.length ∧ ∀ (i : Nat) a d, as[i]? = some a → ds[i]? = some d → WdT K H0 H a d
section
variable {K : PySem.W.Frag} {H0 H H' : Hp} {as : List Addr} {ds : List Wd}
theorem WdT.same {a : Addr} {d : Wd} (s : Same H H') (h : WdT K H0 H a d) : WdT K H0 H' a d := by
  obtain ⟨sa, fo, bs, h1, h2, h3, h4⟩ := h
  exact ⟨sa, fo, bs, s.tup h1, s.tup h2, h3, h4⟩
theorem WdT.lst {a l : Addr} {d : Wd} {ys zs : List V} (e : H l = some (.lst ys)) (h : WdT K H0 H a d) : WdT K H0 (upd H l (.lst zs)) a d := by
  obtain ⟨sa, fo, bs, h1, h2, h3, h4⟩ := h
  exact ⟨sa, fo, bs, SqT.lst e h1, SqT.lst e h2, h3, h4⟩
theorem WdT.at {a : Addr} {d : Wd} (s : Same H0 H) (h : WdT K H0 H a d) : WdAt K H a d := by
  obtain ⟨sa, fo, bs, h1, h2, h3, h4⟩ := h
  exact ⟨sa, fo, bs, h1, h2, s.seq h3, h4.same s⟩
theorem WdAt.t {a : Addr} {d : Wd} (s : Same H0 H) (h : WdAt K H0 a d) : WdT K H0 H a d := by
  obtain ⟨sa, fo, bs, h1, h2, h3, h4⟩ := h
  exact ⟨sa, fo, bs, s.tup h1, s.tup h2, h3, h4⟩
theorem WdsT.same (s : Same H H') (h : WdsT K H0 H as ds) : WdsT K H0 H' as ds := ⟨h.1, fun i a d e e' => (h.2 i a d e e').same s⟩
theorem WdsT.lst {l : Addr} {ys zs : List V} (e : H l = some (.lst ys)) (h : WdsT K H0 H as ds) : WdsT K H0 (upd H l (.lst zs)) as ds := ⟨h.1, fun i a d e1 e2 => (h.2 i a d e1 e2).lst e⟩
theorem WdsT.at (s : Same H0 H) (h : WdsT K H0 H as ds) : WdsA K H as ds := ⟨h.1, fun i a d e e' => (h.2 i a d e e').at s⟩
theorem WdsA.t (s : Same H0 H) (h : WdsA K H0 as ds) : WdsT K H0 H as ds := ⟨h.1, fun i a d e e' => (h.2 i a d e e').t s⟩
theorem WdsT.set {a : Addr} {d : Wd} (h : WdsT K H0 H as ds) (k : Nat) (hx : WdT K H0 H a d) : WdsT K H0 H (as.set k a) (ds.set k d) := by
  refine ⟨by simp [h.1], fun i b y e e' => ?_⟩
  rw [List.getElem?_set] at e e'
  by_cases c : k = i
  · rw [if_pos c] at e e'
    split at e
    · cases e
      split at e'
      · cases e'
        exact hx
      · cases e'
    · cases e
  · rw [if_neg c] at e e'
    exact h.2 i b y e e'
end
end L2

set_option maxHeartbeats 4000000
namespace L2
open PySem PySem.Spec PyProof.Rows Tl
def Db (K : PySem.W.Frag) (H : Hp) : Nat → V → V → Bool → Prop
  | 0, x, y, b => flatV x = true ∧ flatV y = true ∧ eqV x y = b
  | n + 1, x, y, b => (flatV x = true ∧ flatV y = true ∧ eqV x y = b) ∨
      ∃ a c xs ys e, x = .ref a ∧ y = .ref c ∧ ((SqL K H a xs ∧ SqL K H c ys) ∨ (SqT K H a xs ∧ SqT K H c ys)) ∧ (∀ (i : Nat) x y, xs[i]? = some x → ys[i]? = some y → Db K H n x y (e i)) ∧ b = (decide (xs.length = ys.length) && (List.range xs.length).all e)
theorem db_self {X : Cx} {pins : List (Addr × Obj)} {σ : St} {H : Hp} {s : Shared} (I : Inv X pins σ H s) : ∀ (n : Nat) (x : V) (b : Bool), Db X.K H n x x b → b = true
  | 0, x, b, h => by
    obtain ⟨f, _, e⟩ := h
    rw [← e]
    exact eqV_refl f
  | n + 1, x, b, h => by
    rcases h with ⟨f, _, e⟩ | ⟨a, c, xs, ys, e, rfl, ey, hab, hd, rfl⟩
    · rw [← e]
      exact eqV_refl f
    · cases ey
      have : xs = ys := by
        rcases hab with ⟨h1, h2⟩ | ⟨h1, h2⟩
        · exact I.list_inj h1 h2
        · exact I.tuple_inj h1 h2
      subst this
      rw [decide_eq_true rfl, Bool.true_and, List.all_eq_true]
      intro i hi
      have hi := List.mem_range.mp hi
      exact db_self I n _ _ (hd i _ _ (List.getElem?_eq_getElem hi) (List.getElem?_eq_getElem hi))
theorem items_db {s : Shared} {xs ys : List V} {its its2 : List Value} {e : Nat → Bool} {A : Around} (r : Vals xs its) (r2 : Vals ys its2)
    (d : ∀ (i : Nat) x y, xs[i]? = some x → ys[i]? = some y → ∀ u v, RelV x u → RelV y v → SeqAt.EqAt A s u v (e i)) (j : Nat) (h1 : j < its.toArray.size) (h2 : j < its2.toArray.size) : SeqAt.EqAt A s its.toArray[j] its2.toArray[j] (e j) := by
  have l1 := r.length
  have l2 := r2.length
  have h1' : j < its.length := by simpa using h1
  have h2' : j < its2.length := by simpa using h2
  have hx : j < xs.length := by omega
  have hy : j < ys.length := by omega
  have e1 : xs[j]? = some xs[j] := List.getElem?_eq_getElem hx
  have e2 : ys[j]? = some ys[j] := List.getElem?_eq_getElem hy
  obtain ⟨u, hu, ru⟩ := r.get e1
  obtain ⟨v, hv, rv⟩ := r2.get e2
  have eu : its.toArray[j] = u := by
    have : its[j]? = some its[j] := List.getElem?_eq_getElem h1'
    rw [hu] at this
    simpa using this.symm
  have ev : its2.toArray[j] = v := by
    have : its2[j]? = some its2[j] := List.getElem?_eq_getElem h2'
    rw [hv] at this
    simpa using this.symm
  rw [eu, ev]
  exact d j _ _ e1 e2 u v ru rv
theorem all_min (n m : Nat) (e : Nat → Bool) : ((List.range (min n m)).all e && (n == m)) = (decide (n = m) && (List.range n).all e) := by
  by_cases h : n = m
  · subst h
    rw [Nat.min_self, decide_eq_true rfl, Bool.true_and, beq_self_eq_true, Bool.and_true]
  · rw [decide_eq_false h, Bool.false_and, beq_eq_false_iff_ne.mpr h, Bool.and_false]
theorem db_eq {X : Cx} {pins : List (Addr × Obj)} {σ : St} {H : Hp} {s : Shared} (I : Inv X pins σ H s) : ∀ (n : Nat) (A : Around) (x y : V) (b : Bool) (u v : Value), Db X.K H n x y b → RelV x u → RelV y v → A.units + n < cLine → SeqAt.EqAt A s u v b
  | 0, A, x, y, b, u, v, d, ru, rv, hu => by
    obtain ⟨f, g, e⟩ := d
    have := eqAt_V (A := A) (s := s) ru rv f g
    rw [e] at this
    exact this
  | n + 1, A, x, y, b, u, v, d0, ru, rv, hu => by
    rcases id d0 with ⟨f, g, e⟩ | ⟨a, c, xs, ys, e, rfl, rfl, hab, hd, rfl⟩
    · have := eqAt_V (A := A) (s := s) ru rv f g
      rw [e] at this
      exact this
    · cases ru
      cases rv
      by_cases z : a = c
      · subst z
        rw [db_self I _ _ _ d0]
        exact SeqAt.EqAt.same _
      have hrec := fun i x y (e1 : xs[i]? = some x) (e2 : ys[i]? = some y) u v (ru : RelV x u) (rv : RelV y v) => db_eq I n A.in1 x y (e i) u v (hd i x y e1 e2) ru rv (by show A.units + 1 + n < cLine; omega)
      rcases hab with ⟨ha, hb⟩ | ⟨ha, hb⟩
      · obtain ⟨its, r, p, _⟩ := I.list ha
        obtain ⟨its2, r2, p2, _⟩ := I.list hb
        have l1 := r.length
        have l2 := r2.length
        by_cases hl : xs.length = ys.length
        · have := SeqAt.RcAt.lists (A := A) (e := e) p.isList p2.isList (by simp; omega) (by omega) (fun j h1 h2 => items_db r r2 hrec j h1 h2)
          rw [show its.toArray.size = xs.length by simp; omega] at this
          rw [decide_eq_true hl, Bool.true_and]
          exact SeqAt.EqAt.of_refs z this
        · rw [decide_eq_false hl, Bool.false_and]
          exact SeqAt.EqAt.of_refs z (SeqAt.RcAt.lists_lengths (A := A) p.isList p2.isList (by simp; omega) (by omega))
      · obtain ⟨its, r, p, _⟩ := I.tuple ha
        obtain ⟨its2, r2, p2, _⟩ := I.tuple hb
        have l1 := r.length
        have l2 := r2.length
        have := SeqAt.RcAt.tuples (A := A) (e := e) p p2 (by omega) (fun j h1 h2 => items_db r r2 hrec j h1 h2)
        rw [all_min, show its.toArray.size = xs.length by simp; omega, show its2.toArray.size = ys.length by simp; omega] at this
        exact SeqAt.EqAt.of_refs z this
section
variable {X : Cx}
def rEqB (K : PySem.W.Frag) (neg : Bool) : R2 := fun x y H Q => ∃ n a c xs ys e, n ≤ 90 ∧ x = .ref a ∧ y = .ref c ∧ ((SqL K H a xs ∧ SqL K H c ys) ∨ (SqT K H a xs ∧ SqT K H c ys)) ∧ (∀ (i : Nat) x y, xs[i]? = some x → ys[i]? = some y → Db K H n x y (e i)) ∧ Q (.bl (if neg then !(decide (xs.length = ys.length) && (List.range xs.length).all e) else (decide (xs.length = ys.length) && (List.range xs.length).all e))) H
theorem op_eqB (hu : X.A.units + 100 < cLine) : OpR X (compareOp .Eq) (rEqB X.K false) := by
  intro pins s σ H x y v u Q I rx ry h
  obtain ⟨n, a, c, xs, ys, e, hn, rfl, rfl, hab, hd, q⟩ := h
  rw [if_neg (by decide)] at q
  cases rx
  cases ry
  have hrec := fun i x y (e1 : xs[i]? = some x) (e2 : ys[i]? = some y) u v (ru : RelV x u) (rv : RelV y v) => db_eq I n X.A.in1 x y (e i) u v (hd i x y e1 e2) ru rv (by show X.A.units + 1 + n < cLine; omega)
  rcases hab with ⟨ha, hb⟩ | ⟨ha, hb⟩
  · obtain ⟨its, r, p, _⟩ := I.list ha
    obtain ⟨its2, r2, p2, _⟩ := I.list hb
    have l1 := r.length
    have l2 := r2.length
    by_cases hl : xs.length = ys.length
    · refine SeqAt.eq_listAt (e := e) p.isList p2.isList (by simp; omega) (by omega) (fun j h1 h2 => items_db r r2 hrec j h1 h2) ⟨.bl _, H, I, rfl, ?_⟩
      rw [decide_eq_true hl, Bool.true_and] at q
      rw [show its.toArray.size = xs.length by simp; omega]
      exact q
    · rw [decide_eq_false hl, Bool.false_and] at q
      exact SeqAt.eq_list_lengthsAt p.isList p2.isList (by simp; omega) (by omega) ⟨.bl _, H, I, rfl, q⟩
  · obtain ⟨its, r, p, _⟩ := I.tuple ha
    obtain ⟨its2, r2, p2, _⟩ := I.tuple hb
    have l1 := r.length
    have l2 := r2.length
    refine SeqAt.eq_tupleAt (e := e) p p2 (by omega) (fun j h1 h2 => items_db r r2 hrec j h1 h2) ⟨.bl _, H, I, rfl, ?_⟩
    rw [all_min, show its.toArray.size = xs.length by simp; omega, show its2.toArray.size = ys.length by simp; omega]
    exact q
theorem op_neB (hu : X.A.units + 100 < cLine) : OpR X (compareOp .NotEq) (rEqB X.K true) := by
  intro pins s σ H x y v u Q I rx ry h
  obtain ⟨n, a, c, xs, ys, e, hn, rfl, rfl, hab, hd, q⟩ := h
  rw [if_pos rfl] at q
  cases rx
  cases ry
  have hrec := fun i x y (e1 : xs[i]? = some x) (e2 : ys[i]? = some y) u v (ru : RelV x u) (rv : RelV y v) => db_eq I n X.A.in1 x y (e i) u v (hd i x y e1 e2) ru rv (by show X.A.units + 1 + n < cLine; omega)
  rcases hab with ⟨ha, hb⟩ | ⟨ha, hb⟩
  · obtain ⟨its, r, p, _⟩ := I.list ha
    obtain ⟨its2, r2, p2, _⟩ := I.list hb
    have l1 := r.length
    have l2 := r2.length
    by_cases hl : xs.length = ys.length
    · refine SeqAt.RcNeAt.lists (e := e) p.isList p2.isList (by simp; omega) (by omega) (fun j h1 h2 => items_db r r2 hrec j h1 h2) _ _ _ _ ⟨.bl _, H, I, rfl, ?_⟩
      rw [decide_eq_true hl, Bool.true_and] at q
      rw [show its.toArray.size = xs.length by simp; omega]
      exact q
    · rw [decide_eq_false hl, Bool.false_and] at q
      exact SeqAt.RcNeAt.lists_lengths p.isList p2.isList (by simp; omega) (by omega) _ _ _ _ ⟨.bl _, H, I, rfl, q⟩
  · obtain ⟨its, r, p, _⟩ := I.tuple ha
    obtain ⟨its2, r2, p2, _⟩ := I.tuple hb
    have l1 := r.length
    have l2 := r2.length
    refine SeqAt.RcNeAt.tuples (e := e) p p2 (by omega) (fun j h1 h2 => items_db r r2 hrec j h1 h2) _ _ _ _ ⟨.bl _, H, I, rfl, ?_⟩
    rw [all_min, show its.toArray.size = xs.length by simp; omega, show its2.toArray.size = ys.length by simp; omega]
    exact q
end
def sayE : Say → Say → Bool
  | .text l, .text m => decide (l = m)
  | .page k, .page n => decide (k = n)
  | .row k, .row n => decide (k = n)
  | _, _ => false
theorem sayE_iff {s t : Say} : sayE s t = true ↔ s = t := by
  cases s <;> cases t <;> simp [sayE]
def saysE (ss ts : List Say) : Bool := decide (ss.length = ts.length) && (List.range ss.length).all fun i => sayE (ss.getD i (.page 0)) (ts.getD i (.page 0))
theorem saysE_iff {ss ts : List Say} : saysE ss ts = true ↔ ss = ts := by
  unfold saysE
  rw [Bool.and_eq_true, decide_eq_true_iff, List.all_eq_true]
  constructor
  · rintro ⟨l, h⟩
    refine List.ext_getElem l fun i h1 h2 => ?_
    have := sayE_iff.mp (h i (List.mem_range.mpr h1))
    rw [List.getD_eq_getElem?_getD, List.getElem?_eq_getElem h1, List.getD_eq_getElem?_getD, List.getElem?_eq_getElem h2] at this
    exact this
  · rintro rfl
    exact ⟨rfl, fun i _ => sayE_iff.mpr rfl⟩
def wdE (d e : Wd) : Nat → Bool
  | 0 => decide (d.lead = e.lead)
  | 1 => d.kept == e.kept
  | 2 => sayE d.say e.say
  | _ => saysE d.foot e.foot
theorem wdE_iff {d e : Wd} : (decide ((4 : Nat) = 4) && (List.range 4).all (wdE d e)) = true ↔ d = e := by
  have : (decide ((4 : Nat) = 4) && (List.range 4).all (wdE d e)) = (wdE d e 0 && (wdE d e 1 && (wdE d e 2 && wdE d e 3))) := by
    show (true && (wdE d e 0 && (wdE d e 1 && (wdE d e 2 && (wdE d e 3 && true))))) = _
    rw [Bool.true_and, Bool.and_true]
  rw [this, Bool.and_eq_true, Bool.and_eq_true, Bool.and_eq_true]
  show decide (d.lead = e.lead) = true ∧ (d.kept == e.kept) = true ∧ sayE d.say e.say = true ∧ saysE d.foot e.foot = true ↔ _
  rw [decide_eq_true_iff, beq_iff_eq, sayE_iff, saysE_iff]
  cases d
  cases e
  simp
theorem say_db {K : PySem.W.Frag} {H : Hp} {p q : Addr} {s t : Say} {n : Nat} (h : SqT K H p (sayV s)) (g : SqT K H q (sayV t)) : Db K H (n + 1) (.ref p) (.ref q) (sayE s t) := by
  have fl : ∀ (m : Nat) (x y : V) (b : Bool), flatV x = true → flatV y = true → eqV x y = b → Db K H m x y b := fun m x y b f1 f2 e => by
    cases m with
    | zero => exact ⟨f1, f2, e⟩
    | succ m => exact .inl ⟨f1, f2, e⟩
  have two : ∀ (a b : V) (c d : V), sayV s = [a, b] → sayV t = [c, d] → flatV a = true → flatV b = true → flatV c = true → flatV d = true → sayE s t = (eqV a c && eqV b d) → Db K H (n + 1) (.ref p) (.ref q) (sayE s t) := fun a b c d es et f1 f2 f3 f4 e => by
    rw [es] at h
    rw [et] at g
    refine .inr ⟨p, q, _, _, fun i => if i = 0 then eqV a c else eqV b d, rfl, rfl, .inr ⟨h, g⟩, fun i x y e1 e2 => ?_, ?_⟩
    · match i, e1, e2 with
      | 0, e1, e2 => cases e1; cases e2; exact fl _ _ _ _ f1 f3 rfl
      | 1, e1, e2 => cases e1; cases e2; exact fl _ _ _ _ f2 f4 rfl
      | i + 2, e1, _ => exact absurd e1 (by simp)
    · rw [e]
      show _ = (true && (eqV a c && (eqV b d && true)))
      rw [Bool.true_and, Bool.and_true]
  have st : ∀ a b : PySem.Str, eqV (.str a) (.str b) = (a == b) := fun _ _ => rfl
  have it : ∀ a b : Nat, eqV (.int (a : Int)) (.int (b : Int)) = decide (a = b) := fun a b => by
    show ((a : Int) == (b : Int)) = _
    by_cases c : a = b
    · subst c; simp
    · rw [decide_eq_false c, beq_eq_false_iff_ne.mpr (by omega)]
  cases s with
  | text l =>
    cases t with
    | text m =>
      refine two _ _ _ _ rfl rfl rfl rfl rfl rfl ?_
      rw [st, beq_self_eq_true, Bool.true_and, st]
      show decide (l = m) = _
      by_cases c : l = m
      · subst c; simp
      · rw [decide_eq_false c, beq_eq_false_iff_ne.mpr fun z => c (tx_inj z)]
    | page k => exact two _ _ _ _ rfl rfl rfl rfl rfl rfl (by show false = (eqV _ _ && false); rw [Bool.and_false])
    | row k => exact two _ _ _ _ rfl rfl rfl rfl rfl rfl (by show false = (eqV _ _ && false); rw [Bool.and_false])
  | page k =>
    cases t with
    | text m => exact two _ _ _ _ rfl rfl rfl rfl rfl rfl (by show false = (eqV _ _ && false); rw [Bool.and_false])
    | page m => exact two _ _ _ _ rfl rfl rfl rfl rfl rfl (by rw [st, beq_self_eq_true, Bool.true_and, it]; rfl)
    | row m => exact two _ _ _ _ rfl rfl rfl rfl rfl rfl (by rw [st, beq_eq_false_iff_ne.mpr (by decide +kernel : PySem.Str.ofString "page" ≠ PySem.Str.ofString "row")]; rfl)
  | row k =>
    cases t with
    | text m => exact two _ _ _ _ rfl rfl rfl rfl rfl rfl (by show false = (eqV _ _ && false); rw [Bool.and_false])
    | page m => exact two _ _ _ _ rfl rfl rfl rfl rfl rfl (by rw [st, beq_eq_false_iff_ne.mpr (by decide +kernel : PySem.Str.ofString "row" ≠ PySem.Str.ofString "page")]; rfl)
    | row m => exact two _ _ _ _ rfl rfl rfl rfl rfl rfl (by rw [st, beq_self_eq_true, Bool.true_and, it]; rfl)
theorem says_db {K : PySem.W.Frag} {H : Hp} {p q : Addr} {bs cs : List Addr} {ss ts : List Say} {n : Nat} (h : SqL K H p (bs.map V.ref)) (hs : SaysA K H bs ss) (g : SqL K H q (cs.map V.ref)) (gs : SaysA K H cs ts) : Db K H (n + 2) (.ref p) (.ref q) (saysE ss ts) := by
  refine .inr ⟨p, q, _, _, fun i => sayE (ss.getD i (.page 0)) (ts.getD i (.page 0)), rfl, rfl, .inl ⟨h, g⟩, fun i x y e1 e2 => ?_, ?_⟩
  · rw [List.getElem?_map] at e1 e2
    obtain ⟨b, eb, rfl⟩ := Option.map_eq_some_iff.mp e1
    obtain ⟨c, ec, rfl⟩ := Option.map_eq_some_iff.mp e2
    have h1 : i < ss.length := by rw [← hs.1]; exact (List.getElem?_eq_some_iff.mp eb).1
    have h2 : i < ts.length := by rw [← gs.1]; exact (List.getElem?_eq_some_iff.mp ec).1
    show Db K H (n + 1) _ _ (sayE (ss.getD i (.page 0)) (ts.getD i (.page 0)))
    rw [List.getD_eq_getElem?_getD, List.getElem?_eq_getElem h1, List.getD_eq_getElem?_getD, List.getElem?_eq_getElem h2]
    exact say_db (hs.2 i b _ eb (List.getElem?_eq_getElem h1)) (gs.2 i c _ ec (List.getElem?_eq_getElem h2))
  · unfold saysE
    rw [List.length_map, List.length_map, hs.1, gs.1]
theorem wd_db {K : PySem.W.Frag} {H : Hp} {p q : Addr} {d e : Wd} (h : WdAt K H p d) (g : WdAt K H q e) : ∃ xs ys, xs.length = 4 ∧ ys.length = 4 ∧ SqT K H p xs ∧ SqT K H q ys ∧ ∀ (i : Nat) x y, xs[i]? = some x → ys[i]? = some y → Db K H 2 x y (wdE d e i) := by
  obtain ⟨sa, fo, bs, h1, h2, h3, h4⟩ := h
  obtain ⟨sb, fp, cs, g1, g2, g3, g4⟩ := g
  refine ⟨_, _, rfl, rfl, h1, g1, fun i x y e1 e2 => ?_⟩
  match i, e1, e2 with
  | 0, e1, e2 =>
    cases e1; cases e2
    refine .inl ⟨rfl, rfl, ?_⟩
    show (d.lead == e.lead) = decide (d.lead = e.lead)
    by_cases c : d.lead = e.lead
    · rw [c]; simp
    · rw [decide_eq_false c, beq_eq_false_iff_ne.mpr c]
  | 1, e1, e2 => cases e1; cases e2; exact .inl ⟨rfl, rfl, rfl⟩
  | 2, e1, e2 => cases e1; cases e2; exact say_db h2 g2
  | 3, e1, e2 => cases e1; cases e2; exact says_db h3 h4 g3 g4
  | i + 4, e1, _ => exact absurd e1 (by simp)
structure Grown (ds ns : List Wd) (a r : Nat) : Prop where
  len : ns.length = ds.length + r
  at1 : a ≤ ds.length
  w : ∀ k, k < ds.length → mvW a r (dAt ds k) = dAt ns (gI a r k)
  kept : a < ds.length → (dAt ds a).kept = true → ∀ q, a ≤ q → q < a + r → (dAt ns q).kept = true
theorem put_grown {a : Nat} {ds rs : List Wd} (h : a ≤ ds.length) : Grown ds (putIn a ds rs) a rs.length := by
  refine ⟨put_len h, h, fun k hk => (put_at h hk).symm, fun ha kt q q1 q2 => ?_⟩
  rw [put_run h q1 q2]
  show ((dAt rs (q - a)).kept || (decide (a < ds.length) && (dAt ds a).kept)) = true
  rw [kt, decide_eq_true ha]
  simp
theorem kept_all {ns : List Wd} {a r : Nat} (h : a + r ≤ ns.length) : ((((ns.drop a).take r).map fun d => d.kept).all id = true) ↔ ∀ q, a ≤ q → q < a + r → (dAt ns q).kept = true := by
  have e : ∀ q, q < ns.length → ns[q]? = some (dAt ns q) := fun q hq => by
    show _ = some (ns.getD q wd0)
    rw [List.getD_eq_getElem?_getD, List.getElem?_eq_getElem hq]
    rfl
  rw [List.all_eq_true]
  constructor
  · intro h1 q q1 q2
    refine h1 _ (List.mem_map.mpr ⟨dAt ns q, List.mem_of_getElem? (i := q - a) ?_, rfl⟩)
    rw [List.getElem?_take, if_pos (by omega), List.getElem?_drop, show a + (q - a) = q by omega]
    exact e q (by omega)
  · intro h1 b hb
    obtain ⟨d, hd, rfl⟩ := List.mem_map.mp hb
    obtain ⟨i, hi, ed⟩ := List.mem_iff_getElem.mp hd
    have hi2 : i < r := by rw [List.length_take] at hi; omega
    have e2 := List.getElem?_eq_getElem hi
    rw [ed, List.getElem?_take, if_pos hi2, List.getElem?_drop, e _ (by omega)] at e2
    cases e2
    exact h1 _ (by omega) (by omega)
def carry (t r : Nat) (xs : List (Int × Int)) : List (Int × Int) := xs.take t ++ List.replicate r (0, 0) ++ xs.drop t
theorem carry_len {t r : Nat} {xs : List (Int × Int)} (h : t ≤ xs.length) : (carry t r xs).length = xs.length + r := by
  unfold carry
  rw [List.length_append, List.length_append, List.length_take, List.length_replicate, List.length_drop]
  omega
end L2

set_option maxHeartbeats 4000000
namespace L2
open PySem PySem.Spec PyProof.Rows Tl
section
variable {prog : Program} {w : World} {A : Around} {E : Value → Shared → Prop} {s : Shared}
end
section
variable {X : Cx} {pos : Pos}
end
section
variable {X : Cx} {elt iter : Expr} {ifs : List Expr} {scope : Scope} {cl : List (Str × Addr)} {pos px py tp : Pos} {k1 : Nat} {x y : Str} {caps : List Str} {js : List Nat} {tc : TT} {te : TE} {wi : TI}
def g2 (K : PySem.W.Frag) : TG := gTup K 2 (gCons (gName 0) (gCons (gName 1) gNil))
end
end L2

set_option maxHeartbeats 4000000
namespace L2
open PySem PySem.W PySem.Calls PySem.Spec PyProof.Rows Builtin Builtin.ObjectAttr Builtin.Getset_descriptor
def ExcAt (h : Heap) (x C : Addr) : Prop := ∃ o, h.get? x = some o ∧ o.cls = .ref C
section
variable {prog : Program} {w : World} {A : Around} {E : Value → Shared → Prop} {h : Heap} {g : Array GenState} {d : Drawn} {t : Nat} {os : OsState} {K : Frag} {x C : Addr}
theorem ExcAt.type {M : Model} (I : ExcAt h x C) : PySem.W.Looks M h (typeOf (.ref x)) (.ref C) := by
  obtain ⟨ob, hob, hobc⟩ := I
  have z : PySem.W.Looks M h (typeOf (.ref x)) ob.cls := (PySem.W.Looks.ld hob).andThen .now
  rw [hobc] at z
  exact z
theorem exc_check {M : Model} {nameV : Value} {Q : Unit → Shared → Prop} (X : K.In h) (I : ExcAt h x C) (hb : subIn K (.ref C) (.type "BaseException") = some true) (hq : Q () ⟨h, g, d, t, os⟩) : wpAny M A (checkBuiltinCall "BaseException.__getattribute__" ⟨[.ref x, nameV], []⟩) Q E ⟨h, g, d, t, os⟩ := by
  have hk : builtinKind "BaseException.__getattribute__" = some .slot := by decide +kernel
  have hsplit : splitId "BaseException.__getattribute__" = some ("BaseException", "__getattribute__") := by decide +kernel
  have ha := PySem.F.args_bexc_ga (.ref x) nameV
  have L0 := I.type (M := M)
  have L1 := looks_subIn (M := M) X hb
  have LI : PySem.W.Looks M h (isInstance (.ref x) (.type "BaseException")) true := L0.andThen L1
  simp only [checkBuiltinCall, hk, hsplit]
  refine wpAny_bind (LI.at ?_)
  repeat (first | assumption | wp_step)
theorem exc_get {R : Result → Shared → Prop} {tp : Value} (X : K.In h) (I : ExcAt h x C) (hm : mroIn K C (.type "object") = some true)
    (hq : R (.ok (.ret (.ref C))) ⟨h, g, d, t, os⟩) : codeAny (model prog w) A (.call (.builtin "getset_descriptor.__get__") ⟨[.builtin "object.__class__", .ref x, tp], []⟩) R ⟨h, g, d, t, os⟩ := by
  have L0 := I.type (M := model prog w)
  have L1 := looks_mroIn (M := model prog w) X hm
  refine codeAny_call_builtin KF.slot_gs.plain KF.entry_gs (KF.slot_gs.check _ _ _ _ _ _ _ _ KF.type_class (KF.args_gs _ _ _) ?_)
  unfold Builtin.«getset_descriptor.__get__» descrGet
  rw [dga_obj]
  refine wpAny_bind (wpAny_pure ?_)
  unfold descrGetter descrCheckInstance descrNameAndClass isInstance
  simp only [KF.owner_class]
  repeat lk
  refine ⟨Code.quiet_builtin _ (by decide +kernel), codeAny_builtin KF.entry_class ?_⟩
  unfold Builtin.«object.__class__» shownTypeOf
  repeat lk
  exact hq
theorem exc_entry {tk : Tok} {Q : Fin → Shared → Prop} (X : K.In h) (I : ExcAt h x C) (hcl : findIn K (.ref C) "__class__" = some (some (.builtin "object.__class__"))) (hm : mroIn K C (.type "object") = some true) (hq : Q (.done (.ret (.ref C))) ⟨h, g, d, t, os⟩) :
    wpAny (model prog w) A (Builtin.«object.__getattribute__» ⟨[.ref x, .str "__class__" tk], []⟩) Q E ⟨h, g, d, t, os⟩ := by
  have hT5 : (⟨h, g, d, t, os⟩ : Shared).TypeIs (.builtin "object.__class__") "getset_descriptor" := PySem.F.typeOf_object_class
  have f5 := PySem.F.typeOf_object_class
  have f6 := PySem.F.slot_gs_get.lookup
  have f7 := PySem.F.slot_gs_set.lookup
  have L0 := I.type (M := model prog w)
  have L1 := looks_findIn (M := model prog w) X hcl
  obtain ⟨o, hx, hc⟩ := id I
  repeat (any_goals (first | assumption | (with_reducible refine wpAny_loadPart_at hx ?_; rw [hc]) | with_reducible refine Looks.at L0 ?_ | with_reducible refine Looks.at L1 ?_ | wp_step))
  refine exc_get X I hm ?_
  repeat (any_goals (first | assumption | wp_step))
theorem exc_call {tk : Tok} {R : Result → Shared → Prop} (X : K.In h) (I : ExcAt h x C) (hcl : findIn K (.ref C) "__class__" = some (some (.builtin "object.__class__"))) (hm : mroIn K C (.type "object") = some true) (hb : subIn K (.ref C) (.type "BaseException") = some true) (hq : R (.ok (.ret (.ref C))) ⟨h, g, d, t, os⟩) :
    codeAny (model prog w) A (.call (.builtin "BaseException.__getattribute__") ⟨[.ref x, .str "__class__" tk], []⟩) R ⟨h, g, d, t, os⟩ :=
  codeAny_call_builtin (by decide +kernel) PySem.F.entry_bexc_ga (exc_check X I hb (exc_entry X I hcl hm hq))
theorem exc_by {tk : Tok} {Q : Value → Shared → Prop} (X : K.In h) (I : ExcAt h x C) (hga : findIn K (.ref C) "__getattribute__" = some (some (.builtin "BaseException.__getattribute__"))) (hgt : findIn K (.ref C) "__getattr__" = some none) (hcl : findIn K (.ref C) "__class__" = some (some (.builtin "object.__class__"))) (hm : mroIn K C (.type "object") = some true) (hb : subIn K (.ref C) (.type "BaseException") = some true) (hq : Q (.ref C) ⟨h, g, d, t, os⟩) :
    wpAny (model prog w) A (getAttrBy (.ref x) (.str "__class__" tk) false false) Q E ⟨h, g, d, t, os⟩ := by
  have f3 := PySem.F.attr_ValueError.ga.bind (.ref x)
  have hx2 : (Value.builtin "BaseException.__getattribute__" == Value.builtin "object.__getattribute__") = false := by decide +kernel
  have hx1 : (onTheHeap (Value.ref C) && Value.builtin "BaseException.__getattribute__" == Value.builtin "object.__getattribute__") = false := by rw [hx2]; rfl
  have L0 := I.type (M := model prog w)
  have L1 := looks_findIn (M := model prog w) X hga
  have L2 := looks_findIn (M := model prog w) X hgt
  obtain ⟨o, hx, hc⟩ := id I
  repeat (any_goals (first | assumption | (with_reducible refine wpAny_loadPart_at hx ?_; rw [hc]) | with_reducible refine Looks.at L0 ?_ | with_reducible refine Looks.at L1 ?_ | with_reducible refine Looks.at L2 ?_ | wp_step))
  refine exc_call X I hcl hm hb ?_
  repeat (any_goals (first | assumption | wp_step))
theorem exc_attr {Q : Option Value → Shared → Prop} (X : K.In h) (I : ExcAt h x C) (hga : findIn K (.ref C) "__getattribute__" = some (some (.builtin "BaseException.__getattribute__"))) (hgt : findIn K (.ref C) "__getattr__" = some none) (hcl : findIn K (.ref C) "__class__" = some (some (.builtin "object.__class__"))) (hm : mroIn K C (.type "object") = some true) (hb : subIn K (.ref C) (.type "BaseException") = some true) (hq : Q (some (.ref C)) ⟨h, g, d, t + 1, os⟩) :
    wpAny (model prog w) A (getAttr? (.ref x) "__class__") Q E ⟨h, g, d, t, os⟩ := by
  unfold getAttr? getAttrBy?
  repeat (any_goals (first | assumption | with_reducible apply exc_by X I hga hgt hcl hm hb | wp_step))
end
def excLk (K : Frag) (C : Addr) : Bool := (clsIn K C).isSome && findIn K (.ref C) "__getattribute__" == some (some (.builtin "BaseException.__getattribute__")) && findIn K (.ref C) "__getattr__" == some none && findIn K (.ref C) "__class__" == some (some (.builtin "object.__class__")) && mroIn K C (.type "object") == some true && subIn K (.ref C) (.type "BaseException") == some true
theorem kitx_exc {K : Frag} {x C : Addr} (e : excLk K C = true) : KitX K (.ref x) (.ref C) (fun h => ExcAt h x C) := by
  unfold excLk at e
  simp only [Bool.and_eq_true, beq_iff_eq] at e
  obtain ⟨⟨⟨⟨⟨e0, e1⟩, e2⟩, e3⟩, e4⟩, e5⟩ := e
  refine ⟨fun _ _ _ I => I.type, fun _ _ X _ => ?_, fun h tp dd its n sl X htp => ?_, fun {prog w A E Q s} X I k => ?_⟩
  · unfold clsIn at e0
    split at e0
    · rename_i c' d' cd' sl' ho
      intro A' Q' E' s' k q
      unfold isType loadHead
      exact wpAny_bind (wpAny_loadPart (k _ _ (X _ _ ho)) (wpAny_pure q))
    · cases e0
  · refine Bool.eq_false_iff.mpr fun q => ?_
    have e : C = tp := Value.ref.inj (beq_iff_eq.mp q)
    subst e
    unfold clsIn at e0
    split at e0
    · rename_i c' d' cd' sl' ho
      have z := (X _ _ ho).symm.trans htp
      cases z
    · cases e0
  · obtain ⟨h, g, d, t, os⟩ := s
    exact exc_attr X I e1 e2 e3 e4 e5 k
end L2

namespace L2
open PySem PySem.W PySem.Spec PyProof.Rows
def excO (x C : Addr) : HO := .ext fun h => ExcAt h x C
section
variable {X : Cx} {pins : List (Addr × Obj)} {σ : St} {H : Hp} {s : Shared}
theorem ObjOk.there {P : Program} {w : World} {H : Hp} {h : Heap} {a : Addr} {o : HO} (z : ObjOk P w H h a o) : ∃ ob, h.get? a = some ob := by
  induction o with
  | lst xs => obtain ⟨_, _, _, _, e⟩ := z; exact ⟨_, e⟩
  | tup xs => obtain ⟨_, _, _, ob, e, _⟩ := z; exact ⟨_, e⟩
  | dK kvs => obtain ⟨_, _, _, _, ob, _, _, e, _⟩ := z; exact ⟨_, e⟩
  | dT kvs => obtain ⟨_, _, _, _, ob, _, _, e, _⟩ := z; exact ⟨_, e⟩
  | set S n => obtain ⟨ob, _, _, _, e, _⟩ := z; exact ⟨_, e⟩
  | ins C dx fs => obtain ⟨_, _, _, e, _⟩ := z; exact ⟨_, e⟩
  | own y => obtain ⟨_, e⟩ := z; exact ⟨_, e⟩
  | xd fs => obtain ⟨_, ⟨_, _, _, e, _⟩, _⟩ := z; exact ⟨_, e⟩
  | rng lo hi => obtain ⟨_, _, _, e⟩ := z; exact ⟨_, e⟩
  | frz ob u ih => obtain ⟨e, _⟩ := z; exact ⟨_, e⟩
  | tbl ps => exact ⟨_, (show h.get? a = some _ from z)⟩
  | met f y => exact ⟨_, (show h.get? a = some _ from z)⟩
  | ext φ => obtain ⟨_, ⟨_, e⟩, _⟩ := z; exact ⟨_, e⟩
theorem Inv.trackX {x C : Addr} (I : Inv X pins σ H s) (ex : ExcAt s.heap x C) (hn : H x = none) (h0 : ∀ o, X.s₀.heap.get? x = some o → x ∈ X.ex) (hL : x ≠ X.env.locals) (hc : ∀ y c, X.env.cells.lookup y = some c → c ≠ x) (hp : ∀ p ∈ X.pn ++ pins, p.1 ≠ x) : Inv X pins σ (upd H x (excO x C)) s := by
  refine ⟨I.ok, I.os, I.bare, ⟨I.base.keep, I.base.slot, fun b o q n hx => ?_, I.base.there, fun b xs q => ?_, fun b o u q => ?_, fun b ps q => ?_⟩, I.loc, I.cell, ?_, fun y c e => ?_, fun p h => ?_, fun b ob q => ?_, I.len⟩
  · have nb : b ≠ x := fun e => by subst e; exact hx (h0 o q)
    rw [upd_ne nb]
    exact I.base.free b o q n hx
  · have z := I.base.tups b xs q
    rw [upd_ne (fun e => by rw [e, hn] at z; cases z)]
    exact z
  · have z := I.base.frzs b o u q
    rw [upd_ne (fun e => by rw [e, hn] at z; cases z)]
    exact z
  · obtain ⟨more, z⟩ := I.base.tbls b ps q
    exact ⟨more, by rw [upd_ne (fun e => by rw [e, hn] at z; cases z)]; exact z⟩
  · rw [upd_ne (Ne.symm hL)]
    exact I.free
  · rw [upd_ne (hc y c e)]
    exact I.freeC y c e
  · obtain ⟨z1, z2, z3, z4, z5⟩ := I.pin p h
    exact ⟨z1, by rw [upd_ne (hp p h)]; exact z2, z3, z4, z5⟩
  · by_cases e : b = x
    · subst e
      rw [upd_same] at q
      cases q
      obtain ⟨o, e1, e2⟩ := id ex
      exact ⟨ex, ⟨o, e1⟩, fun h1 h2 p k => by obtain ⟨o, f1, f2⟩ := p; exact ⟨o, k o f1, f2⟩⟩
    · rw [upd_ne e] at q
      refine (I.hok b ob q).stay (fun c v _ z => z) (fun c z => ?_) (fun c xs z => ?_)
      · rw [upd_ne (fun e => by rw [e, hn] at z; cases z)]; exact z
      · rw [upd_ne (fun e => by rw [e, hn] at z; cases z)]; exact z
theorem goes_ok {M : Model} {A : Around} {E : Value → Shared → Prop} {i : Nat} {x : Str} {pos : Pos} {Q : Unit → Shared → Prop} (I : Inv X pins σ H s) (hN : X.N.Nodup) (hi : X.N[i]? = some x) (hk : X.env.kindOf x = some .local)
    (h : ∀ s', Inv X pins (σ.set i none) H s' → Q () s') : wpAny M A (do bindName X.env x .none; unbindBehindTheSuite X.env x pos) Q E s := by
  obtain ⟨m, hn, hl⟩ := id I.loc
  have hcls : (X.env.scope.kind == .class || (X.env.scope.kind == .module && X.env.locals != X.env.globals)) = false := by rw [I.ok.kind]; rfl
  have hiσ : i < σ.length := by rw [I.len]; exact (List.getElem?_eq_some_iff.mp hi).1
  have cne := I.cne
  have tracked : ∀ {a : Addr} {h' : Heap}, (∃ o, s.heap.get? a = some o ∧ H a = none) → Heap.SameBut a s.heap h' → HOk X.prog X.w H h' := fun {a h'} ha hs b ob e => by
    obtain ⟨_, _, hfree⟩ := ha
    refine (I.hok b ob e).stay (fun c w' hc q => (hs.2 c ?_).trans q) (fun _ q => q) fun _ _ q => q
    rintro rfl
    rcases hc with rfl | hc
    · rw [hfree] at e; cases e
    · rw [hfree] at hc; cases hc
  refine wpAny_nameGoes_keeps hk hn hcls (fun h' v hn' hs => ?_)
  obtain ⟨oL, _, _, hoL, _⟩ := id hn
  refine h _ ⟨I.ok, I.os, I.bare, ⟨fun b o e n hb hx => ?_, fun b o e n hb hx => ?_, I.base.free, fun b o e hx => ?_, I.base.tups, I.base.frzs, I.base.tbls⟩, ⟨_, hn', fun j y v' e1 e2 e3 => ?_⟩, fun y c e => ?_, I.free, I.freeC, fun p hp => ?_, tracked ⟨oL, hoL, I.free⟩ hs, by simpa using I.len⟩
  · exact (hs.2 b (Nat.ne_of_lt (Nat.lt_of_lt_of_le (Heap.lt_size e) I.ok.above))).trans (I.base.keep b o e n hb hx)
  · obtain ⟨sl, e1⟩ := I.base.slot b o e n hb hx
    exact ⟨sl, (hs.2 b (Nat.ne_of_lt (Nat.lt_of_lt_of_le (Heap.lt_size e) I.ok.above))).trans e1⟩
  · obtain ⟨o', e1⟩ := I.base.there b o e hx
    exact ⟨o', (hs.2 b (Nat.ne_of_lt (Nat.lt_of_lt_of_le (Heap.lt_size e) I.ok.above))).trans e1⟩
  · by_cases hj : j = i
    · subst hj
      rw [List.getElem?_set_self hiσ] at e2
      cases e2
    · rw [List.getElem?_set_ne (Ne.symm hj)] at e2
      obtain ⟨u', r', q⟩ := hl j y v' e1 e2 e3
      refine ⟨u', r', ?_⟩
      rcases q with ⟨k, e⟩ | ⟨k, c, e, z⟩
      · refine .inl ⟨k, ?_⟩
        have : y ≠ x := fun e => hj (nodup_ix hN e1 (e ▸ hi))
        simp [this, e]
      · exact .inr ⟨k, c, e, z.sameBut hs (cne y c e)⟩
  · obtain ⟨w', z⟩ := I.cell y c e
    exact ⟨w', z.sameBut hs (cne y c e)⟩
  · obtain ⟨e, n, ne, nf, d⟩ := I.pin p hp
    exact ⟨(hs.2 p.1 ne).trans e, n, ne, nf, d⟩
end
end L2

namespace L2
open PySem PySem.W PySem.Spec PyProof.Rows
def offD (D : Ends) (i : Nat) : Ends := { nx := fun σ H => D.nx (σ.set i none) H, rt := D.rt, bk := fun σ H => D.bk (σ.set i none) H, ct := fun σ H => D.ct (σ.set i none) H }
section
variable {X : Cx} {k : Nat} {f T : Addr} {fd : FuncData} {ps : List Str} {sp : Sp} {fx c n : Str} {i : Nat} {st : Stmt} {e : Expr} {es : List Expr} {t : TA} {b₀ : Stmt} {suite : List Stmt} {th : TS} {np pf cpos apos hpos pos : Pos}
theorem caught_as {pins : List (Addr × Obj)} {σ : St} {H1 H' : Hp} {s1 s2 : Shared} {D : Ends} {x C : Addr} {B : Heap} {a0 : Value} {E2 : Value → Shared → Prop} (I1 : Inv X pins σ H1 s1) (hst : X.stack = X.env :: X.outer ∧ X.env.frame = some X.env.locals)
    (os : s2.os = s1.os) (bare : AllBare s2.gens) (un : Un (frs X.stack) [] H1 H' s1.heap s2.heap) (hok : HOk X.prog X.w H' B)
    (cov1 : ∀ b o, s1.heap.get? b = some o → H1 b = none → b ∉ frs X.stack → B.get? b = some o) (cov2 : ∀ b o, s1.heap.get? b = some o → b ∉ frs X.stack → ∃ o', B.get? b = some o') (fl : Heap.FlyingW B X.stack x (.ref C) a0 s2.heap)
    (hN : X.N.Nodup) (hi : X.N[i]? = some n) (hk : X.env.kindOf n = some .local)
    (hg : Gl X c) (hm : X.mg c = some (.ref T)) (tk : Takes X.K C T) (hh : ∀ v, PSs (X.marked v) (b₀ :: suite) th) (q : ∀ x, H' x = none → th (offD D i) (σ.set i (some (.ref x))) (upd H' x (excO x C))) (hd : (c == ("__debug__" : Str)) = false := by decide) :
    wpAny (model X.prog X.w) X.A (noteFrame (.ref x) X.env) (fun _ s₂ => wpAny (model X.prog X.w) X.A (setFlight (.ref x) none) (fun _ s₃ => wpAny (model X.prog X.w) X.A (handleBy (.ref x) X.env [.ExceptHandler (some (.Name c np)) (some n) (b₀ :: suite) hpos]) (SP X pins D) E2 s₃) E2 s₂) E2 s2 := by
  have hfr : X.A.frames = some (X.env :: X.outer) := hst.1 ▸ I1.ok.frames
  have after : ∀ h6 : Heap, Heap.FlyingW B X.stack x (.ref C) a0 h6 → s2.heap.UpToSlots h6 → Inv X pins σ H' { s2 with heap := h6 } := fun h6 fl6 up => by
    refine I1.call' (ch := []) os ⟨fun b o q n hb _ => fl6.1 b o (cov1 b o q n hb), fun b o q n hb hx' => ?_, un.free, fun b o q _ => ?_, un.tups, un.frzs, un.tbls⟩ (hok.kept fl6.1) bare (fun b z => absurd z (by simp))
    · obtain ⟨sl, e1⟩ := un.slot b o q n hb hx'
      obtain ⟨_, o3, e3, nd⟩ := fl.2.2.1.mem hb
      rw [e1] at e3
      cases e3
      obtain ⟨sl3, e4⟩ := up b _ e1 nd
      exact ⟨sl3, e4⟩
    · by_cases hb : b ∈ frs X.stack
      · obtain ⟨_, o3, e3, _⟩ := fl6.2.2.1.mem hb
        exact ⟨o3, e3⟩
      · obtain ⟨o', e⟩ := cov2 b o q hb
        exact ⟨o', fl6.1 b o' e⟩
  have flx := fl
  rw [hst.1] at fl
  refine wpAny_looks_onW hfr hst.2 fl fun h₄ held up4 => ?_
  refine wpAny_landsW held fun h₅ fl5 up5 => ?_
  have fl5' : Heap.FlyingW B X.stack x (.ref C) a0 h₅ := hst.1 ▸ fl5
  have I5 := after h₅ fl5' (up4.trans up5)
  have I5m := I5.marked (.ref x)
  refine wpAny_handleBy_cons (codeAny_handlers_test (ld_glob (X := X.marked (.ref x)) I5m hg hm ?_ hd)) (by intro q; cases q)
  obtain ⟨ob, hob, hobc⟩ := fl5.there
  have LT : PySem.W.Looks (model X.prog X.w) h₅ (typeOf (.ref x)) (.ref C) := by
    have z : PySem.W.Looks (model X.prog X.w) h₅ (typeOf (.ref x)) ob.cls := (PySem.W.Looks.ld hob).andThen .now
    rw [hobc] at z
    exact z
  refine (PySem.W.exm_one (M := model X.prog X.w) (I5.kIn) LT tk).here ?_
  refine codeAny_handlers_suite_as ?_
  refine lands_againW fl5 fun h₆ fl6 up6 => ?_
  have fl6' : Heap.FlyingW B X.stack x (.ref C) a0 h₆ := hst.1 ▸ fl6
  have I6 := after h₆ fl6' ((up4.trans up5).trans up6)
  have hBx : B.get? x = none := fl6'.2.1
  have hx0 : H' x = none := by
    cases hq : H' x with
    | none => rfl
    | some o =>
      obtain ⟨ob2, z⟩ := (hok x o hq).there
      rw [hBx] at z
      cases z
  obtain ⟨oe, vs, T', oT, ts, he, hcl, hdat, _⟩ := fl6'.2.2.2
  have nofr : ∀ b, b ∈ frs X.stack → b ≠ x := fun b hb e => by
    obtain ⟨_, o3, e3, nd⟩ := fl6'.2.2.1.mem hb
    rw [e, he] at e3
    cases e3
    exact nd _ hdat
  have I7 := (I6.trackX (x := x) (C := C) ⟨oe, he, hcl.1⟩ hx0 (fun o z => by
      by_cases hx' : x ∈ X.ex
      · exact hx'
      · obtain ⟨o', z'⟩ := I1.base.there x o z hx'
        obtain ⟨o2, z2⟩ := cov2 x o' z' (fun hb => nofr x hb rfl)
        rw [hBx] at z2
        cases z2) (fun e => by
      obtain ⟨m, ⟨oL, es', ep, hoL, hdL, _⟩, _⟩ := I6.loc
      have hoL' : h₆.get? X.env.locals = some oL := hoL
      rw [← e, he] at hoL'
      cases hoL'
      rw [hdat] at hdL
      cases hdL) (fun y cc ec e => by
      obtain ⟨v, oc, z1, z2⟩ := I6.cell y cc ec
      have z1' : h₆.get? cc = some oc := z1
      rw [e, he] at z1'
      cases z1'
      rw [hdat] at z2
      cases z2) (fun p hp e => by
      obtain ⟨z1, z2, z3, z4, z5⟩ := I1.pin p hp
      have nf : p.1 ∉ frs X.stack := fun hb => by
        rcases List.mem_cons.mp (I1.stkSub p.1 hb) with z | z
        · exact z3 z
        · exact z4 z
      obtain ⟨o2, z6⟩ := cov2 p.1 p.2 z1 nf
      rw [e, hBx] at z6
      cases z6)).marked (.ref x)
  refine store_ok (X := X.marked (.ref x)) I7 hN hi (.inl hk) (show RelV (.ref x) (.ref x) from rfl) (fun s8 I8 => ?_) (.inr hk)
  refine wpAny_mono (hh (.ref x) pins _ _ _ (offD D i) I8 (q x hx0)) (fun fl s' h => ?_) fun _ _ z => False.elim z
  have h' := h.unmarked I1.ok.hd
  show wpAny (model X.prog X.w) X.A (do bindName X.env n .none; unbindBehindTheSuite X.env n hpos) (fun _ s₃ => SP X pins D fl s₃) E2 s'
  cases fl with
  | next => obtain ⟨σ', H2, J, z⟩ := h'; exact goes_ok J hN hi hk fun s3 J3 => ⟨_, _, J3, z⟩
  | brk => obtain ⟨σ', H2, J, z⟩ := h'; exact goes_ok J hN hi hk fun s3 J3 => ⟨_, _, J3, z⟩
  | cont => obtain ⟨σ', H2, J, z⟩ := h'; exact goes_ok J hN hi hk fun s3 J3 => ⟨_, _, J3, z⟩
  | ret u => obtain ⟨v, σ', H2, J, r, z⟩ := h'; exact goes_ok J hN hi hk fun s3 J3 => ⟨_, _, _, J3, r, z⟩
def tTryAs (K : PySem.W.Frag) (sp : Sp) (t : TA) (T : Addr) (i : Nat) (th : TS) : TS := fun D σ H => t σ H fun vs H1 => sp (vs ++ []) H1 (fun _ H2 => D.nx σ H2) (fun cls _ H2 => ∃ C, cls = .ref C ∧ Takes K C T ∧ ∀ x, H2 x = none → th (offD D i) (σ.set i (some (.ref x))) (upd H2 x (excO x C)))
theorem ps_try_as (hN : X.N.Nodup) (hi : X.N[i]? = some n) (hk : X.env.kindOf n = some .local) (Df : DefOk X.K X.mg fx st ps f fd) (G : FnOk X.prog X.w X.K X.mg X.base (CXe X.prog X.w) k f fd ps sp) (hr : Room k X.A) (hgf : Gl X fx)
    (ha : ∀ W, PA (X.wish W) (e :: es) t) (hgc : Gl X c) (O : ExcOk X.K X.mg c T) (hst : X.stack = X.env :: X.outer ∧ X.env.frame = some X.env.locals) (hh : ∀ v, PSs (X.marked v) (b₀ :: suite) th)
    (hs : swapsWith (.Call (.Name fx pf) (e :: es) [] cpos) none apos.line X.env = pure false := by rfl)
    (hd : (fx == ("__debug__" : Str)) = false := by decide) (hdc : (c == ("__debug__" : Str)) = false := by decide) (he : starEach (e :: es) X.env = (false, eval e X.env) :: starEach es X.env := by rfl) (hpl : (backTo cpos (starEach es X.env)).any (·.1) = false := by rfl) :
    PS X (.Try [.Expr (.Call (.Name fx pf) (e :: es) [] cpos) apos] [.ExceptHandler (some (.Name c np)) (some n) (b₀ :: suite) hpos] [] [] pos) (tTryAs X.K sp t T i th) := by
  intro pins s σ H D I h
  refine wpAny_Try_except (wpAny_execs_cons (wpAny_Expr_any (thn (call_try I Df G hr hgf (ha _) h (fun H1 s1 ex s2 I1 hx => ?_) hd he hpl) fun v s1 ⟨y, H1, I1, r1, q1⟩ => ?_) I.quiet hs))
  · obtain ⟨x, C, H', B, a0, rfl, os, bare, un, hok, cov1, cov2, fl, C', ec, tk, q⟩ := hx
    cases ec
    exact caught_as I1 hst os bare un hok cov1 cov2 fl hN hi hk hgc O.mg tk hh q hdc
  · exact wpAny_execs_nil (wpAny_execs_nil ⟨σ, H1, I1, q1⟩)
def rIsiX (K : PySem.W.Frag) (xs : List V) (H : Hp) (Q : V → Hp → Prop) : Prop := ∃ x C T b, xs = [.ref x, T] ∧ H x = some (excO x C) ∧ excLk K C = true ∧ ((∃ a, T = .ref a ∧ PySem.W.kitOne K (.ref C) (.ref a) = some b) ∨ ∃ m, T = .ty m ∧ PySem.W.kitOne K (.ref C) (.type m) = some b) ∧ Q (.bl b) H
theorem call_isiX {X : Cx} : CallR X (.builtin "isinstance") (rIsiX X.K) := by
  intro pins s σ H xs us Q I r h
  obtain ⟨x, C, T, b, rfl, hx, hl, hT, q⟩ := h
  obtain ⟨ho, _, _⟩ := (show ObjOk X.prog X.w H s.heap x (excO x C) from I.hok x _ hx)
  rcases hT with ⟨a, rfl, hb⟩ | ⟨m, rfl, hb⟩
  · cases r with
    | cons r1 r2 =>
      cases r2 with
      | cons r3 r4 =>
        cases r4
        cases r1
        cases r3
        exact PySem.W.kia_one (kitx_exc hl) I.kIn ho hb (by intro z; cases z) fun tk => ⟨.bl b, H, I.tok tk, rfl, q⟩
  · cases r with
    | cons r1 r2 =>
      cases r2 with
      | cons r3 r4 =>
        cases r4
        cases r1
        cases r3
        exact PySem.W.kia_one (kitx_exc hl) I.kIn ho hb (by intro z; cases z) fun tk => ⟨.bl b, H, I.tok tk, rfl, q⟩
end
end L2

set_option maxHeartbeats 4000000
namespace L2
open PySem PySem.W PySem.Spec PyProof.Rows
theorem pass_never {P : Program} {w : World} {X : Cx} : Passes (CXe P w) X (fun _ _ _ => False) := by
  intro pins σ H1 s1 e s' I h
  obtain ⟨x, C, H', B, a0, rfl, os, bare, un, hok, cov1, cov2, fl, ee⟩ := h
  exact ee.elim
def rCatA (K : PySem.W.Frag) : R2 := fun x y H Q => ∃ a b xs ys, x = .ref a ∧ y = .ref b ∧ SqT K H a xs ∧ SqT K H b ys ∧ xs.length + ys.length ≤ sizeLine ∧
  ∀ p H', Same H H' → SqT K H' p (xs ++ ys) → Q (.ref p) H'
theorem op_catA {X : Cx} : OpR X (binaryOp .Add) (rCatA X.K) := by
  intro pins s σ H x y v u Q I rx ry h
  obtain ⟨a, b, xs, ys, rfl, rfl, ha, hb, hz, q⟩ := h
  cases rx
  cases ry
  obtain ⟨its, r1, p1, _⟩ := I.tuple ha
  obtain ⟨its2, r2, p2, _⟩ := I.tuple hb
  by_cases e0 : xs = []
  · subst e0
    obtain ⟨⟨cls, dd, data, sl⟩, ho, hc, n, hd⟩ := id p1
    obtain ⟨⟨cls2, dd2, data2, sl2⟩, ho2, hc2, n2, hd2⟩ := id p2
    simp only at hc hd hc2 hd2
    subst hc hd hc2 hd2
    refine concat_meets ⟨_, ho, rfl⟩ ⟨_, ho2, rfl⟩ noFill_tuple_add seq_tuple_add PySem.F.slot_tuple_add PySem.F.entry_tuple_add (PySem.F.args_tuple_add_2 _ _)
      (tuple_addW0 a b its.toArray its2.toArray n n2 dd dd2 sl sl2 (by cases r1; rfl)) ⟨ho, ho2, .ref b, H, I, rfl, q b H (Same.refl _) hb⟩
  · refine HT.cat_tup p1 p2 (fun z => e0 (r1.nil_iff.mp z)) (fun z => ⟨.ref a, H, I, rfl, q a H (Same.refl _) (by rw [r2.nil_iff.mp z, List.append_nil]; exact ha)⟩) (fun z => ?_) (by rw [← r1.length, ← r2.length]; exact hz)
    have hfr : H s.heap.objs.size = none := I.hok.fresh (Nat.le_refl _)
    refine ⟨.ref s.heap.objs.size, _, I.laid (t' := s.toks) (o := .tup (xs ++ ys)) (fun b ob q => Heap.get?_push_of_some _ q) (Nat.le_refl _) ?_, rfl, q _ _ (same_new hfr _) (SqT.of upd_same)⟩
    exact ⟨by rw [List.length_append]; exact hz, _, r1.append r2, IsTup.new _ _⟩
end L2

set_option maxHeartbeats 4000000
namespace L2
open PySem PySem.Spec PyProof.Rows Tl
open scoped Classical
theorem boot_ValueError : bootBuiltins "ValueError" = some (.type "ValueError") := by decide +kernel
def NT : Say → Prop
  | .text _ => False
  | _ => True
structure FewW (d : Wd) : Prop where
  n : d.foot.length ≤ 1
  f : ∀ s ∈ d.foot, NT s
theorem mv_few {a r : Nat} {d : Wd} (h : FewW d) : FewW (mvW a r d) := by
  refine ⟨by show (d.foot.map _).length ≤ 1; rw [List.length_map]; exact h.n, fun s hs => ?_⟩
  obtain ⟨t, ht, rfl⟩ := List.mem_map.mp hs
  have := h.f t ht
  cases t with
  | text l => exact this.elim
  | page k => trivial
  | row k => trivial
theorem put_few {a : Nat} {ds rs : List Wd} (h1 : ∀ d ∈ ds, FewW d) (h2 : ∀ d ∈ rs, FewW d) : ∀ d ∈ putIn a ds rs, FewW d := fun d hd => by
  have mv : ∀ e ∈ ds.map (mvW a rs.length), FewW e := fun e he => by
    obtain ⟨x, hx, rfl⟩ := List.mem_map.mp he
    exact mv_few (h1 x hx)
  unfold putIn at hd
  rcases List.mem_append.mp hd with hd | hd
  · rcases List.mem_append.mp hd with hd | hd
    · exact mv d (List.mem_of_mem_take hd)
    · obtain ⟨x, hx, rfl⟩ := List.mem_map.mp hd
      exact ⟨(h2 x hx).n, (h2 x hx).f⟩
  · exact mv d (List.mem_of_mem_drop hd)
theorem dAt_ext {xs ys : List Wd} (l : xs.length = ys.length) (h : ∀ q, q < ys.length → dAt xs q = dAt ys q) : xs = ys := by
  refine List.ext_getElem l fun q h1 h2 => ?_
  have := h q h2
  show xs[q] = ys[q]
  have e1 : dAt xs q = xs[q] := by show xs.getD q wd0 = _; rw [List.getD_eq_getElem?_getD, List.getElem?_eq_getElem h1]; rfl
  have e2 : dAt ys q = ys[q] := by show ys.getD q wd0 = _; rw [List.getD_eq_getElem?_getD, List.getElem?_eq_getElem h2]; rfl
  rw [← e1, ← e2, this]
theorem put_iff {a r : Nat} {ds ns : List Wd} (hl : ns.length = ds.length + r) (h : a ≤ ds.length) : putIn a ds ((ns.drop a).take r) = ns ↔ Grown ds ns a r := by
  have lr : ((ns.drop a).take r).length = r := by rw [List.length_take, List.length_drop]; omega
  constructor
  · intro e
    have := put_grown (rs := (ns.drop a).take r) h
    rw [e, lr] at this
    exact this
  · intro G
    refine dAt_ext (by rw [put_len h, lr, hl]) fun q hq => ?_
    have P : ∀ k, k < ds.length → _ := fun k hk => put_at (rs := (ns.drop a).take r) (k := k) h hk
    have R : ∀ q, a ≤ q → q < a + ((ns.drop a).take r).length → _ := fun q h1 h2 => put_run (rs := (ns.drop a).take r) (ds := ds) (q := q) h h1 h2
    rw [lr] at P R
    rcases Nat.lt_or_ge q a with c | c
    · have e : gI a r q = q := by unfold gI; rw [if_pos c]
      have p := P q (by omega)
      rw [e] at p
      have w := G.w q (by omega)
      rw [e] at w
      rw [p, w]
    · rcases Nat.lt_or_ge q (a + r) with c2 | c2
      · rw [R q c c2]
        have e : dAt ((ns.drop a).take r) (q - a) = dAt ns q := by
          show ((ns.drop a).take r).getD (q - a) wd0 = ns.getD q wd0
          rw [List.getD_eq_getElem?_getD, List.getElem?_take, if_pos (by omega), List.getElem?_drop, ← List.getD_eq_getElem?_getD, show a + (q - a) = q by omega]
        rw [e]
        by_cases cb : (decide (a < ds.length) && (dAt ds a).kept) = true
        · rw [cb]
          obtain ⟨c3, c4⟩ := Bool.and_eq_true_iff.mp cb
          have k := G.kept (of_decide_eq_true c3) c4 q c c2
          show (⟨(dAt ns q).lead, (dAt ns q).kept || true, (dAt ns q).say, (dAt ns q).foot⟩ : Wd) = dAt ns q
          rw [Bool.or_true, ← k]
        · rw [Bool.eq_false_iff.mpr cb]
          show (⟨(dAt ns q).lead, (dAt ns q).kept || false, (dAt ns q).say, (dAt ns q).foot⟩ : Wd) = dAt ns q
          rw [Bool.or_false]
      · have e : gI a r (q - r) = q := by unfold gI; rw [if_neg (by omega)]; omega
        have p := P (q - r) (by omega)
        rw [e] at p
        have w := G.w (q - r) (by omega)
        rw [e] at w
        rw [p, w]
theorem grown_self (ds : List Wd) : Grown ds ds 0 0 := by
  refine ⟨rfl, Nat.zero_le _, fun k hk => ?_, fun _ _ q h1 h2 => absurd h2 (by omega)⟩
  have e : gI 0 0 k = k := by unfold gI; rw [if_neg (Nat.not_lt_zero _)]; rfl
  rw [e]
  have ms : ∀ s : Say, mvSay 0 0 s = s := fun s => by
    cases s with
    | text l => rfl
    | page k => show Say.page (gI 0 0 k) = _; unfold gI; rw [if_neg (Nat.not_lt_zero _)]; rfl
    | row k => show Say.row (gI 0 0 k) = _; unfold gI; rw [if_neg (Nat.not_lt_zero _)]; rfl
  show (⟨_, _, mvSay 0 0 (dAt ds k).say, (dAt ds k).foot.map (mvSay 0 0)⟩ : Wd) = _
  rw [ms, show (dAt ds k).foot.map (mvSay 0 0) = (dAt ds k).foot from (List.map_congr_left fun s _ => ms s).trans (List.map_id' _)]
def GrT (F G : Frm) (ds ns : List Wd) (t r : Nat) : Prop := F = G ∧ Grown ds ns t r ∧ ∀ s, s < t → ¬ Grown ds ns s r
def NoGr (F G : Frm) (ds ns : List Wd) : Prop := F = G → ∀ t r, ¬ Grown ds ns t r
theorem GrT.one {F G : Frm} {ds ns : List Wd} {t r t' r' : Nat} (h : GrT F G ds ns t r) (g : GrT F G ds ns t' r') : t = t' ∧ r = r' := by
  have e : r = r' := by have a := h.2.1.len; have b := g.2.1.len; omega
  subst e
  refine ⟨?_, rfl⟩
  rcases Nat.lt_trichotomy t t' with c | c | c
  · exact absurd h.2.1 (g.2.2 t c)
  · exact c
  · exact absurd g.2.1 (h.2.2 t' c)
theorem fm_eqE {F G : Frm} : (eqVs (fm F.w F.h F.f F.m) (fm G.w G.h G.f G.m)) = decide (F = G) := by
  show ((F.w == G.w) && ((F.h == G.h) && ((F.f == G.f) && ((F.m == G.m) && true)))) = _
  rw [Bool.and_true]
  by_cases c : F = G
  · subst c
    simp
  · rw [decide_eq_false c]
    refine Bool.eq_false_iff.mpr fun z => c ?_
    simp only [Bool.and_eq_true, beq_iff_eq] at z
    cases F
    cases G
    simp only [Frm.mk.injEq]
    exact z
theorem fm_eqT {F G : Frm} (h : F = G) : (eqVs (fm F.w F.h F.f F.m) (fm G.w G.h G.f G.m)) = true := by rw [fm_eqE, decide_eq_true h]
theorem fm_eqF {F G : Frm} (h : F ≠ G) : (eqVs (fm F.w F.h F.f F.m) (fm G.w G.h G.f G.m)) = false := by rw [fm_eqE, decide_eq_false h]
theorem bk_db {K : PySem.W.Frag} {H : Hp} {fa fb wa wb : Addr} {as bs : List Addr} {F G : Frm} {ds ns : List Wd} (hf : SqT K H fa (fm F.w F.h F.f F.m)) (hg : SqT K H fb (fm G.w G.h G.f G.m)) (hw : SqL K H wa (as.map V.ref)) (hws : WdsA K H as ds) (hv : SqL K H wb (bs.map V.ref)) (hvs : WdsA K H bs ns) :
    ∃ e : Nat → Bool, (∀ (i : Nat) x y, [V.ref fa, V.ref wa][i]? = some x → [V.ref fb, V.ref wb][i]? = some y → Db K H 4 x y (e i)) ∧ ((decide ((2 : Nat) = 2) && (List.range 2).all e) = true ↔ F = G ∧ ds = ns) := by
  refine ⟨fun i => if i = 0 then decide (F = G) else decide (ds = ns), fun i x y e1 e2 => ?_, ?_⟩
  · match i, e1, e2 with
    | 0, e1, e2 =>
      cases e1; cases e2
      refine .inr ⟨fa, fb, _, _, fun i => eqV ((fm F.w F.h F.f F.m).getD i .non) ((fm G.w G.h G.f G.m).getD i .non), rfl, rfl, .inr ⟨hf, hg⟩, fun j x y x1 x2 => ?_, ?_⟩
      · match j, x1, x2 with
        | 0, x1, x2 => cases x1; cases x2; exact .inl ⟨rfl, rfl, rfl⟩
        | 1, x1, x2 => cases x1; cases x2; exact .inl ⟨rfl, rfl, rfl⟩
        | 2, x1, x2 => cases x1; cases x2; exact .inl ⟨rfl, rfl, rfl⟩
        | 3, x1, x2 => cases x1; cases x2; exact .inl ⟨rfl, rfl, rfl⟩
        | j + 4, x1, _ => exact absurd x1 (by simp [fm])
      · show decide (F = G) = (true && ((F.w == G.w) && ((F.h == G.h) && ((F.f == G.f) && ((F.m == G.m) && true)))))
        rw [← fm_eqE, Bool.true_and]
        rfl
    | 1, e1, e2 =>
      cases e1; cases e2
      refine .inr ⟨wa, wb, _, _, fun i => decide (dAt ds i = dAt ns i), rfl, rfl, .inl ⟨hw, hv⟩, fun j x y x1 x2 => ?_, ?_⟩
      · obtain ⟨b, d, rfl, eb, ed⟩ := wd_at hws.1 x1
        obtain ⟨c, n, rfl, ec, en⟩ := wd_at hvs.1 x2
        obtain ⟨xs, ys, lx, ly, hx1, hy1, hd⟩ := wd_db (hws.2 j b d eb ed) (hvs.2 j c n ec en)
        refine .inr ⟨b, c, xs, ys, wdE d n, rfl, rfl, .inr ⟨hx1, hy1⟩, hd, ?_⟩
        have i1 := wdE_iff (d := d) (e := n)
        rw [lx, ly]
        have e1 : dAt ds j = d := by show ds.getD j wd0 = d; rw [List.getD_eq_getElem?_getD, ed]; rfl
        have e2 : dAt ns j = n := by show ns.getD j wd0 = n; rw [List.getD_eq_getElem?_getD, en]; rfl
        show decide (dAt ds j = dAt ns j) = _
        rw [e1, e2]
        by_cases c : d = n
        · rw [decide_eq_true c, i1.mpr c]
        · rw [decide_eq_false c, Bool.eq_false_iff.mpr fun z => c (i1.mp z)]
      · show decide (ds = ns) = _
        rw [List.length_map, List.length_map, hws.1, hvs.1]
        by_cases c : ds = ns
        · subst c
          rw [decide_eq_true rfl, decide_eq_true rfl, Bool.true_and]
          symm
          rw [List.all_eq_true]
          exact fun i _ => decide_eq_true rfl
        · rw [decide_eq_false c]
          symm
          refine Bool.eq_false_iff.mpr fun z => c ?_
          obtain ⟨z1, z2⟩ := Bool.and_eq_true_iff.mp z
          have l := of_decide_eq_true z1
          exact dAt_ext l fun q hq => of_decide_eq_true (List.all_eq_true.mp z2 q (List.mem_range.mpr (by omega)))
    | i + 2, e1, _ => exact absurd e1 (by simp)
  · show (true && (decide (F = G) && (decide (ds = ns) && true))) = true ↔ _
    simp
theorem at3 {x y z : V} {k : Int} (h0 : 0 ≤ k) (h1 : k < 3) : ∃ v, atI [x, y, z] k = some v ∧ (v = x ∨ v = y ∨ v = z) := by
  have : k = 0 ∨ k = 1 ∨ k = 2 := by omega
  rcases this with rfl | rfl | rfl
  · exact ⟨x, rfl, .inl rfl⟩
  · exact ⟨y, rfl, .inr (.inl rfl)⟩
  · exact ⟨z, rfl, .inr (.inr rfl)⟩
theorem at2 {x y : V} {k : Int} (h0 : 0 ≤ k) (h1 : k < 2) : ∃ v, atI [x, y] k = some v ∧ (v = x ∨ v = y) := by
  have : k = 0 ∨ k = 1 := by omega
  rcases this with rfl | rfl
  · exact ⟨x, rfl, .inl rfl⟩
  · exact ⟨y, rfl, .inr rfl⟩
theorem at4i {a b c d : Int} {k : Int} (h0 : 0 ≤ k) (h1 : k < 4) : ∃ v : Int, atI [V.int a, V.int b, V.int c, V.int d] k = some (V.int v) ∧ (v = a ∨ v = b ∨ v = c ∨ v = d) := by
  have : k = 0 ∨ k = 1 ∨ k = 2 ∨ k = 3 := by omega
  rcases this with rfl | rfl | rfl | rfl
  · exact ⟨a, rfl, .inl rfl⟩
  · exact ⟨b, rfl, .inr (.inl rfl)⟩
  · exact ⟨c, rfl, .inr (.inr (.inl rfl))⟩
  · exact ⟨d, rfl, .inr (.inr (.inr rfl))⟩
theorem em3 (z : Int) : 0 ≤ z % 3 ∧ z % 3 < 3 := by omega
theorem em2 (z : Int) : 0 ≤ z % 2 ∧ z % 2 < 2 := by omega
theorem em4 (z : Int) : 0 ≤ z % 4 ∧ z % 4 < 4 := by omega
theorem emn {z n : Int} (h : 0 < n) : ∃ k : Nat, z % n = (k : Int) ∧ (k : Int) < n := ⟨(z % n).toNat, by have := Int.emod_nonneg z (show n ≠ 0 by omega); omega, by have := Int.emod_lt_of_pos z h; have := Int.emod_nonneg z (show n ≠ 0 by omega); omega⟩
theorem txa : PySem.Str.ofString "a" = tx [97] := by decide +kernel
theorem txb : PySem.Str.ofString "b" = tx [98] := by decide +kernel
theorem say_nt {K : PySem.W.Frag} {H : Hp} {p : Addr} {s : Say} (h : SqT K H p (sayV s)) (nt : NT s) : ∃ (x : PySem.Str) (k : Nat), SqT K H p [.str x, .int (k : Int)] ∧ ∀ m : Nat, ∃ s', [V.str x, V.int (m : Int)] = sayV s' ∧ NT s' := by
  cases s with
  | text l => exact nt.elim
  | page k => exact ⟨_, k, h, fun m => ⟨.page m, rfl, trivial⟩⟩
  | row k => exact ⟨_, k, h, fun m => ⟨.row m, rfl, trivial⟩⟩
theorem er1_seq {K : PySem.W.Frag} {H : Hp} {l a : Addr} {xs : List V} (n : a ≠ l) (h : SqL K H a xs) : SqL K (er1 H l) a xs := by
  rcases h with (h | ⟨o, h⟩) | h
  · exact .inl (.inl (by rw [er1_at n]; exact h))
  · exact .inl (.inr ⟨o, by rw [er1_at n]; exact h⟩)
  · exact .inr h
theorem er1_says {K : PySem.W.Frag} {H : Hp} {l : Addr} {zs : List V} {bs : List Addr} {ss : List Say} (h2 : H l = some (.lst zs)) (h : SaysA K H bs ss) : SaysA K (er1 H l) bs ss := ⟨h.1, fun i a x e e' => er1_tup h2 (h.2 i a x e e')⟩
theorem er1_wd {K : PySem.W.Frag} {H : Hp} {l a sa fo : Addr} {zs : List V} {bs : List Addr} {d : Wd} (h2 : H l = some (.lst zs)) (n : fo ≠ l) (g1 : SqT K H a [.int d.lead, .bl d.kept, .ref sa, .ref fo]) (g2 : SqT K H sa (sayV d.say)) (g3 : SqL K H fo (bs.map V.ref)) (g4 : SaysA K H bs d.foot) : WdAt K (er1 H l) a d :=
  ⟨sa, fo, bs, er1_tup h2 g1, er1_tup h2 g2, er1_seq n g3, er1_says h2 g4⟩
theorem WdsA.set' {K : PySem.W.Frag} {H : Hp} {as : List Addr} {ds : List Wd} {j : Nat} {a : Addr} {d : Wd} (h : WdsA K H as ds) (hx : WdAt K H a d) : WdsA K H (as.set j a) (ds.set j d) := by
  refine ⟨by rw [List.length_set, List.length_set, h.1], fun i b y e e' => ?_⟩
  rw [List.getElem?_set] at e e'
  by_cases c : j = i
  · rw [if_pos c] at e e'
    split at e
    · cases e
      split at e'
      · cases e'
        exact hx
      · cases e'
    · cases e
  · rw [if_neg c] at e e'
    exact h.2 i b y e e'
theorem WdsA.erase' {K : PySem.W.Frag} {H : Hp} {as : List Addr} {ds : List Wd} (j : Nat) (h : WdsA K H as ds) : WdsA K H (as.eraseIdx j) (ds.eraseIdx j) := by
  refine ⟨by rw [List.length_eraseIdx, List.length_eraseIdx, h.1], fun i b y e e' => ?_⟩
  rw [List.getElem?_eraseIdx] at e e'
  split at e
  · rename_i c
    rw [if_pos c] at e'
    exact h.2 i b y e e'
  · rename_i c
    rw [if_neg c] at e'
    exact h.2 (i + 1) b y e e'
theorem map_erase {α : Type} (f : α → V) (l : List α) (j : Nat) : (l.map f).eraseIdx j = (l.eraseIdx j).map f := by
  rw [List.eraseIdx_eq_take_drop_succ, List.eraseIdx_eq_take_drop_succ, List.map_append, List.map_take, List.map_drop]
def OwnW (K : PySem.W.Frag) (H : Hp) (wq : Addr) (wqs : List Addr) (ws : List Wd) : Prop := H wq = some (.lst (wqs.map V.ref)) ∧ WdsA K (er1 H wq) wqs ws
theorem OwnW.all {K : PySem.W.Frag} {H : Hp} {wq : Addr} {wqs : List Addr} {ws : List Wd} (h : OwnW K H wq wqs ws) : WdsA K H wqs ws := h.2.same (er1_same _ _)
theorem OwnW.same {K : PySem.W.Frag} {H H' : Hp} {wq : Addr} {wqs : List Addr} {ws : List Wd} (h : OwnW K H wq wqs ws) (s : Same H H') : OwnW K H' wq wqs ws := ⟨s _ _ h.1, h.2.same (er1_mono s)⟩
theorem OwnW.new {K : PySem.W.Frag} {H : Hp} {p : Addr} {wqs : List Addr} {ws : List Wd} (hp : H p = none) (h : WdsA K H wqs ws) : OwnW K (upd H p (.lst (wqs.map V.ref))) p wqs ws := ⟨upd_same, h.same (er1_sub (same_new hp _) hp)⟩
theorem OwnW.put {K : PySem.W.Frag} {H : Hp} {wq : Addr} {wqs : List Addr} {ws : List Wd} (h : WdsA K (er1 H wq) wqs ws) : OwnW K (upd H wq (.lst (wqs.map V.ref))) wq wqs ws := ⟨upd_same, by rw [er1_put]; exact h⟩
theorem sl_hi {w h f m : Int} {k : Nat} (h4 : (k : Int) < 4) : ¬ (HT.sIx (fm w h f m).length 0 none = 0 ∧ HT.sIx (fm w h f m).length (fm w h f m).length (some (k : Int)) = (fm w h f m).length) := by
  rintro ⟨_, z⟩
  have e4 : (fm w h f m).length = 4 := rfl
  rw [e4] at z
  unfold HT.sIx at z
  simp only at z
  split at z <;> omega
theorem sl_lo {w h f m : Int} {k : Nat} : ¬ (HT.sIx (fm w h f m).length 0 (some ((k : Int) + 1)) = 0 ∧ HT.sIx (fm w h f m).length (fm w h f m).length none = (fm w h f m).length) := by
  rintro ⟨z, _⟩
  have e4 : (fm w h f m).length = 4 := rfl
  rw [e4] at z
  unfold HT.sIx at z
  simp only at z
  split at z <;> omega
end L2

namespace K50
open PySem PySem.Spec L2 Tl

noncomputable abbrev s_l_cell_at : Stmt := top 12
noncomputable abbrev s_l_copy : Stmt := top 19
noncomputable abbrev s_l_moved_saying : Stmt := top 16
noncomputable abbrev s_l_moved : Stmt := top 17
noncomputable abbrev s_l_put_in : Stmt := top 18
noncomputable abbrev s_l_due : Stmt := top 23
noncomputable abbrev s_l_stream : Stmt := top 13
noncomputable abbrev s_l_few : Stmt := top 20
noncomputable abbrev s_l_within : Stmt := top 22
noncomputable abbrev s_l_pair : Stmt := top 21
noncomputable abbrev s_l_whole : Stmt := top 14
noncomputable abbrev s_l_place : Stmt := top 15
noncomputable abbrev s_shifted : Stmt := top 8
noncomputable abbrev s_saying_shifted : Stmt := top 10
noncomputable abbrev s_word_shifted : Stmt := top 9
noncomputable abbrev s_grown_at : Stmt := top 7
noncomputable abbrev s_growth : Stmt := top 5
noncomputable abbrev s_carried : Stmt := top 6
noncomputable abbrev s_l_refused : Stmt := top 24
noncomputable abbrev s_l_refused_by_base : Stmt := top 25
noncomputable abbrev s_law : Stmt := top 26
set_option genInjectivity false in
structure Adr where
  f_l_cell_at : Addr
  fd_l_cell_at : FuncData
  f_l_copy : Addr
  fd_l_copy : FuncData
  f_l_moved_saying : Addr
  fd_l_moved_saying : FuncData
  f_l_moved : Addr
  fd_l_moved : FuncData
  f_l_put_in : Addr
  fd_l_put_in : FuncData
  f_l_due : Addr
  fd_l_due : FuncData
  f_l_stream : Addr
  fd_l_stream : FuncData
  f_l_few : Addr
  fd_l_few : FuncData
  f_l_within : Addr
  fd_l_within : FuncData
  f_l_pair : Addr
  fd_l_pair : FuncData
  f_l_whole : Addr
  fd_l_whole : FuncData
  f_l_place : Addr
  fd_l_place : FuncData
  f_shifted : Addr
  fd_shifted : FuncData
  f_saying_shifted : Addr
  fd_saying_shifted : FuncData
  f_word_shifted : Addr
  fd_word_shifted : FuncData
  f_grown_at : Addr
  fd_grown_at : FuncData
  f_growth : Addr
  fd_growth : FuncData
  f_carried : Addr
  fd_carried : FuncData
  f_l_refused : Addr
  fd_l_refused : FuncData
  f_l_refused_by_base : Addr
  fd_l_refused_by_base : FuncData
  f_law : Addr
  fd_law : FuncData
  c_BadPaper : Addr
  c_NoGrowth : Addr
  c_TrueleafError : Addr
structure Txt (P : Program) (w : World) (K : PySem.W.Frag) (mg : Str → Option Value) (a : Adr) : Prop where
  d_l_cell_at : DefOk K mg "_law_cell_at" s_l_cell_at ["script", "k"] a.f_l_cell_at a.fd_l_cell_at
  d_l_copy : DefOk K mg "_law_copy" s_l_copy ["book"] a.f_l_copy a.fd_l_copy
  d_l_moved_saying : DefOk K mg "_law_moved_saying" s_l_moved_saying ["saying", "at", "many"] a.f_l_moved_saying a.fd_l_moved_saying
  d_l_moved : DefOk K mg "_law_moved" s_l_moved ["word", "at", "many"] a.f_l_moved a.fd_l_moved
  d_l_put_in : DefOk K mg "_law_put_in" s_l_put_in ["book", "at", "run"] a.f_l_put_in a.fd_l_put_in
  d_l_due : DefOk K mg "_law_due" s_l_due ["old", "new"] a.f_l_due a.fd_l_due
  d_l_stream : DefOk K mg "_law_stream" s_l_stream ["cell", "many"] a.f_l_stream a.fd_l_stream
  d_l_few : DefOk K mg "_law_few" s_l_few ["cell", "count"] a.f_l_few a.fd_l_few
  d_l_within : DefOk K mg "_law_within" s_l_within ["word", "count"] a.f_l_within a.fd_l_within
  d_l_pair : DefOk K mg "_law_pair" s_l_pair ["script"] a.f_l_pair a.fd_l_pair
  d_l_whole : DefOk K mg "_law_whole" s_l_whole ["found"] a.f_l_whole a.fd_l_whole
  d_l_place : DefOk K mg "_law_place" s_l_place ["found"] a.f_l_place a.fd_l_place
  d_shifted : DefOk K mg "shifted" s_shifted ["k", "at", "many"] a.f_shifted a.fd_shifted
  d_saying_shifted : DefOk K mg "saying_shifted" s_saying_shifted ["saying", "at", "many"] a.f_saying_shifted a.fd_saying_shifted
  d_word_shifted : DefOk K mg "word_shifted" s_word_shifted ["word", "at", "many"] a.f_word_shifted a.fd_word_shifted
  d_grown_at : DefOk K mg "grown_at" s_grown_at ["words", "newer", "at", "many"] a.f_grown_at a.fd_grown_at
  d_growth : DefOk K mg "growth" s_growth ["old", "new"] a.f_growth a.fd_growth
  d_carried : DefOk K mg "carried" s_carried ["old", "new", "places"] a.f_carried a.fd_carried
  d_l_refused : DefOk K mg "_law_refused" s_l_refused ["old", "new", "places"] a.f_l_refused a.fd_l_refused
  d_l_refused_by_base : DefOk K mg "_law_refused_by_base" s_l_refused_by_base ["old", "new", "places"] a.f_l_refused_by_base a.fd_l_refused_by_base
  d_law : DefOk K mg "law" s_law ["script"] a.f_law a.fd_law
  z_ValueError : mg "ValueError" = none
  z_all : mg "all" = none
  z_bool : mg "bool" = none
  z_enumerate : mg "enumerate" = none
  z_int : mg "int" = none
  z_isinstance : mg "isinstance" = none
  z_len : mg "len" = none
  z_list : mg "list" = none
  z_range : mg "range" = none
  z_tuple : mg "tuple" = none
  x_BadPaper : ExcOk K mg "BadPaper" a.c_BadPaper
  x_NoGrowth : ExcOk K mg "NoGrowth" a.c_NoGrowth
  x_TrueleafError : ExcOk K mg "TrueleafError" a.c_TrueleafError
  t_NoGrowth_NoGrowth : Takes K a.c_NoGrowth a.c_NoGrowth
  t_NoGrowth_TrueleafError : Takes K a.c_NoGrowth a.c_TrueleafError
  lk_NoGrowth : excLk K a.c_NoGrowth = true
  ki_NoGrowth_BadPaper : PySem.W.kitOne K (.ref a.c_NoGrowth) (.ref a.c_BadPaper) = some false
  ki_NoGrowth_ValueError : PySem.W.kitOne K (.ref a.c_NoGrowth) (.type "ValueError") = some true
section
variable {P : Program} {w : World} {K : PySem.W.Frag} {mg : Str → Option Value} {base : Heap} {a : Adr}

def sp_l_cell_at (K : PySem.W.Frag) : Sp := fun vs H Q _ => ∃ (b : Addr) (ns : List Int) (k : Nat), vs = [.ref b, .int (k : Int)] ∧ SqL K H b (ns.map V.int) ∧ Q (.int (ns.getD k 0)) H
theorem sc_l_cell_at : FnScope ["script", "k"] ["script", "k"] (defScope s_l_cell_at) := ⟨rfl, rfl, rfl, by decide +kernel, rfl, by decide +kernel, by decide +kernel⟩
theorem ok_l_cell_at (T : Txt P w K mg a) : FnOk P w K mg base CX0 1 a.f_l_cell_at a.fd_l_cell_at ["script", "k"] (sp_l_cell_at K) := by
  have z_len := T.z_len
  refine T.d_l_cell_at.fn.ok sc_l_cell_at (fun vs H Q E h => ?_) (fun cdv A outer s H vs Q E hr h => ?_)
  · obtain ⟨b, ns, k, rfl, _⟩ := h
    rfl
  obtain ⟨b, ns, k, rfl, hS, q⟩ := h
  have hu := Nat.lt_of_succ_lt (hu_of hr)
  refine ⟨_, (pss_cons (ps_if (pt_cmpR op_lt (pv 1) (pe_callB call_len_seq rfl z_len PySem.boot_len (pa_cons (pv 0) pa_nil)) (nomark _)) (pss_one (ps_ret (pe_ix ix_list (pv 0) (pv 1) (fun _ _ => rfl)))) pss_nil)
      (pss_one (ps_ret pe_int))), ?_⟩
  refine ⟨_, rfl, _, rfl, _, _, rfl, .inl hS, _, _, rfl, rfl, _, rfl, ?_⟩
  refine ite2 (fun c => ?_) (fun c => ?_)
  · have hk : k < ns.length := by
      have := of_decide_eq_true c
      rw [List.length_map] at this
      omega
    refine ⟨_, rfl, _, rfl, _, _, _, _, rfl, rfl, hS, atI_nat (j := k) (v := .int (ns.getD k 0)) ?_, q⟩
    rw [List.getElem?_map, List.getElem?_eq_getElem hk, List.getD_eq_getElem?_getD, List.getElem?_eq_getElem hk]
    rfl
  · have hk : ns.length ≤ k := by
      refine Nat.le_of_not_lt fun hk => c (decide_eq_true ?_)
      rw [List.length_map]
      omega
    have e : ns.getD k 0 = 0 := by rw [List.getD_eq_getElem?_getD, List.getElem?_eq_none hk]; rfl
    rw [e] at q
    exact q
def sp_l_copy (K : PySem.W.Frag) : Sp := fun vs H Q _ => ∃ (ba fa wa : Addr) (was : List Addr) (F : Frm) (ds : List Wd), vs = [.ref ba] ∧ SqT K H ba [.ref fa, .ref wa] ∧ SqT K H fa (fm F.w F.h F.f F.m) ∧ SqL K H wa (was.map V.ref) ∧ WdsA K H was ds ∧ ds.length ≤ 400 ∧ ∀ q wa' was' H', Same H H' → SqT K H' q [.ref fa, .ref wa'] → SqL K H' wa' (was'.map V.ref) → WdsA K H' was' ds → CpA K H' was was' → Q (.ref q) H'
theorem sc_l_copy : FnScope ["book"] ["book"] (defScope s_l_copy) := ⟨rfl, rfl, rfl, by decide +kernel, rfl, by decide +kernel, by decide +kernel⟩
theorem ok_l_copy (T : Txt P w K mg a) : FnOk P w K mg base CX0 1 a.f_l_copy a.fd_l_copy ["book"] (sp_l_copy K) := by
  have z_list := T.z_list
  refine T.d_l_copy.fn.ok sc_l_copy (fun vs H Q E h => ?_) (fun cdv A outer s H vs Q E hr h => ?_)
  · obtain ⟨ba, fa, wa, was, F, ds, rfl, _⟩ := h
    rfl
  obtain ⟨ba, fa, wa, was, F, ds, rfl, hb, hf, hw, hws, d60, q⟩ := h
  have hu := Nat.lt_of_succ_lt (hu_of hr)
  refine ⟨_, (pss_one (ps_ret (pe_tup (pa_cons (pe_ix ix_tup (pv 0) pe_int (fun _ _ => rfl)) (pa_cons (pe_lc rfl (lcok (caps := []) (js := []) (cap := trivial)) (pi_list (pe_ix ix_tup (pv 0) pe_int (fun _ _ => rfl))) (fun _ _ _ _ => pts_nil) (fun _ _ _ _ => (pe_tup (pa_cons (pe_ix (r := rIxT K) ix_tup (pv 0) pe_int (fun _ _ => rfl)) (pa_cons (pe_ix (r := rIxT K) ix_tup (pv 0) pe_int (fun _ _ => rfl)) (pa_cons (pe_ix (r := rIxT K) ix_tup (pv 0) pe_int (fun _ _ => rfl)) (pa_cons (pe_callTy (r := rList K) call_list_of rfl z_list PyProof.Rows.boot_list (pa_cons (pe_ix (r := rIxT K) ix_tup (pv 0) pe_int (fun _ _ => rfl)) pa_nil)) pa_nil))))))) pa_nil))))), ?_⟩
  refine ⟨_, rfl, _, _, _, _, rfl, rfl, hb, rfl, _, rfl, _, _, _, _, rfl, rfl, hb, rfl, _, rfl, ⟨_, hw⟩, lc_list (K := K) (a := wa) (xs := was.map V.ref) (fun i ys H2 => Same H H2 ∧ ∃ was' : List Addr, was'.length = i ∧ ys = was'.map V.ref ∧ WdsA K H2 was' (ds.take i) ∧ CpA K H2 (was.take i) was') ⟨Same.refl _, [], rfl, rfl, WdsA.nil, ⟨rfl, fun i a b e => by simp at e⟩⟩ (fun i ys H2 _ h2 => h2.1.seq hw) ?_ ?_ ?_⟩
  · rintro i ys H2 hi ⟨_, was', hl, rfl, _, _⟩
    rw [List.length_map, hws.1] at hi
    rw [List.length_map, hl]
    exact Nat.lt_of_lt_of_le (show i < 1000 by omega) (small (Nat.le_refl _))
  · rintro i y ys H2 hi ⟨s2, was', hl, rfl, hd, hc⟩
    obtain ⟨b, d, rfl, eb, ed⟩ := wd_at hws.1 hi
    obtain ⟨sa, fo, bs, ht, g2, g3, g4⟩ := hws.2 i b d eb ed
    refine yes_go ?_
    refine ⟨_, rfl, _, _, _, _, rfl, rfl, s2.tup ht, rfl, _, rfl, _, _, _, _, rfl, rfl, s2.tup ht, rfl, _, rfl, _, _, _, _, rfl, rfl, s2.tup ht, rfl, _, rfl, _, _, _, _, rfl, rfl, s2.tup ht, rfl, _, _, rfl, .inl (s2.seq g3), fun p1 hp1 => ?_⟩
    have s3 := same_new hp1 (.lst (bs.map V.ref))
    refine ⟨le4, fun p2 hp2 => ?_⟩
    have s4 := same_new hp2 (.tup [V.int d.lead, V.bl d.kept, V.ref sa, V.ref p1])
    have t := s2.trans (s3.trans s4)
    have ht' : SqT K (upd (upd H2 p1 (.lst (bs.map V.ref))) p2 (.tup [V.int d.lead, V.bl d.kept, V.ref sa, V.ref p1])) p2 [V.int d.lead, V.bl d.kept, V.ref sa, V.ref p1] := SqT.of upd_same
    have hp1' : SqL K (upd (upd H2 p1 (.lst (bs.map V.ref))) p2 (.tup [V.int d.lead, V.bl d.kept, V.ref sa, V.ref p1])) p1 (bs.map V.ref) := s4.seq (SqL.of upd_same)
    refine ⟨t, was' ++ [p2], by simp [hl], refs_snoc _ _, ?_, ?_⟩
    · rw [take_snoc ed]
      exact (hd.same (s3.trans s4)).snoc ⟨sa, p1, bs, ht', t.tup g2, hp1', g4.same t⟩
    · rw [take_snoc eb]
      exact (hc.same (s3.trans s4)).snoc ⟨d.lead, d.kept, sa, fo, p1, bs, t.tup ht, ht', t.seq g3, hp1'⟩
  · rintro ys H2 ⟨s2, was', hl, rfl, hd, hc⟩ p hp
    have e : (was.map V.ref).length = ds.length := by rw [List.length_map, hws.1]
    rw [e] at hl hd hc
    rw [List.take_length] at hd
    rw [← hws.1, List.take_length] at hc
    have s3 := same_new hp (.lst (was'.map V.ref))
    refine ⟨le2, fun p2 hp2 => ?_⟩
    have s4 := same_new hp2 (.tup [V.ref fa, V.ref p])
    exact q _ p was' _ (s2.trans (s3.trans s4)) (SqT.of upd_same) (s4.seq (SqL.of upd_same)) (hd.same (s3.trans s4)) (hc.same (s3.trans s4))
def sp_l_moved_saying (K : PySem.W.Frag) : Sp := fun vs H Q _ => ∃ (a : Addr) (s : Say) (at_ r : Nat), vs = [.ref a, .int (at_ : Int), .int (r : Int)] ∧ SqT K H a (sayV s) ∧ ∀ q H', Same H H' → SqT K H' q (sayV (mvSay at_ r s)) → Q (.ref q) H'
theorem sc_l_moved_saying : FnScope ["saying", "at", "many"] ["saying", "at", "many"] (defScope s_l_moved_saying) := ⟨rfl, rfl, rfl, by decide +kernel, rfl, by decide +kernel, by decide +kernel⟩
theorem ok_l_moved_saying (T : Txt P w K mg a) : FnOk P w K mg base CX0 1 a.f_l_moved_saying a.fd_l_moved_saying ["saying", "at", "many"] (sp_l_moved_saying K) := by
  refine T.d_l_moved_saying.fn.ok sc_l_moved_saying (fun vs H Q E h => ?_) (fun cdv A outer s H vs Q E hr h => ?_)
  · obtain ⟨a, s, at_, r, rfl, _⟩ := h
    rfl
  obtain ⟨a, s, at_, r, rfl, ha, q⟩ := h
  have hu := Nat.lt_of_succ_lt (hu_of hr)
  refine ⟨_, (pss_cons (ps_if (PW.pt (pw_and (pt_cmpR op_ne (pe_ix ix_tup (pv 0) pe_int (fun _ _ => rfl)) pe_str (nomark _)) (pw_and1 (pt_cmpR op_ge (pe_ix ix_tup (pv 0) pe_int (fun _ _ => rfl)) (pv 1) (nomark _))))) (pss_one (ps_ret (pe_tup (pa_cons (pe_ix ix_tup (pv 0) pe_int (fun _ _ => rfl)) (pa_cons (pe_op op_add (pe_ix ix_tup (pv 0) pe_int (fun _ _ => rfl)) (pv 2)) pa_nil))))) pss_nil)
      (pss_one (ps_ret (pv 0)))), ?_⟩
  cases s with
  | text l =>
    refine ⟨_, rfl, _, _, _, _, rfl, rfl, ha, rfl, rfl, _, rfl, ?_⟩
    rw [decide_eq_true rfl]
    refine iteF (iteF ?_)
    exact ⟨_, rfl, q a H (Same.refl _) ha⟩
  | page k =>
    refine ⟨_, rfl, _, _, _, _, rfl, rfl, ha, rfl, rfl, _, rfl, ?_⟩
    rw [decide_eq_false (fun z => ne_tp (V.str.inj z))]
    refine iteT ?_
    refine ⟨_, rfl, _, _, _, _, rfl, rfl, ha, rfl, _, rfl, _, _, rfl, rfl, _, rfl, ?_⟩
    refine ite2 (fun c => ?_) (fun c => ?_)
    · have c' : ¬ k < at_ := by
        have : (at_ : Int) ≤ (k : Int) := of_decide_eq_true c
        omega
      refine ⟨_, rfl, _, _, _, _, rfl, rfl, ha, rfl, _, rfl, _, _, _, _, rfl, rfl, ha, rfl, _, rfl, _, _, rfl, rfl, le2, fun p hp => ?_⟩
      refine q p _ (same_new hp _) (SqT.of ?_)
      rw [upd_same]
      show some (HO.tup [V.str (PySem.Str.ofString "page"), V.int ((k : Int) + (r : Int))]) = some (HO.tup [V.str (PySem.Str.ofString "page"), V.int ((gI at_ r k : Nat) : Int)])
      have e : ((gI at_ r k : Nat) : Int) = (k : Int) + (r : Int) := by unfold gI; rw [if_neg c']; omega
      rw [e]
    · have c' : k < at_ := by
        have : ¬ (at_ : Int) ≤ (k : Int) := fun z => c (decide_eq_true z)
        omega
      have e : mvSay at_ r (.page k) = .page k := by show Say.page (gI at_ r k) = _; unfold gI; rw [if_pos c']
      exact ⟨_, rfl, q a H (Same.refl _) (by rw [e]; exact ha)⟩
  | row k =>
    refine ⟨_, rfl, _, _, _, _, rfl, rfl, ha, rfl, rfl, _, rfl, ?_⟩
    rw [decide_eq_false (fun z => ne_tr (V.str.inj z))]
    refine iteT ?_
    refine ⟨_, rfl, _, _, _, _, rfl, rfl, ha, rfl, _, rfl, _, _, rfl, rfl, _, rfl, ?_⟩
    refine ite2 (fun c => ?_) (fun c => ?_)
    · have c' : ¬ k < at_ := by
        have : (at_ : Int) ≤ (k : Int) := of_decide_eq_true c
        omega
      refine ⟨_, rfl, _, _, _, _, rfl, rfl, ha, rfl, _, rfl, _, _, _, _, rfl, rfl, ha, rfl, _, rfl, _, _, rfl, rfl, le2, fun p hp => ?_⟩
      refine q p _ (same_new hp _) (SqT.of ?_)
      rw [upd_same]
      show some (HO.tup [V.str (PySem.Str.ofString "row"), V.int ((k : Int) + (r : Int))]) = some (HO.tup [V.str (PySem.Str.ofString "row"), V.int ((gI at_ r k : Nat) : Int)])
      have e : ((gI at_ r k : Nat) : Int) = (k : Int) + (r : Int) := by unfold gI; rw [if_neg c']; omega
      rw [e]
    · have c' : k < at_ := by
        have : ¬ (at_ : Int) ≤ (k : Int) := fun z => c (decide_eq_true z)
        omega
      have e : mvSay at_ r (.row k) = .row k := by show Say.row (gI at_ r k) = _; unfold gI; rw [if_pos c']
      exact ⟨_, rfl, q a H (Same.refl _) (by rw [e]; exact ha)⟩
def sp_l_moved (K : PySem.W.Frag) : Sp := fun vs H Q _ => ∃ (a : Addr) (d : Wd) (at_ r : Nat), vs = [.ref a, .int (at_ : Int), .int (r : Int)] ∧ WdAt K H a d ∧ d.foot.length ≤ 40 ∧ ∀ q H', Same H H' → WdAt K H' q (mvW at_ r d) → Q (.ref q) H'
theorem sc_l_moved : FnScope ["word", "at", "many", "foot"] ["word", "at", "many"] (defScope s_l_moved) := ⟨rfl, rfl, rfl, by decide +kernel, rfl, by decide +kernel, by decide +kernel⟩
theorem ok_l_moved (T : Txt P w K mg a) : FnOk P w K mg base CX0 2 a.f_l_moved a.fd_l_moved ["word", "at", "many"] (sp_l_moved K) := by
  have g_l_moved_saying := ok_l_moved_saying (P := P) (w := w) (base := base) T
  have d_l_moved_saying := T.d_l_moved_saying
  refine T.d_l_moved.fn.ok sc_l_moved (fun vs H Q E h => ?_) (fun cdv A outer s H vs Q E hr h => ?_)
  · obtain ⟨a, d, at_, r, rfl, _⟩ := h
    rfl
  obtain ⟨a, d, at_, r, rfl, ha, f40, q⟩ := h
  have hu := Nat.lt_of_succ_lt (hu_of hr)
  refine ⟨_, (pss_cons (ps_lc (k := 3) rfl (lcok (caps := ["at", "many"]) (js := [1, 2]) (cap := ⟨⟨rfl, .inl rfl, rfl, .inl rfl⟩, ⟨⟨rfl, .inl rfl, rfl, .inl rfl⟩, trivial⟩⟩)) (pi_list (pe_ix ix_tup (pv 0) pe_int (fun _ _ => rfl))) (fun _ _ _ _ => pts_nil) (fun _ _ _ _ => (pe_callD d_l_moved_saying g_l_moved_saying (hr.mono (by decide)) rfl (pa_cons (pv 0) (pa_cons (pv 1) (pa_cons (pv 2) pa_nil))))) sc_l_moved.nd rfl rfl)
      (pss_one (ps_ret (pe_tup (pa_cons (pe_ix ix_tup (pv 0) pe_int (fun _ _ => rfl)) (pa_cons (pe_ix ix_tup (pv 0) pe_int (fun _ _ => rfl)) (pa_cons (pe_callD d_l_moved_saying g_l_moved_saying (hr.mono (by decide)) rfl (pa_cons (pe_ix ix_tup (pv 0) pe_int (fun _ _ => rfl)) (pa_cons (pv 1) (pa_cons (pv 2) pa_nil)))) (pa_cons (pv 3) pa_nil)))))))), ?_⟩
  obtain ⟨sa, fo, bs, h1, h2, h3, h4⟩ := ha
  refine ⟨_, rfl, _, _, _, _, rfl, rfl, h1, rfl, _, rfl, ⟨_, h3⟩, lc_list (K := K) (a := fo) (xs := bs.map V.ref) (fun i ys H2 => Same H H2 ∧ ∃ cs : List Addr, ys = cs.map V.ref ∧ SaysA K H2 cs ((d.foot.take i).map (mvSay at_ r))) ⟨Same.refl _, [], rfl, SaysA.nil⟩ (fun i ys H2 _ g => g.1.seq h3) ?_ ?_ ?_⟩
  · rintro i ys H2 hi ⟨_, cs, rfl, hc⟩
    rw [List.length_map, hc.1, List.length_map, List.length_take]
    exact Nat.lt_of_lt_of_le (show _ < 1000 by omega) (small (Nat.le_refl _))
  · rintro i y ys H2 hi ⟨s2, cs, rfl, hc⟩
    obtain ⟨b, s, rfl, eb, es⟩ := foot_at h4.1 hi
    refine yes_go ?_
    refine ⟨_, rfl, _, rfl, _, rfl, b, s, at_, r, rfl, s2.tup (h4.2 i b s eb es), fun q1 H3 s3 hq1 => ?_⟩
    refine ⟨s2.trans s3, cs ++ [q1], refs_snoc _ _, ?_⟩
    rw [take_snoc es, List.map_append]
    exact (hc.same s3).app (SaysA.one hq1)
  rintro ys H2 ⟨s2, cs, rfl, hc⟩ p hp
  rw [List.length_map, h4.1, List.take_length] at hc
  have s3 := same_new hp (.lst (cs.map V.ref))
  have hp3 : (upd H2 p (.lst (cs.map V.ref))) p = some (.lst (cs.map V.ref)) := upd_same
  generalize upd H2 p (.lst (cs.map V.ref)) = H3 at s3 hp3 ⊢
  dsimp only [gName]
  have t3 := s2.trans s3
  refine ⟨_, rfl, _, _, _, _, rfl, rfl, t3.tup h1, rfl, _, rfl, _, _, _, _, rfl, rfl, t3.tup h1, rfl, _, rfl, _, _, _, _, rfl, rfl, t3.tup h1, rfl, _, rfl, _, rfl, sa, d.say, at_, r, rfl, t3.tup h2, fun q1 H4 s4 hq1 => ?_⟩
  refine ⟨_, rfl, le4, fun p5 hp5 => ?_⟩
  have s5 := same_new hp5 (.tup [V.int d.lead, V.bl d.kept, V.ref q1, V.ref p])
  exact q p5 _ (t3.trans (s4.trans s5)) ⟨q1, p, cs, SqT.of upd_same, s5.tup hq1, SqL.of ((s4.trans s5) _ _ hp3), hc.same (s3.trans (s4.trans s5))⟩
def sp_l_put_in (K : PySem.W.Frag) : Sp := fun vs H Q _ => ∃ (ba ra : Addr) (at_ : Nat) (ras : List Addr) (w h f m : Int) (ds rs : List Wd), vs = [.ref ba, .int (at_ : Int), .ref ra] ∧ BkAt K H ba w h f m ds ∧ SqL K H ra (ras.map V.ref) ∧ WdsA K H ras rs ∧ at_ ≤ ds.length ∧ ds.length ≤ 60 ∧ rs.length ≤ 60 ∧ (∀ d ∈ ds, d.foot.length ≤ 40) ∧ ∀ q fa wq (wqs : List Addr) G H', Same H G → Same G H' → G wq = none → SqT K H' q [.ref fa, .ref wq] → SqT K H fa (fm w h f m) → H' wq = some (.lst (wqs.map V.ref)) → WdsA K G wqs (putIn at_ ds rs) → Q (.ref q) H'
theorem sc_l_put_in : FnScope ["book", "at", "run", "row", "kept", "middle"] ["book", "at", "run"] (defScope s_l_put_in) := ⟨rfl, rfl, rfl, by decide +kernel, rfl, by decide +kernel, by decide +kernel⟩
theorem ok_l_put_in (T : Txt P w K mg a) : FnOk P w K mg base CX0 3 a.f_l_put_in a.fd_l_put_in ["book", "at", "run"] (sp_l_put_in K) := by
  have g_l_moved := ok_l_moved (P := P) (w := w) (base := base) T
  have d_l_moved := T.d_l_moved
  have z_len := T.z_len
  refine T.d_l_put_in.fn.ok sc_l_put_in (fun vs H Q E h => ?_) (fun cdv A outer s H vs Q E hr h => ?_)
  · obtain ⟨ba, ra, at_, ras, w, h, f, m, ds, rs, rfl, _⟩ := h
    rfl
  obtain ⟨ba, ra, at_, ras, w, h, f, m, ds, rs, rfl, hbk, hra, hrs, al, d60, r60, f40, q⟩ := h
  have hu := Nat.lt_of_succ_lt (hu_of hr)
  refine ⟨_, (pss_cons (ps_lc (k := 3) rfl (lcok (caps := ["at", "run"]) (js := [1, 2]) (cap := ⟨⟨rfl, .inl rfl, rfl, .inl rfl⟩, ⟨⟨rfl, .inl rfl, rfl, .inl rfl⟩, trivial⟩⟩)) (pi_list (pe_ix ix_tup (pv 0) pe_int (fun _ _ => rfl))) (fun _ _ _ _ => pts_nil) (fun _ _ _ _ => (pe_callD d_l_moved g_l_moved (hr.mono (by decide)) rfl (pa_cons (pv 0) (pa_cons (pv 1) (pa_cons (pe_callB (r := rLen K) call_len_seq rfl z_len PySem.boot_len (pa_cons (pv 2) pa_nil)) pa_nil))))) sc_l_put_in.nd rfl rfl)
      (pss_cons (ps_set (i := 4) sc_l_put_in.nd rfl (Or.inr rfl) (pe_and (pe_cmpR op_lt (pv 1) (pe_callB call_len_seq rfl z_len PySem.boot_len (pa_cons (pv 3) pa_nil)) (nomark _)) (pe_one (pe_ix ix_tup (pe_ix ix_list (pv 3) (pv 1) (fun _ _ => rfl)) pe_int (fun _ _ => rfl)))))
      (pss_cons (ps_lc (k := 5) rfl (lcok (caps := ["kept"]) (js := [4]) (cap := ⟨⟨rfl, .inl rfl, rfl, .inl rfl⟩, trivial⟩)) (pi_list (pv 2)) (fun _ _ _ _ => pts_nil) (fun _ _ _ _ => (pe_tup (pa_cons (pe_ix (r := rIxT K) ix_tup (pv 0) pe_int (fun _ _ => rfl)) (pa_cons (pe_or (pe_ix (r := rIxT K) ix_tup (pv 0) pe_int (fun _ _ => rfl)) (pe_one (pv 1))) (pa_cons (pe_ix (r := rIxT K) ix_tup (pv 0) pe_int (fun _ _ => rfl)) (pa_cons (pe_ix (r := rIxT K) ix_tup (pv 0) pe_int (fun _ _ => rfl)) pa_nil)))))) sc_l_put_in.nd rfl rfl)
      (pss_one (ps_ret (pe_tup (pa_cons (pe_ix ix_tup (pv 0) pe_int (fun _ _ => rfl)) (pa_cons (pe_op op_cat (pe_op op_cat (pe_slice sl_list (pv 3) po_none (po_some (pv 1))) (pv 5)) (pe_slice sl_list (pv 3) (po_some (pv 1)) po_none)) pa_nil)))))))), ?_⟩
  obtain ⟨fa, wa, was, hb, hf, hw, hws⟩ := hbk
  have er : (ras.map V.ref).length = rs.length := by rw [List.length_map, hrs.1]
  refine ⟨_, rfl, _, _, _, _, rfl, rfl, hb, rfl, _, rfl, ⟨_, hw⟩, lc_list (K := K) (a := wa) (xs := was.map V.ref) (fun i ys H2 => Same H H2 ∧ ∃ bs : List Addr, ys = bs.map V.ref ∧ WdsA K H2 bs ((ds.take i).map (mvW at_ rs.length))) ⟨Same.refl _, [], rfl, WdsA.nil⟩ (fun i ys H2 _ g => g.1.seq hw) ?_ ?_ ?_⟩
  · rintro i ys H2 hi ⟨_, bs, rfl, hc⟩
    rw [List.length_map, hc.1, List.length_map, List.length_take]
    exact Nat.lt_of_lt_of_le (show _ < 1000 by omega) (small (Nat.le_refl _))
  · rintro i y ys H2 hi ⟨s2, bs, rfl, hc⟩
    obtain ⟨b, d, rfl, eb, ed⟩ := wd_at hws.1 hi
    refine yes_go ?_
    refine ⟨_, rfl, _, rfl, _, rfl, _, _, rfl, .inl (s2.seq hra), b, d, at_, rs.length, (by rw [er]; rfl), (hws.2 i b d eb ed).same s2, f40 d (List.mem_of_getElem? ed), fun q1 H3 s3 hq1 => ?_⟩
    refine ⟨s2.trans s3, bs ++ [q1], refs_snoc _ _, ?_⟩
    rw [take_snoc ed, List.map_append]
    exact (hc.same s3).snoc hq1
  rintro ys H2 ⟨s2, bs, rfl, hc⟩ rw_ hrw
  rw [List.length_map, hws.1, List.take_length] at hc
  have s3 := same_new hrw (.lst (bs.map V.ref))
  have hrw3 : (upd H2 rw_ (.lst (bs.map V.ref))) rw_ = some (.lst (bs.map V.ref)) := upd_same
  generalize upd H2 rw_ (.lst (bs.map V.ref)) = H3 at s3 hrw3 ⊢
  dsimp only [gName]
  have t3 := s2.trans s3
  have hc3 := hc.same s3
  have eb : (bs.map V.ref).length = ds.length := by rw [List.length_map, hc.1, List.length_map]
  refine cut_seq (fun σ' H' => H' = H3 ∧ σ' = [some (.ref ba), some (.int (at_ : Int)), some (.ref ra), some (.ref rw_), some (.bl (decide (at_ < ds.length) && (dAt ds at_).kept)), none]) ?_ (fun key => ?_)
  rotate_left
  · refine ⟨_, rfl, _, rfl, _, _, rfl, .inl (SqL.of hrw3), _, _, rfl, rfl, _, rfl, ?_⟩
    rw [eb]
    refine ite2 (fun c => ?_) (fun c => ?_)
    · have c' : at_ < ds.length := by
        have : (at_ : Int) < (ds.length : Int) := of_decide_eq_true c
        omega
      obtain ⟨wo, eo, sa, fo, cs, g1, g2, g3, g4⟩ := hc3.get (show at_ < (ds.map (mvW at_ rs.length)).length by rw [List.length_map]; exact c')
      refine ⟨_, rfl, _, rfl, _, _, _, _, rfl, rfl, SqL.of hrw3, eo, _, _, _, _, rfl, rfl, g1, rfl, ?_⟩
      refine key _ _ ⟨rfl, ?_⟩
      have e : (dAt (ds.map (mvW at_ rs.length)) at_).kept = (dAt ds at_).kept := by
        show ((ds.map (mvW at_ rs.length)).getD at_ wd0).kept = (ds.getD at_ wd0).kept
        rw [List.getD_eq_getElem?_getD, List.getElem?_map, List.getD_eq_getElem?_getD, List.getElem?_eq_getElem c']
        rfl
      rw [decide_eq_true c', Bool.true_and, ← e]
      rfl
    · have c' : ¬ at_ < ds.length := fun z => c (decide_eq_true (by omega))
      refine key _ _ ⟨rfl, ?_⟩
      rw [decide_eq_false c', Bool.false_and]
      rfl
  rintro σ' H' ⟨rfl, rfl⟩
  generalize hkb : (decide (at_ < ds.length) && (dAt ds at_).kept) = kb
  refine ⟨_, rfl, _, rfl, ⟨_, t3.seq hra⟩, lc_list (K := K) (a := ra) (xs := ras.map V.ref) (fun i ys H2 => Same H' H2 ∧ ∃ cs : List Addr, ys = cs.map V.ref ∧ WdsA K H2 cs ((rs.take i).map (kpW kb))) ⟨Same.refl _, [], rfl, WdsA.nil⟩ (fun i ys H2 _ g => g.1.seq (t3.seq hra)) ?_ ?_ ?_⟩
  · rintro i ys H2 hi ⟨_, cs, rfl, hc⟩
    rw [List.length_map, hc.1, List.length_map, List.length_take]
    exact Nat.lt_of_lt_of_le (show _ < 1000 by omega) (small (Nat.le_refl _))
  · rintro i y ys H2 hi ⟨s4, cs, rfl, hc⟩
    obtain ⟨b, d, rfl, eb', ed⟩ := wd_at hrs.1 hi
    obtain ⟨sa, fo, es, g1, g2, g3, g4⟩ := (hrs.2 i b d eb' ed).same (t3.trans s4)
    refine yes_go ?_
    refine ⟨_, rfl, _, _, _, _, rfl, rfl, g1, rfl, _, rfl, _, _, _, _, rfl, rfl, g1, rfl, _, rfl, ?_⟩
    have fin : ∀ (v : Bool), v = (d.kept || kb) → ∀ p1, H2 p1 = none → (fun i ys H2 => Same H' H2 ∧ ∃ cs : List Addr, ys = cs.map V.ref ∧ WdsA K H2 cs ((rs.take i).map (kpW kb))) (i + 1) (cs.map V.ref ++ [V.ref p1]) (upd H2 p1 (.tup [V.int d.lead, V.bl v, V.ref sa, V.ref fo])) := fun v ev p1 hp1 => by
      have s5 := same_new hp1 (.tup [V.int d.lead, V.bl v, V.ref sa, V.ref fo])
      refine ⟨s4.trans s5, cs ++ [p1], refs_snoc _ _, ?_⟩
      rw [take_snoc ed, List.map_append]
      refine (hc.same s5).snoc ⟨sa, fo, es, ?_, s5.tup g2, s5.seq g3, g4.same s5⟩
      show SqT K _ p1 [V.int d.lead, V.bl (d.kept || kb), V.ref sa, V.ref fo]
      rw [← ev]
      exact SqT.of upd_same
    cases kt : d.kept with
    | true =>
      refine iteT ?_
      exact ⟨_, rfl, _, _, _, _, rfl, rfl, g1, rfl, _, rfl, _, _, _, _, rfl, rfl, g1, rfl, le4, fun p1 hp1 => fin true (by rw [kt]; rfl) p1 hp1⟩
    | false =>
      refine iteF ?_
      exact ⟨_, rfl, _, rfl, _, _, _, _, rfl, rfl, g1, rfl, _, rfl, _, _, _, _, rfl, rfl, g1, rfl, le4, fun p1 hp1 => fin kb (by rw [kt]; rfl) p1 hp1⟩
  rintro ys H4 ⟨s4, cs, rfl, hm⟩ md hmd
  rw [List.length_map, hrs.1, List.take_length] at hm
  have s5 := same_new hmd (.lst (cs.map V.ref))
  have hmd5 : (upd H4 md (.lst (cs.map V.ref))) md = some (.lst (cs.map V.ref)) := upd_same
  generalize upd H4 md (.lst (cs.map V.ref)) = H5 at s5 hmd5 ⊢
  dsimp only [gName]
  have t5 := s4.trans s5
  have u5 := t3.trans t5
  have hrw5 := t5 _ _ hrw3
  refine ⟨_, rfl, _, _, _, _, rfl, rfl, u5.tup hb, rfl, _, rfl, _, rfl, _, rfl, _, _, rfl, SqL.of hrw5, fun p2 hp2 => ?_⟩
  have c2 : cutV (bs.map V.ref) none (some (at_ : Int)) = (bs.take at_).map V.ref := by rw [cutV_map, cut_to]
  have k2 := same_new hp2 (.lst (cutV (bs.map V.ref) none (some (at_ : Int))))
  have h2 : (upd H5 p2 (.lst (cutV (bs.map V.ref) none (some (at_ : Int))))) p2 = some (.lst ((bs.take at_).map V.ref)) := by rw [upd_same, c2]
  generalize upd H5 p2 (.lst (cutV (bs.map V.ref) none (some (at_ : Int)))) = H6 at k2 h2 ⊢
  have ml : cs.length = rs.length := by rw [hm.1, List.length_map]
  refine ⟨_, rfl, _, _, _, _, rfl, rfl, h2, k2 _ _ hmd5, small (by rw [List.length_map, List.length_map, List.length_take, ml]; omega), fun p3 hp3 => ?_⟩
  have k3 := same_new hp3 (.lst ((bs.take at_).map V.ref ++ cs.map V.ref))
  have h3 : (upd H6 p3 (.lst ((bs.take at_).map V.ref ++ cs.map V.ref))) p3 = some (.lst ((bs.take at_).map V.ref ++ cs.map V.ref)) := upd_same
  generalize upd H6 p3 (.lst ((bs.take at_).map V.ref ++ cs.map V.ref)) = H7 at k3 h3 ⊢
  refine ⟨_, rfl, _, rfl, _, rfl, _, _, rfl, SqL.of ((k2.trans k3) _ _ hrw5), fun p4 hp4 => ?_⟩
  have c4 : cutV (bs.map V.ref) (some (at_ : Int)) none = (bs.drop at_).map V.ref := by rw [cutV_map, cut_fr]
  have k4 := same_new hp4 (.lst (cutV (bs.map V.ref) (some (at_ : Int)) none))
  have h4 : (upd H7 p4 (.lst (cutV (bs.map V.ref) (some (at_ : Int)) none))) p4 = some (.lst ((bs.drop at_).map V.ref)) := by rw [upd_same, c4]
  generalize upd H7 p4 (.lst (cutV (bs.map V.ref) (some (at_ : Int)) none)) = H8 at k4 h4 ⊢
  have bl : bs.length = ds.length := by rw [hc.1, List.length_map]
  refine ⟨_, _, _, _, rfl, rfl, k4 _ _ h3, h4, small (by rw [List.length_append, List.length_map, List.length_map, List.length_map, List.length_take, List.length_drop, ml]; omega), fun p5 hp5 => ?_⟩
  have k5 := same_new hp5 (.lst ((bs.take at_).map V.ref ++ cs.map V.ref ++ (bs.drop at_).map V.ref))
  have h5 : (upd H8 p5 (.lst ((bs.take at_).map V.ref ++ cs.map V.ref ++ (bs.drop at_).map V.ref))) p5 = some (.lst ((bs.take at_ ++ cs ++ bs.drop at_).map V.ref)) := by rw [upd_same, List.map_append, List.map_append]
  generalize upd H8 p5 (.lst ((bs.take at_).map V.ref ++ cs.map V.ref ++ (bs.drop at_).map V.ref)) = H9 at k5 h5 ⊢
  refine ⟨le2, fun p6 hp6 => ?_⟩
  have k6 := same_new hp6 (.tup [V.ref fa, V.ref p5])
  have kB := k2.trans (k3.trans k4)
  have vA := t5.trans kB
  have hcA := hc3.same vA
  have hmA := hm.same (s5.trans kB)
  refine q p6 fa p5 (bs.take at_ ++ cs ++ bs.drop at_) H8 _ (u5.trans kB) (k5.trans k6) hp5 (SqT.of upd_same) hf (k6 _ _ h5) ?_
  unfold L2.putIn
  rw [hkb]
  exact ((hcA.take at_).app hmA).app (hcA.drop at_)
def sp_l_due (K : PySem.W.Frag) : Sp := fun vs H Q _ => ∃ (oa na : Addr) (F G : Frm) (ds ns : List Wd), vs = [.ref oa, .ref na] ∧ BkAt K H oa F.w F.h F.f F.m ds ∧ BkAt K H na G.w G.h G.f G.m ns ∧ ds.length ≤ 60 ∧ ns.length ≤ 60 ∧ (∀ d ∈ ds, d.foot.length ≤ 40) ∧ (NoGr F G ds ns → ∀ H', Same H H' → Q .non H') ∧ ∀ p t r H', Same H H' → SqT K H' p [.int ((t : Nat) : Int), .int ((r : Nat) : Int)] → GrT F G ds ns t r → Q (.ref p) H'
theorem sc_l_due : FnScope ["old", "new", "many", "at"] ["old", "new"] (defScope s_l_due) := ⟨rfl, rfl, rfl, by decide +kernel, rfl, by decide +kernel, by decide +kernel⟩
theorem ok_l_due (T : Txt P w K mg a) : FnOk P w K mg base CX0 4 a.f_l_due a.fd_l_due ["old", "new"] (sp_l_due K) := by
  have g_l_put_in := ok_l_put_in (P := P) (w := w) (base := base) T
  have d_l_put_in := T.d_l_put_in
  have z_len := T.z_len
  have z_range := T.z_range
  refine T.d_l_due.fn.ok sc_l_due (fun vs H Q E h => ?_) (fun cdv A outer s H vs Q E hr h => ?_)
  · obtain ⟨oa, na, F, G, ds, ns, rfl, _⟩ := h
    rfl
  obtain ⟨oa, na, F, G, ds, ns, rfl, hbo, hbn, d60, n60, f40, q1, q2⟩ := h
  have hu := Nat.lt_of_succ_lt (hu_of hr)
  refine ⟨_, (pss_cons (ps_set (i := 2) sc_l_due.nd rfl (Or.inl rfl) (pe_op op_sub (pe_callB call_len_seq rfl z_len PySem.boot_len (pa_cons (pe_ix ix_tup (pv 1) pe_int (fun _ _ => rfl)) pa_nil)) (pe_callB call_len_seq rfl z_len PySem.boot_len (pa_cons (pe_ix ix_tup (pv 0) pe_int (fun _ _ => rfl)) pa_nil))))
      (pss_cons (ps_if (PW.pt (pw_or (pt_cmpR op_lt (pv 2) pe_int (nomark _)) (pw_or1 (pt_cmpR (op_neT hu) (pe_ix ix_tup (pv 0) pe_int (fun _ _ => rfl)) (pe_ix ix_tup (pv 1) pe_int (fun _ _ => rfl)) (nomark _))))) (pss_one (ps_ret pe_non)) pss_nil)
      (pss_cons (ps_for PassesOwn.never rfl (pi_range1 rfl z_range (pa_cons (pe_op op_add (pe_callB call_len_seq rfl z_len PySem.boot_len (pa_cons (pe_ix ix_tup (pv 0) pe_int (fun _ _ => rfl)) pa_nil)) pe_int) pa_nil)) (pg_name (i := 3) sc_l_due.nd rfl (Or.inl rfl)) (pss_one (ps_if (pt_cmpR (op_eqB (hu100 hr)) (pe_callD d_l_put_in g_l_put_in (hr.mono (by decide)) rfl (pa_cons (pv 0) (pa_cons (pv 3) (pa_cons (pe_slice sl_list (pe_ix ix_tup (pv 1) pe_int (fun _ _ => rfl)) (po_some (pv 3)) (po_some (pe_op op_add (pv 3) (pv 2)))) pa_nil)))) (pv 1) (nomark _)) (pss_one (ps_ret (pe_tup (pa_cons (pv 3) (pa_cons (pv 2) pa_nil))))) pss_nil)))
      (pss_one (ps_ret pe_non))))), ?_⟩
  have hbo0 := hbo
  obtain ⟨fa, wa, was, hb, hf, hw, hws⟩ := hbo
  obtain ⟨fb, wb, wbs, hb2, hf2, hw2, hws2⟩ := hbn
  have el : (was.map V.ref).length = ds.length := by rw [List.length_map, hws.1]
  have el2 : (wbs.map V.ref).length = ns.length := by rw [List.length_map, hws2.1]
  refine ⟨_, rfl, _, _, _, _, rfl, rfl, hb2, rfl, _, _, rfl, .inl hw2, _, rfl, _, _, _, _, rfl, rfl, hb, rfl, _, _, rfl, .inl hw, _, _, rfl, rfl, ?_⟩
  rw [el, el2]
  dsimp only [gName]
  refine ⟨_, rfl, _, _, rfl, rfl, _, rfl, ?_⟩
  refine orG (fun z => ?_) (fun z => ?_)
  · have z' : (ns.length : Int) - (ds.length : Int) < 0 := of_decide_eq_true z
    refine q1 (fun _ t r G' => ?_) _ (Same.refl _)
    have := G'.len
    omega
  have z' : ¬ (ns.length : Int) - (ds.length : Int) < 0 := fun z2 => z (decide_eq_true z2)
  refine ⟨_, rfl, _, _, _, _, rfl, rfl, hb, rfl, _, rfl, _, _, _, _, rfl, rfl, hb2, rfl, _, _, _, _, rfl, rfl, hf, hf2, rfl, rfl, _, rfl, ?_⟩
  show if (!eqVs (fm F.w F.h F.f F.m) (fm G.w G.h G.f G.m)) = true then _ else _
  by_cases hFG : F = G
  rotate_left
  · rw [fm_eqF hFG]
    refine iteT ?_
    exact q1 (fun z => absurd z hFG) _ (Same.refl _)
  rw [fm_eqT hFG]
  refine iteF ?_
  dsimp only [tNext]
  obtain ⟨r, er⟩ : ∃ r : Nat, ns.length = ds.length + r := ⟨ns.length - ds.length, by omega⟩
  rw [show (ns.length : Int) - (ds.length : Int) = (r : Int) by omega]
  have r60 : r ≤ 60 := by omega
  refine ⟨_, rfl, _, _, _, _, rfl, rfl, hb, rfl, _, _, rfl, .inl hw, _, _, rfl, rfl, ?_⟩
  rw [el]
  refine ⟨_, rfl, (by omega), (by omega), for_range (fun i σ H2 => Same H H2 ∧ (∃ v : Option V, σ = [some (.ref oa), some (.ref na), some (.int (r : Int)), v]) ∧ ∀ s, s < i → ¬ Grown ds ns s r) ⟨Same.refl _, ⟨none, rfl⟩, fun s hs => absurd hs (Nat.not_lt_zero _)⟩ ?_ ?_⟩
  rotate_left
  · rintro σ H2 ⟨s2, _, ng⟩
    refine q1 (fun _ t r' G' => ?_) _ s2
    have a1 := G'.at1
    have a2 := G'.len
    have : r' = r := by omega
    subst this
    exact ng t (by omega) G'
  rintro i σ H2 hi ⟨s2, ⟨v, rfl⟩, ng⟩
  have hi' : i ≤ ds.length := by omega
  refine ⟨_, rfl, _, rfl, _, rfl, _, _, _, _, rfl, rfl, s2.tup hb2, rfl, _, rfl, _, rfl, _, rfl, _, rfl, _, _, rfl, rfl, _, rfl, _, _, rfl, s2.seq hw2, fun p1 hp1 => ?_⟩
  have c1 : cutV (wbs.map V.ref) (some (0 + (i : Int))) (some (0 + (i : Int) + (r : Int))) = ((wbs.drop i).take r).map V.ref := by
    rw [cutV_map, Int.zero_add, show (i : Int) + (r : Int) = ((i + r : Nat) : Int) by omega, cut_nat, show i + r - i = r by omega]
  have s3' := same_new hp1 (.lst (cutV (wbs.map V.ref) (some (0 + (i : Int))) (some (0 + (i : Int) + (r : Int)))))
  have h3 : (upd H2 p1 (.lst (cutV (wbs.map V.ref) (some (0 + (i : Int))) (some (0 + (i : Int) + (r : Int)))))) p1 = some (.lst (((wbs.drop i).take r).map V.ref)) := by rw [upd_same, c1]
  generalize upd H2 p1 (.lst (cutV (wbs.map V.ref) (some (0 + (i : Int))) (some (0 + (i : Int) + (r : Int))))) = H3 at s3' h3 ⊢
  have t3 := s2.trans s3'
  have hrun : WdsA K H3 ((wbs.drop i).take r) ((ns.drop i).take r) := ((hws2.same t3).drop i).take r
  have lr : ((ns.drop i).take r).length = r := by rw [List.length_take, List.length_drop]; omega
  refine ⟨oa, p1, i, (wbs.drop i).take r, F.w, F.h, F.f, F.m, ds, (ns.drop i).take r, (by show [_, V.int (0 + (i : Int)), _] = _; rw [Int.zero_add]), hbo0.same t3, SqL.of h3, hrun, hi', d60, (by omega), f40, fun q5 f5 w5 ws5 G5 H5 g1 g2 g3 g4 g5 g6 g7 => ?_⟩
  have t5 := t3.trans (g1.trans g2)
  obtain ⟨e, de, ie⟩ := bk_db (F := F) (G := G) (K := K) (H := H5) ((g1.trans g2).tup g5) (t5.tup hf2) (SqL.of g6) (g7.same g2) (t5.seq hw2) (hws2.same t5)
  refine ⟨_, rfl, 4, q5, na, _, _, e, by decide, rfl, rfl, .inr ⟨g4, t5.tup hb2⟩, de, _, rfl, ?_⟩
  rw [if_neg (by decide)]
  have s3 : Same H2 H5 := s3'.trans (g1.trans g2)
  have hb3 : ((decide ((2 : Nat) = 2) && (List.range 2).all e) = true) ↔ Grown ds ns i r := by
    rw [ie, ← put_iff er hi']
    exact ⟨fun z => z.2, fun z => ⟨hFG, z⟩⟩
  generalize (decide ((2 : Nat) = 2) && (List.range 2).all e) = b at hb3
  show if b = true then _ else _
  cases b with
  | true =>
    refine iteT ?_
    refine ⟨_, rfl, _, rfl, le2, fun p hp => ?_⟩
    have s4 := same_new hp (.tup [V.int (0 + (i : Int)), V.int (r : Int)])
    exact q2 p i r _ (s2.trans (s3.trans s4)) (SqT.of (by rw [upd_same, Int.zero_add])) ⟨hFG, hb3.mp rfl, ng⟩
  | false =>
    refine iteF ?_
    refine ⟨s2.trans s3, ⟨_, rfl⟩, fun s hs G' => ?_⟩
    by_cases c : s < i
    · exact ng s c G'
    · have : s = i := by omega
      subst this
      exact absurd (hb3.mpr G') (by decide)
theorem sq_small {x : Int} (h0 : 0 ≤ x) (h1 : x < 2147483647) : 0 ≤ x * x ∧ x * x ≤ 2147483647 * 2147483647 := ⟨Int.mul_nonneg h0 h0, Int.mul_le_mul (by omega) (by omega) h0 (by (first | decide | (show (0 : Int) < _; first | decide | omega)))⟩
def sp_l_stream : Sp := fun vs H Q _ => ∃ (c : Int) (n : Nat), vs = [.int c, .int (n : Int)] ∧ n ≤ 20 ∧ ∀ q H' xs, Same H H' → H q = none → H' q = some (.lst (xs.map V.int)) → StrOk n xs → Q (.ref q) H'
theorem sc_l_stream : FnScope ["cell", "many", "found", "number", "k"] ["cell", "many"] (defScope s_l_stream) := ⟨rfl, rfl, rfl, by decide +kernel, rfl, by decide +kernel, by decide +kernel⟩
theorem ok_l_stream (T : Txt P w K mg a) : FnOk P w K mg base CX0 1 a.f_l_stream a.fd_l_stream ["cell", "many"] sp_l_stream := by
  have z_range := T.z_range
  refine T.d_l_stream.fn.ok sc_l_stream (fun vs H Q E h => ?_) (fun cdv A outer s H vs Q E hr h => ?_)
  · obtain ⟨c, n, rfl, _⟩ := h
    rfl
  obtain ⟨c, n, rfl, n20, q⟩ := h
  have hu := Nat.lt_of_succ_lt (hu_of hr)
  refine ⟨_, (pss_cons (ps_set (i := 2) sc_l_stream.nd rfl (Or.inl rfl) (pe_lst pa_nil))
      (pss_cons (ps_set (i := 3) sc_l_stream.nd rfl (Or.inl rfl) (pe_op op_mod (pv 0) pe_int))
      (pss_cons (ps_for PassesOwn.never rfl (pi_range1 rfl z_range (pa_cons (pe_op op_add (pv 1) pe_int) pa_nil)) (pg_name (i := 4) sc_l_stream.nd rfl (Or.inl rfl)) (pss_cons (ps_set (i := 3) sc_l_stream.nd rfl (Or.inl rfl) (pe_op op_mod (pe_op op_add (pe_op op_add (pe_op op_add (pe_op op_mul (pv 3) (pv 3)) (pe_op op_mul pe_int (pv 3))) (pe_op op_mul pe_int (pv 4))) pe_int) pe_int))
      (pss_one (ps_expr (pe_bm PySem.F.plainAttrs_list PySem.F.slot_list_append PySem.F.type_list_append mt_append (pv 2) (pa_cons (pv 3) pa_nil))))))
      (pss_one (ps_ret (pe_slice sl_list (pv 2) (po_some pe_int) po_none)))))), ?_⟩
  refine ⟨Nat.zero_le _, fun r hr => ?_⟩
  have s0 := same_new hr (.lst [])
  refine ⟨_, rfl, _, _, rfl, rfl, (by (first | decide | (show (0 : Int) < _; first | decide | omega))), ?_⟩
  refine ⟨_, rfl, _, _, rfl, rfl, _, rfl, (by omega), (by omega), for_range (fun i σ H2 => Same H H2 ∧ ∃ (xs : List Int) (z : Int) (v : Option V), 0 ≤ z ∧ z < 2147483647 ∧ σ = [some (.int c), some (.int (n : Int)), some (.ref r), some (.int z), v] ∧ StrOk i xs ∧ H2 r = some (.lst (xs.map V.int)))
    ⟨s0, [], _, none, Int.emod_nonneg _ (by (first | decide | (show (0 : Int) < _; first | decide | omega))), Int.emod_lt_of_pos _ (by (first | decide | (show (0 : Int) < _; first | decide | omega))), rfl, ⟨rfl, fun x hx => by simp at hx⟩, upd_same⟩ ?_ ?_⟩
  · rintro i σ H2 hi ⟨s2, xs, z, v, z0, z1, rfl, ok, h2⟩
    have hi2 : i < 21 := by omega
    have sq := sq_small z0 z1
    refine ⟨_, rfl, _, rfl, _, _, rfl, rfl, .inl ⟨by omega, by omega⟩, _, rfl, _, _, rfl, rfl, .inl ⟨by decide, by decide⟩, _, _, rfl, rfl, _, rfl, _, _, rfl, rfl, .inl ⟨by decide, by decide⟩, _, _, rfl, rfl, _, _, rfl, rfl, _, _, rfl, rfl, (by (first | decide | (show (0 : Int) < _; first | decide | omega))), ?_⟩
    dsimp only [gName]
    have m1 := Int.emod_nonneg (z * z + 48271 * z + 7 * (0 + (i : Int)) + 11) (show (2147483647 : Int) ≠ 0 by decide)
    have m2 := Int.emod_lt_of_pos (z * z + 48271 * z + 7 * (0 + (i : Int)) + 11) (show (0 : Int) < 2147483647 by decide)
    generalize (z * z + 48271 * z + 7 * (0 + (i : Int)) + 11) % 2147483647 = y at m1 m2
    refine ⟨_, rfl, .inl ⟨rfl, _, SqL.of h2⟩, _, rfl, _, _, _, rfl, rfl, h2, ?_, ?_⟩
    · rw [List.length_map, ok.1]
      exact Nat.lt_of_lt_of_le (show i < 1000 by omega) (small (Nat.le_refl _))
    · refine ⟨s2.put hr, xs ++ [y], _, _, m1, m2, rfl, ⟨by simp [ok.1], fun x hx => ?_⟩, ?_⟩
      · rcases List.mem_append.mp hx with hx | hx
        · exact ok.2 x hx
        · rw [List.mem_singleton.mp hx]; exact ⟨m1, m2⟩
      · rw [upd_same, map_snoc]
  · rintro σ H2 ⟨s2, xs, z, v, z0, z1, rfl, ok, h2⟩
    refine ⟨_, rfl, _, rfl, _, _, rfl, SqL.of h2, fun p2 hp2 => ?_⟩
    have ok2 : xs.length = n + 1 := by rw [ok.1]; omega
    have ec : cutV (xs.map V.int) (some 1) none = (xs.drop 1).map V.int := by
      unfold cutV HT.sIx
      rw [List.length_map, List.map_drop]
      have e1 : min (1 : Int).toNat xs.length = 1 := by omega
      simp only [show ¬ ((1 : Int) < 0) by decide, if_false]
      rw [e1, List.take_of_length_le (by simp)]
    refine q _ _ (xs.drop 1) (s2.trans (same_new hp2 _)) (s2.free hp2) (by rw [upd_same]; exact congrArg (fun t => some (HO.lst t)) ec) ⟨by simp; omega, fun x hx => ok.2 x (List.mem_of_mem_drop hx)⟩
def sp_l_few (K : PySem.W.Frag) : Sp := fun vs H Q _ => ∃ (c n : Int), vs = [.int c, .int n] ∧ 0 < n ∧ ∀ q d H', Same H H' → WdAt K H' q d → (∀ l zs, H l = some (.lst zs) → WdAt K (er1 H' l) q d) → FewW d → Q (.ref q) H'
theorem sc_l_few : FnScope ["cell", "count", "xs", "saying", "foot"] ["cell", "count"] (defScope s_l_few) := ⟨rfl, rfl, rfl, by decide +kernel, rfl, by decide +kernel, by decide +kernel⟩
theorem ok_l_few (T : Txt P w K mg a) : FnOk P w K mg base CX0 2 a.f_l_few a.fd_l_few ["cell", "count"] (sp_l_few K) := by
  have g_l_stream := ok_l_stream (P := P) (w := w) (base := base) T
  have d_l_stream := T.d_l_stream
  refine T.d_l_few.fn.ok sc_l_few (fun vs H Q E h => ?_) (fun cdv A outer s H vs Q E hr h => ?_)
  · obtain ⟨c, n, rfl, _⟩ := h
    rfl
  obtain ⟨c, n, rfl, n0, q⟩ := h
  have hu := Nat.lt_of_succ_lt (hu_of hr)
  refine ⟨_, (pss_cons (ps_set (i := 2) sc_l_few.nd rfl (Or.inl rfl) (pe_callD d_l_stream g_l_stream (hr.mono (by decide)) rfl (pa_cons (pv 0) (pa_cons pe_int pa_nil))))
      (pss_cons (ps_set (i := 3) sc_l_few.nd rfl (Or.inl rfl) (pe_tup (pa_cons pe_str (pa_cons (pe_ix ix_list (pe_lst (pa_cons pe_str (pa_cons pe_str (pa_cons pe_str pa_nil)))) (pe_op op_mod (pe_ix ix_list (pv 2) pe_int (fun _ _ => rfl)) pe_int) (fun _ _ => rfl)) pa_nil))))
      (pss_cons (ps_if (pt_cmpR op_eq (pe_op op_mod (pe_ix ix_list (pv 2) pe_int (fun _ _ => rfl)) pe_int) pe_int (nomark _)) (pss_one (ps_set (i := 3) sc_l_few.nd rfl (Or.inl rfl) (pe_tup (pa_cons (pe_ix ix_list (pe_lst (pa_cons pe_str (pa_cons pe_str pa_nil))) (pe_op op_mod (pe_ix ix_list (pv 2) pe_int (fun _ _ => rfl)) pe_int) (fun _ _ => rfl)) (pa_cons (pe_op op_mod (pe_op op_fdiv (pe_ix ix_list (pv 2) pe_int (fun _ _ => rfl)) pe_int) (pv 1)) pa_nil))))) pss_nil)
      (pss_cons (ps_set (i := 4) sc_l_few.nd rfl (Or.inl rfl) (pe_lst pa_nil))
      (pss_cons (ps_if (pt_cmpR op_eq (pe_op op_mod (pe_ix ix_list (pv 2) pe_int (fun _ _ => rfl)) pe_int) pe_int (nomark _)) (pss_one (ps_set (i := 4) sc_l_few.nd rfl (Or.inl rfl) (pe_lst (pa_cons (pe_tup (pa_cons pe_str (pa_cons (pe_op op_mod (pe_op op_fdiv (pe_ix ix_list (pv 2) pe_int (fun _ _ => rfl)) pe_int) (pv 1)) pa_nil))) pa_nil)))) pss_nil)
      (pss_one (ps_ret (pe_tup (pa_cons (pe_ix ix_list (pe_lst (pa_cons pe_int (pa_cons pe_int (pa_cons pe_int (pa_cons pe_int pa_nil))))) (pe_op op_mod (pe_ix ix_list (pv 2) pe_int (fun _ _ => rfl)) pe_int) (fun _ _ => rfl)) (pa_cons (pe_cmpR op_eq (pe_op op_mod (pe_op op_fdiv (pe_ix ix_list (pv 2) pe_int (fun _ _ => rfl)) pe_int) pe_int) pe_int (nomark _)) (pa_cons (pv 3) (pa_cons (pv 4) pa_nil)))))))))))), ?_⟩
  refine ⟨_, rfl, c, (4 : Nat), rfl, by decide, fun xa H1 zs s1 nx hz ok => ?_⟩
  dsimp only [gName]
  refine ⟨by decide, fun p1 hp1 => ?_⟩
  have s2 := same_new hp1 (.lst [V.str (PySem.Str.ofString "a"), V.str (PySem.Str.ofString "a"), V.str (PySem.Str.ofString "b")])
  have h2 : (upd H1 p1 (.lst [V.str (PySem.Str.ofString "a"), V.str (PySem.Str.ofString "a"), V.str (PySem.Str.ofString "b")])) p1 = some (.lst [V.str (PySem.Str.ofString "a"), V.str (PySem.Str.ofString "a"), V.str (PySem.Str.ofString "b")]) := upd_same
  generalize upd H1 p1 (.lst [V.str (PySem.Str.ofString "a"), V.str (PySem.Str.ofString "a"), V.str (PySem.Str.ofString "b")]) = H2 at s2 h2 ⊢
  obtain ⟨v, ev, hv⟩ := at3 (x := V.str (PySem.Str.ofString "a")) (y := V.str (PySem.Str.ofString "a")) (z := V.str (PySem.Str.ofString "b")) (em3 (zs.getD 0 0)).1 (em3 (zs.getD 0 0)).2
  obtain ⟨l, rfl⟩ : ∃ l, v = V.str (tx l) := by
    rcases hv with rfl | rfl | rfl
    · exact ⟨_, by rw [txa]⟩
    · exact ⟨_, by rw [txa]⟩
    · exact ⟨_, by rw [txb]⟩
  refine ⟨_, rfl, _, _, _, _, rfl, rfl, SqL.of (s2 _ _ hz), ok.at (k := 0) (by decide), _, _, rfl, rfl, (by (first | decide | (show (0 : Int) < _; first | decide | omega))), _, _, _, _, rfl, rfl, SqL.of h2, ev, le2, fun p2 hp2 => ?_⟩
  have s3 := same_new hp2 (.tup [V.str (PySem.Str.ofString "text"), V.str (tx l)])
  have h3 : SqT K (upd H2 p2 (.tup [V.str (PySem.Str.ofString "text"), V.str (tx l)])) p2 (sayV (.text l)) := SqT.of upd_same
  generalize upd H2 p2 (.tup [V.str (PySem.Str.ofString "text"), V.str (tx l)]) = H3 at s3 h3 ⊢
  dsimp only [gName]
  have t3 := s2.trans s3
  refine cut_seq (fun σ' H' => Same H1 H' ∧ ∃ (sa : Addr) (s : Say), σ' = [some (.int c), some (.int n), some (.ref xa), some (.ref sa), none] ∧ SqT K H' sa (sayV s)) ?_ (fun key => ?_)
  rotate_left
  · refine ⟨_, rfl, _, _, _, _, rfl, rfl, SqL.of (t3 _ _ hz), ok.at (k := 0) (by decide), _, _, rfl, rfl, (by (first | decide | (show (0 : Int) < _; first | decide | omega))), rfl, _, rfl, ?_⟩
    refine ite2 (fun _ => ?_) (fun _ => key _ _ ⟨t3, p2, _, rfl, h3⟩)
    refine ⟨le2, fun p4 hp4 => ?_⟩
    have s4 := same_new hp4 (.lst [V.str (PySem.Str.ofString "page"), V.str (PySem.Str.ofString "row")])
    have h4 : (upd H3 p4 (.lst [V.str (PySem.Str.ofString "page"), V.str (PySem.Str.ofString "row")])) p4 = some (.lst [V.str (PySem.Str.ofString "page"), V.str (PySem.Str.ofString "row")]) := upd_same
    generalize upd H3 p4 (.lst [V.str (PySem.Str.ofString "page"), V.str (PySem.Str.ofString "row")]) = H4 at s4 h4 ⊢
    have t4 := t3.trans s4
    obtain ⟨u, eu, hu⟩ := at2 (x := V.str (PySem.Str.ofString "page")) (y := V.str (PySem.Str.ofString "row")) (em2 (zs.getD 1 0)).1 (em2 (zs.getD 1 0)).2
    obtain ⟨k, ek, _⟩ := emn (z := zs.getD 1 0 / 2) n0
    refine ⟨_, rfl, _, _, _, _, rfl, rfl, SqL.of (t4 _ _ hz), ok.at (k := 1) (by decide), _, _, rfl, rfl, (by (first | decide | (show (0 : Int) < _; first | decide | omega))), _, _, _, _, rfl, rfl, SqL.of h4, eu, _, rfl, _, _, _, _, rfl, rfl, SqL.of (t4 _ _ hz), ok.at (k := 1) (by decide), _, _, rfl, rfl, ⟨by decide, by decide⟩, _, rfl, _, _, rfl, rfl, n0, le2, fun p5 hp5 => ?_⟩
    have s5 := same_new hp5 (.tup [u, V.int (zs.getD 1 0 / 2 % n)])
    have h5 : SqT K (upd H4 p5 (.tup [u, V.int (zs.getD 1 0 / 2 % n)])) p5 [u, V.int (k : Int)] := SqT.of (by rw [upd_same, ek])
    rcases hu with rfl | rfl
    · exact key _ _ ⟨t4.trans s5, p5, .page k, rfl, h5⟩
    · exact key _ _ ⟨t4.trans s5, p5, .row k, rfl, h5⟩
  rintro σ' H4 ⟨s4, sa, s, rfl, hsa⟩
  refine ⟨Nat.zero_le _, fun p6 hp6 => ?_⟩
  have s5 := same_new hp6 (.lst [])
  have h5 : (upd H4 p6 (.lst [])) p6 = some (.lst []) := upd_same
  generalize upd H4 p6 (.lst []) = H5 at s5 h5 ⊢
  dsimp only [gName]
  have t5 := s4.trans s5
  refine cut_seq (fun σ' H' => Same H5 H' ∧ ∃ (fo : Addr) (bs : List Addr) (ss : List Say), σ' = [some (.int c), some (.int n), some (.ref xa), some (.ref sa), some (.ref fo)] ∧ SqL K H' fo (bs.map V.ref) ∧ SaysA K H' bs ss ∧ ss.length ≤ 1 ∧ (∀ s ∈ ss, NT s) ∧ H1 fo = none) ?_ (fun key => ?_)
  rotate_left
  · refine ⟨_, rfl, _, _, _, _, rfl, rfl, SqL.of (t5 _ _ hz), ok.at (k := 2) (by decide), _, _, rfl, rfl, (by (first | decide | (show (0 : Int) < _; first | decide | omega))), rfl, _, rfl, ?_⟩
    refine ite2 (fun _ => ?_) (fun _ => key _ _ ⟨Same.refl _, p6, [], [], rfl, SqL.of h5, SaysA.nil, Nat.zero_le _, (fun s hs => by cases hs), s4.free hp6⟩)
    obtain ⟨k, ek, _⟩ := emn (z := zs.getD 2 0 / 5) n0
    refine ⟨_, rfl, _, _, _, _, rfl, rfl, SqL.of (t5 _ _ hz), ok.at (k := 2) (by decide), _, _, rfl, rfl, ⟨by decide, by decide⟩, _, rfl, _, _, rfl, rfl, n0, le2, fun p7 hp7 => ?_⟩
    have s6 := same_new hp7 (.tup [V.str (PySem.Str.ofString "page"), V.int (zs.getD 2 0 / 5 % n)])
    have h6 : SqT K (upd H5 p7 (.tup [V.str (PySem.Str.ofString "page"), V.int (zs.getD 2 0 / 5 % n)])) p7 (sayV (.page k)) := SqT.of (by rw [upd_same, ek]; rfl)
    change _ ∧ ∀ p8, (upd H5 p7 (.tup [V.str (PySem.Str.ofString "page"), V.int (zs.getD 2 0 / 5 % n)])) p8 = none → _
    generalize upd H5 p7 (.tup [V.str (PySem.Str.ofString "page"), V.int (zs.getD 2 0 / 5 % n)]) = H6 at s6 h6 ⊢
    refine ⟨le1, fun p8 hp8 => ?_⟩
    have s7 := same_new hp8 (.lst [V.ref p7])
    refine key _ _ ⟨s6.trans s7, p8, [p7], [.page k], rfl, SqL.of upd_same, SaysA.one (s7.tup h6), Nat.le_refl _, (fun s hs => ?_), (t5.trans s6).free hp8⟩
    rw [List.mem_singleton.mp hs]
    trivial
  rintro σ' H6 ⟨s6, fo, bs, ss, rfl, hfo, hss, s1', hnt, nfo⟩
  refine ⟨by decide, fun p9 hp9 => ?_⟩
  have s7 := same_new hp9 (.lst [V.int 0, V.int 0, V.int 1, V.int 2])
  have h7 : (upd H6 p9 (.lst [V.int 0, V.int 0, V.int 1, V.int 2])) p9 = some (.lst [V.int 0, V.int 0, V.int 1, V.int 2]) := upd_same
  generalize upd H6 p9 (.lst [V.int 0, V.int 0, V.int 1, V.int 2]) = H7 at s7 h7 ⊢
  have t7 := t5.trans (s6.trans s7)
  obtain ⟨ld, el, _⟩ := at4i (a := 0) (b := 0) (c := 1) (d := 2) (em4 (zs.getD 3 0)).1 (em4 (zs.getD 3 0)).2
  refine ⟨_, rfl, _, _, _, _, rfl, rfl, SqL.of (t7 _ _ hz), ok.at (k := 3) (by decide), _, _, rfl, rfl, (by (first | decide | (show (0 : Int) < _; first | decide | omega))), _, _, _, _, rfl, rfl, SqL.of h7, el, _, rfl, _, _, _, _, rfl, rfl, SqL.of (t7 _ _ hz), ok.at (k := 3) (by decide), _, _, rfl, rfl, ⟨by decide, by decide⟩, _, _, rfl, rfl, (by (first | decide | (show (0 : Int) < _; first | decide | omega))), rfl, _, rfl, _, rfl, le4, fun pA hpA => ?_⟩
  have sA := same_new hpA (.tup [V.int ld, V.bl (decide (V.int (zs.getD 3 0 / 4 % 3) = V.int 0)), V.ref sa, V.ref fo])
  have k1 : SqT K (upd H7 pA (.tup [V.int ld, V.bl (decide (V.int (zs.getD 3 0 / 4 % 3) = V.int 0)), V.ref sa, V.ref fo])) pA [V.int ld, V.bl (decide (V.int (zs.getD 3 0 / 4 % 3) = V.int 0)), V.ref sa, V.ref fo] := SqT.of upd_same
  have k2 := (s5.trans (s6.trans (s7.trans sA))).tup hsa
  have k3 := (s7.trans sA).seq hfo
  have k4 := hss.same (s7.trans sA)
  have tA := s1.trans (t7.trans sA)
  refine q pA ⟨ld, decide (V.int (zs.getD 3 0 / 4 % 3) = V.int 0), s, ss⟩ _ tA ⟨sa, fo, bs, k1, k2, k3, k4⟩ (fun l zs hl => er1_wd (d := ⟨ld, decide (V.int (_ / 4 % 3) = V.int 0), s, ss⟩) (tA _ _ hl) (fun e => by rw [e] at nfo; rw [s1 _ _ hl] at nfo; cases nfo) k1 k2 k3 k4) ⟨s1', hnt⟩
def sp_l_within (K : PySem.W.Frag) : Sp := fun vs H Q _ => ∃ (a : Addr) (d : Wd) (n : Int), vs = [.ref a, .int n] ∧ WdAt K H a d ∧ FewW d ∧ 0 < n ∧ ∀ q d' H', Same H H' → WdAt K H' q d' → FewW d' → Q (.ref q) H'
theorem sc_l_within : FnScope ["word", "count", "saying"] ["word", "count"] (defScope s_l_within) := ⟨rfl, rfl, rfl, by decide +kernel, rfl, by decide +kernel, by decide +kernel⟩
theorem ok_l_within (T : Txt P w K mg a) : FnOk P w K mg base CX0 1 a.f_l_within a.fd_l_within ["word", "count"] (sp_l_within K) := by
  refine T.d_l_within.fn.ok sc_l_within (fun vs H Q E h => ?_) (fun cdv A outer s H vs Q E hr h => ?_)
  · obtain ⟨a, d, n, rfl, _⟩ := h
    rfl
  obtain ⟨a, d, n, rfl, ha, fw, n0, q⟩ := h
  have hu := Nat.lt_of_succ_lt (hu_of hr)
  refine ⟨_, (pss_cons (ps_set (i := 2) sc_l_within.nd rfl (Or.inl rfl) (pe_ix ix_tup (pv 0) pe_int (fun _ _ => rfl)))
      (pss_cons (ps_if (pt_cmpR op_ne (pe_ix ix_tup (pv 2) pe_int (fun _ _ => rfl)) pe_str (nomark _)) (pss_one (ps_set (i := 2) sc_l_within.nd rfl (Or.inl rfl) (pe_tup (pa_cons (pe_ix ix_tup (pv 2) pe_int (fun _ _ => rfl)) (pa_cons (pe_op op_mod (pe_ix ix_tup (pv 2) pe_int (fun _ _ => rfl)) (pv 1)) pa_nil))))) pss_nil)
      (pss_one (ps_ret (pe_tup (pa_cons (pe_ix ix_tup (pv 0) pe_int (fun _ _ => rfl)) (pa_cons (pe_ix ix_tup (pv 0) pe_int (fun _ _ => rfl)) (pa_cons (pv 2) (pa_cons (pe_lc rfl (lcok (caps := ["count"]) (js := [1]) (cap := ⟨⟨rfl, .inl rfl, rfl, .inl rfl⟩, trivial⟩)) (pi_list (pe_ix ix_tup (pv 0) pe_int (fun _ _ => rfl))) (fun _ _ _ _ => pts_nil) (fun _ _ _ _ => (pe_tup (pa_cons (pe_ix (r := rIxT K) ix_tup (pv 0) pe_int (fun _ _ => rfl)) (pa_cons (pe_op op_mod (pe_ix (r := rIxT K) ix_tup (pv 0) pe_int (fun _ _ => rfl)) (pv 1)) pa_nil))))) pa_nil))))))))), ?_⟩
  obtain ⟨sa, fo, bs, h1, h2, h3, h4⟩ := ha
  refine ⟨_, rfl, _, _, _, _, rfl, rfl, h1, rfl, ?_⟩
  dsimp only [gName]
  refine cut_seq (fun σ' H' => Same H H' ∧ ∃ (sb : Addr) (s : Say), σ' = [some (.ref a), some (.int n), some (.ref sb)] ∧ SqT K H' sb (sayV s)) ?_ (fun key => ?_)
  rotate_left
  · cases hs : d.say with
    | text l =>
      rw [hs] at h2
      refine ⟨_, rfl, _, _, _, _, rfl, rfl, h2, rfl, rfl, _, rfl, ?_⟩
      rw [decide_eq_true rfl]
      refine iteF ?_
      exact key _ _ ⟨Same.refl _, sa, .text l, rfl, h2⟩
    | page k =>
      rw [hs] at h2
      refine ⟨_, rfl, _, _, _, _, rfl, rfl, h2, rfl, rfl, _, rfl, ?_⟩
      rw [decide_eq_false (fun z => ne_tp (V.str.inj z))]
      refine iteT ?_
      obtain ⟨m, em, _⟩ := emn (z := (k : Int)) n0
      refine ⟨_, rfl, _, _, _, _, rfl, rfl, h2, rfl, _, rfl, _, _, _, _, rfl, rfl, h2, rfl, _, rfl, _, _, rfl, rfl, n0, le2, fun p3 hp3 => ?_⟩
      exact key _ _ ⟨same_new hp3 _, p3, .page m, rfl, SqT.of (by rw [upd_same]; show some (HO.tup [V.str (PySem.Str.ofString "page"), V.int ((k : Int) % n)]) = _; rw [em]; rfl)⟩
    | row k =>
      rw [hs] at h2
      refine ⟨_, rfl, _, _, _, _, rfl, rfl, h2, rfl, rfl, _, rfl, ?_⟩
      rw [decide_eq_false (fun z => ne_tr (V.str.inj z))]
      refine iteT ?_
      obtain ⟨m, em, _⟩ := emn (z := (k : Int)) n0
      refine ⟨_, rfl, _, _, _, _, rfl, rfl, h2, rfl, _, rfl, _, _, _, _, rfl, rfl, h2, rfl, _, rfl, _, _, rfl, rfl, n0, le2, fun p3 hp3 => ?_⟩
      exact key _ _ ⟨same_new hp3 _, p3, .row m, rfl, SqT.of (by rw [upd_same]; show some (HO.tup [V.str (PySem.Str.ofString "row"), V.int ((k : Int) % n)]) = _; rw [em]; rfl)⟩
  rintro σ' H1 ⟨s1, sb, s, rfl, hsb⟩
  have f1 := fw.n
  refine ⟨_, rfl, _, _, _, _, rfl, rfl, s1.tup h1, rfl, _, rfl, _, _, _, _, rfl, rfl, s1.tup h1, rfl, _, rfl, _, rfl, _, _, _, _, rfl, rfl, s1.tup h1, rfl, _, rfl, ⟨_, s1.seq h3⟩, lc_list (K := K) (a := fo) (xs := bs.map V.ref) (fun i ys H2 => Same H1 H2 ∧ ∃ (cs : List Addr) (ss : List Say), ys = cs.map V.ref ∧ SaysA K H2 cs ss ∧ ss.length = i ∧ ∀ s ∈ ss, NT s) ⟨Same.refl _, [], [], rfl, SaysA.nil, rfl, fun s hs => by cases hs⟩ (fun i ys H2 _ g => g.1.seq (s1.seq h3)) ?_ ?_ ?_⟩
  · rintro i ys H2 hi ⟨_, cs, ss, rfl, hc, sl, _⟩
    rw [List.length_map, h4.1] at hi
    rw [List.length_map, hc.1]
    exact Nat.lt_of_lt_of_le (show _ < 1000 by omega) (small (Nat.le_refl _))
  · rintro i y ys H2 hi ⟨s2, cs, ss, rfl, hc, sl, nt⟩
    obtain ⟨b, t, rfl, eb, es⟩ := foot_at h4.1 hi
    obtain ⟨x, k, hx, mk⟩ := say_nt (h4.2 i b t eb es) (fw.f t (List.mem_of_getElem? es))
    obtain ⟨m, em, _⟩ := emn (z := (k : Int)) n0
    obtain ⟨s', es', nt'⟩ := mk m
    have t2 := s1.trans s2
    refine yes_go ?_
    refine ⟨_, rfl, _, _, _, _, rfl, rfl, t2.tup hx, rfl, _, rfl, _, _, _, _, rfl, rfl, t2.tup hx, rfl, _, rfl, _, _, rfl, rfl, n0, le2, fun p3 hp3 => ?_⟩
    have s3 := same_new hp3 (.tup [V.str x, V.int ((k : Int) % n)])
    refine ⟨s2.trans s3, cs ++ [p3], ss ++ [s'], refs_snoc _ _, (hc.same s3).app (SaysA.one (SqT.of (by rw [upd_same, em, es']))), by simp [sl], fun s hs => ?_⟩
    rcases List.mem_append.mp hs with hs | hs
    · exact nt s hs
    · rw [List.mem_singleton.mp hs]; exact nt'
  rintro ys H2 ⟨s2, cs, ss, rfl, hc, sl, nt⟩ p hp
  rw [List.length_map, h4.1] at sl
  have s3 := same_new hp (.lst (cs.map V.ref))
  have h5 : (upd H2 p (.lst (cs.map V.ref))) p = some (.lst (cs.map V.ref)) := upd_same
  generalize upd H2 p (.lst (cs.map V.ref)) = H3 at s3 h5 ⊢
  refine ⟨le4, fun p4 hp4 => ?_⟩
  have s4 := same_new hp4 (.tup [V.int d.lead, V.bl d.kept, V.ref sb, V.ref p])
  exact q p4 ⟨d.lead, d.kept, s, ss⟩ _ (s1.trans (s2.trans (s3.trans s4))) ⟨sb, p, cs, SqT.of upd_same, (s2.trans (s3.trans s4)).tup hsb, s4.seq (SqL.of h5), hc.same (s3.trans s4)⟩ ⟨by show ss.length ≤ 1; omega, nt⟩
def sp_l_pair (K : PySem.W.Frag) : Sp := fun vs H Q _ => ∃ (sa : Addr) (ns : List Int), vs = [.ref sa] ∧ SqL K H sa (ns.map V.int) ∧ ∀ q oq nq (F G : Frm) (ds es : List Wd) H', Same H H' → SqT K H' q [.ref oq, .ref nq] → BkAt K H' oq F.w F.h F.f F.m ds → BkAt K H' nq G.w G.h G.f G.m es → 0 < F.h → ds.length ≤ 8 → es.length ≤ 60 → (∀ d ∈ ds, FewW d) → (∀ d ∈ es, FewW d) → Q (.ref q) H'
theorem sc_l_pair : FnScope ["script", "row", "xs", "many", "count", "form", "old", "at", "run", "new", "way", "words", "mixed", "k"] ["script"] (defScope s_l_pair) := ⟨rfl, rfl, rfl, by decide +kernel, rfl, by decide +kernel, by decide +kernel⟩
theorem ok_l_pair (T : Txt P w K mg a) : FnOk P w K mg base CX0 4 a.f_l_pair a.fd_l_pair ["script"] (sp_l_pair K) := by
  have g_l_cell_at := ok_l_cell_at (P := P) (w := w) (base := base) T
  have d_l_cell_at := T.d_l_cell_at
  have g_l_few := ok_l_few (P := P) (w := w) (base := base) T
  have d_l_few := T.d_l_few
  have g_l_put_in := ok_l_put_in (P := P) (w := w) (base := base) T
  have d_l_put_in := T.d_l_put_in
  have g_l_stream := ok_l_stream (P := P) (w := w) (base := base) T
  have d_l_stream := T.d_l_stream
  have g_l_within := ok_l_within (P := P) (w := w) (base := base) T
  have d_l_within := T.d_l_within
  have z_len := T.z_len
  have z_range := T.z_range
  refine T.d_l_pair.fn.ok sc_l_pair (fun vs H Q E h => ?_) (fun cdv A outer s H vs Q E hr h => ?_)
  · obtain ⟨sa, ns, rfl, _⟩ := h
    rfl
  obtain ⟨sa, ns, rfl, hS, q⟩ := h
  have hu := Nat.lt_of_succ_lt (hu_of hr)
  refine ⟨_, (pss_cons (ps_set (i := 1) sc_l_pair.nd rfl (Or.inr rfl) (pe_slice sl_list (pv 0) (po_some pe_int) (po_some pe_int)))
      (pss_cons (ps_set (i := 2) sc_l_pair.nd rfl (Or.inl rfl) (pe_callD d_l_stream g_l_stream (hr.mono (by decide)) rfl (pa_cons (pe_callD d_l_cell_at g_l_cell_at (hr.mono (by decide)) rfl (pa_cons (pv 0) (pa_cons pe_int pa_nil))) (pa_cons pe_int pa_nil))))
      (pss_cons (ps_set (i := 3) sc_l_pair.nd rfl (Or.inl rfl) (pe_op op_mod (pe_ix ix_list (pv 2) pe_int (fun _ _ => rfl)) pe_int))
      (pss_cons (ps_set (i := 4) sc_l_pair.nd rfl (Or.inr rfl) (pe_op op_add (pe_callB call_len_seq rfl z_len PySem.boot_len (pa_cons (pv 1) pa_nil)) (pv 3)))
      (pss_cons (ps_set (i := 5) sc_l_pair.nd rfl (Or.inl rfl) (pe_tup (pa_cons (pe_op op_add pe_int (pe_op op_mod (pe_ix ix_list (pv 2) pe_int (fun _ _ => rfl)) pe_int)) (pa_cons (pe_op op_add pe_int (pe_op op_mod (pe_ix ix_list (pv 2) pe_int (fun _ _ => rfl)) pe_int)) (pa_cons (pe_op op_mod (pe_callD d_l_cell_at g_l_cell_at (hr.mono (by decide)) rfl (pa_cons (pv 0) (pa_cons pe_int pa_nil))) (pe_op op_add (pe_op op_pow pe_int pe_int) pe_int)) (pa_cons (pe_op op_add pe_int (pe_op op_mod (pe_ix ix_list (pv 2) pe_int (fun _ _ => rfl)) pe_int)) pa_nil))))))
      (pss_cons (ps_set (i := 6) sc_l_pair.nd rfl (Or.inr rfl) (pe_tup (pa_cons (pv 5) (pa_cons (pe_lc rfl (lcok (caps := ["row"]) (js := [1]) (cap := ⟨⟨rfl, .inl rfl, rfl, .inl rfl⟩, trivial⟩)) (pi_list (pv 1)) (fun _ _ _ _ => pts_nil) (fun _ _ _ _ => (pe_callD d_l_few g_l_few (hr.mono (by decide)) rfl (pa_cons (pv 0) (pa_cons (pe_callB (r := rLen K) call_len_seq rfl z_len PySem.boot_len (pa_cons (pv 1) pa_nil)) pa_nil))))) pa_nil))))
      (pss_cons (ps_set (i := 7) sc_l_pair.nd rfl (Or.inr rfl) (pe_op op_mod (pe_ix ix_list (pv 2) pe_int (fun _ _ => rfl)) (pe_op op_add (pe_callB call_len_seq rfl z_len PySem.boot_len (pa_cons (pv 1) pa_nil)) pe_int)))
      (pss_cons (ps_lc (k := 8) rfl (lcok (caps := ["script", "count"]) (js := [0, 4]) (cap := ⟨⟨rfl, .inl rfl, rfl, .inl rfl⟩, ⟨⟨rfl, .inl rfl, rfl, .inl rfl⟩, trivial⟩⟩)) (pi_range1 rfl z_range (pa_cons (pv 3) pa_nil)) (fun _ _ _ _ => pts_nil) (fun _ _ _ _ => (pe_callD d_l_few g_l_few (hr.mono (by decide)) rfl (pa_cons (pe_op op_add (pe_op op_fdiv (pe_callD d_l_cell_at g_l_cell_at (hr.mono (by decide)) rfl (pa_cons (pv 1) (pa_cons pe_int pa_nil))) (pe_op op_add (pv 0) pe_int)) (pv 0)) (pa_cons (pv 2) pa_nil)))) sc_l_pair.nd rfl rfl)
      (pss_cons (ps_if (pt_cmpR op_eq (pe_op op_mod (pe_ix ix_list (pv 2) pe_int (fun _ _ => rfl)) pe_int) pe_int (nomark _)) (pss_one (ps_lc (k := 8) rfl (lcok (caps := ["row", "old", "at"]) (js := [1, 6, 7]) (cap := ⟨⟨rfl, .inl rfl, rfl, .inl rfl⟩, ⟨⟨rfl, .inl rfl, rfl, .inl rfl⟩, ⟨⟨rfl, .inl rfl, rfl, .inl rfl⟩, trivial⟩⟩⟩)) (pi_range1 rfl z_range (pa_cons (pv 3) pa_nil)) (fun _ _ _ _ => (pts_one (pt_cmpR (r := rNeNil K) (op_neNil' hu) (pv 1) (pe_lst pa_nil) (nomark _)))) (fun _ _ _ _ => (pe_ix (r := rIxL K) ix_list (pe_ix (r := rIxT K) ix_tup (pv 2) pe_int (fun _ _ => rfl)) (pe_op op_mod (pe_op op_add (pv 3) (pv 0)) (pe_callB (r := rLen K) call_len_seq rfl z_len PySem.boot_len (pa_cons (pv 1) pa_nil))) (fun _ _ => rfl))) sc_l_pair.nd rfl rfl)) pss_nil)
      (pss_cons (ps_set (i := 9) sc_l_pair.nd rfl (Or.inl rfl) (pe_callD d_l_put_in g_l_put_in (hr.mono (by decide)) rfl (pa_cons (pv 6) (pa_cons (pv 7) (pa_cons (pv 8) pa_nil)))))
      (pss_cons (ps_set (i := 10) sc_l_pair.nd rfl (Or.inl rfl) (pe_op op_mod (pe_op op_fdiv (pe_ix ix_list (pv 2) pe_int (fun _ _ => rfl)) pe_int) pe_int))
      (pss_cons (ps_set (i := 11) sc_l_pair.nd rfl (Or.inr rfl) (pe_ix ix_tup (pv 9) pe_int (fun _ _ => rfl)))
      (pss_cons (ps_if (PW.pt (pw_and (pt_cmpR op_eq (pv 10) pe_int (nomark _)) (pw_and1 (pt_cmpR (op_neNil hu) (pv 11) (pe_lst pa_nil) (nomark _))))) (pss_one (ps_asg (pe_callD d_l_few g_l_few (hr.mono (by decide)) rfl (pa_cons (pe_ix ix_list (pv 2) pe_int (fun _ _ => rfl)) (pa_cons (pe_callB call_len_seq rfl z_len PySem.boot_len (pa_cons (pv 11) pa_nil)) pa_nil))) (pg_sub (pv 11) (pe_op op_mod (pe_ix ix_list (pv 2) pe_int (fun _ _ => rfl)) (pe_callB call_len_seq rfl z_len PySem.boot_len (pa_cons (pv 11) pa_nil))) set_list))) pss_nil)
      (pss_cons (ps_if (PW.pt (pw_and (pt_cmpR op_eq (pv 10) pe_int (nomark _)) (pw_and1 (pt_cmpR op_gt (pe_callB call_len_seq rfl z_len PySem.boot_len (pa_cons (pv 11) pa_nil)) pe_int (nomark _))))) (pss_cons (ps_expr (pe_bm PySem.F.plainAttrs_list PySem.F.slot_list_pop PySem.F.type_list_pop mt_popAt (pv 11) (pa_cons (pe_op op_mod (pe_ix ix_list (pv 2) pe_int (fun _ _ => rfl)) (pe_callB call_len_seq rfl z_len PySem.boot_len (pa_cons (pv 11) pa_nil))) pa_nil)))
      (pss_one (ps_set (i := 11) sc_l_pair.nd rfl (Or.inr rfl) (pe_lc rfl (lcok (caps := ["words"]) (js := [11]) (cap := ⟨⟨rfl, .inl rfl, rfl, .inl rfl⟩, trivial⟩)) (pi_list (pv 11)) (fun _ _ _ _ => pts_nil) (fun _ _ _ _ => (pe_callD d_l_within g_l_within (hr.mono (by decide)) rfl (pa_cons (pv 0) (pa_cons (pe_callB (r := rLen K) call_len_seq rfl z_len PySem.boot_len (pa_cons (pv 1) pa_nil)) pa_nil)))))))) pss_nil)
      (pss_cons (ps_if (pt_cmpR op_eq (pv 10) pe_int (nomark _)) (pss_one (ps_set (i := 11) sc_l_pair.nd rfl (Or.inr rfl) (pe_op op_catS (pe_op op_catS (pe_slice sl_list (pv 11) po_none (po_some (pv 7))) (pe_lc rfl (lcok (caps := []) (js := []) (cap := trivial)) (pi_list (pe_slice sl_list (pv 11) (po_some (pv 7)) (po_some (pe_op op_add (pv 7) (pv 3))))) (fun _ _ _ _ => pts_nil) (fun _ _ _ _ => (pe_tup (pa_cons (pe_ix (r := rIxT K) ix_tup (pv 0) pe_int (fun _ _ => rfl)) (pa_cons pe_bl (pa_cons (pe_ix (r := rIxT K) ix_tup (pv 0) pe_int (fun _ _ => rfl)) (pa_cons (pe_ix (r := rIxT K) ix_tup (pv 0) pe_int (fun _ _ => rfl)) pa_nil)))))))) (pe_slice sl_list (pv 11) (po_some (pe_op op_add (pv 7) (pv 3))) po_none)))) pss_nil)
      (pss_cons (ps_if (pt_cmpR op_eq (pv 10) pe_int (nomark _)) (pss_cons (ps_set (i := 12) sc_l_pair.nd rfl (Or.inr rfl) (pe_op op_catS (pe_op op_catS (pe_slice sl_list (pe_ix ix_tup (pv 6) pe_int (fun _ _ => rfl)) po_none (po_some (pv 7))) (pe_slice sl_list (pv 11) (po_some (pv 7)) (po_some (pe_op op_add (pv 7) (pe_callB call_len_seq rfl z_len PySem.boot_len (pa_cons (pv 8) pa_nil)))))) (pe_slice sl_list (pe_ix ix_tup (pv 6) pe_int (fun _ _ => rfl)) (po_some (pv 7)) po_none)))
      (pss_one (ps_set (i := 11) sc_l_pair.nd rfl (Or.inr rfl) (pe_lc rfl (lcok (caps := ["mixed"]) (js := [12]) (cap := ⟨⟨rfl, .inl rfl, rfl, .inl rfl⟩, trivial⟩)) (pi_list (pv 12)) (fun _ _ _ _ => pts_nil) (fun _ _ _ _ => (pe_callD d_l_within g_l_within (hr.mono (by decide)) rfl (pa_cons (pv 0) (pa_cons (pe_callB (r := rLen K) call_len_seq rfl z_len PySem.boot_len (pa_cons (pv 1) pa_nil)) pa_nil)))))))) pss_nil)
      (pss_cons (ps_if (pt_cmpR op_eq (pv 10) pe_int (nomark _)) (pss_cons (ps_set (i := 13) sc_l_pair.nd rfl (Or.inl rfl) (pe_op op_mod (pe_ix ix_list (pv 2) pe_int (fun _ _ => rfl)) pe_int))
      (pss_one (ps_set (i := 5) sc_l_pair.nd rfl (Or.inl rfl) (pe_op op_catA (pe_op op_catA (pe_slice sl_tup (pv 5) po_none (po_some (pv 13))) (pe_tup (pa_cons (pe_op op_add (pe_op op_mod (pe_ix ix_tup (pv 5) (pv 13) (fun _ _ => rfl)) (pe_ix ix_list (pe_lst (pa_cons pe_int (pa_cons pe_int (pa_cons (pe_op op_pow pe_int pe_int) (pa_cons pe_int pa_nil))))) (pv 13) (fun _ _ => rfl))) pe_int) pa_nil))) (pe_slice sl_tup (pv 5) (po_some (pe_op op_add (pv 13) pe_int)) po_none))))) pss_nil)
      (pss_one (ps_ret (pe_tup (pa_cons (pv 6) (pa_cons (pe_tup (pa_cons (pv 5) (pa_cons (pv 11) pa_nil))) pa_nil)))))))))))))))))))))), ?_⟩
  refine ⟨_, rfl, _, rfl, _, rfl, _, _, rfl, hS, fun ra hra => ?_⟩
  obtain ⟨rs, ers, rl8⟩ : ∃ rs : List Int, cutV (ns.map V.int) (some 4) (some 12) = rs.map V.int ∧ rs.length ≤ 8 := ⟨cutL ns (some 4) (some 12), cutV_map _ _ _ _, by
    have e := cut_nat ns 4 12
    have e' : cutL ns (some 4) (some 12) = (ns.drop 4).take (12 - 4) := e
    rw [e', List.length_take]
    omega⟩
  have s1 := same_new hra (.lst (cutV (ns.map V.int) (some 4) (some 12)))
  have h1 : (upd H ra (.lst (cutV (ns.map V.int) (some 4) (some 12)))) ra = some (.lst (rs.map V.int)) := by rw [upd_same, ers]
  generalize upd H ra (.lst (cutV (ns.map V.int) (some 4) (some 12))) = H1 at s1 h1 ⊢
  dsimp only [gName]
  refine ⟨_, rfl, sa, ns, (1 : Nat), rfl, s1.seq hS, _, (6 : Nat), rfl, by decide, fun xa H2 zs s2 nx hz ok => ?_⟩
  dsimp only [gName]
  have h2 := s2 _ _ h1
  have t2 := s1.trans s2
  have erl : (rs.map V.int).length = rs.length := List.length_map _
  refine ⟨_, rfl, _, _, _, _, rfl, rfl, SqL.of hz, ok.at (k := 0) (by decide), _, _, rfl, rfl, (by (first | decide | (show (0 : Int) < _; first | decide | omega))), ?_⟩
  dsimp only [gName]
  obtain ⟨mn, em, m4⟩ := emn (z := zs.getD 0 0) (show (0 : Int) < 4 by decide)
  rw [em]
  refine ⟨_, rfl, _, _, rfl, .inl (SqL.of h2), _, rfl, _, _, rfl, rfl, ?_⟩
  rw [erl]
  dsimp only [gName]
  refine ⟨_, rfl, _, _, _, _, rfl, rfl, SqL.of hz, ok.at (k := 5) (by decide), _, _, rfl, rfl, (by (first | decide | (show (0 : Int) < _; first | decide | omega))), _, _, rfl, rfl, _, rfl, _, _, _, _, rfl, rfl, SqL.of hz, ok.at (k := 4) (by decide), _, _, rfl, rfl, (by (first | decide | (show (0 : Int) < _; first | decide | omega))), _, _, rfl, rfl, _, rfl, sa, ns, (2 : Nat), rfl, t2.seq hS, _, _, rfl, rfl, ⟨by decide, by decide, by decide⟩, _, _, rfl, rfl, _, _, rfl, rfl, (by (first | decide | (show (0 : Int) < _; first | decide | omega))), _, rfl, _, _, _, _, rfl, rfl, SqL.of hz, ok.at (k := 3) (by decide), _, _, rfl, rfl, (by (first | decide | (show (0 : Int) < _; first | decide | omega))), _, _, rfl, rfl, le4, fun fa hfa => ?_⟩
  dsimp only [gName]
  have Fh : 0 < 1 + zs.getD 4 0 % 60 := by omega
  generalize 1 + zs.getD 5 0 % 200 = fw
  generalize 1 + zs.getD 4 0 % 60 = fh at Fh ⊢
  generalize ns.getD 2 0 % (10 ^ Int.toNat 60 + 1) = ff
  generalize 1 + zs.getD 3 0 % 60 = fmm
  have s3 := same_new hfa (.tup [V.int fw, V.int fh, V.int ff, V.int fmm])
  have h3 : SqT K (upd H2 fa (.tup [V.int fw, V.int fh, V.int ff, V.int fmm])) fa (fm fw fh ff fmm) := SqT.of upd_same
  generalize upd H2 fa (.tup [V.int fw, V.int fh, V.int ff, V.int fmm]) = H3 at s3 h3 ⊢
  have t3 := t2.trans s3
  refine ⟨_, rfl, _, rfl, _, rfl, ⟨_, SqL.of (s3 _ _ h2)⟩, lc_list (K := K) (a := ra) (xs := rs.map V.int) (fun i ys H4 => Same H3 H4 ∧ ∃ (ws : List Addr) (ds : List Wd), ys = ws.map V.ref ∧ ws.length = i ∧ WdsA K H4 ws ds ∧ ∀ d ∈ ds, FewW d) ⟨Same.refl _, [], [], rfl, rfl, WdsA.nil, fun d hd => by cases hd⟩ (fun i ys H4 _ g => SqL.of (g.1 _ _ (s3 _ _ h2))) ?_ ?_ ?_⟩
  · rintro i ys H4 hi ⟨_, ws, ds, rfl, wl, _⟩
    rw [erl] at hi
    rw [List.length_map, wl]
    exact Nat.lt_of_lt_of_le (show i < 1000 by omega) (small (Nat.le_refl _))
  · rintro i y ys H4 hi ⟨s4, ws, ds, rfl, wl, hw, fw_⟩
    have hil : i < rs.length := by rw [← erl]; exact (List.getElem?_eq_some_iff.mp hi).1
    obtain ⟨c, rfl⟩ : ∃ c, y = V.int c := by
      rw [List.getElem?_map] at hi
      obtain ⟨c, _, e⟩ := Option.map_eq_some_iff.mp hi
      exact ⟨c, e.symm⟩
    refine yes_go ?_
    refine ⟨_, rfl, _, rfl, _, _, rfl, .inl (SqL.of (s4 _ _ (s3 _ _ h2))), c, ((rs.map V.int).length : Int), rfl, (by rw [erl]; omega), fun q5 d5 H5 s5 hq5 _ f5 => ?_⟩
    refine ⟨s4.trans s5, ws ++ [q5], ds ++ [d5], refs_snoc _ _, by simp [wl], (hw.same s5).snoc hq5, fun d hd => ?_⟩
    rcases List.mem_append.mp hd with hd | hd
    · exact fw_ d hd
    · rw [List.mem_singleton.mp hd]; exact f5
  rintro ys H4 ⟨s4, ws, ds, rfl, wl, hws, fds⟩ wa hwa
  rw [erl] at wl
  have dl : ds.length = rs.length := by rw [← hws.1, wl]
  have s5 := same_new hwa (.lst (ws.map V.ref))
  have h5 : (upd H4 wa (.lst (ws.map V.ref))) wa = some (.lst (ws.map V.ref)) := upd_same
  generalize upd H4 wa (.lst (ws.map V.ref)) = H5 at s5 h5 ⊢
  refine ⟨le2, fun oq hoq => ?_⟩
  have s6 := same_new hoq (.tup [V.ref fa, V.ref wa])
  have h6 : SqT K (upd H5 oq (.tup [V.ref fa, V.ref wa])) oq [V.ref fa, V.ref wa] := SqT.of upd_same
  generalize upd H5 oq (.tup [V.ref fa, V.ref wa]) = H6 at s6 h6 ⊢
  dsimp only [gName]
  have u6 := s4.trans (s5.trans s6)
  have hbk6 : BkAt K H6 oq fw fh ff fmm ds := ⟨fa, wa, ws, h6, u6.tup h3, s6.seq (SqL.of h5), hws.same (s5.trans s6)⟩
  have hrow6 := (s3.trans u6) _ _ h2
  have hz6 := (s3.trans u6) _ _ hz
  have t6 := t3.trans u6
  refine ⟨_, rfl, _, _, _, _, rfl, rfl, SqL.of hz6, ok.at (k := 1) (by decide), _, rfl, _, _, rfl, .inl (SqL.of hrow6), _, _, rfl, rfl, _, _, rfl, rfl, (by rw [erl]; show (0 : Int) < _; omega), ?_⟩
  rw [erl]
  dsimp only [gName]
  obtain ⟨at', ea, la⟩ := emn (z := zs.getD 1 0) (show (0 : Int) < (rs.length : Int) + 1 by omega)
  rw [ea]
  have atl : at' ≤ ds.length := by omega
  refine ⟨_, rfl, _, rfl, (by omega), (by omega), ?_⟩
  refine lc_range (fun i ys H7 => Same H6 H7 ∧ ∃ (cs : List Addr) (es : List Wd), ys = cs.map V.ref ∧ cs.length = i ∧ WdsA K H7 cs es ∧ ∀ d ∈ es, FewW d) ⟨Same.refl _, [], [], rfl, rfl, WdsA.nil, fun d hd => by cases hd⟩ ?_ ?_ ?_
  · rintro i ys H7 hi ⟨_, cs, es, rfl, wl, _⟩
    rw [List.length_map, wl]
    exact Nat.lt_of_lt_of_le (show i < 1000 by omega) (small (Nat.le_refl _))
  · rintro i ys H7 hi ⟨s7, cs, es, rfl, cl, hw, fw_⟩
    refine yes_go ?_
    refine ⟨_, rfl, sa, ns, (3 : Nat), rfl, (t6.trans s7).seq hS, _, rfl, _, _, rfl, rfl, _, _, rfl, rfl, ⟨by omega, by omega⟩, _, rfl, _, _, rfl, rfl, _, rfl, _, (rs.length : Int) + (mn : Int), rfl, (by omega), fun q5 d5 H8 s8 hq5 _ f5 => ?_⟩
    refine ⟨s7.trans s8, cs ++ [q5], es ++ [d5], refs_snoc _ _, by simp [cl], (hw.same s8).snoc hq5, fun d hd => ?_⟩
    rcases List.mem_append.mp hd with hd | hd
    · exact fw_ d hd
    · rw [List.mem_singleton.mp hd]; exact f5
  rintro ys H7 ⟨s7, cs, es, rfl, cl, hcs, fes⟩ rn0 hrn0
  have e7 : (Int.toNat (mn : Int)) = mn := Int.toNat_natCast _
  have s8 := same_new hrn0 (.lst (cs.map V.ref))
  have h8 : (upd H7 rn0 (.lst (cs.map V.ref))) rn0 = some (.lst (cs.map V.ref)) := upd_same
  have hcs8 := hcs.same s8
  generalize upd H7 rn0 (.lst (cs.map V.ref)) = H8 at s8 h8 hcs8 ⊢
  dsimp only [gName]
  have u8 := s7.trans s8
  refine cut_seq (fun σ' H' => Same H8 H' ∧ ∃ (rn : Addr) (rns : List Addr) (es : List Wd), σ' = [some (.ref sa), some (.ref ra), some (.ref xa), some (.int (mn : Int)), some (.int ((rs.length : Int) + (mn : Int))), some (.ref fa), some (.ref oq), some (.int (at' : Int)), some (.ref rn), none, none, none, none, none] ∧ SqL K H' rn (rns.map V.ref) ∧ WdsA K H' rns es ∧ (∀ d ∈ es, FewW d) ∧ es.length ≤ 3) ?_ (fun key => ?_)
  rotate_left
  · refine ⟨_, rfl, _, _, _, _, rfl, rfl, SqL.of (u8 _ _ hz6), ok.at (k := 2) (by decide), _, _, rfl, rfl, (by (first | decide | (show (0 : Int) < _; first | decide | omega))), rfl, _, rfl, ?_⟩
    refine ite2 (fun _ => ?_) (fun _ => key _ _ ⟨Same.refl _, rn0, cs, es, rfl, SqL.of h8, hcs8, fes, by rw [← hcs.1]; omega⟩)
    refine ⟨_, rfl, _, rfl, (by omega), (by omega), ?_⟩
    refine lc_range (fun i ys H9 => Same H8 H9 ∧ ∃ (gs : List Addr) (es : List Wd), ys = gs.map V.ref ∧ gs.length ≤ i ∧ WdsA K H9 gs es ∧ ∀ d ∈ es, FewW d) ⟨Same.refl _, [], [], rfl, Nat.le_refl _, WdsA.nil, fun d hd => by cases hd⟩ ?_ ?_ ?_
    · rintro i ys H9 hi ⟨_, gs, es, rfl, gl, _⟩
      rw [List.length_map]
      exact Nat.lt_of_lt_of_le (show gs.length < 1000 by omega) (small (Nat.le_refl _))
    · rintro i ys H9 hi ⟨s9, gs, es, rfl, gl, hg, fg⟩
      refine ⟨_, rfl, Nat.zero_le _, fun p1 hp1 => ?_⟩
      have sA := same_new hp1 (.lst [])
      have tA := u8.trans (s9.trans sA)
      refine ⟨ra, p1, rs.map V.int, rfl, rfl, SqL.of (tA _ _ hrow6), SqL.of upd_same, _, rfl, ?_⟩
      generalize upd H9 p1 (.lst []) = HA at sA tA ⊢
      by_cases c0 : rs = []
      · subst c0
        refine iteF ?_
        exact ⟨s9.trans sA, gs, es, rfl, by omega, hg.same sA, fg⟩
      have ne : (!(rs.map V.int).isEmpty) = true := by
        cases rs with
        | nil => exact absurd rfl c0
        | cons a l => rfl
      rw [ne]
      refine iteT ?_
      have rp : 0 < rs.length := List.length_pos_iff.mpr c0
      obtain ⟨j, ej, jl⟩ := emn (z := (at' : Int) + (0 + (i : Int))) (show (0 : Int) < (rs.length : Int) by omega)
      have hjw : j < ws.length := by omega
      have hjd : j < ds.length := by omega
      have ewj : ws[j]? = some ws[j] := List.getElem?_eq_getElem hjw
      have edj : ds[j]? = some ds[j] := List.getElem?_eq_getElem hjd
      refine ⟨_, rfl, _, _, _, _, rfl, rfl, tA.tup h6, rfl, _, rfl, _, rfl, _, _, rfl, rfl, _, rfl, _, _, rfl, .inl (SqL.of (tA _ _ hrow6)), _, _, rfl, rfl, (by rw [erl]; show (0 : Int) < _; omega), _, _, _, _, rfl, rfl, SqL.of (tA _ _ (s6 _ _ h5)), (show atI (ws.map V.ref) (((at' : Int) + (0 + (i : Int))) % ((rs.map V.int).length : Int)) = some (V.ref ws[j]) by rw [erl, ej]; exact atI_nat (by rw [List.getElem?_map, ewj]; rfl)), ?_⟩
      refine ⟨s9.trans sA, gs ++ [ws[j]], es ++ [ds[j]], refs_snoc _ _, by simp; omega, (hg.same sA).snoc ((hws.2 j _ _ ewj edj).same (s5.trans (s6.trans tA))), fun d hd => ?_⟩
      rcases List.mem_append.mp hd with hd | hd
      · exact fg d hd
      · rw [List.mem_singleton.mp hd]; exact fds _ (List.getElem_mem hjd)
    rintro ys H9 ⟨s9, gs, es', rfl, gl, hg, fg⟩ rn hrn
    have sA := same_new hrn (.lst (gs.map V.ref))
    exact key _ _ ⟨s9.trans sA, rn, gs, es', rfl, SqL.of upd_same, hg.same sA, fg, by rw [← hg.1]; omega⟩
  clear hcs hcs8 fes h8 cl es
  rintro σ' H9 ⟨s9, rn, rns, es, rfl, hrn, hrs, fes, e3⟩
  have u9 := u8.trans s9
  refine ⟨_, rfl, _, rfl, _, rfl, oq, rn, at', rns, fw, fh, ff, fmm, ds, es, rfl, hbk6.same u9, hrn, hrs, atl, (by omega), (by omega), (fun d hd => by have := (fds d hd).n; omega), fun nq fa' wq wqs GG HB g1 g2 g3 g4 g5 g6 g7 => ?_⟩
  dsimp only [gName]
  have n9 : H9 wq = none := g1.free g3
  have uB := g1.trans g2
  have O0 : OwnW K HB wq wqs (putIn at' ds es) := ⟨g6, g7.same (er1_sub g2 g3)⟩
  have fp := put_few (a := at') fds fes
  have pl11 : (putIn at' ds es).length ≤ 11 := by rw [put_len atl]; omega
  have vB := u9.trans uB
  refine ⟨_, rfl, _, _, _, _, rfl, rfl, SqL.of (vB _ _ hz6), ok.at (k := 5) (by decide), _, _, rfl, rfl, ⟨by decide, by decide⟩, _, _, rfl, rfl, (by (first | decide | (show (0 : Int) < _; first | decide | omega))), ?_⟩
  dsimp only [gName]
  generalize zs.getD 5 0 / 200 % 12 = way
  refine ⟨_, rfl, _, _, _, _, rfl, rfl, g4, rfl, ?_⟩
  dsimp only [gName]
  clear g6 g7 g2 g3 g1 g5 GG g4
  generalize H9 = H7 at *
  -- way 0
  refine cut_seq (fun σ' H' => Same H7 H' ∧ ∃ (wq : Addr) (wqs : List Addr) (ws : List Wd) (vm vk : Option V), σ' = [some (.ref sa), some (.ref ra), some (.ref xa), some (.int (mn : Int)), some (.int ((rs.length : Int) + (mn : Int))), some (.ref fa), some (.ref oq), some (.int (at' : Int)), some (.ref rn), some (.ref nq), some (.int way), some (.ref wq), vm, vk] ∧ OwnW K H' wq wqs ws ∧ H7 wq = none ∧ (∀ d ∈ ws, FewW d) ∧ ws.length ≤ 11) ?_ (fun key => ?_)
  rotate_left
  · refine ⟨_, rfl, rfl, _, rfl, ?_⟩
    refine andG (fun _ => key _ _ ⟨uB, wq, wqs, _, none, none, rfl, O0, n9, fp, pl11⟩) (fun _ => ?_)
    refine ⟨_, rfl, Nat.zero_le _, fun p1 hp1 => ?_⟩
    have sC := same_new hp1 (.lst [])
    have OC := O0.same sC
    refine ⟨wq, p1, wqs.map V.ref, rfl, rfl, SqL.of OC.1, SqL.of upd_same, _, rfl, ?_⟩
    generalize upd HB p1 (.lst []) = HC at sC OC ⊢
    by_cases c0 : wqs = []
    · rw [c0]
      refine iteF ?_
      exact key _ _ ⟨uB.trans sC, wq, wqs, _, none, none, rfl, OC, n9, fp, pl11⟩
    have ne : (!(wqs.map V.ref).isEmpty) = true := by
      cases wqs with
      | nil => exact absurd rfl c0
      | cons a l => rfl
    rw [ne]
    refine iteT ?_
    have wp : 0 < wqs.length := List.length_pos_iff.mpr c0
    have ewl : (wqs.map V.ref).length = wqs.length := List.length_map _
    have vC := vB.trans sC
    obtain ⟨j, ej, jl⟩ := emn (z := zs.getD 4 0) (show (0 : Int) < (wqs.length : Int) by omega)
    refine ⟨_, rfl, _, _, _, _, rfl, rfl, SqL.of (vC _ _ hz6), ok.at (k := 3) (by decide), _, rfl, _, _, rfl, .inl (SqL.of OC.1), _, ((wqs.map V.ref).length : Int), rfl, (by rw [ewl]; omega), fun q5 d5 HD sD hq5 hq6 f5 => ?_⟩
    have OD := OC.same sD
    refine ⟨_, rfl, _, rfl, _, _, _, _, rfl, rfl, SqL.of ((vC.trans sD) _ _ hz6), ok.at (k := 4) (by decide), _, rfl, _, _, rfl, .inl (SqL.of OD.1), _, _, rfl, rfl, (by rw [ewl]; show (0 : Int) < _; omega), wq, wqs.map V.ref, _, j, rfl, rfl, OD.1, (by
      rw [ewl, ej]
      unfold ixN
      rw [if_pos (by omega), if_pos jl]
      rfl), ?_⟩
    rw [← List.map_set]
    refine key _ _ ⟨(uB.trans (sC.trans sD)).put n9, wq, wqs.set j q5, (putIn at' ds es).set j d5, none, none, rfl, OwnW.put (OD.2.set' (hq6 wq _ OC.1)), n9, fun d hd => ?_, by rw [List.length_set]; exact pl11⟩
    rcases List.mem_or_eq_of_mem_set hd with h | h
    · exact fp d h
    · rw [h]; exact f5
  clear O0 fp pl11 n9 uB vB wq wqs HB
  rintro σ' HB ⟨uB, wq, wqs, ws1, vm, vk, rfl, O0, n9, fp, pl11⟩
  have vB := u9.trans uB
  have ewl : (wqs.map V.ref).length = wqs.length := List.length_map _
  -- way 1
  refine cut_seq (fun σ' H' => Same H7 H' ∧ ∃ (wq : Addr) (wqs : List Addr) (ws : List Wd) (vm vk : Option V), σ' = [some (.ref sa), some (.ref ra), some (.ref xa), some (.int (mn : Int)), some (.int ((rs.length : Int) + (mn : Int))), some (.ref fa), some (.ref oq), some (.int (at' : Int)), some (.ref rn), some (.ref nq), some (.int way), some (.ref wq), vm, vk] ∧ OwnW K H' wq wqs ws ∧ H7 wq = none ∧ (∀ d ∈ ws, FewW d) ∧ ws.length ≤ 11) ?_ (fun key => ?_)
  rotate_left
  · refine ⟨_, rfl, rfl, _, rfl, ?_⟩
    refine andG (fun _ => key _ _ ⟨uB, wq, wqs, _, _, _, rfl, O0, n9, fp, pl11⟩) (fun _ => ?_)
    refine ⟨_, rfl, _, _, rfl, .inl (SqL.of O0.1), _, _, rfl, rfl, _, rfl, ?_⟩
    rw [ewl]
    refine ite2 (fun c => ?_) (fun _ => key _ _ ⟨uB, wq, wqs, _, _, _, rfl, O0, n9, fp, pl11⟩)
    have c1 : (1 : Int) < (wqs.length : Int) := of_decide_eq_true c
    obtain ⟨j, ej, jl⟩ := emn (z := zs.getD 4 0) (show (0 : Int) < (wqs.length : Int) by omega)
    have hjw : j < wqs.length := by omega
    have ix := ixN_seq (n := (wqs.map V.ref).length) (i := zs.getD 4 0 % ((wqs.map V.ref).length : Int)) (j := j) (by
      rw [ewl, ej]
      unfold ixN
      rw [if_pos (by omega), if_pos jl]
      rfl)
    have lw := O0.2.1
    refine ⟨_, rfl, .inl ⟨rfl, _, SqL.of O0.1⟩, _, rfl, _, _, _, _, rfl, rfl, SqL.of (vB _ _ hz6), ok.at (k := 4) (by decide), _, rfl, _, _, rfl, .inl (SqL.of O0.1), _, _, rfl, rfl, (by rw [ewl]; show (0 : Int) < _; omega), wq, wqs.map V.ref, _, j, V.ref wqs[j], rfl, rfl, O0.1, (by rw [ewl, ej]; omega), (by rw [ewl, ej]; omega), ix.1, (by rw [List.getElem?_map, List.getElem?_eq_getElem hjw]; rfl), ?_⟩
    rw [map_erase]
    have OC : OwnW K (upd HB wq (.lst ((wqs.eraseIdx j).map V.ref))) wq (wqs.eraseIdx j) (ws1.eraseIdx j) := OwnW.put (O0.2.erase' j)
    have uC : Same H7 (upd HB wq (.lst ((wqs.eraseIdx j).map V.ref))) := uB.put n9
    generalize upd HB wq (.lst ((wqs.eraseIdx j).map V.ref)) = HC at OC uC ⊢
    have hl : (wqs.eraseIdx j).length = wqs.length - 1 := by rw [List.length_eraseIdx, if_pos hjw]
    have fq : ∀ d ∈ ws1.eraseIdx j, FewW d := fun d hd => fp d (List.mem_of_mem_eraseIdx hd)
    have l2 := OC.2.1
    generalize wqs.eraseIdx j = vqs at *
    generalize ws1.eraseIdx j = vs1 at *
    refine ⟨_, rfl, _, rfl, ⟨_, SqL.of OC.1⟩, lc_list (K := K) (a := wq) (xs := vqs.map V.ref) (fun i ys HD => Same HC HD ∧ ∃ (gs : List Addr) (es : List Wd), ys = gs.map V.ref ∧ gs.length = i ∧ WdsA K HD gs es ∧ ∀ d ∈ es, FewW d) ⟨Same.refl _, [], [], rfl, rfl, WdsA.nil, fun d hd => by cases hd⟩ (fun i ys HD _ g => SqL.of (g.1 _ _ OC.1)) ?_ ?_ ?_⟩
    · rintro i ys HD hi ⟨_, gs, es, rfl, gl, _⟩
      rw [List.length_map] at hi ⊢
      exact Nat.lt_of_lt_of_le (show gs.length < 1000 by omega) (small (Nat.le_refl _))
    · rintro i y ys HD hi ⟨sD, gs, es, rfl, gl, hg, fg⟩
      obtain ⟨b, d, rfl, eb, ed⟩ := wd_at OC.all.1 hi
      refine yes_go ?_
      refine ⟨_, rfl, _, rfl, _, _, rfl, .inl (SqL.of (sD _ _ OC.1)), b, d, ((vqs.map V.ref).length : Int), rfl, (OC.all.2 i b d eb ed).same sD, fq d (List.mem_of_getElem? ed), (by rw [List.length_map]; have := (List.getElem?_eq_some_iff.mp eb).1; omega), fun q5 d5 HE sE hq5 f5 => ?_⟩
      refine ⟨sD.trans sE, gs ++ [q5], es ++ [d5], refs_snoc _ _, by simp [gl], (hg.same sE).snoc hq5, fun d hd => ?_⟩
      rcases List.mem_append.mp hd with hd | hd
      · exact fg d hd
      · rw [List.mem_singleton.mp hd]; exact f5
    rintro ys HD ⟨sD, gs, es', rfl, gl, hg, fg⟩ p hp
    rw [List.length_map] at gl
    exact key _ _ ⟨(uC.trans sD).trans (same_new hp _), p, gs, es', _, _, rfl, OwnW.new hp hg, (uC.trans sD).free hp, fg, by rw [← hg.1]; omega⟩
  clear O0 fp pl11 n9 uB vB ewl wq wqs HB ws1 vm vk
  rintro σ' HB ⟨uB, wq, wqs, ws1, vm, vk, rfl, O0, n9, fp, pl11⟩
  have vB := u9.trans uB
  -- way 2
  refine cut_seq (fun σ' H' => Same H7 H' ∧ ∃ (wq : Addr) (wqs : List Addr) (ws : List Wd) (vm vk : Option V), σ' = [some (.ref sa), some (.ref ra), some (.ref xa), some (.int (mn : Int)), some (.int ((rs.length : Int) + (mn : Int))), some (.ref fa), some (.ref oq), some (.int (at' : Int)), some (.ref rn), some (.ref nq), some (.int way), some (.ref wq), vm, vk] ∧ OwnW K H' wq wqs ws ∧ H7 wq = none ∧ (∀ d ∈ ws, FewW d) ∧ ws.length ≤ 33) ?_ (fun key => ?_)
  rotate_left
  · refine ⟨_, rfl, rfl, _, rfl, ?_⟩
    refine ite2 (fun _ => ?_) (fun _ => key _ _ ⟨uB, wq, wqs, _, _, _, rfl, O0, n9, fp, by omega⟩)
    have A0 := O0.all
    have lw := A0.1
    refine ⟨_, rfl, _, rfl, _, rfl, _, _, rfl, SqL.of O0.1, fun p1 hp1 => ?_⟩
    rw [cutV_map, cut_to]
    have sC := same_new hp1 (.lst ((wqs.take at').map V.ref))
    have hC : (upd HB p1 (.lst ((wqs.take at').map V.ref))) p1 = some (.lst ((wqs.take at').map V.ref)) := upd_same
    generalize upd HB p1 (.lst ((wqs.take at').map V.ref)) = HC at sC hC ⊢
    refine ⟨_, rfl, _, rfl, _, rfl, _, rfl, _, rfl, _, _, rfl, rfl, _, rfl, _, _, rfl, SqL.of (sC _ _ O0.1), fun p2 hp2 => ?_⟩
    rw [cutV_map, show (at' : Int) + (mn : Int) = ((at' + mn : Nat) : Int) by omega, cut_nat, show at' + mn - at' = mn by omega]
    have sD := same_new hp2 (.lst (((wqs.drop at').take mn).map V.ref))
    have hD : (upd HC p2 (.lst (((wqs.drop at').take mn).map V.ref))) p2 = some (.lst (((wqs.drop at').take mn).map V.ref)) := upd_same
    generalize upd HC p2 (.lst (((wqs.drop at').take mn).map V.ref)) = HD at sD hD ⊢
    have AD := A0.same (sC.trans sD)
    have M0 := (AD.drop at').take mn
    have fM : ∀ d ∈ (ws1.drop at').take mn, FewW d := fun d hd => fp d (List.mem_of_mem_drop (List.mem_of_mem_take hd))
    have ml : ((wqs.drop at').take mn).length ≤ wqs.length := by rw [List.length_take, List.length_drop]; omega
    generalize (wqs.drop at').take mn = mqs at *
    generalize (ws1.drop at').take mn = ms at *
    refine ⟨p2, rfl, ⟨_, SqL.of hD⟩, lc_list (K := K) (a := p2) (xs := mqs.map V.ref) (fun i ys HE => Same HD HE ∧ ∃ (gs : List Addr) (es : List Wd), ys = gs.map V.ref ∧ gs.length = i ∧ WdsA K HE gs es ∧ ∀ d ∈ es, FewW d) ⟨Same.refl _, [], [], rfl, rfl, WdsA.nil, fun d hd => by cases hd⟩ (fun i ys HE _ g => SqL.of (g.1 _ _ hD)) ?_ ?_ ?_⟩
    · rintro i ys HE hi ⟨_, gs, es, rfl, gl, _⟩
      rw [List.length_map] at hi ⊢
      exact Nat.lt_of_lt_of_le (show gs.length < 1000 by omega) (small (Nat.le_refl _))
    · rintro i y ys HE hi ⟨sE, gs, es, rfl, gl, hg, fg⟩
      obtain ⟨b, d, rfl, eb, ed⟩ := wd_at M0.1 hi
      obtain ⟨sy, fo, bs, k1, k2, k3, k4⟩ := (M0.2 i b d eb ed).same sE
      have fd := fM d (List.mem_of_getElem? ed)
      refine yes_go ?_
      refine ⟨_, rfl, _, _, _, _, rfl, rfl, k1, rfl, _, rfl, _, _, _, _, rfl, rfl, k1, rfl, _, rfl, _, _, _, _, rfl, rfl, k1, rfl, le4, fun p3 hp3 => ?_⟩
      have sF := same_new hp3 (.tup [V.int d.lead, V.bl false, V.ref sy, V.ref fo])
      refine ⟨sE.trans sF, gs ++ [p3], es ++ [⟨d.lead, false, d.say, d.foot⟩], refs_snoc _ _, by simp [gl], (hg.same sF).snoc ⟨sy, fo, bs, SqT.of upd_same, sF.tup k2, sF.seq k3, k4.same sF⟩, fun d hd => ?_⟩
      rcases List.mem_append.mp hd with hd | hd
      · exact fg d hd
      · rw [List.mem_singleton.mp hd]; exact ⟨fd.n, fd.f⟩
    rintro ys HE ⟨sE, gs, es', rfl, gl, hg, fg⟩ p3 hp3
    rw [List.length_map] at gl
    have sF := same_new hp3 (.lst (gs.map V.ref))
    have hF : (upd HE p3 (.lst (gs.map V.ref))) p3 = some (.lst (gs.map V.ref)) := upd_same
    have hgF := hg.same sF
    generalize upd HE p3 (.lst (gs.map V.ref)) = HF at sF hF hgF ⊢
    have tF := sD.trans (sE.trans sF)
    have l1 : (wqs.take at').length ≤ wqs.length := by rw [List.length_take]; omega
    refine ⟨_, _, _, _, rfl, rfl, SqL.of (tF _ _ hC), SqL.of hF, small (by rw [List.length_map, List.length_map]; omega), fun p4 hp4 => ?_⟩
    rw [← List.map_append]
    have sG := same_new hp4 (.lst ((wqs.take at' ++ gs).map V.ref))
    have hG : (upd HF p4 (.lst ((wqs.take at' ++ gs).map V.ref))) p4 = some (.lst ((wqs.take at' ++ gs).map V.ref)) := upd_same
    generalize upd HF p4 (.lst ((wqs.take at' ++ gs).map V.ref)) = HG at sG hG ⊢
    have tG := sC.trans (tF.trans sG)
    refine ⟨_, rfl, _, rfl, _, rfl, _, _, rfl, rfl, _, rfl, _, _, rfl, SqL.of (tG _ _ O0.1), fun p5 hp5 => ?_⟩
    rw [cutV_map, show (at' : Int) + (mn : Int) = ((at' + mn : Nat) : Int) by omega, cut_fr]
    have sI := same_new hp5 (.lst ((wqs.drop (at' + mn)).map V.ref))
    have hI : (upd HG p5 (.lst ((wqs.drop (at' + mn)).map V.ref))) p5 = some (.lst ((wqs.drop (at' + mn)).map V.ref)) := upd_same
    generalize upd HG p5 (.lst ((wqs.drop (at' + mn)).map V.ref)) = HI at sI hI ⊢
    have l3 : (wqs.drop (at' + mn)).length ≤ wqs.length := by rw [List.length_drop]; omega
    refine ⟨_, _, _, _, rfl, rfl, SqL.of (sI _ _ hG), SqL.of hI, small (by rw [List.length_map, List.length_map, List.length_append]; omega), fun p6 hp6 => ?_⟩
    rw [← List.map_append]
    have tI := tG.trans sI
    have AI := A0.same tI
    have W6 : WdsA K HI (wqs.take at' ++ gs ++ wqs.drop (at' + mn)) (ws1.take at' ++ es' ++ ws1.drop (at' + mn)) := ((AI.take at').app (hgF.same (sG.trans sI))).app (AI.drop (at' + mn))
    refine key _ _ ⟨(uB.trans tI).trans (same_new hp6 _), p6, _, _, _, _, rfl, OwnW.new hp6 W6, (uB.trans tI).free hp6, fun d hd => ?_, ?_⟩
    · rcases List.mem_append.mp hd with hd | hd
      · rcases List.mem_append.mp hd with hd | hd
        · exact fp d (List.mem_of_mem_take hd)
        · exact fg d hd
      · exact fp d (List.mem_of_mem_drop hd)
    · rw [← W6.1, List.length_append, List.length_append]
      omega
  clear O0 fp pl11 n9 uB vB wq wqs HB ws1 vm vk
  rintro σ' HB ⟨uB, wq, wqs, ws1, vm, vk, rfl, O0, n9, fp, pl11⟩
  have vB := u9.trans uB
  -- way 3
  refine cut_seq (fun σ' H' => Same H7 H' ∧ ∃ (wq : Addr) (wqs : List Addr) (ws : List Wd) (vm vk : Option V), σ' = [some (.ref sa), some (.ref ra), some (.ref xa), some (.int (mn : Int)), some (.int ((rs.length : Int) + (mn : Int))), some (.ref fa), some (.ref oq), some (.int (at' : Int)), some (.ref rn), some (.ref nq), some (.int way), some (.ref wq), vm, vk] ∧ OwnW K H' wq wqs ws ∧ H7 wq = none ∧ (∀ d ∈ ws, FewW d) ∧ ws.length ≤ 60) ?_ (fun key => ?_)
  rotate_left
  · refine ⟨_, rfl, rfl, _, rfl, ?_⟩
    refine ite2 (fun _ => ?_) (fun _ => key _ _ ⟨uB, wq, wqs, _, _, _, rfl, O0, n9, fp, by omega⟩)
    have A0 := O0.all
    have lw := A0.1
    have wB := s5.trans (s6.trans vB)
    have h5B : SqL K HB wa (ws.map V.ref) := SqL.of ((s6.trans vB) _ _ h5)
    have D0 := hws.same wB
    refine ⟨_, rfl, _, _, _, _, rfl, rfl, vB.tup h6, rfl, _, rfl, _, rfl, _, _, rfl, h5B, fun p1 hp1 => ?_⟩
    rw [cutV_map, cut_to]
    have sC := same_new hp1 (.lst ((ws.take at').map V.ref))
    have hC : (upd HB p1 (.lst ((ws.take at').map V.ref))) p1 = some (.lst ((ws.take at').map V.ref)) := upd_same
    generalize upd HB p1 (.lst ((ws.take at').map V.ref)) = HC at sC hC ⊢
    refine ⟨_, rfl, _, rfl, _, rfl, _, rfl, _, rfl, _, _, rfl, .inl (sC.seq (uB.seq hrn)), _, _, rfl, rfl, _, rfl, _, _, rfl, SqL.of (sC _ _ O0.1), fun p2 hp2 => ?_⟩
    have rnl : (rns.map V.ref).length = rns.length := List.length_map _
    rw [rnl, cutV_map, show (at' : Int) + (rns.length : Int) = ((at' + rns.length : Nat) : Int) by omega, cut_nat, show at' + rns.length - at' = rns.length by omega]
    have sD := same_new hp2 (.lst (((wqs.drop at').take rns.length).map V.ref))
    have hD : (upd HC p2 (.lst (((wqs.drop at').take rns.length).map V.ref))) p2 = some (.lst (((wqs.drop at').take rns.length).map V.ref)) := upd_same
    generalize upd HC p2 (.lst (((wqs.drop at').take rns.length).map V.ref)) = HD at sD hD ⊢
    have l1 : (ws.take at').length ≤ ws.length := by rw [List.length_take]; omega
    have l2 : ((wqs.drop at').take rns.length).length ≤ wqs.length := by rw [List.length_take, List.length_drop]; omega
    refine ⟨_, _, _, _, rfl, rfl, SqL.of (sD _ _ hC), SqL.of hD, small (by rw [List.length_map, List.length_map]; omega), fun p3 hp3 => ?_⟩
    rw [← List.map_append]
    have sE := same_new hp3 (.lst ((ws.take at' ++ (wqs.drop at').take rns.length).map V.ref))
    have hE : (upd HD p3 (.lst ((ws.take at' ++ (wqs.drop at').take rns.length).map V.ref))) p3 = some (.lst ((ws.take at' ++ (wqs.drop at').take rns.length).map V.ref)) := upd_same
    generalize upd HD p3 (.lst ((ws.take at' ++ (wqs.drop at').take rns.length).map V.ref)) = HE at sE hE ⊢
    have tE := sC.trans (sD.trans sE)
    refine ⟨_, rfl, _, _, _, _, rfl, rfl, (vB.trans tE).tup h6, rfl, _, rfl, _, rfl, _, _, rfl, tE.seq h5B, fun p4 hp4 => ?_⟩
    rw [cutV_map, cut_fr]
    have sF := same_new hp4 (.lst ((ws.drop at').map V.ref))
    have hF : (upd HE p4 (.lst ((ws.drop at').map V.ref))) p4 = some (.lst ((ws.drop at').map V.ref)) := upd_same
    generalize upd HE p4 (.lst ((ws.drop at').map V.ref)) = HF at sF hF ⊢
    have l3 : (ws.drop at').length ≤ ws.length := by rw [List.length_drop]; omega
    refine ⟨_, _, _, _, rfl, rfl, SqL.of (sF _ _ hE), SqL.of hF, small (by rw [List.length_map, List.length_map, List.length_append]; omega), fun mx hmx => ?_⟩
    rw [← List.map_append]
    have tF := tE.trans sF
    have M0 : WdsA K HF (ws.take at' ++ (wqs.drop at').take rns.length ++ ws.drop at') (ds.take at' ++ (ws1.drop at').take rns.length ++ ds.drop at') := (((D0.same tF).take at').app (((A0.same tF).drop at').take rns.length)).app ((D0.same tF).drop at')
    have fM : ∀ d ∈ ds.take at' ++ (ws1.drop at').take rns.length ++ ds.drop at', FewW d := fun d hd => by
      rcases List.mem_append.mp hd with hd | hd
      · rcases List.mem_append.mp hd with hd | hd
        · exact fds d (List.mem_of_mem_take hd)
        · exact fp d (List.mem_of_mem_drop (List.mem_of_mem_take hd))
      · exact fds d (List.mem_of_mem_drop hd)
    have ml : (ws.take at' ++ (wqs.drop at').take rns.length ++ ws.drop at').length ≤ 60 := by rw [List.length_append, List.length_append]; omega
    generalize ws.take at' ++ (wqs.drop at').take rns.length ++ ws.drop at' = mqs at *
    generalize ds.take at' ++ (ws1.drop at').take rns.length ++ ds.drop at' = ms at *
    have sG := same_new hmx (.lst (mqs.map V.ref))
    have hG : (upd HF mx (.lst (mqs.map V.ref))) mx = some (.lst (mqs.map V.ref)) := upd_same
    have MG := M0.same sG
    generalize upd HF mx (.lst (mqs.map V.ref)) = HG at sG hG MG ⊢
    dsimp only [gName]
    have uG := uB.trans (tF.trans sG)
    refine ⟨_, rfl, _, rfl, ⟨_, SqL.of hG⟩, lc_list (K := K) (a := mx) (xs := mqs.map V.ref) (fun i ys HI => Same HG HI ∧ ∃ (gs : List Addr) (es : List Wd), ys = gs.map V.ref ∧ gs.length = i ∧ WdsA K HI gs es ∧ ∀ d ∈ es, FewW d) ⟨Same.refl _, [], [], rfl, rfl, WdsA.nil, fun d hd => by cases hd⟩ (fun i ys HI _ g => SqL.of (g.1 _ _ hG)) ?_ ?_ ?_⟩
    · rintro i ys HI hi ⟨_, gs, es, rfl, gl, _⟩
      rw [List.length_map] at hi ⊢
      exact Nat.lt_of_lt_of_le (show gs.length < 1000 by omega) (small (Nat.le_refl _))
    · rintro i y ys HI hi ⟨sI, gs, es, rfl, gl, hg, fg⟩
      obtain ⟨b, d, rfl, eb, ed⟩ := wd_at MG.1 hi
      refine yes_go ?_
      refine ⟨_, rfl, _, rfl, _, _, rfl, .inl (SqL.of (sI _ _ hG)), b, d, ((mqs.map V.ref).length : Int), rfl, (MG.2 i b d eb ed).same sI, fM d (List.mem_of_getElem? ed), (by rw [List.length_map]; have := (List.getElem?_eq_some_iff.mp eb).1; omega), fun q5 d5 HJ sJ hq5 f5 => ?_⟩
      refine ⟨sI.trans sJ, gs ++ [q5], es ++ [d5], refs_snoc _ _, by simp [gl], (hg.same sJ).snoc hq5, fun d hd => ?_⟩
      rcases List.mem_append.mp hd with hd | hd
      · exact fg d hd
      · rw [List.mem_singleton.mp hd]; exact f5
    rintro ys HI ⟨sI, gs, es', rfl, gl, hg, fg⟩ p hp
    rw [List.length_map] at gl
    exact key _ _ ⟨(uG.trans sI).trans (same_new hp _), p, gs, es', _, _, rfl, OwnW.new hp hg, (uG.trans sI).free hp, fg, by rw [← hg.1]; omega⟩
  clear O0 fp pl11 n9 uB vB wq wqs HB ws1 vm vk
  rintro σ' HB ⟨uB, wq, wqs, ws1, vm, vk, rfl, O0, n9, fp, pl11⟩
  have vB := u9.trans uB
  -- way 4
  refine cut_seq (fun σ' H' => Same HB H' ∧ ∃ (fb : Addr) (G : Frm) (vk : Option V), σ' = [some (.ref sa), some (.ref ra), some (.ref xa), some (.int (mn : Int)), some (.int ((rs.length : Int) + (mn : Int))), some (.ref fb), some (.ref oq), some (.int (at' : Int)), some (.ref rn), some (.ref nq), some (.int way), some (.ref wq), vm, vk] ∧ SqT K H' fb (fm G.w G.h G.f G.m)) ?_ (fun key => ?_)
  rotate_left
  · have h3B : SqT K HB fa (fm fw fh ff fmm) := (u6.trans vB).tup h3
    refine ⟨_, rfl, rfl, _, rfl, ?_⟩
    refine ite2 (fun _ => ?_) (fun _ => key _ _ ⟨Same.refl _, fa, ⟨fw, fh, ff, fmm⟩, _, rfl, h3B⟩)
    refine ⟨_, rfl, _, _, _, _, rfl, rfl, SqL.of (vB _ _ hz6), ok.at (k := 4) (by decide), _, _, rfl, rfl, (by (first | decide | (show (0 : Int) < _; first | decide | omega))), ?_⟩
    dsimp only [gName]
    obtain ⟨k, ek, kl⟩ := emn (z := zs.getD 4 0) (show (0 : Int) < 4 by decide)
    rw [ek]
    have k4 : k = 0 ∨ k = 1 ∨ k = 2 ∨ k = 3 := by omega
    refine ⟨_, rfl, _, rfl, _, rfl, _, _, rfl, h3B, (sl_hi kl), fun p1 hp1 => ?_⟩
    have sC := same_new hp1 (.tup (cutV (fm fw fh ff fmm) none (some (k : Int))))
    have hC : SqT K (upd HB p1 (.tup (cutV (fm fw fh ff fmm) none (some (k : Int))))) p1 (cutV (fm fw fh ff fmm) none (some (k : Int))) := SqT.of upd_same
    generalize upd HB p1 (.tup (cutV (fm fw fh ff fmm) none (some (k : Int)))) = HC at sC hC ⊢
    obtain ⟨fk, efk⟩ : ∃ fk : Int, atI (fm fw fh ff fmm) (k : Int) = some (V.int fk) := by
      rcases k4 with rfl | rfl | rfl | rfl
      · exact ⟨fw, rfl⟩
      · exact ⟨fh, rfl⟩
      · exact ⟨ff, rfl⟩
      · exact ⟨fmm, rfl⟩
    refine ⟨_, rfl, _, rfl, _, _, _, _, rfl, rfl, sC.tup h3B, efk, _, _, rfl, rfl, ⟨by decide, by decide, by decide⟩, by decide, fun p2 hp2 => ?_⟩
    have sD := same_new hp2 (.lst [V.int 200, V.int 60, V.int (10 ^ Int.toNat 60), V.int 60])
    have hD : SqL K (upd HC p2 (.lst [V.int 200, V.int 60, V.int (10 ^ Int.toNat 60), V.int 60])) p2 [V.int 200, V.int 60, V.int (10 ^ Int.toNat 60), V.int 60] := SqL.of upd_same
    obtain ⟨mk, emk, hmk⟩ := at4i (a := 200) (b := 60) (c := 10 ^ Int.toNat 60) (d := 60) (k := (k : Int)) (by omega) kl
    have mp : 0 < mk := by
      rcases hmk with rfl | rfl | rfl | rfl
      · decide
      · decide
      · exact Int.pow_pos (by decide)
      · decide
    refine ⟨_, rfl, _, _, _, _, rfl, rfl, hD, emk, _, _, rfl, rfl, mp, _, _, rfl, rfl, le1, fun p3 hp3 => ?_⟩
    have sE := same_new hp3 (.tup [V.int (fk % mk + 1)])
    have hE : SqT K (upd (upd HC p2 (.lst [V.int 200, V.int 60, V.int (10 ^ Int.toNat 60), V.int 60])) p3 (.tup [V.int (fk % mk + 1)])) p3 [V.int (fk % mk + 1)] := SqT.of upd_same
    refine ⟨_, _, _, _, rfl, rfl, (sD.trans sE).tup hC, hE, small (by have := cutV_length (fm fw fh ff fmm) none (some (k : Int)); have e4 : (fm fw fh ff fmm).length = 4 := rfl; rw [List.length_singleton]; omega), fun p4 HF sF hF => ?_⟩
    have tF := sC.trans (sD.trans (sE.trans sF))
    refine ⟨_, rfl, _, rfl, _, _, rfl, rfl, _, rfl, _, _, rfl, tF.tup h3B, (sl_lo), fun p5 hp5 => ?_⟩
    have sG := same_new hp5 (.tup (cutV (fm fw fh ff fmm) (some ((k : Int) + 1)) none))
    have hG : SqT K (upd HF p5 (.tup (cutV (fm fw fh ff fmm) (some ((k : Int) + 1)) none))) p5 (cutV (fm fw fh ff fmm) (some ((k : Int) + 1)) none) := SqT.of upd_same
    refine ⟨_, _, _, _, rfl, rfl, sG.tup hF, hG, small (by have := cutV_length (fm fw fh ff fmm) none (some (k : Int)); have := cutV_length (fm fw fh ff fmm) (some ((k : Int) + 1)) none; have e4 : (fm fw fh ff fmm).length = 4 := rfl; rw [List.length_append, List.length_singleton]; omega), fun p6 HI sI hI => ?_⟩
    refine key _ _ ⟨tF.trans (sG.trans sI), p6, ?_⟩
    rcases k4 with rfl | rfl | rfl | rfl
    · exact ⟨⟨fk % mk + 1, fh, ff, fmm⟩, _, rfl, hI⟩
    · exact ⟨⟨fw, fk % mk + 1, ff, fmm⟩, _, rfl, hI⟩
    · exact ⟨⟨fw, fh, fk % mk + 1, fmm⟩, _, rfl, hI⟩
    · exact ⟨⟨fw, fh, ff, fk % mk + 1⟩, _, rfl, hI⟩
  rintro σ' HC ⟨sC, fb, G, vk', rfl, hfb⟩
  refine ⟨_, rfl, _, rfl, _, rfl, le2, fun p4 hp4 => ?_⟩
  have sD := same_new hp4 (.tup [V.ref fb, V.ref wq])
  have hD : SqT K (upd HC p4 (.tup [V.ref fb, V.ref wq])) p4 [V.ref fb, V.ref wq] := SqT.of upd_same
  generalize upd HC p4 (.tup [V.ref fb, V.ref wq]) = HD at sD hD ⊢
  refine ⟨le2, fun p5 hp5 => ?_⟩
  have sE := same_new hp5 (.tup [V.ref oq, V.ref p4])
  have tE := sC.trans (sD.trans sE)
  exact q p5 oq p4 ⟨fw, fh, ff, fmm⟩ G ds ws1 _ (t6.trans (vB.trans tE)) (SqT.of upd_same) (hbk6.same (vB.trans tE)) ⟨fb, wq, wqs, sE.tup hD, (sD.trans sE).tup hfb, tE.seq (SqL.of O0.1), O0.all.same tE⟩ Fh (by omega) pl11 fds fp
def sp_l_whole : Sp := fun vs H Q _ => ∃ i : Int, vs = [.int i] ∧ Q (.bl true) H
theorem sc_l_whole : FnScope ["found"] ["found"] (defScope s_l_whole) := ⟨rfl, rfl, rfl, by decide +kernel, rfl, by decide +kernel, by decide +kernel⟩
theorem ok_l_whole (T : Txt P w K mg a) : FnOk P w K mg base CX0 1 a.f_l_whole a.fd_l_whole ["found"] sp_l_whole := by
  have z_bool := T.z_bool
  have z_int := T.z_int
  have z_isinstance := T.z_isinstance
  refine T.d_l_whole.fn.ok sc_l_whole (fun vs H Q E h => ?_) (fun cdv A outer s H vs Q E hr h => ?_)
  · obtain ⟨i, rfl, _⟩ := h
    rfl
  obtain ⟨i, rfl, q⟩ := h
  have hu := Nat.lt_of_succ_lt (hu_of hr)
  refine ⟨_, (pss_one (ps_ret (pe_and (pe_callB call_isi rfl z_isinstance PyProof.Rows.boot_isinstance (pa_cons (pv 0) (pa_cons (pe_bltn (v := .ty "int") rfl z_int PyProof.Rows.boot_int rfl) pa_nil))) (pe_one (pe_not (pe_callB call_isi rfl z_isinstance PyProof.Rows.boot_isinstance (pa_cons (pv 0) (pa_cons (pe_bltn (v := .ty "bool") rfl z_bool PyProof.Rows.boot_bool rfl) pa_nil)))))))), ?_⟩
  refine ⟨_, rfl, _, "int", true, rfl, (by (first | decide | (show (0 : Int) < _; first | decide | omega))), rfl, _, rfl, ?_⟩
  refine iteT ?_
  exact ⟨_, rfl, _, "bool", false, rfl, (by (first | decide | (show (0 : Int) < _; first | decide | omega))), rfl, _, rfl, q⟩
def sp_l_place (K : PySem.W.Frag) : Sp := fun vs H Q _ => ∃ (a : Addr) (x : Int × Int), vs = [.ref a] ∧ SqT K H a (pl x) ∧ ∀ H', Same H H' → Q (.bl true) H'
theorem sc_l_place : FnScope ["found"] ["found"] (defScope s_l_place) := ⟨rfl, rfl, rfl, by decide +kernel, rfl, by decide +kernel, by decide +kernel⟩
theorem ok_l_place (T : Txt P w K mg a) : FnOk P w K mg base CX0 2 a.f_l_place a.fd_l_place ["found"] (sp_l_place K) := by
  have g_l_whole := ok_l_whole (P := P) (w := w) (base := base) T
  have d_l_whole := T.d_l_whole
  have z_isinstance := T.z_isinstance
  have z_len := T.z_len
  have z_tuple := T.z_tuple
  refine T.d_l_place.fn.ok sc_l_place (fun vs H Q E h => ?_) (fun cdv A outer s H vs Q E hr h => ?_)
  · obtain ⟨a, x, rfl, _⟩ := h
    rfl
  obtain ⟨a, x, rfl, hx, q⟩ := h
  have hu := Nat.lt_of_succ_lt (hu_of hr)
  refine ⟨_, (pss_one (ps_ret (pe_and (pe_callB call_isi rfl z_isinstance PyProof.Rows.boot_isinstance (pa_cons (pv 0) (pa_cons (pe_bltn (v := .ty "tuple") rfl z_tuple PyProof.Rows.boot_tuple rfl) pa_nil))) (pe_and (pe_cmpR op_eq (pe_callB call_len_seq rfl z_len PySem.boot_len (pa_cons (pv 0) pa_nil)) pe_int (nomark _)) (pe_and (pe_callD d_l_whole g_l_whole (hr.mono (by decide)) rfl (pa_cons (pe_ix ix_tup (pv 0) pe_int (fun _ _ => rfl)) pa_nil)) (pe_one (pe_callD d_l_whole g_l_whole (hr.mono (by decide)) rfl (pa_cons (pe_ix ix_tup (pv 0) pe_int (fun _ _ => rfl)) pa_nil)))))))), ?_⟩
  refine ⟨_, rfl, _, "tuple", true, rfl, (by decide), .inr ⟨⟨_, hx⟩, rfl⟩, _, rfl, ?_⟩
  refine iteT ?_
  refine ⟨_, rfl, _, _, rfl, .inr hx, rfl, _, rfl, ?_⟩
  refine iteT ?_
  refine ⟨_, rfl, _, _, _, _, rfl, rfl, hx, rfl, _, rfl, _, rfl, ?_⟩
  refine iteT ?_
  exact ⟨_, rfl, _, _, _, _, rfl, rfl, hx, rfl, _, rfl, q _ (Same.refl _)⟩
def sp_shifted : Sp := fun vs H Q _ => ∃ (k t r : Nat), vs = [.int (k : Int), .int (t : Int), .int (r : Int)] ∧ Q (.int ((gI t r k : Nat) : Int)) H
theorem sc_shifted : FnScope ["k", "at", "many"] ["k", "at", "many"] (defScope s_shifted) := ⟨rfl, rfl, rfl, by decide +kernel, rfl, by decide +kernel, by decide +kernel⟩
theorem ok_shifted (T : Txt P w K mg a) : FnOk P w K mg base CX0 1 a.f_shifted a.fd_shifted ["k", "at", "many"] sp_shifted := by
  refine T.d_shifted.fn.ok sc_shifted (fun vs H Q E h => ?_) (fun cdv A outer s H vs Q E hr h => ?_)
  · obtain ⟨k, t, r, rfl, _⟩ := h
    rfl
  obtain ⟨k, t, r, rfl, q⟩ := h
  have hu := Nat.lt_of_succ_lt (hu_of hr)
  refine ⟨_, (pss_cons (ps_if (pt_cmpR op_ge (pv 0) (pv 1) (nomark _)) (pss_one (ps_ret (pe_op op_add (pv 0) (pv 2)))) pss_nil)
      (pss_one (ps_ret (pv 0)))), ?_⟩
  refine ⟨_, rfl, _, rfl, _, _, rfl, rfl, _, rfl, ?_⟩
  refine ite2 (fun c => ?_) (fun c => ?_)
  · have c' : ¬ k < t := by
      have : (t : Int) ≤ (k : Int) := of_decide_eq_true c
      omega
    have e : ((gI t r k : Nat) : Int) = (k : Int) + (r : Int) := by unfold gI; rw [if_neg c']; omega
    rw [e] at q
    exact ⟨_, rfl, _, rfl, _, _, rfl, rfl, q⟩
  · have c' : k < t := by
      have : ¬ (t : Int) ≤ (k : Int) := fun z => c (decide_eq_true z)
      omega
    have e : gI t r k = k := by unfold gI; rw [if_pos c']
    rw [e] at q
    exact ⟨_, rfl, q⟩
def sp_saying_shifted (K : PySem.W.Frag) : Sp := fun vs H Q _ => ∃ (a : Addr) (s : Say) (at_ r : Nat), vs = [.ref a, .int (at_ : Int), .int (r : Int)] ∧ SqT K H a (sayV s) ∧ ∀ q H', Same H H' → SqT K H' q (sayV (mvSay at_ r s)) → Q (.ref q) H'
theorem sc_saying_shifted : FnScope ["saying", "at", "many"] ["saying", "at", "many"] (defScope s_saying_shifted) := ⟨rfl, rfl, rfl, by decide +kernel, rfl, by decide +kernel, by decide +kernel⟩
theorem ok_saying_shifted (T : Txt P w K mg a) : FnOk P w K mg base CX0 2 a.f_saying_shifted a.fd_saying_shifted ["saying", "at", "many"] (sp_saying_shifted K) := by
  have g_shifted := ok_shifted (P := P) (w := w) (base := base) T
  have d_shifted := T.d_shifted
  refine T.d_saying_shifted.fn.ok sc_saying_shifted (fun vs H Q E h => ?_) (fun cdv A outer s H vs Q E hr h => ?_)
  · obtain ⟨a, s, at_, r, rfl, _⟩ := h
    rfl
  obtain ⟨a, s, at_, r, rfl, ha, q⟩ := h
  have hu := Nat.lt_of_succ_lt (hu_of hr)
  refine ⟨_, (pss_cons (ps_if (pt_cmpR op_eq (pe_ix ix_tup (pv 0) pe_int (fun _ _ => rfl)) pe_str (nomark _)) (pss_one (ps_ret (pv 0))) pss_nil)
      (pss_one (ps_ret (pe_tup (pa_cons (pe_ix ix_tup (pv 0) pe_int (fun _ _ => rfl)) (pa_cons (pe_callD d_shifted g_shifted (hr.mono (by decide)) rfl (pa_cons (pe_ix ix_tup (pv 0) pe_int (fun _ _ => rfl)) (pa_cons (pv 1) (pa_cons (pv 2) pa_nil)))) pa_nil)))))), ?_⟩
  cases s with
  | text l =>
    refine ⟨_, rfl, _, _, _, _, rfl, rfl, ha, rfl, rfl, _, rfl, ?_⟩
    rw [decide_eq_true rfl]
    refine iteT ?_
    exact ⟨_, rfl, q a H (Same.refl _) ha⟩
  | page k =>
    refine ⟨_, rfl, _, _, _, _, rfl, rfl, ha, rfl, rfl, _, rfl, ?_⟩
    rw [decide_eq_false (fun z => ne_tp (V.str.inj z))]
    refine iteF ?_
    refine ⟨_, rfl, _, _, _, _, rfl, rfl, ha, rfl, _, rfl, _, _, _, _, rfl, rfl, ha, rfl, _, rfl, _, rfl, k, at_, r, rfl, le2, fun p hp => ?_⟩
    exact q p _ (same_new hp _) (SqT.of upd_same)
  | row k =>
    refine ⟨_, rfl, _, _, _, _, rfl, rfl, ha, rfl, rfl, _, rfl, ?_⟩
    rw [decide_eq_false (fun z => ne_tr (V.str.inj z))]
    refine iteF ?_
    refine ⟨_, rfl, _, _, _, _, rfl, rfl, ha, rfl, _, rfl, _, _, _, _, rfl, rfl, ha, rfl, _, rfl, _, rfl, k, at_, r, rfl, le2, fun p hp => ?_⟩
    exact q p _ (same_new hp _) (SqT.of upd_same)
def sp_word_shifted (K : PySem.W.Frag) : Sp := fun vs H Q _ => ∃ (a : Addr) (d : Wd) (at_ r : Nat), vs = [.ref a, .int (at_ : Int), .int (r : Int)] ∧ WdAt K H a d ∧ d.foot.length ≤ 40 ∧ ∀ q H', Same H H' → WdAt K H' q (mvW at_ r d) → Q (.ref q) H'
theorem sc_word_shifted : FnScope ["word", "at", "many", "foot"] ["word", "at", "many"] (defScope s_word_shifted) := ⟨rfl, rfl, rfl, by decide +kernel, rfl, by decide +kernel, by decide +kernel⟩
theorem ok_word_shifted (T : Txt P w K mg a) : FnOk P w K mg base CX0 3 a.f_word_shifted a.fd_word_shifted ["word", "at", "many"] (sp_word_shifted K) := by
  have g_saying_shifted := ok_saying_shifted (P := P) (w := w) (base := base) T
  have d_saying_shifted := T.d_saying_shifted
  refine T.d_word_shifted.fn.ok sc_word_shifted (fun vs H Q E h => ?_) (fun cdv A outer s H vs Q E hr h => ?_)
  · obtain ⟨a, d, at_, r, rfl, _⟩ := h
    rfl
  obtain ⟨a, d, at_, r, rfl, ha, f40, q⟩ := h
  have hu := Nat.lt_of_succ_lt (hu_of hr)
  refine ⟨_, (pss_cons (ps_lc (k := 3) rfl (lcok (caps := ["at", "many"]) (js := [1, 2]) (cap := ⟨⟨rfl, .inl rfl, rfl, .inl rfl⟩, ⟨⟨rfl, .inl rfl, rfl, .inl rfl⟩, trivial⟩⟩)) (pi_list (pe_ix ix_tup (pv 0) pe_int (fun _ _ => rfl))) (fun _ _ _ _ => pts_nil) (fun _ _ _ _ => (pe_callD d_saying_shifted g_saying_shifted (hr.mono (by decide)) rfl (pa_cons (pv 0) (pa_cons (pv 1) (pa_cons (pv 2) pa_nil))))) sc_word_shifted.nd rfl rfl)
      (pss_one (ps_ret (pe_tup (pa_cons (pe_ix ix_tup (pv 0) pe_int (fun _ _ => rfl)) (pa_cons (pe_ix ix_tup (pv 0) pe_int (fun _ _ => rfl)) (pa_cons (pe_callD d_saying_shifted g_saying_shifted (hr.mono (by decide)) rfl (pa_cons (pe_ix ix_tup (pv 0) pe_int (fun _ _ => rfl)) (pa_cons (pv 1) (pa_cons (pv 2) pa_nil)))) (pa_cons (pv 3) pa_nil)))))))), ?_⟩
  obtain ⟨sa, fo, bs, h1, h2, h3, h4⟩ := ha
  refine ⟨_, rfl, _, _, _, _, rfl, rfl, h1, rfl, _, rfl, ⟨_, h3⟩, lc_list (K := K) (a := fo) (xs := bs.map V.ref) (fun i ys H2 => Same H H2 ∧ ∃ cs : List Addr, ys = cs.map V.ref ∧ SaysA K H2 cs ((d.foot.take i).map (mvSay at_ r))) ⟨Same.refl _, [], rfl, SaysA.nil⟩ (fun i ys H2 _ g => g.1.seq h3) ?_ ?_ ?_⟩
  · rintro i ys H2 hi ⟨_, cs, rfl, hc⟩
    rw [List.length_map, hc.1, List.length_map, List.length_take]
    exact Nat.lt_of_lt_of_le (show _ < 1000 by omega) (small (Nat.le_refl _))
  · rintro i y ys H2 hi ⟨s2, cs, rfl, hc⟩
    obtain ⟨b, s, rfl, eb, es⟩ := foot_at h4.1 hi
    refine yes_go ?_
    refine ⟨_, rfl, _, rfl, _, rfl, b, s, at_, r, rfl, s2.tup (h4.2 i b s eb es), fun q1 H3 s3 hq1 => ?_⟩
    refine ⟨s2.trans s3, cs ++ [q1], refs_snoc _ _, ?_⟩
    rw [take_snoc es, List.map_append]
    exact (hc.same s3).app (SaysA.one hq1)
  rintro ys H2 ⟨s2, cs, rfl, hc⟩ p hp
  rw [List.length_map, h4.1, List.take_length] at hc
  have s3 := same_new hp (.lst (cs.map V.ref))
  have hp3 : (upd H2 p (.lst (cs.map V.ref))) p = some (.lst (cs.map V.ref)) := upd_same
  generalize upd H2 p (.lst (cs.map V.ref)) = H3 at s3 hp3 ⊢
  dsimp only [gName]
  have t3 := s2.trans s3
  refine ⟨_, rfl, _, _, _, _, rfl, rfl, t3.tup h1, rfl, _, rfl, _, _, _, _, rfl, rfl, t3.tup h1, rfl, _, rfl, _, _, _, _, rfl, rfl, t3.tup h1, rfl, _, rfl, _, rfl, sa, d.say, at_, r, rfl, t3.tup h2, fun q1 H4 s4 hq1 => ?_⟩
  refine ⟨_, rfl, le4, fun p5 hp5 => ?_⟩
  have s5 := same_new hp5 (.tup [V.int d.lead, V.bl d.kept, V.ref q1, V.ref p])
  exact q p5 _ (t3.trans (s4.trans s5)) ⟨q1, p, cs, SqT.of upd_same, s5.tup hq1, SqL.of ((s4.trans s5) _ _ hp3), hc.same (s3.trans (s4.trans s5))⟩
def sp_grown_at (K : PySem.W.Frag) : Sp := fun vs H Q _ => ∃ (wa na : Addr) (as bs : List Addr) (ds ns : List Wd) (t r : Nat), vs = [.ref wa, .ref na, .int (t : Int), .int (r : Int)] ∧ SqL K H wa (as.map V.ref) ∧ WdsA K H as ds ∧ SqL K H na (bs.map V.ref) ∧ WdsA K H bs ns ∧ ns.length = ds.length + r ∧ t ≤ ds.length ∧ ds.length ≤ 60 ∧ r ≤ 60 ∧ (∀ d ∈ ds, d.foot.length ≤ 40) ∧ ∀ b H', Same H H' → (b = true ↔ Grown ds ns t r) → Q (.bl b) H'
theorem sc_grown_at : FnScope ["words", "newer", "at", "many", "k", "word"] ["words", "newer", "at", "many"] (defScope s_grown_at) := ⟨rfl, rfl, rfl, by decide +kernel, rfl, by decide +kernel, by decide +kernel⟩
theorem ok_grown_at (T : Txt P w K mg a) : FnOk P w K mg base CX0 4 a.f_grown_at a.fd_grown_at ["words", "newer", "at", "many"] (sp_grown_at K) := by
  have g_shifted := ok_shifted (P := P) (w := w) (base := base) T
  have d_shifted := T.d_shifted
  have g_word_shifted := ok_word_shifted (P := P) (w := w) (base := base) T
  have d_word_shifted := T.d_word_shifted
  have z_all := T.z_all
  have z_enumerate := T.z_enumerate
  have z_len := T.z_len
  refine T.d_grown_at.fn.ok sc_grown_at (fun vs H Q E h => ?_) (fun cdv A outer s H vs Q E hr h => ?_)
  · obtain ⟨wa, na, as, bs, ds, ns, t, r, rfl, _⟩ := h
    rfl
  obtain ⟨wa, na, as, bs, ds, ns, t, r, rfl, hw, hws, hn, hns, nl, tl, d60, r60, f40, q⟩ := h
  have hu := Nat.lt_of_succ_lt (hu_of hr)
  refine ⟨_, (pss_cons (ps_for PassesOwn.never rfl (pi_enum rfl z_enumerate (pv 0)) (pg_tup rfl (pgs_cons (pg_name (i := 4) sc_grown_at.nd rfl (Or.inl rfl)) (pgs_cons (pg_name (i := 5) sc_grown_at.nd rfl (Or.inl rfl)) pgs_nil))) (pss_one (ps_if (pt_cmpR (op_neB (hu100 hr)) (pe_callD d_word_shifted g_word_shifted (hr.mono (by decide)) rfl (pa_cons (pv 5) (pa_cons (pv 2) (pa_cons (pv 3) pa_nil)))) (pe_ix ix_list (pv 1) (pe_callD d_shifted g_shifted (hr.mono (by decide)) rfl (pa_cons (pv 4) (pa_cons (pv 2) (pa_cons (pv 3) pa_nil)))) (fun _ _ => rfl)) (nomark _)) (pss_one (ps_ret pe_bl)) pss_nil)))
      (pss_cons (ps_if (PW.pt (pw_and (pt_cmpR op_lt (pv 2) (pe_callB call_len_seq rfl z_len PySem.boot_len (pa_cons (pv 0) pa_nil)) (nomark _)) (pw_and1 (pt_val (pe_ix ix_tup (pe_ix ix_list (pv 0) (pv 2) (fun _ _ => rfl)) pe_int (fun _ _ => rfl)) (fun _ => rfl))))) (pss_one (ps_ret (pe_callB (call_all rfl) rfl z_all PyProof.Rows.boot_all (pa_cons (pe_lc rfl (lcok (caps := []) (js := []) (cap := trivial)) (pi_list (pe_slice sl_list (pv 1) (po_some (pv 2)) (po_some (pe_op op_add (pv 2) (pv 3))))) (fun _ _ _ _ => pts_nil) (fun _ _ _ _ => (pe_ix (r := rIxT K) ix_tup (pv 0) pe_int (fun _ _ => rfl)))) pa_nil)))) pss_nil)
      (pss_one (ps_ret pe_bl)))), ?_⟩
  have el : (as.map V.ref).length = ds.length := by rw [List.length_map, hws.1]
  refine ⟨_, rfl, wa, rfl, ⟨_, hw⟩, for_enum (K := K) (a := wa) (xs := as.map V.ref) (fun i σ H2 => Same H H2 ∧ (∃ v1 v2 : Option V, σ = [some (.ref wa), some (.ref na), some (.int (t : Int)), some (.int (r : Int)), v1, v2]) ∧ ∀ k, k < i → mvW t r (dAt ds k) = dAt ns (gI t r k)) ?_ ?_ ?_ ?_⟩
  · exact ⟨Same.refl _, ⟨none, none, rfl⟩, fun k hk => absurd hk (Nat.not_lt_zero _)⟩
  · rintro i σ H2 _ ⟨s2, _⟩
    exact s2.seq hw
  · rintro i x σ H2 p hx ⟨s2, ⟨v1, v2, rfl⟩, hk⟩ hp
    obtain ⟨b, d, rfl, eb, ed⟩ := wd_at hws.1 hx
    have hid : i < ds.length := (List.getElem?_eq_some_iff.mp ed).1
    have s3 := same_new hp (.tup [.int (i : Int), .ref b])
    refine ⟨p, _, rfl, SqT.of upd_same, rfl, _, _, rfl, _, _, rfl, rfl, ?_⟩
    generalize upd H2 p (.tup [.int (i : Int), .ref b]) = H3 at s3 ⊢
    dsimp only [gName]
    have t3 := s2.trans s3
    obtain ⟨nb, en, hnb⟩ := hns.get (k := gI t r i) (by unfold gI; split <;> omega)
    have edd : dAt ds i = d := by
      show ds.getD i wd0 = d
      rw [List.getD_eq_getElem?_getD, ed]
      rfl
    refine ⟨_, rfl, _, rfl, _, rfl, b, d, t, r, rfl, (hws.2 i b d eb ed).same t3, f40 d (List.mem_of_getElem? ed), fun q1 H4 s4 hq1 => ?_⟩
    obtain ⟨xs, ys, lx, ly, hx1, hy1, hd⟩ := wd_db hq1 (hnb.same (t3.trans s4))
    refine ⟨_, rfl, _, rfl, _, rfl, _, rfl, i, t, r, rfl, _, _, _, _, rfl, rfl, (t3.trans s4).seq hn, en, 2, q1, nb, xs, ys, wdE (mvW t r d) (dAt ns (gI t r i)), by decide, rfl, rfl, .inr ⟨hx1, hy1⟩, hd, _, rfl, ?_⟩
    rw [if_pos rfl, lx, ly]
    have iff_ := wdE_iff (d := mvW t r d) (e := dAt ns (gI t r i))
    generalize (decide ((4 : Nat) = 4) && (List.range 4).all (wdE (mvW t r d) (dAt ns (gI t r i)))) = b0 at iff_ ⊢
    cases b0 with
    | false =>
      refine iteT ?_
      refine q false _ (t3.trans s4) ⟨fun z => absurd z (by decide), fun G => ?_⟩
      have := G.w i hid
      rw [edd] at this
      exact absurd (iff_.mpr this) (by decide)
    | true =>
      refine iteF ?_
      refine ⟨t3.trans s4, ⟨_, _, rfl⟩, fun k hk2 => ?_⟩
      by_cases c : k < i
      · exact hk k c
      · have : k = i := by omega
        rw [this, edd]
        exact iff_.mp rfl
  · rintro σ H2 ⟨s2, ⟨v1, v2, rfl⟩, hk⟩
    rw [el] at hk
    refine ⟨_, rfl, _, rfl, _, _, rfl, .inl (s2.seq hw), _, _, rfl, rfl, _, rfl, ?_⟩
    rw [el]
    by_cases c : t < ds.length
    rotate_left
    · refine andG (fun _ => ?_) (fun z => absurd (of_decide_eq_true z) (by omega))
      exact q true _ s2 ⟨fun _ => ⟨nl, tl, hk, fun z => absurd z c⟩, fun _ => rfl⟩
    refine andG (fun z => absurd (decide_eq_true (by omega)) z) (fun _ => ?_)
    obtain ⟨wo, eo, hwo⟩ := hws.get c
    obtain ⟨sy, fo, bs', g1, _, _, _⟩ := hwo
    refine ⟨_, rfl, _, rfl, _, _, _, _, rfl, rfl, s2.seq hw, eo, _, _, _, _, rfl, rfl, s2.tup g1, rfl, _, rfl, ?_⟩
    cases kt : (dAt ds t).kept with
    | false =>
      refine iteF ?_
      exact q true _ s2 ⟨fun _ => ⟨nl, tl, hk, fun _ z => absurd (kt.symm.trans z) (by decide)⟩, fun _ => rfl⟩
    | true =>
      refine iteT ?_
      refine ⟨_, rfl, _, rfl, _, rfl, _, rfl, _, rfl, _, _, rfl, rfl, _, rfl, _, _, rfl, s2.seq hn, fun p1 hp1 => ?_⟩
      have c1 : cutV (bs.map V.ref) (some (t : Int)) (some ((t : Int) + (r : Int))) = ((bs.drop t).take r).map V.ref := by
        rw [cutV_map, show (t : Int) + (r : Int) = ((t + r : Nat) : Int) by omega, cut_nat, show t + r - t = r by omega]
      have s3 := same_new hp1 (.lst (cutV (bs.map V.ref) (some (t : Int)) (some ((t : Int) + (r : Int)))))
      have h3 : (upd H2 p1 (.lst (cutV (bs.map V.ref) (some (t : Int)) (some ((t : Int) + (r : Int)))))) p1 = some (.lst (((bs.drop t).take r).map V.ref)) := by rw [upd_same, c1]
      generalize upd H2 p1 (.lst (cutV (bs.map V.ref) (some (t : Int)) (some ((t : Int) + (r : Int))))) = H3 at s3 h3 ⊢
      have t3 := s2.trans s3
      have le : ((bs.drop t).take r).length = ((ns.drop t).take r).length := by simp only [List.length_take, List.length_drop, hns.1]
      have nr : ((ns.drop t).take r).length = r := by rw [List.length_take, List.length_drop]; omega
      have it : ∀ (i : Nat) b d, ((bs.drop t).take r)[i]? = some b → ((ns.drop t).take r)[i]? = some d → WdAt K H b d := fun i b d e1 e2 => by
        rw [List.getElem?_take] at e1 e2
        split at e1
        · rename_i ci
          rw [if_pos ci] at e2
          rw [List.getElem?_drop] at e1 e2
          exact hns.2 _ b d e1 e2
        · cases e1
      refine ⟨p1, rfl, ⟨_, SqL.of h3⟩, lc_list (K := K) (a := p1) (xs := ((bs.drop t).take r).map V.ref) (fun i ys H4 => H4 = H3 ∧ ys = ((((ns.drop t).take r).take i).map fun d => d.kept).map V.bl) ⟨rfl, rfl⟩ (fun i ys H4 _ g => by rw [g.1]; exact SqL.of h3) ?_ ?_ ?_⟩
      · rintro i ys H4 hi ⟨_, rfl⟩
        rw [List.length_map, List.length_map, List.length_take]
        exact Nat.lt_of_lt_of_le (show _ < 1000 by omega) (small (Nat.le_refl _))
      · rintro i y ys H4 hi ⟨rfl, rfl⟩
        obtain ⟨b, d, rfl, eb, ed⟩ := wd_at le hi
        obtain ⟨sy2, fo2, bs2, k1, _, _, _⟩ := it i b d eb ed
        refine yes_go ?_
        refine ⟨_, rfl, _, _, _, _, rfl, rfl, t3.tup k1, rfl, rfl, ?_⟩
        rw [take_snoc ed, List.map_append, List.map_append]
        rfl
      rintro ys H4 ⟨rfl, rfl⟩ p2 hp2
      have e2 : ((ns.drop t).take r).take (((bs.drop t).take r).map V.ref).length = (ns.drop t).take r := by rw [List.length_map, le, List.take_length]
      rw [e2]
      have s5 := same_new hp2 (.lst ((((ns.drop t).take r).map fun d => d.kept).map V.bl))
      refine ⟨p2, _, rfl, SqL.of upd_same, q _ _ (t3.trans s5) ?_⟩
      rw [kept_all (by omega)]
      exact ⟨fun z => ⟨nl, tl, hk, fun _ _ => z⟩, fun G => G.kept c kt⟩
def sp_growth (K : PySem.W.Frag) : Sp := fun vs H Q _ => ∃ (oa na : Addr) (F G : Frm) (ds ns : List Wd), vs = [.ref oa, .ref na] ∧ BkAt K H oa F.w F.h F.f F.m ds ∧ BkAt K H na G.w G.h G.f G.m ns ∧ ds.length ≤ 60 ∧ ns.length ≤ 60 ∧ (∀ d ∈ ds, d.foot.length ≤ 40) ∧ (NoGr F G ds ns → ∀ H', Same H H' → Q .non H') ∧ ∀ p t r H', Same H H' → SqT K H' p [.int ((t : Nat) : Int), .int ((r : Nat) : Int)] → GrT F G ds ns t r → Q (.ref p) H'
theorem sc_growth : FnScope ["old", "new", "many", "at"] ["old", "new"] (defScope s_growth) := ⟨rfl, rfl, rfl, by decide +kernel, rfl, by decide +kernel, by decide +kernel⟩
theorem ok_growth (T : Txt P w K mg a) : FnOk P w K mg base CX0 5 a.f_growth a.fd_growth ["old", "new"] (sp_growth K) := by
  have g_grown_at := ok_grown_at (P := P) (w := w) (base := base) T
  have d_grown_at := T.d_grown_at
  have z_len := T.z_len
  have z_range := T.z_range
  refine T.d_growth.fn.ok sc_growth (fun vs H Q E h => ?_) (fun cdv A outer s H vs Q E hr h => ?_)
  · obtain ⟨oa, na, F, G, ds, ns, rfl, _⟩ := h
    rfl
  obtain ⟨oa, na, F, G, ds, ns, rfl, hbo, hbn, d60, n60, f40, q1, q2⟩ := h
  have hu := Nat.lt_of_succ_lt (hu_of hr)
  refine ⟨_, (pss_cons (ps_set (i := 2) sc_growth.nd rfl (Or.inl rfl) (pe_op op_sub (pe_callB call_len_seq rfl z_len PySem.boot_len (pa_cons (pe_ix ix_tup (pv 1) pe_int (fun _ _ => rfl)) pa_nil)) (pe_callB call_len_seq rfl z_len PySem.boot_len (pa_cons (pe_ix ix_tup (pv 0) pe_int (fun _ _ => rfl)) pa_nil))))
      (pss_cons (ps_if (PW.pt (pw_or (pt_cmpR (op_neT hu) (pe_ix ix_tup (pv 0) pe_int (fun _ _ => rfl)) (pe_ix ix_tup (pv 1) pe_int (fun _ _ => rfl)) (nomark _)) (pw_or1 (pt_cmpR op_lt (pv 2) pe_int (nomark _))))) (pss_one (ps_ret pe_non)) pss_nil)
      (pss_cons (ps_for PassesOwn.never rfl (pi_range1 rfl z_range (pa_cons (pe_op op_add (pe_callB call_len_seq rfl z_len PySem.boot_len (pa_cons (pe_ix ix_tup (pv 0) pe_int (fun _ _ => rfl)) pa_nil)) pe_int) pa_nil)) (pg_name (i := 3) sc_growth.nd rfl (Or.inl rfl)) (pss_one (ps_if (pt_val (pe_callD d_grown_at g_grown_at (hr.mono (by decide)) rfl (pa_cons (pe_ix ix_tup (pv 0) pe_int (fun _ _ => rfl)) (pa_cons (pe_ix ix_tup (pv 1) pe_int (fun _ _ => rfl)) (pa_cons (pv 3) (pa_cons (pv 2) pa_nil))))) (fun _ => rfl)) (pss_one (ps_ret (pe_tup (pa_cons (pv 3) (pa_cons (pv 2) pa_nil))))) pss_nil)))
      (pss_one (ps_ret pe_non))))), ?_⟩
  obtain ⟨fa, wa, was, hb, hf, hw, hws⟩ := hbo
  obtain ⟨fb, wb, wbs, hb2, hf2, hw2, hws2⟩ := hbn
  have el : (was.map V.ref).length = ds.length := by rw [List.length_map, hws.1]
  have el2 : (wbs.map V.ref).length = ns.length := by rw [List.length_map, hws2.1]
  refine ⟨_, rfl, _, _, _, _, rfl, rfl, hb2, rfl, _, _, rfl, .inl hw2, _, rfl, _, _, _, _, rfl, rfl, hb, rfl, _, _, rfl, .inl hw, _, _, rfl, rfl, ?_⟩
  rw [el, el2]
  dsimp only [gName]
  refine ⟨_, rfl, _, _, _, _, rfl, rfl, hb, rfl, _, rfl, _, _, _, _, rfl, rfl, hb2, rfl, _, _, _, _, rfl, rfl, hf, hf2, rfl, rfl, _, rfl, ?_⟩
  show if (!eqVs (fm F.w F.h F.f F.m) (fm G.w G.h G.f G.m)) = true then _ else _
  by_cases hFG : F = G
  rotate_left
  · rw [fm_eqF hFG]
    refine iteT (iteT ?_)
    exact q1 (fun z => absurd z hFG) _ (Same.refl _)
  rw [fm_eqT hFG]
  refine iteF ?_
  refine ⟨_, rfl, _, _, rfl, rfl, _, rfl, ?_⟩
  refine ite2 (fun z => ?_) (fun z => ?_)
  · have z' : (ns.length : Int) - (ds.length : Int) < 0 := of_decide_eq_true z
    refine q1 (fun _ t r G' => ?_) _ (Same.refl _)
    have := G'.len
    omega
  have z' : ¬ (ns.length : Int) - (ds.length : Int) < 0 := fun z2 => z (decide_eq_true z2)
  dsimp only [tNext]
  obtain ⟨r, er⟩ : ∃ r : Nat, ns.length = ds.length + r := ⟨ns.length - ds.length, by omega⟩
  rw [show (ns.length : Int) - (ds.length : Int) = (r : Int) by omega]
  have r60 : r ≤ 60 := by omega
  refine ⟨_, rfl, _, _, _, _, rfl, rfl, hb, rfl, _, _, rfl, .inl hw, _, _, rfl, rfl, ?_⟩
  rw [el]
  refine ⟨_, rfl, (by omega), (by omega), for_range (fun i σ H2 => Same H H2 ∧ (∃ v : Option V, σ = [some (.ref oa), some (.ref na), some (.int (r : Int)), v]) ∧ ∀ s, s < i → ¬ Grown ds ns s r) ⟨Same.refl _, ⟨none, rfl⟩, fun s hs => absurd hs (Nat.not_lt_zero _)⟩ ?_ ?_⟩
  rotate_left
  · rintro σ H2 ⟨s2, _, ng⟩
    refine q1 (fun _ t r' G' => ?_) _ s2
    have a1 := G'.at1
    have a2 := G'.len
    have : r' = r := by omega
    subst this
    exact ng t (by omega) G'
  rintro i σ H2 hi ⟨s2, ⟨v, rfl⟩, ng⟩
  have hi' : i ≤ ds.length := by omega
  refine ⟨_, rfl, _, _, _, _, rfl, rfl, s2.tup hb, rfl, _, rfl, _, _, _, _, rfl, rfl, s2.tup hb2, rfl, _, rfl, _, rfl, wa, wb, was, wbs, ds, ns, i, r, (by show [_, _, V.int (0 + (i : Int)), _] = _; rw [Int.zero_add]), s2.seq hw, hws.same s2, s2.seq hw2, hws2.same s2, er, hi', d60, r60, f40, fun b H3 s3 hb3 => ?_⟩
  refine ⟨_, rfl, ?_⟩
  cases b with
  | true =>
    refine iteT ?_
    refine ⟨_, rfl, _, rfl, le2, fun p hp => ?_⟩
    have s4 := same_new hp (.tup [V.int (0 + (i : Int)), V.int (r : Int)])
    exact q2 p i r _ (s2.trans (s3.trans s4)) (SqT.of (by rw [upd_same, Int.zero_add])) ⟨hFG, hb3.mp rfl, ng⟩
  | false =>
    refine iteF ?_
    refine ⟨s2.trans s3, ⟨_, rfl⟩, fun s hs G' => ?_⟩
    by_cases c : s < i
    · exact ng s c G'
    · have : s = i := by omega
      subst this
      exact absurd (hb3.mpr G') (by decide)
def sp_carried (K : PySem.W.Frag) (C : Addr) : Sp := fun vs H Q E => ∃ (oa na pa : Addr) (F G : Frm) (ds ns : List Wd) (xs : List (Int × Int)), vs = [.ref oa, .ref na, .ref pa] ∧ BkAt K H oa F.w F.h F.f F.m ds ∧ BkAt K H na G.w G.h G.f G.m ns ∧ ds.length ≤ 60 ∧ ns.length ≤ 60 ∧ (∀ d ∈ ds, d.foot.length ≤ 40) ∧ LwAt K H pa xs ∧ xs.length = ds.length ∧ (NoGr F G ds ns → ∀ H', Same H H' → E (.ref C) none H') ∧ ∀ p cs t r H', Same H H' → H p = none → H' p = some (.lst (cs.map V.ref)) → PlsA K H' cs (carry t r xs) → GrT F G ds ns t r → Q (.ref p) H'
theorem sc_carried : FnScope ["old", "new", "places", "run", "at"] ["old", "new", "places"] (defScope s_carried) := ⟨rfl, rfl, rfl, by decide +kernel, rfl, by decide +kernel, by decide +kernel⟩
theorem ok_carried (T : Txt P w K mg a) : FnOk P w K mg base (CXe P w) 6 a.f_carried a.fd_carried ["old", "new", "places"] (sp_carried K a.c_NoGrowth) := by
  have g_growth := ok_growth (P := P) (w := w) (base := base) T
  have d_growth := T.d_growth
  have z_list := T.z_list
  have x_NoGrowth := T.x_NoGrowth
  refine T.d_carried.fn.okE sc_carried (fun vs H Q E h => ?_) (fun cdv A outer s H vs Q E hr h => ?_)
  · obtain ⟨oa, na, pa, F, G, ds, ns, xs, rfl, _⟩ := h
    rfl
  obtain ⟨oa, na, pa, F, G, ds, ns, xs, rfl, hbo, hbn, d60, n60, f40, hpa, xl, q1, q⟩ := h
  have hu := Nat.lt_of_succ_lt (hu_of hr)
  refine ⟨_, (pss_cons (ps_set (i := 3) sc_carried.nd rfl (Or.inl rfl) (pe_callD d_growth g_growth (hr.mono (by decide)) rfl (pa_cons (pv 0) (pa_cons (pv 1) pa_nil))))
      (pss_cons (ps_if (pt_cmpR op_isN (pv 3) pe_non (nomark _)) (pss_one (ps_raise rfl wish_cx x_NoGrowth rfl (pa_cons pe_str pa_nil))) pss_nil)
      (pss_cons (ps_set (i := 4) sc_carried.nd rfl (Or.inl rfl) (pe_ix ix_tup (pv 3) pe_int (fun _ _ => rfl)))
      (pss_one (ps_ret (pe_op op_cat (pe_op op_cat (pe_callTy call_list_of rfl z_list PyProof.Rows.boot_list (pa_cons (pe_slice sl_list (pv 2) po_none (po_some (pv 4))) pa_nil)) (pe_op op_rep (pe_lst (pa_cons (pe_tup (pa_cons pe_int (pa_cons pe_int pa_nil))) pa_nil)) (pe_ix ix_tup (pv 3) pe_int (fun _ _ => rfl)))) (pe_callTy call_list_of rfl z_list PyProof.Rows.boot_list (pa_cons (pe_slice sl_list (pv 2) (po_some (pv 4)) po_none) pa_nil)))))))), ?_⟩
  obtain ⟨ps, hps, pps⟩ := hpa
  refine ⟨_, rfl, _, rfl, oa, na, F, G, ds, ns, rfl, hbo, hbn, d60, n60, f40, fun ng H1 s1 => ?_, fun p t r H1 s1 hp1 Gt => ?_⟩
  · dsimp only [gName]
    refine ⟨_, rfl, rfl, _, rfl, ?_⟩
    refine iteT ?_
    exact ⟨le1, q1 ng _ s1⟩
  dsimp only [gName]
  have tl := Gt.2.1.at1
  have rl := Gt.2.1.len
  refine ⟨_, rfl, rfl, _, rfl, ?_⟩
  refine iteF ?_
  dsimp only [tNext]
  refine ⟨_, rfl, _, _, _, _, rfl, rfl, hp1, rfl, ?_⟩
  dsimp only [gName]
  have pl' : ps.length = ds.length := by rw [pps.1, xl]
  refine ⟨_, rfl, _, rfl, _, rfl, _, _, rfl, s1.seq hps, fun p1 hq1 => ?_⟩
  have c1 : cutV (ps.map V.ref) none (some (t : Int)) = (ps.take t).map V.ref := by rw [cutV_map, cut_to]
  have k1 := same_new hq1 (.lst (cutV (ps.map V.ref) none (some (t : Int))))
  have h1 : (upd H1 p1 (.lst (cutV (ps.map V.ref) none (some (t : Int))))) p1 = some (.lst ((ps.take t).map V.ref)) := by rw [upd_same, c1]
  generalize upd H1 p1 (.lst (cutV (ps.map V.ref) none (some (t : Int)))) = H2 at k1 h1 ⊢
  refine ⟨_, _, rfl, .inl (SqL.of h1), fun p2 hp2 => ?_⟩
  have k2 := same_new hp2 (.lst ((ps.take t).map V.ref))
  have h2 : (upd H2 p2 (.lst ((ps.take t).map V.ref))) p2 = some (.lst ((ps.take t).map V.ref)) := upd_same
  generalize upd H2 p2 (.lst ((ps.take t).map V.ref)) = H3 at k2 h2 ⊢
  refine ⟨le2, fun p3 hp3 => ?_⟩
  have k3 := same_new hp3 (.tup (pl (0, 0)))
  have h3 : (upd H3 p3 (.tup (pl (0, 0)))) p3 = some (.tup (pl (0, 0))) := upd_same
  show _ ∧ _
  change _ ∧ ∀ p4, (upd H3 p3 (.tup (pl (0, 0)))) p4 = none → _
  generalize upd H3 p3 (.tup (pl (0, 0))) = H4 at k3 h3 ⊢
  refine ⟨le1, fun p4 hp4 => ?_⟩
  have k4 := same_new hp4 (.lst [V.ref p3])
  have h4 : (upd H4 p4 (.lst [V.ref p3])) p4 = some (.lst [V.ref p3]) := upd_same
  generalize upd H4 p4 (.lst [V.ref p3]) = H5 at k4 h4 ⊢
  have t5 := k1.trans (k2.trans (k3.trans k4))
  refine ⟨_, rfl, _, _, _, _, rfl, rfl, t5.tup hp1, rfl, _, _, _, rfl, rfl, h4, (by omega), (by omega), small (by simp; omega), fun p5 hp5 => ?_⟩
  rw [Int.toNat_natCast, rep1, ← List.map_replicate]
  have k5 := same_new hp5 (.lst ((List.replicate r p3).map V.ref))
  have h5 : (upd H5 p5 (.lst ((List.replicate r p3).map V.ref))) p5 = some (.lst ((List.replicate r p3).map V.ref)) := upd_same
  generalize upd H5 p5 (.lst ((List.replicate r p3).map V.ref)) = H6 at k5 h5 ⊢
  have t6 := k3.trans (k4.trans k5)
  refine ⟨_, _, _, _, rfl, rfl, t6 _ _ h2, h5, small (by rw [List.length_map, List.length_map, List.length_take, List.length_replicate]; omega), fun p6 hp6 => ?_⟩
  have k6 := same_new hp6 (.lst ((ps.take t).map V.ref ++ (List.replicate r p3).map V.ref))
  have h6 : (upd H6 p6 (.lst ((ps.take t).map V.ref ++ (List.replicate r p3).map V.ref))) p6 = some (.lst ((ps.take t).map V.ref ++ (List.replicate r p3).map V.ref)) := upd_same
  generalize upd H6 p6 (.lst ((ps.take t).map V.ref ++ (List.replicate r p3).map V.ref)) = H7 at k6 h6 ⊢
  have t7 := t5.trans (k5.trans k6)
  refine ⟨_, rfl, _, rfl, _, rfl, _, _, rfl, (s1.trans t7).seq hps, fun p7 hp7 => ?_⟩
  have c7 : cutV (ps.map V.ref) (some (t : Int)) none = (ps.drop t).map V.ref := by rw [cutV_map, cut_fr]
  have k7 := same_new hp7 (.lst (cutV (ps.map V.ref) (some (t : Int)) none))
  have h7 : (upd H7 p7 (.lst (cutV (ps.map V.ref) (some (t : Int)) none))) p7 = some (.lst ((ps.drop t).map V.ref)) := by rw [upd_same, c7]
  generalize upd H7 p7 (.lst (cutV (ps.map V.ref) (some (t : Int)) none)) = H8 at k7 h7 ⊢
  refine ⟨_, _, rfl, .inl (SqL.of h7), fun p8 hp8 => ?_⟩
  have k8 := same_new hp8 (.lst ((ps.drop t).map V.ref))
  have h8 : (upd H8 p8 (.lst ((ps.drop t).map V.ref))) p8 = some (.lst ((ps.drop t).map V.ref)) := upd_same
  generalize upd H8 p8 (.lst ((ps.drop t).map V.ref)) = H9 at k8 h8 ⊢
  refine ⟨_, _, _, _, rfl, rfl, (k7.trans k8) _ _ h6, h8, small (by rw [List.length_append, List.length_map, List.length_map, List.length_map, List.length_take, List.length_replicate, List.length_drop]; omega), fun p9 hp9 => ?_⟩
  have k9 := same_new hp9 (.lst ((ps.take t).map V.ref ++ (List.replicate r p3).map V.ref ++ (ps.drop t).map V.ref))
  have tA := t7.trans (k7.trans (k8.trans k9))
  have pA := pps.same (s1.trans tA)
  have h3A := (k4.trans (k5.trans (k6.trans (k7.trans (k8.trans k9))))) _ _ h3
  refine q p9 (ps.take t ++ List.replicate r p3 ++ ps.drop t) t r _ (s1.trans tA) ((s1.trans (t7.trans (k7.trans k8))).free hp9) (by rw [upd_same, List.map_append, List.map_append]) ?_ Gt
  exact ((pA.take t).app (PlsA.rep _ (SqT.of h3A))).app (pA.drop t)
def sp_l_refused (K : PySem.W.Frag) : Sp := fun vs H Q _ => ∃ (oa na pa : Addr) (F G : Frm) (ds ns : List Wd) (xs : List (Int × Int)), vs = [.ref oa, .ref na, .ref pa] ∧ BkAt K H oa F.w F.h F.f F.m ds ∧ BkAt K H na G.w G.h G.f G.m ns ∧ ds.length ≤ 60 ∧ ns.length ≤ 60 ∧ (∀ d ∈ ds, d.foot.length ≤ 40) ∧ LwAt K H pa xs ∧ xs.length = ds.length ∧ NoGr F G ds ns ∧ ∀ H', Same H H' → Q (.bl true) H'
theorem sc_l_refused : FnScope ["old", "new", "places", "word", "e"] ["old", "new", "places"] (defScope s_l_refused) := ⟨rfl, rfl, rfl, by decide +kernel, rfl, by decide +kernel, by decide +kernel⟩
theorem ok_l_refused (T : Txt P w K mg a) : FnOk P w K mg base CX0 7 a.f_l_refused a.fd_l_refused ["old", "new", "places"] (sp_l_refused K) := by
  have g_carried := ok_carried (P := P) (w := w) (base := base) T
  have d_carried := T.d_carried
  have z_int := T.z_int
  have z_isinstance := T.z_isinstance
  have x_BadPaper := T.x_BadPaper
  have x_NoGrowth := T.x_NoGrowth
  refine T.d_l_refused.fn.ok sc_l_refused (fun vs H Q E h => ?_) (fun cdv A outer s H vs Q E hr h => ?_)
  · obtain ⟨oa, na, pa, F, G, ds, ns, xs, rfl, _⟩ := h
    rfl
  obtain ⟨oa, na, pa, F, G, ds, ns, xs, rfl, hbo, hbn, d60, n60, f40, hpa, xl, ng, q⟩ := h
  have hu := Nat.lt_of_succ_lt (hu_of hr)
  refine ⟨_, (pss_cons (ps_set (i := 3) sc_l_refused.nd rfl (Or.inl rfl) pe_int)
      (pss_cons (ps_try_as (i := 4) sc_l_refused.nd rfl rfl d_carried g_carried (hr.mono (by decide)) rfl (fun _ => (pa_cons (pv 0) (pa_cons (pv 1) (pa_cons (pv 2) pa_nil)))) rfl x_NoGrowth ⟨rfl, rfl⟩ (fun _ => (pss_one (ps_set (i := 3) sc_l_refused.nd rfl (Or.inl rfl) (pe_op op_add pe_int (pe_callTy call_int1 rfl z_int PyProof.Rows.boot_int (pa_cons (pe_callB (r := rIsiX K) call_isiX rfl z_isinstance PyProof.Rows.boot_isinstance (pa_cons (pv 4) (pa_cons (pe_glob (v := .ref a.c_BadPaper) rfl x_BadPaper.mg rfl) pa_nil))) pa_nil)))))))
      (pss_one (ps_ret (pe_cmpR op_eq (pv 3) pe_int (nomark _)))))), ?_⟩
  refine ⟨_, rfl, _, rfl, _, rfl, oa, na, pa, F, G, ds, ns, xs, rfl, hbo, hbn, d60, n60, f40, hpa, xl, fun _ H1 s1 => ⟨_, rfl, T.t_NoGrowth_NoGrowth, fun x hx => ?_⟩, fun p cs t r H1 s1 hp h1 pc Gt => absurd Gt.2.1 (ng Gt.1 t r)⟩
  refine ⟨_, rfl, x, a.c_NoGrowth, _, false, rfl, upd_same, T.lk_NoGrowth, .inl ⟨_, rfl, T.ki_NoGrowth_BadPaper⟩, ?_⟩
  exact .inr ⟨_, rfl, _, _, rfl, rfl, _, rfl, rfl, q _ (s1.trans (same_new hx _))⟩
def sp_l_refused_by_base (K : PySem.W.Frag) : Sp := fun vs H Q _ => ∃ (oa na pa : Addr) (F G : Frm) (ds ns : List Wd) (xs : List (Int × Int)), vs = [.ref oa, .ref na, .ref pa] ∧ BkAt K H oa F.w F.h F.f F.m ds ∧ BkAt K H na G.w G.h G.f G.m ns ∧ ds.length ≤ 60 ∧ ns.length ≤ 60 ∧ (∀ d ∈ ds, d.foot.length ≤ 40) ∧ LwAt K H pa xs ∧ xs.length = ds.length ∧ NoGr F G ds ns ∧ ∀ H', Same H H' → Q (.bl true) H'
theorem sc_l_refused_by_base : FnScope ["old", "new", "places", "word", "e"] ["old", "new", "places"] (defScope s_l_refused_by_base) := ⟨rfl, rfl, rfl, by decide +kernel, rfl, by decide +kernel, by decide +kernel⟩
theorem ok_l_refused_by_base (T : Txt P w K mg a) : FnOk P w K mg base CX0 7 a.f_l_refused_by_base a.fd_l_refused_by_base ["old", "new", "places"] (sp_l_refused_by_base K) := by
  have g_carried := ok_carried (P := P) (w := w) (base := base) T
  have d_carried := T.d_carried
  have z_ValueError := T.z_ValueError
  have z_isinstance := T.z_isinstance
  have x_TrueleafError := T.x_TrueleafError
  refine T.d_l_refused_by_base.fn.ok sc_l_refused_by_base (fun vs H Q E h => ?_) (fun cdv A outer s H vs Q E hr h => ?_)
  · obtain ⟨oa, na, pa, F, G, ds, ns, xs, rfl, _⟩ := h
    rfl
  obtain ⟨oa, na, pa, F, G, ds, ns, xs, rfl, hbo, hbn, d60, n60, f40, hpa, xl, ng, q⟩ := h
  have hu := Nat.lt_of_succ_lt (hu_of hr)
  refine ⟨_, (pss_cons (ps_set (i := 3) sc_l_refused_by_base.nd rfl (Or.inl rfl) pe_bl)
      (pss_cons (ps_try_as (i := 4) sc_l_refused_by_base.nd rfl rfl d_carried g_carried (hr.mono (by decide)) rfl (fun _ => (pa_cons (pv 0) (pa_cons (pv 1) (pa_cons (pv 2) pa_nil)))) rfl x_TrueleafError ⟨rfl, rfl⟩ (fun _ => (pss_one (ps_set (i := 3) sc_l_refused_by_base.nd rfl (Or.inl rfl) (pe_callB (r := rIsiX K) call_isiX rfl z_isinstance PyProof.Rows.boot_isinstance (pa_cons (pv 4) (pa_cons (pe_bltn (v := .ty "ValueError") rfl z_ValueError boot_ValueError rfl) pa_nil)))))))
      (pss_one (ps_ret (pv 3))))), ?_⟩
  refine ⟨_, rfl, _, rfl, _, rfl, oa, na, pa, F, G, ds, ns, xs, rfl, hbo, hbn, d60, n60, f40, hpa, xl, fun _ H1 s1 => ⟨_, rfl, T.t_NoGrowth_TrueleafError, fun x hx => ?_⟩, fun p cs t r H1 s1 hp h1 pc Gt => absurd Gt.2.1 (ng Gt.1 t r)⟩
  refine ⟨_, rfl, x, a.c_NoGrowth, _, true, rfl, upd_same, T.lk_NoGrowth, .inr ⟨_, rfl, T.ki_NoGrowth_ValueError⟩, ?_⟩
  exact ⟨_, rfl, q _ (s1.trans (same_new hx _))⟩
theorem dq_refs {K : PySem.W.Frag} {H : Hp} {p q : Addr} {as : List Addr} {n : Nat} (h : SqL K H p (as.map V.ref)) (g : SqL K H q (as.map V.ref)) : Dq K H (n + 1) (.ref p) (.ref q) := by
  refine .inr ⟨p, q, _, _, rfl, rfl, .inl ⟨h, g⟩, rfl, fun i x y e1 e2 => ?_⟩
  rw [e1] at e2
  cases e2
  rw [List.getElem?_map] at e1
  obtain ⟨a, _, rfl⟩ := Option.map_eq_some_iff.mp e1
  cases n with
  | zero => exact .inr ⟨_, rfl, rfl⟩
  | succ n => exact .inl (.inr ⟨_, rfl, rfl⟩)
theorem dq_book {K : PySem.W.Frag} {H : Hp} {p q fa wa wb : Addr} {as bs : List Addr} (h1 : SqT K H p [.ref fa, .ref wb]) (h2 : SqT K H q [.ref fa, .ref wa]) (c : CpA K H as bs) (hw : SqL K H wa (as.map V.ref)) (hv : SqL K H wb (bs.map V.ref)) : Dq K H 4 (.ref p) (.ref q) := by
  refine .inr ⟨p, q, _, _, rfl, rfl, .inr ⟨h1, h2⟩, rfl, fun i x y e1 e2 => ?_⟩
  match i, e1, e2 with
  | 0, e1, e2 => cases e1; cases e2; exact .inl (.inr ⟨_, rfl, rfl⟩)
  | 1, e1, e2 => cases e1; cases e2; exact c.dq hw hv
  | i + 2, e1, _ => exact absurd e1 (by simp)
theorem pls_dq {K : PySem.W.Frag} {H : Hp} {p q : Addr} {as bs : List Addr} {xs : List (Int × Int)} (h : SqL K H p (as.map V.ref)) (ha : PlsA K H as xs) (g : SqL K H q (bs.map V.ref)) (hb : PlsA K H bs xs) : ∀ (i : Nat) x y, (as.map V.ref)[i]? = some x → (bs.map V.ref)[i]? = some y → Dq K H 1 x y := by
  intro i x y e1 e2
  rw [List.getElem?_map] at e1 e2
  obtain ⟨a, ea, rfl⟩ := Option.map_eq_some_iff.mp e1
  obtain ⟨b, eb, rfl⟩ := Option.map_eq_some_iff.mp e2
  have hi : i < xs.length := by rw [← ha.1]; exact (List.getElem?_eq_some_iff.mp ea).1
  refine .inr ⟨a, b, _, _, rfl, rfl, .inr ⟨ha.2 i a _ ea (List.getElem?_eq_getElem hi), hb.2 i b _ eb (List.getElem?_eq_getElem hi)⟩, rfl, fun j x y x1 x2 => ?_⟩
  rw [x1] at x2
  cases x2
  match j, x1 with
  | 0, x1 => cases x1; exact .inl ⟨rfl, rfl, eqV_refl rfl⟩
  | 1, x1 => cases x1; exact .inl ⟨rfl, rfl, eqV_refl rfl⟩
  | j + 2, x1 => exact absurd x1 (by simp [pl])
theorem sc_law : FnScope ["script", "pair", "old", "new", "places", "handed", "due", "found", "spots"] ["script"] (defScope s_law) := ⟨rfl, rfl, rfl, by decide +kernel, rfl, by decide +kernel, by decide +kernel⟩
theorem ok_law (T : Txt P w K mg a) : FnOk P w K mg base CX0 8 a.f_law a.fd_law ["script"] (sp_law K) := by
  have g_l_cell_at := ok_l_cell_at (P := P) (w := w) (base := base) T
  have d_l_cell_at := T.d_l_cell_at
  have g_l_copy := ok_l_copy (P := P) (w := w) (base := base) T
  have d_l_copy := T.d_l_copy
  have g_l_due := ok_l_due (P := P) (w := w) (base := base) T
  have d_l_due := T.d_l_due
  have g_l_pair := ok_l_pair (P := P) (w := w) (base := base) T
  have d_l_pair := T.d_l_pair
  have g_l_place := ok_l_place (P := P) (w := w) (base := base) T
  have d_l_place := T.d_l_place
  have g_l_refused := ok_l_refused (P := P) (w := w) (base := base) T
  have d_l_refused := T.d_l_refused
  have g_l_refused_by_base := ok_l_refused_by_base (P := P) (w := w) (base := base) T
  have d_l_refused_by_base := T.d_l_refused_by_base
  have g_carried := ok_carried (P := P) (w := w) (base := base) T
  have d_carried := T.d_carried
  have g_growth := ok_growth (P := P) (w := w) (base := base) T
  have d_growth := T.d_growth
  have z_isinstance := T.z_isinstance
  have z_len := T.z_len
  have z_list := T.z_list
  have z_range := T.z_range
  refine T.d_law.fn.ok sc_law (fun vs H Q E h => ?_) (fun cdv A outer s H vs Q E hr h => ?_)
  · obtain ⟨a, ns, rfl, _⟩ := h
    rfl
  obtain ⟨sa, ns, rfl, hS, h63, q⟩ := h
  have hu := Nat.lt_of_succ_lt (hu_of hr)
  refine ⟨_, (@pss_cons _ _ _ _ _ (ps_set (i := 1) sc_law.nd rfl (Or.inl rfl) (pe_callD d_l_pair g_l_pair (hr.mono (by decide)) rfl (pa_cons (pv 0) pa_nil)))
      (@pss_cons _ _ _ _ _ (ps_set (i := 2) sc_law.nd rfl (Or.inr rfl) (pe_ix ix_tup (pv 1) pe_int (fun _ _ => rfl)))
      (@pss_cons _ _ _ _ _ (ps_set (i := 3) sc_law.nd rfl (Or.inl rfl) (pe_ix ix_tup (pv 1) pe_int (fun _ _ => rfl)))
      (@pss_cons _ _ _ _ _ (ps_lc (k := 4) rfl (lcok (caps := ["script", "old"]) (js := [0, 2]) (cap := ⟨⟨rfl, .inl rfl, rfl, .inl rfl⟩, ⟨⟨rfl, .inl rfl, rfl, .inl rfl⟩, trivial⟩⟩)) (pi_range1 rfl z_range (pa_cons (pe_callB call_len_seq rfl z_len PySem.boot_len (pa_cons (pe_ix ix_tup (pv 2) pe_int (fun _ _ => rfl)) pa_nil)) pa_nil)) (fun _ _ _ _ => pts_nil) (fun _ _ _ _ => (pe_tup (pa_cons (pe_op op_mul (pv 0) (pe_op op_add pe_int (pe_op op_mod (pv 0) pe_int))) (pa_cons (pe_op op_mod (pe_callD d_l_cell_at g_l_cell_at (hr.mono (by decide)) rfl (pa_cons (pv 1) (pa_cons pe_int pa_nil))) (pe_ix (r := rIxT K) ix_tup (pe_ix (r := rIxT K) ix_tup (pv 2) pe_int (fun _ _ => rfl)) pe_int (fun _ _ => rfl))) pa_nil)))) sc_law.nd rfl rfl)
      (@pss_cons _ _ _ _ _ (ps_set (i := 5) sc_law.nd rfl (Or.inl rfl) (pe_tup (pa_cons (pe_callD d_l_copy g_l_copy (hr.mono (by decide)) rfl (pa_cons (pv 2) pa_nil)) (pa_cons (pe_callD d_l_copy g_l_copy (hr.mono (by decide)) rfl (pa_cons (pv 3) pa_nil)) (pa_cons (pe_callTy call_list_of rfl z_list PyProof.Rows.boot_list (pa_cons (pv 4) pa_nil)) pa_nil)))))
      (@pss_cons _ _ _ _ _ (ps_set (i := 6) sc_law.nd rfl (Or.inl rfl) (pe_callD d_l_due g_l_due (hr.mono (by decide)) rfl (pa_cons (pv 2) (pa_cons (pv 3) pa_nil))))
      (@pss_cons _ _ _ _ _ (ps_set (i := 7) sc_law.nd rfl (Or.inl rfl) (pe_callD d_growth g_growth (hr.mono (by decide)) rfl (pa_cons (pe_ix ix_tup (pv 5) pe_int (fun _ _ => rfl)) (pa_cons (pe_ix ix_tup (pv 5) pe_int (fun _ _ => rfl)) pa_nil))))
      (@pss_cons _ _ _ _ _ (ps_if (pt_cmpR op_isN (pv 6) pe_non (nomark _)) (@pss_cons _ _ _ _ _ (ps_if (PW.pt (pw_or (pt_cmpR op_notN (pv 7) pe_non (nomark _)) (pw_or1 (pt_not (pt_val (pe_callD d_l_refused g_l_refused (hr.mono (by decide)) rfl (pa_cons (pe_ix ix_tup (pv 5) pe_int (fun _ _ => rfl)) (pa_cons (pe_ix ix_tup (pv 5) pe_int (fun _ _ => rfl)) (pa_cons (pe_ix ix_tup (pv 5) pe_int (fun _ _ => rfl)) pa_nil)))) (fun _ => rfl)))))) (pss_one (ps_ret pe_bl)) pss_nil)
      (pss_one (ps_ret (pe_and (pe_callD d_l_refused_by_base g_l_refused_by_base (hr.mono (by decide)) rfl (pa_cons (pe_ix ix_tup (pv 5) pe_int (fun _ _ => rfl)) (pa_cons (pe_ix ix_tup (pv 5) pe_int (fun _ _ => rfl)) (pa_cons (pe_ix ix_tup (pv 5) pe_int (fun _ _ => rfl)) pa_nil)))) (pe_one (pe_cmpR (op_eqQ (hu100 hr)) (pv 5) (pe_tup (pa_cons (pv 2) (pa_cons (pv 3) (pa_cons (pv 4) pa_nil)))) (nomark _))))))) pss_nil)
      (@pss_cons _ _ _ _ _ (ps_if (PW.pt (pw_or (pt_not (pt_val (pe_callD d_l_place g_l_place (hr.mono (by decide)) rfl (pa_cons (pv 7) pa_nil)) (fun _ => rfl))) (pw_or1 (pt_cmpR (op_neT hu) (pv 7) (pv 6) (nomark _))))) (pss_one (ps_ret pe_bl)) pss_nil)
      (@pss_cons _ _ _ _ _ (ps_set (i := 8) sc_law.nd rfl (Or.inl rfl) (pe_callX pass_never d_carried g_carried (hr.mono (by decide)) rfl (pa_cons (pe_ix ix_tup (pv 5) pe_int (fun _ _ => rfl)) (pa_cons (pe_ix ix_tup (pv 5) pe_int (fun _ _ => rfl)) (pa_cons (pe_ix ix_tup (pv 5) pe_int (fun _ _ => rfl)) pa_nil)))))
      (@pss_cons _ _ _ _ _ (ps_if (PW.pt (pw_or (pt_not (pt_val (pe_callB call_isi rfl z_isinstance PyProof.Rows.boot_isinstance (pa_cons (pv 8) (pa_cons (pe_bltn (v := .ty "list") rfl z_list PyProof.Rows.boot_list rfl) pa_nil))) (fun _ => rfl))) (pw_or1 (pt_cmpR (op_neQ (hu100 hr)) (pv 5) (pe_tup (pa_cons (pv 2) (pa_cons (pv 3) (pa_cons (pv 4) pa_nil)))) (nomark _))))) (pss_one (ps_ret pe_bl)) pss_nil)
      (@pss_cons _ _ _ _ _ (ps_if (pt_cmpR (op_neQ (hu100 hr)) (pv 8) (pe_op op_cat (pe_op op_cat (pe_slice sl_list (pv 4) po_none (po_some (pe_ix ix_tup (pv 6) pe_int (fun _ _ => rfl)))) (pe_op op_rep (pe_lst (pa_cons (pe_tup (pa_cons pe_int (pa_cons pe_int pa_nil))) pa_nil)) (pe_ix ix_tup (pv 6) pe_int (fun _ _ => rfl)))) (pe_slice sl_list (pv 4) (po_some (pe_ix ix_tup (pv 6) pe_int (fun _ _ => rfl))) po_none)) (nomark _)) (pss_one (ps_ret pe_bl)) pss_nil)
      (@pss_cons _ _ _ _ _ (ps_expr (pe_bm PySem.F.plainAttrs_list PySem.F.slot_list_append PySem.F.type_list_append mt_append (pv 8) (pa_cons (pe_tup (pa_cons pe_int (pa_cons pe_int pa_nil))) pa_nil)))
      (pss_one (ps_ret (pe_and (pe_cmpR (op_eqQ (hu100 hr)) (pe_ix ix_tup (pv 5) pe_int (fun _ _ => rfl)) (pv 4) (nomark _)) (pe_one (pe_cmpR (op_eqT hu) (pe_callD d_growth g_growth (hr.mono (by decide)) rfl (pa_cons (pe_ix ix_tup (pv 5) pe_int (fun _ _ => rfl)) (pa_cons (pe_ix ix_tup (pv 5) pe_int (fun _ _ => rfl)) pa_nil))) (pe_tup (pa_cons pe_int (pa_cons pe_int pa_nil))) (nomark _))))))))))))))))))), ?_⟩
  refine ⟨_, rfl, sa, ns, rfl, hS, fun pq oq nq F G ds es H1 s1 hpq hbo hbn Fh d8 e60 fds fes => ?_⟩
  dsimp only [gName]
  have hbo0 := hbo
  have hbn0 := hbn
  obtain ⟨fa, wa, was, hb, hf, hw, hws⟩ := hbo
  obtain ⟨fb, wb, wbs, hb2, hf2, hw2, hws2⟩ := hbn
  have el : (was.map V.ref).length = ds.length := by rw [List.length_map, hws.1]
  refine ⟨_, rfl, _, _, _, _, rfl, rfl, hpq, rfl, ?_⟩
  dsimp only [gName]
  refine ⟨_, rfl, _, _, _, _, rfl, rfl, hpq, rfl, ?_⟩
  dsimp only [gName]
  refine ⟨_, rfl, _, _, _, _, rfl, rfl, hb, rfl, _, _, rfl, .inl hw, _, rfl, (by rw [el]; omega), (by rw [el]; omega), ?_⟩
  rw [el, Int.toNat_natCast]
  refine lc_range (fun i ys H2 => Same H1 H2 ∧ ∃ (as : List Addr) (xs : List (Int × Int)), ys = as.map V.ref ∧ as.length = i ∧ PlsA K H2 as xs) ⟨Same.refl _, [], [], rfl, rfl, ⟨rfl, fun i a x e => by simp at e⟩⟩ ?_ ?_ ?_
  · rintro i ys H2 hi ⟨_, as, xs, rfl, al, _⟩
    rw [List.length_map, al]
    exact Nat.lt_of_lt_of_le (show i < 1000 by omega) (small (Nat.le_refl _))
  · rintro i ys H2 hi ⟨s2, as, xs, rfl, al, ha⟩
    refine yes_go ?_
    refine ⟨_, rfl, _, rfl, _, _, rfl, rfl, (by (first | decide | (show (0 : Int) < _; first | decide | omega))), _, _, rfl, rfl, _, _, rfl, rfl, .inl ⟨by omega, by omega⟩, _, rfl, sa, ns, (0 : Nat), rfl, (s1.trans s2).seq hS, _, rfl, _, _, _, _, rfl, rfl, s2.tup hb, rfl, _, _, _, _, rfl, rfl, s2.tup hf, rfl, _, _, rfl, rfl, Fh, le2, fun p1 hp1 => ?_⟩
    have s3 := same_new hp1 (.tup [V.int ((0 + (i : Int)) * (1 + (0 + (i : Int)) % 3)), V.int (ns.getD 0 0 % F.h)])
    refine ⟨s2.trans s3, as ++ [p1], xs ++ [((0 + (i : Int)) * (1 + (0 + (i : Int)) % 3), ns.getD 0 0 % F.h)], refs_snoc _ _, by simp [al], ?_⟩
    exact (ha.same s3).snoc (SqT.of upd_same)
  rintro ys H2 ⟨s2, as, xs, rfl, al, ha⟩ la hla
  have xl : xs.length = ds.length := by rw [← ha.1, al]
  have s3 := same_new hla (.lst (as.map V.ref))
  have h3 : (upd H2 la (.lst (as.map V.ref))) la = some (.lst (as.map V.ref)) := upd_same
  have ha3 := ha.same s3
  generalize upd H2 la (.lst (as.map V.ref)) = H3 at s3 h3 ha3 ⊢
  dsimp only [gName]
  have t3 := s2.trans s3
  refine ⟨_, rfl, oq, fa, wa, was, F, ds, rfl, t3.tup hb, t3.tup hf, t3.seq hw, hws.same t3, (by omega), fun o2 wa' was' H4 s4 k1 k2 k3 k4 => ?_⟩
  have t4 := t3.trans s4
  refine ⟨_, rfl, nq, fb, wb, wbs, G, es, rfl, t4.tup hb2, t4.tup hf2, t4.seq hw2, hws2.same t4, (by omega), fun n2 wb' wbs' H5 s5 l1 l2 l3 l4 => ?_⟩
  have t5 := t4.trans s5
  have u5 := s4.trans s5
  refine ⟨_, rfl, _, _, rfl, .inl (SqL.of (u5 _ _ h3)), fun p2 hp2 => ?_⟩
  have s6 := same_new hp2 (.lst (as.map V.ref))
  have h6 : (upd H5 p2 (.lst (as.map V.ref))) p2 = some (.lst (as.map V.ref)) := upd_same
  generalize upd H5 p2 (.lst (as.map V.ref)) = H6 at s6 h6 ⊢
  refine ⟨(by decide : 3 ≤ sizeLine), fun hd hhd => ?_⟩
  have s7 := same_new hhd (.tup [V.ref o2, V.ref n2, V.ref p2])
  have h7 : SqT K (upd H6 hd (.tup [V.ref o2, V.ref n2, V.ref p2])) hd [V.ref o2, V.ref n2, V.ref p2] := SqT.of upd_same
  generalize upd H6 hd (.tup [V.ref o2, V.ref n2, V.ref p2]) = H7 at s7 h7 ⊢
  dsimp only [gName]
  have v7 := s6.trans s7
  have w7 := s5.trans v7
  have t7 := t5.trans v7
  have x7 := u5.trans v7
  have bo : BkAt K H7 o2 F.w F.h F.f F.m ds := ⟨fa, wa', was', w7.tup k1, t7.tup hf, w7.seq k2, k3.same w7⟩
  have bn : BkAt K H7 n2 G.w G.h G.f G.m es := ⟨fb, wb', wbs', v7.tup l1, t7.tup hf2, v7.seq l2, l3.same v7⟩
  have hp7 : LwAt K H7 p2 xs := ⟨as, SqL.of (s7 _ _ h6), ha3.same x7⟩
  have f40 : ∀ d ∈ ds, d.foot.length ≤ 40 := fun d hd => by have := (fds d hd).n; omega
  have deq : ∀ H8, Same H7 H8 → ∀ tp, SqT K H8 tp [V.ref oq, V.ref nq, V.ref la] → ∀ (i : Nat) x y, [V.ref o2, V.ref n2, V.ref p2][i]? = some x → [V.ref oq, V.ref nq, V.ref la][i]? = some y → Dq K H8 4 x y := fun H8 s8 tp htp i x y e1 e2 => by
    match i, e1, e2 with
    | 0, e1, e2 => cases e1; cases e2; exact dq_book ((w7.trans s8).tup k1) ((t7.trans s8).tup hb) (k4.same (w7.trans s8)) ((t7.trans s8).seq hw) ((w7.trans s8).seq k2)
    | 1, e1, e2 => cases e1; cases e2; exact dq_book ((v7.trans s8).tup l1) ((t7.trans s8).tup hb2) (l4.same (v7.trans s8)) ((t7.trans s8).seq hw2) ((v7.trans s8).seq l2)
    | 2, e1, e2 => cases e1; cases e2; exact dq_refs (SqL.of ((s7.trans s8) _ _ h6)) (SqL.of ((x7.trans s8) _ _ h3))
    | i + 3, e1, _ => exact absurd e1 (by simp)
  refine ⟨_, rfl, _, rfl, oq, nq, F, G, ds, es, rfl, hbo0.same t7, hbn0.same t7, by omega, e60, f40, fun ng H8 s8 => ?_, fun du t r H8 s8 hdu Gt => ?_⟩
  · dsimp only [gName]
    refine ⟨_, rfl, _, _, _, _, rfl, rfl, s8.tup h7, rfl, _, rfl, _, _, _, _, rfl, rfl, s8.tup h7, rfl, o2, n2, F, G, ds, es, rfl, bo.same s8, bn.same s8, by omega, e60, f40, fun _ H9 s9 => ?_, fun p t r H9 s9 hp Gt => absurd Gt.2.1 (ng Gt.1 t r)⟩
    dsimp only [gName]
    have t9 := s8.trans s9
    refine ⟨_, rfl, rfl, _, rfl, ?_⟩
    refine iteT ?_
    refine ⟨_, rfl, rfl, _, rfl, ?_⟩
    refine iteF ?_
    refine ⟨_, rfl, _, _, _, _, rfl, rfl, t9.tup h7, rfl, _, rfl, _, _, _, _, rfl, rfl, t9.tup h7, rfl, _, rfl, _, _, _, _, rfl, rfl, t9.tup h7, rfl, o2, n2, p2, F, G, ds, es, xs, rfl, bo.same t9, bn.same t9, by omega, e60, f40, hp7.same t9, xl, ng, fun HA sA => ?_⟩
    refine ⟨_, rfl, ?_⟩
    refine iteF ?_
    dsimp only [tNext]
    have tA := t9.trans sA
    refine ⟨_, rfl, _, _, _, _, rfl, rfl, tA.tup h7, rfl, _, rfl, _, _, _, _, rfl, rfl, tA.tup h7, rfl, _, rfl, _, _, _, _, rfl, rfl, tA.tup h7, rfl, o2, n2, p2, F, G, ds, es, xs, rfl, bo.same tA, bn.same tA, by omega, e60, f40, hp7.same tA, xl, ng, fun HB sB => ?_⟩
    refine ⟨_, rfl, ?_⟩
    refine iteT ?_
    have tB := tA.trans sB
    refine ⟨_, rfl, _, rfl, _, rfl, _, rfl, (by decide : 3 ≤ sizeLine), fun p4 hp4 => ?_⟩
    have sC := same_new hp4 (.tup [V.ref oq, V.ref nq, V.ref la])
    refine ⟨4, hd, p4, _, _, by decide, rfl, rfl, .inr ⟨(tB.trans sC).tup h7, SqT.of upd_same⟩, rfl, deq _ (tB.trans sC) p4 (SqT.of upd_same), ?_⟩
    exact q _
  dsimp only [gName]
  refine ⟨_, rfl, _, _, _, _, rfl, rfl, s8.tup h7, rfl, _, rfl, _, _, _, _, rfl, rfl, s8.tup h7, rfl, o2, n2, F, G, ds, es, rfl, bo.same s8, bn.same s8, by omega, e60, f40, fun ng => absurd Gt.2.1 (ng Gt.1 t r), fun p t' r' H9 s9 hp Gt' => ?_⟩
  obtain ⟨rfl, rfl⟩ := Gt.one Gt'
  dsimp only [gName]
  have t9 := s8.trans s9
  have hdu9 := s9.tup hdu
  refine ⟨_, rfl, rfl, _, rfl, ?_⟩
  refine iteF ?_
  dsimp only [tNext]
  refine ⟨_, rfl, p, ((t : Int), (r : Int)), rfl, hp, fun HA sA => ?_⟩
  refine ⟨_, rfl, ?_⟩
  refine iteF ?_
  refine ⟨_, rfl, _, rfl, _, _, _, _, rfl, rfl, sA.tup hp, sA.tup hdu9, rfl, rfl, _, rfl, ?_⟩
  show if (!eqVs _ _) = true then _ else _
  rw [eqVs_refl (show [V.int ((t : Nat) : Int), V.int ((r : Nat) : Int)].all flatV = true from rfl)]
  refine iteF ?_
  dsimp only [tNext]
  have tA := t9.trans sA
  have hduA := sA.tup hdu9
  have al1 := Gt.2.1.at1
  have rl := Gt.2.1.len
  refine ⟨_, rfl, _, _, _, _, rfl, rfl, tA.tup h7, rfl, _, rfl, _, _, _, _, rfl, rfl, tA.tup h7, rfl, _, rfl, _, _, _, _, rfl, rfl, tA.tup h7, rfl, o2, n2, p2, F, G, ds, es, xs, rfl, bo.same tA, bn.same tA, by omega, e60, f40, hp7.same tA, xl, fun ng => absurd Gt.2.1 (ng Gt.1 t r), fun sp cs t' r' HB sB nsp hsp hcs Gt' => ?_⟩
  obtain ⟨rfl, rfl⟩ := Gt.one Gt'
  dsimp only [gName]
  have tB := tA.trans sB
  refine ⟨_, rfl, _, "list", true, rfl, (by decide), .inl ⟨⟨_, SqL.of hsp⟩, rfl⟩, _, rfl, ?_⟩
  refine iteF ?_
  refine ⟨_, rfl, _, rfl, _, rfl, _, rfl, (by decide : 3 ≤ sizeLine), fun p4 hp4 => ?_⟩
  have sC := same_new hp4 (.tup [V.ref oq, V.ref nq, V.ref la])
  refine ⟨4, hd, p4, _, _, by decide, rfl, rfl, .inr ⟨(tB.trans sC).tup h7, SqT.of upd_same⟩, rfl, deq _ (tB.trans sC) p4 (SqT.of upd_same), _, rfl, ?_⟩
  refine iteF ?_
  dsimp only [tNext]
  have kC := sC _ _ hsp
  have hcC := hcs.same sC
  generalize upd HB p4 (.tup [V.ref oq, V.ref nq, V.ref la]) = HC at sC kC hcC ⊢
  have tC := tB.trans sC
  have hduC := (sB.trans sC).tup hduA
  have h3C : SqL K HC la (as.map V.ref) := SqL.of ((x7.trans tC) _ _ h3)
  have haC := ha3.same (x7.trans tC)
  refine ⟨_, rfl, _, rfl, _, rfl, _, _, _, _, rfl, rfl, hduC, rfl, _, rfl, _, _, rfl, h3C, fun p6 hp6 => ?_⟩
  rw [cutV_map, cut_to]
  have sD := same_new hp6 (.lst ((as.take t).map V.ref))
  have hD : (upd HC p6 (.lst ((as.take t).map V.ref))) p6 = some (.lst ((as.take t).map V.ref)) := upd_same
  generalize upd HC p6 (.lst ((as.take t).map V.ref)) = HD at sD hD ⊢
  refine ⟨le2, fun p7 hp7' => ?_⟩
  have sE := same_new hp7' (.tup [V.int 0, V.int 0])
  have hE : (upd HD p7 (.tup [V.int 0, V.int 0])) p7 = some (.tup [V.int 0, V.int 0]) := upd_same
  change _ ∧ ∀ p4, (upd HD p7 (.tup [V.int 0, V.int 0])) p4 = none → _
  generalize upd HD p7 (.tup [V.int 0, V.int 0]) = HE at sE hE ⊢
  refine ⟨le1, fun p8 hp8 => ?_⟩
  have sF := same_new hp8 (.lst [V.ref p7])
  have hF : (upd HE p8 (.lst [V.ref p7])) p8 = some (.lst [V.ref p7]) := upd_same
  generalize upd HE p8 (.lst [V.ref p7]) = HF at sF hF ⊢
  refine ⟨_, rfl, _, _, _, _, rfl, rfl, (sD.trans (sE.trans sF)).tup hduC, rfl, _, _, _, rfl, rfl, hF, (by omega), (by omega), small (by simp; omega), fun p9 hp9 => ?_⟩
  rw [Int.toNat_natCast, rep1, ← List.map_replicate]
  have sG := same_new hp9 (.lst ((List.replicate r p7).map V.ref))
  have hG : (upd HF p9 (.lst ((List.replicate r p7).map V.ref))) p9 = some (.lst ((List.replicate r p7).map V.ref)) := upd_same
  generalize upd HF p9 (.lst ((List.replicate r p7).map V.ref)) = HG at sG hG ⊢
  have uG := sE.trans (sF.trans sG)
  refine ⟨_, _, _, _, rfl, rfl, uG _ _ hD, hG, small (by rw [List.length_map, List.length_map, List.length_take, List.length_replicate]; omega), fun pA hpA => ?_⟩
  rw [← List.map_append]
  have sI := same_new hpA (.lst ((as.take t ++ List.replicate r p7).map V.ref))
  have hI : (upd HG pA (.lst ((as.take t ++ List.replicate r p7).map V.ref))) pA = some (.lst ((as.take t ++ List.replicate r p7).map V.ref)) := upd_same
  generalize upd HG pA (.lst ((as.take t ++ List.replicate r p7).map V.ref)) = HI at sI hI ⊢
  have uI := sD.trans (uG.trans sI)
  refine ⟨_, rfl, _, rfl, _, _, _, _, rfl, rfl, uI.tup hduC, rfl, _, rfl, _, _, rfl, uI.seq h3C, fun pB hpB => ?_⟩
  rw [cutV_map, cut_fr]
  have sJ := same_new hpB (.lst ((as.drop t).map V.ref))
  have hJ : (upd HI pB (.lst ((as.drop t).map V.ref))) pB = some (.lst ((as.drop t).map V.ref)) := upd_same
  generalize upd HI pB (.lst ((as.drop t).map V.ref)) = HJ at sJ hJ ⊢
  refine ⟨_, _, _, _, rfl, rfl, sJ _ _ hI, hJ, small (by rw [List.length_map, List.length_map, List.length_append, List.length_take, List.length_replicate, List.length_drop]; omega), fun pC hpC => ?_⟩
  rw [← List.map_append]
  have sK := same_new hpC (.lst ((as.take t ++ List.replicate r p7 ++ as.drop t).map V.ref))
  have hK : (upd HJ pC (.lst ((as.take t ++ List.replicate r p7 ++ as.drop t).map V.ref))) pC = some (.lst ((as.take t ++ List.replicate r p7 ++ as.drop t).map V.ref)) := upd_same
  generalize upd HJ pC (.lst ((as.take t ++ List.replicate r p7 ++ as.drop t).map V.ref)) = HK at sK hK ⊢
  have uK := uI.trans (sJ.trans sK)
  have haK := haC.same uK
  have P0 : PlsA K HK (as.take t ++ List.replicate r p7 ++ as.drop t) (carry t r xs) := ((haK.take t).app (PlsA.rep _ (SqT.of ((sF.trans (sG.trans (sI.trans (sJ.trans sK)))) _ _ hE)))).app (haK.drop t)
  have hcK := hcC.same uK
  have kK := uK _ _ kC
  refine ⟨1, sp, pC, cs.map V.ref, _, by decide, rfl, rfl, .inl ⟨SqL.of kK, SqL.of hK⟩, (by rw [List.length_map, List.length_map, hcs.1, P0.1]), pls_dq (SqL.of kK) hcK (SqL.of hK) P0, _, rfl, ?_⟩
  refine iteF ?_
  dsimp only [tNext]
  refine ⟨_, rfl, .inl ⟨rfl, _, SqL.of kK⟩, le2, fun pD hpD => ?_⟩
  have sL := same_new hpD (.tup [V.int 0, V.int 0])
  have kL := sL _ _ kK
  have csl : cs.length ≤ 200 := by rw [hcs.1, carry_len (by omega)]; omega
  refine ⟨_, _, _, rfl, rfl, kL, (by rw [List.length_map]; exact Nat.lt_of_lt_of_le (show cs.length < 1000 by omega) (small (Nat.le_refl _))), ?_⟩
  have uL : Same HA (upd (upd HK pD (.tup [V.int 0, V.int 0])) sp (.lst (cs.map V.ref ++ [V.ref pD]))) := (sB.trans (sC.trans (uK.trans sL))).put nsp
  change _
  generalize upd (upd HK pD (.tup [V.int 0, V.int 0])) sp (.lst (cs.map V.ref ++ [V.ref pD])) = HL at uL ⊢
  have tL := tA.trans uL
  refine ⟨_, rfl, _, _, _, _, rfl, rfl, tL.tup h7, rfl, _, rfl, 0, p2, la, as.map V.ref, as.map V.ref, by decide, rfl, rfl, .inl ⟨SqL.of ((s7.trans tL) _ _ h6), SqL.of ((x7.trans tL) _ _ h3)⟩, rfl, fun i x y e1 e2 => ?_, _, rfl, ?_⟩
  · rw [e1] at e2
    cases e2
    rw [List.getElem?_map] at e1
    obtain ⟨a, _, rfl⟩ := Option.map_eq_some_iff.mp e1
    exact .inr ⟨_, rfl, rfl⟩
  refine iteT ?_
  refine ⟨_, rfl, _, _, _, _, rfl, rfl, tL.tup h7, rfl, _, rfl, _, _, _, _, rfl, rfl, tL.tup h7, rfl, o2, o2, F, F, ds, ds, rfl, bo.same tL, bo.same tL, by omega, by omega, f40, fun ng => absurd (grown_self ds) (ng rfl 0 0), fun pE t' r' HM sM hpE Gt2 => ?_⟩
  have g0 : GrT F F ds ds 0 0 := ⟨rfl, grown_self ds, fun s hs => absurd hs (Nat.not_lt_zero _)⟩
  obtain ⟨rfl, rfl⟩ := g0.one Gt2
  refine ⟨le2, fun pF hpF => ?_⟩
  have sN := same_new hpF (.tup [V.int 0, V.int 0])
  refine ⟨_, _, _, _, rfl, rfl, sN.tup hpE, SqT.of upd_same, rfl, rfl, ?_⟩
  exact q _
end
noncomputable abbrev fdA (n : Str) (s : Stmt) (d kV dc pm : Value) (an : Option Addr) (cd ct : Value) : FuncData := PySem.W.fnOf n n (defArgs s) (defBody s) (defScope s) d kV dc pm an cd ct
abbrev Na (K : PySem.W.Frag) (n : Str) (f : Addr) : Prop := PySem.W.nsIn K mainGlobals n = some (some (.ref f))
abbrev Lk (K : PySem.W.Frag) (f : Addr) (n : Str) (s : Stmt) (d oc : Value) (od : Option Addr) (sl : Array (Option Value)) (kV dc pm : Value) (an : Option Addr) (cd ct : Value) : Prop := K.lookup f = some ⟨oc, od, .func (fdA n s d kV dc pm an cd ct), sl⟩
abbrev Cd (K : PySem.W.Frag) (c : Value) (n : Str) : Prop := PySem.W.codeIn K c n = true
abbrev Kp (K : PySem.W.Frag) (f : Addr) : Prop := PySem.W.keepIn K (.ref f) = true
abbrev Zn (K : PySem.W.Frag) (n : Str) : Prop := PySem.W.nsIn K mainGlobals n = some none
theorem us1 {us : List Value} (h : us.length = 1) : ∃ a0, us = [a0] := by
  match us, h with
  | [a0], _ => exact ⟨a0, rfl⟩
theorem us2 {us : List Value} (h : us.length = 2) : ∃ a0 a1, us = [a0, a1] := by
  match us, h with
  | [a0, a1], _ => exact ⟨a0, a1, rfl⟩
theorem us3 {us : List Value} (h : us.length = 3) : ∃ a0 a1 a2, us = [a0, a1, a2] := by
  match us, h with
  | [a0, a1, a2], _ => exact ⟨a0, a1, a2, rfl⟩
theorem us4 {us : List Value} (h : us.length = 4) : ∃ a0 a1 a2 a3, us = [a0, a1, a2, a3] := by
  match us, h with
  | [a0, a1, a2, a3], _ => exact ⟨a0, a1, a2, a3, rfl⟩
theorem txt_mk {P : Program} {w : World} {K : PySem.W.Frag} {h : Heap} {mg : Str → Option Value} (X : K.In h) (G : h.Ns mainGlobals mg)
    {od0 an0 od1 an1 od2 an2 od3 an3 od4 an4 od5 an5 od6 an6 od7 an7 od8 an8 od9 an9 od10 an10 od11 an11 od12 an12 od13 an13 od14 an14 od15 an15 od16 an16 od17 an17 od18 an18 od19 an19 od20 an20 : Option Addr} {sl0 sl1 sl2 sl3 sl4 sl5 sl6 sl7 sl8 sl9 sl10 sl11 sl12 sl13 sl14 sl15 sl16 sl17 sl18 sl19 sl20 : Array (Option Value)} {oc0 kV0 dc0 pm0 cd0 ct0 oc1 kV1 dc1 pm1 cd1 ct1 oc2 kV2 dc2 pm2 cd2 ct2 oc3 kV3 dc3 pm3 cd3 ct3 oc4 kV4 dc4 pm4 cd4 ct4 oc5 kV5 dc5 pm5 cd5 ct5 oc6 kV6 dc6 pm6 cd6 ct6 oc7 kV7 dc7 pm7 cd7 ct7 oc8 kV8 dc8 pm8 cd8 ct8 oc9 kV9 dc9 pm9 cd9 ct9 oc10 kV10 dc10 pm10 cd10 ct10 oc11 kV11 dc11 pm11 cd11 ct11 oc12 kV12 dc12 pm12 cd12 ct12 oc13 kV13 dc13 pm13 cd13 ct13 oc14 kV14 dc14 pm14 cd14 ct14 oc15 kV15 dc15 pm15 cd15 ct15 oc16 kV16 dc16 pm16 cd16 ct16 oc17 kV17 dc17 pm17 cd17 ct17 oc18 kV18 dc18 pm18 cd18 ct18 oc19 kV19 dc19 pm19 cd19 ct19 oc20 kV20 dc20 pm20 cd20 ct20 : Value} {f0 f1 f2 f3 f4 f5 f6 f7 f8 f9 f10 f11 f12 f13 f14 f15 f16 f17 f18 f19 f20 : Addr}
    (a0 : Na K "_law_cell_at" f0) (l0 : Lk K f0 "_law_cell_at" s_l_cell_at .none oc0 od0 sl0 kV0 dc0 pm0 an0 cd0 ct0) (c0 : Cd K cd0 "_law_cell_at") (k0 : Kp K f0)
    (a1 : Na K "_law_copy" f1) (l1 : Lk K f1 "_law_copy" s_l_copy .none oc1 od1 sl1 kV1 dc1 pm1 an1 cd1 ct1) (c1 : Cd K cd1 "_law_copy") (k1 : Kp K f1)
    (a2 : Na K "_law_moved_saying" f2) (l2 : Lk K f2 "_law_moved_saying" s_l_moved_saying .none oc2 od2 sl2 kV2 dc2 pm2 an2 cd2 ct2) (c2 : Cd K cd2 "_law_moved_saying") (k2 : Kp K f2)
    (a3 : Na K "_law_moved" f3) (l3 : Lk K f3 "_law_moved" s_l_moved .none oc3 od3 sl3 kV3 dc3 pm3 an3 cd3 ct3) (c3 : Cd K cd3 "_law_moved") (k3 : Kp K f3)
    (a4 : Na K "_law_put_in" f4) (l4 : Lk K f4 "_law_put_in" s_l_put_in .none oc4 od4 sl4 kV4 dc4 pm4 an4 cd4 ct4) (c4 : Cd K cd4 "_law_put_in") (k4 : Kp K f4)
    (a5 : Na K "_law_due" f5) (l5 : Lk K f5 "_law_due" s_l_due .none oc5 od5 sl5 kV5 dc5 pm5 an5 cd5 ct5) (c5 : Cd K cd5 "_law_due") (k5 : Kp K f5)
    (a6 : Na K "_law_stream" f6) (l6 : Lk K f6 "_law_stream" s_l_stream .none oc6 od6 sl6 kV6 dc6 pm6 an6 cd6 ct6) (c6 : Cd K cd6 "_law_stream") (k6 : Kp K f6)
    (a7 : Na K "_law_few" f7) (l7 : Lk K f7 "_law_few" s_l_few .none oc7 od7 sl7 kV7 dc7 pm7 an7 cd7 ct7) (c7 : Cd K cd7 "_law_few") (k7 : Kp K f7)
    (a8 : Na K "_law_within" f8) (l8 : Lk K f8 "_law_within" s_l_within .none oc8 od8 sl8 kV8 dc8 pm8 an8 cd8 ct8) (c8 : Cd K cd8 "_law_within") (k8 : Kp K f8)
    (a9 : Na K "_law_pair" f9) (l9 : Lk K f9 "_law_pair" s_l_pair .none oc9 od9 sl9 kV9 dc9 pm9 an9 cd9 ct9) (c9 : Cd K cd9 "_law_pair") (k9 : Kp K f9)
    (a10 : Na K "_law_whole" f10) (l10 : Lk K f10 "_law_whole" s_l_whole .none oc10 od10 sl10 kV10 dc10 pm10 an10 cd10 ct10) (c10 : Cd K cd10 "_law_whole") (k10 : Kp K f10)
    (a11 : Na K "_law_place" f11) (l11 : Lk K f11 "_law_place" s_l_place .none oc11 od11 sl11 kV11 dc11 pm11 an11 cd11 ct11) (c11 : Cd K cd11 "_law_place") (k11 : Kp K f11)
    (a12 : Na K "shifted" f12) (l12 : Lk K f12 "shifted" s_shifted .none oc12 od12 sl12 kV12 dc12 pm12 an12 cd12 ct12) (c12 : Cd K cd12 "shifted") (k12 : Kp K f12)
    (a13 : Na K "saying_shifted" f13) (l13 : Lk K f13 "saying_shifted" s_saying_shifted .none oc13 od13 sl13 kV13 dc13 pm13 an13 cd13 ct13) (c13 : Cd K cd13 "saying_shifted") (k13 : Kp K f13)
    (a14 : Na K "word_shifted" f14) (l14 : Lk K f14 "word_shifted" s_word_shifted .none oc14 od14 sl14 kV14 dc14 pm14 an14 cd14 ct14) (c14 : Cd K cd14 "word_shifted") (k14 : Kp K f14)
    (a15 : Na K "grown_at" f15) (l15 : Lk K f15 "grown_at" s_grown_at .none oc15 od15 sl15 kV15 dc15 pm15 an15 cd15 ct15) (c15 : Cd K cd15 "grown_at") (k15 : Kp K f15)
    (a16 : Na K "growth" f16) (l16 : Lk K f16 "growth" s_growth .none oc16 od16 sl16 kV16 dc16 pm16 an16 cd16 ct16) (c16 : Cd K cd16 "growth") (k16 : Kp K f16)
    (a17 : Na K "carried" f17) (l17 : Lk K f17 "carried" s_carried .none oc17 od17 sl17 kV17 dc17 pm17 an17 cd17 ct17) (c17 : Cd K cd17 "carried") (k17 : Kp K f17)
    (a18 : Na K "_law_refused" f18) (l18 : Lk K f18 "_law_refused" s_l_refused .none oc18 od18 sl18 kV18 dc18 pm18 an18 cd18 ct18) (c18 : Cd K cd18 "_law_refused") (k18 : Kp K f18)
    (a19 : Na K "_law_refused_by_base" f19) (l19 : Lk K f19 "_law_refused_by_base" s_l_refused_by_base .none oc19 od19 sl19 kV19 dc19 pm19 an19 cd19 ct19) (c19 : Cd K cd19 "_law_refused_by_base") (k19 : Kp K f19)
    (a20 : Na K "law" f20) (l20 : Lk K f20 "law" s_law .none oc20 od20 sl20 kV20 dc20 pm20 an20 cd20 ct20) (c20 : Cd K cd20 "law") (k20 : Kp K f20)
    (z_ValueError : Zn K "ValueError")
    (z_all : Zn K "all")
    (z_bool : Zn K "bool")
    (z_enumerate : Zn K "enumerate")
    (z_int : Zn K "int")
    (z_isinstance : Zn K "isinstance")
    (z_len : Zn K "len")
    (z_list : Zn K "list")
    (z_range : Zn K "range")
    (z_tuple : Zn K "tuple")
    {c_BadPaper : Addr} (m_BadPaper : PySem.W.nsIn K mainGlobals "BadPaper" = some (some (.ref c_BadPaper))) (e_BadPaper : PySem.W.excIn K c_BadPaper veTail "ValueError.__new__" = true)
    {c_NoGrowth : Addr} (m_NoGrowth : PySem.W.nsIn K mainGlobals "NoGrowth" = some (some (.ref c_NoGrowth))) (e_NoGrowth : PySem.W.excIn K c_NoGrowth veTail "ValueError.__new__" = true)
    {c_TrueleafError : Addr} (m_TrueleafError : PySem.W.nsIn K mainGlobals "TrueleafError" = some (some (.ref c_TrueleafError))) (e_TrueleafError : PySem.W.excIn K c_TrueleafError veTail "ValueError.__new__" = true)
    (t_NoGrowth_NoGrowth : Takes K c_NoGrowth c_NoGrowth)
    (t_NoGrowth_TrueleafError : Takes K c_NoGrowth c_TrueleafError)
    (lk_NoGrowth : excLk K c_NoGrowth = true)
    (ki_NoGrowth_BadPaper : PySem.W.kitOne K (.ref c_NoGrowth) (.ref c_BadPaper) = some false)
    (ki_NoGrowth_ValueError : PySem.W.kitOne K (.ref c_NoGrowth) (.type "ValueError") = some true) :
    ∃ a : Adr, Txt P w K mg a := by
  refine ⟨{ f_l_cell_at := f0, fd_l_cell_at := fdA "_law_cell_at" s_l_cell_at .none kV0 dc0 pm0 an0 cd0 ct0, f_l_copy := f1, fd_l_copy := fdA "_law_copy" s_l_copy .none kV1 dc1 pm1 an1 cd1 ct1, f_l_moved_saying := f2, fd_l_moved_saying := fdA "_law_moved_saying" s_l_moved_saying .none kV2 dc2 pm2 an2 cd2 ct2, f_l_moved := f3, fd_l_moved := fdA "_law_moved" s_l_moved .none kV3 dc3 pm3 an3 cd3 ct3, f_l_put_in := f4, fd_l_put_in := fdA "_law_put_in" s_l_put_in .none kV4 dc4 pm4 an4 cd4 ct4, f_l_due := f5, fd_l_due := fdA "_law_due" s_l_due .none kV5 dc5 pm5 an5 cd5 ct5, f_l_stream := f6, fd_l_stream := fdA "_law_stream" s_l_stream .none kV6 dc6 pm6 an6 cd6 ct6, f_l_few := f7, fd_l_few := fdA "_law_few" s_l_few .none kV7 dc7 pm7 an7 cd7 ct7, f_l_within := f8, fd_l_within := fdA "_law_within" s_l_within .none kV8 dc8 pm8 an8 cd8 ct8, f_l_pair := f9, fd_l_pair := fdA "_law_pair" s_l_pair .none kV9 dc9 pm9 an9 cd9 ct9, f_l_whole := f10, fd_l_whole := fdA "_law_whole" s_l_whole .none kV10 dc10 pm10 an10 cd10 ct10, f_l_place := f11, fd_l_place := fdA "_law_place" s_l_place .none kV11 dc11 pm11 an11 cd11 ct11, f_shifted := f12, fd_shifted := fdA "shifted" s_shifted .none kV12 dc12 pm12 an12 cd12 ct12, f_saying_shifted := f13, fd_saying_shifted := fdA "saying_shifted" s_saying_shifted .none kV13 dc13 pm13 an13 cd13 ct13, f_word_shifted := f14, fd_word_shifted := fdA "word_shifted" s_word_shifted .none kV14 dc14 pm14 an14 cd14 ct14, f_grown_at := f15, fd_grown_at := fdA "grown_at" s_grown_at .none kV15 dc15 pm15 an15 cd15 ct15, f_growth := f16, fd_growth := fdA "growth" s_growth .none kV16 dc16 pm16 an16 cd16 ct16, f_carried := f17, fd_carried := fdA "carried" s_carried .none kV17 dc17 pm17 an17 cd17 ct17, f_l_refused := f18, fd_l_refused := fdA "_law_refused" s_l_refused .none kV18 dc18 pm18 an18 cd18 ct18, f_l_refused_by_base := f19, fd_l_refused_by_base := fdA "_law_refused_by_base" s_l_refused_by_base .none kV19 dc19 pm19 an19 cd19 ct19, f_law := f20, fd_law := fdA "law" s_law .none kV20 dc20 pm20 an20 cd20 ct20, c_BadPaper := c_BadPaper, c_NoGrowth := c_NoGrowth, c_TrueleafError := c_TrueleafError }, {
    d_l_cell_at := defok_mk X G a0 l0 c0 k0 fun _ _ _ _ _ _ us hl => by obtain ⟨_, ⟨_, rfl⟩⟩ := us2 hl; rfl,
    d_l_copy := defok_mk X G a1 l1 c1 k1 fun _ _ _ _ _ _ us hl => by obtain ⟨_, rfl⟩ := us1 hl; rfl,
    d_l_moved_saying := defok_mk X G a2 l2 c2 k2 fun _ _ _ _ _ _ us hl => by obtain ⟨_, ⟨_, ⟨_, rfl⟩⟩⟩ := us3 hl; rfl,
    d_l_moved := defok_mk X G a3 l3 c3 k3 fun _ _ _ _ _ _ us hl => by obtain ⟨_, ⟨_, ⟨_, rfl⟩⟩⟩ := us3 hl; rfl,
    d_l_put_in := defok_mk X G a4 l4 c4 k4 fun _ _ _ _ _ _ us hl => by obtain ⟨_, ⟨_, ⟨_, rfl⟩⟩⟩ := us3 hl; rfl,
    d_l_due := defok_mk X G a5 l5 c5 k5 fun _ _ _ _ _ _ us hl => by obtain ⟨_, ⟨_, rfl⟩⟩ := us2 hl; rfl,
    d_l_stream := defok_mk X G a6 l6 c6 k6 fun _ _ _ _ _ _ us hl => by obtain ⟨_, ⟨_, rfl⟩⟩ := us2 hl; rfl,
    d_l_few := defok_mk X G a7 l7 c7 k7 fun _ _ _ _ _ _ us hl => by obtain ⟨_, ⟨_, rfl⟩⟩ := us2 hl; rfl,
    d_l_within := defok_mk X G a8 l8 c8 k8 fun _ _ _ _ _ _ us hl => by obtain ⟨_, ⟨_, rfl⟩⟩ := us2 hl; rfl,
    d_l_pair := defok_mk X G a9 l9 c9 k9 fun _ _ _ _ _ _ us hl => by obtain ⟨_, rfl⟩ := us1 hl; rfl,
    d_l_whole := defok_mk X G a10 l10 c10 k10 fun _ _ _ _ _ _ us hl => by obtain ⟨_, rfl⟩ := us1 hl; rfl,
    d_l_place := defok_mk X G a11 l11 c11 k11 fun _ _ _ _ _ _ us hl => by obtain ⟨_, rfl⟩ := us1 hl; rfl,
    d_shifted := defok_mk X G a12 l12 c12 k12 fun _ _ _ _ _ _ us hl => by obtain ⟨_, ⟨_, ⟨_, rfl⟩⟩⟩ := us3 hl; rfl,
    d_saying_shifted := defok_mk X G a13 l13 c13 k13 fun _ _ _ _ _ _ us hl => by obtain ⟨_, ⟨_, ⟨_, rfl⟩⟩⟩ := us3 hl; rfl,
    d_word_shifted := defok_mk X G a14 l14 c14 k14 fun _ _ _ _ _ _ us hl => by obtain ⟨_, ⟨_, ⟨_, rfl⟩⟩⟩ := us3 hl; rfl,
    d_grown_at := defok_mk X G a15 l15 c15 k15 fun _ _ _ _ _ _ us hl => by obtain ⟨_, ⟨_, ⟨_, ⟨_, rfl⟩⟩⟩⟩ := us4 hl; rfl,
    d_growth := defok_mk X G a16 l16 c16 k16 fun _ _ _ _ _ _ us hl => by obtain ⟨_, ⟨_, rfl⟩⟩ := us2 hl; rfl,
    d_carried := defok_mk X G a17 l17 c17 k17 fun _ _ _ _ _ _ us hl => by obtain ⟨_, ⟨_, ⟨_, rfl⟩⟩⟩ := us3 hl; rfl,
    d_l_refused := defok_mk X G a18 l18 c18 k18 fun _ _ _ _ _ _ us hl => by obtain ⟨_, ⟨_, ⟨_, rfl⟩⟩⟩ := us3 hl; rfl,
    d_l_refused_by_base := defok_mk X G a19 l19 c19 k19 fun _ _ _ _ _ _ us hl => by obtain ⟨_, ⟨_, ⟨_, rfl⟩⟩⟩ := us3 hl; rfl,
    d_law := defok_mk X G a20 l20 c20 k20 fun _ _ _ _ _ _ us hl => by obtain ⟨_, rfl⟩ := us1 hl; rfl,
    z_ValueError := PySem.W.mg_none_of X G z_ValueError,
    z_all := PySem.W.mg_none_of X G z_all,
    z_bool := PySem.W.mg_none_of X G z_bool,
    z_enumerate := PySem.W.mg_none_of X G z_enumerate,
    z_int := PySem.W.mg_none_of X G z_int,
    z_isinstance := PySem.W.mg_none_of X G z_isinstance,
    z_len := PySem.W.mg_none_of X G z_len,
    z_list := PySem.W.mg_none_of X G z_list,
    z_range := PySem.W.mg_none_of X G z_range,
    z_tuple := PySem.W.mg_none_of X G z_tuple,
    x_BadPaper := ⟨PySem.W.mg_of X G m_BadPaper, e_BadPaper⟩,
    x_NoGrowth := ⟨PySem.W.mg_of X G m_NoGrowth, e_NoGrowth⟩,
    x_TrueleafError := ⟨PySem.W.mg_of X G m_TrueleafError, e_TrueleafError⟩,
    t_NoGrowth_NoGrowth := t_NoGrowth_NoGrowth,
    t_NoGrowth_TrueleafError := t_NoGrowth_TrueleafError,
    lk_NoGrowth := lk_NoGrowth,
    ki_NoGrowth_BadPaper := ki_NoGrowth_BadPaper,
    ki_NoGrowth_ValueError := ki_NoGrowth_ValueError }⟩
theorem walk {l : PySem.W.OpenLaw} {q : Program} {loose : List Str} {XP : (Str → Option Value) → Heap → Prop} {YP : World → Heap → Prop} {d : DefRec} {K : Params → PySem.W.Frag} (hn : l.most = some 63) (hdf : d.params.defaults = []) (hnm : d.name = "law")
    (hY : ∀ (w : World) (h : Heap), YP w h → (K w.params).In h)
    (F : ∀ (w : World) (mg : Str → Option Value) (h : Heap), (K w.params).In h → h.Ns mainGlobals mg → ∃ a : Adr, Txt l.prog w (K w.params) mg a) :
    PySem.W.WalkO q loose XP YP l.row.toRowW d [] (fun f vs => PySem.call f vs) :=
  L2.walk_of (n := 63) (k := 8) (x := "script") (CX := fun _ => CX0) (sp := fun w => sp_law (K w.params)) hn (by decide) hdf ⟨rfl, by decide, by decide⟩ hY (fun w mg fa h KX G hmg => by
    obtain ⟨a, T⟩ := F w mg h KX G
    have e0 := hmg.symm.trans (hnm ▸ T.d_law.mg)
    cases e0
    refine ⟨a.fd_law, fun s u => .of_eq (T.d_law.ba [u] rfl), fun base _ _ => ok_law T⟩) (fun _ _ a ns hl _ hS => ⟨a, ns, rfl, hS, hl, fun _ => rfl⟩) fun _ _ _ _ _ z => z
end K50
open PySem PySem.W PyProof.Rows
set_option maxRecDepth 100000 in
set_option maxHeartbeats 0 in
theorem PySem.Challenge.cw_trueleaf_k50_growth_told_holds : PySem.Challenge.rw_trueleaf_k50_growth_told.Holds := by
  w_on; o_law
  refine holds_open (q := K50.vw) (loose := K50.ls) (Xt := K50.xt) (XP := XL K50.vw []) (Yf := Hook.obs K50.hk) (Ya := Hook.val K50.hk) (YP := InK K50.kk) K50.left
    (Hook.of K50.hk) (Hook.keeps K50.hk) (fun s e => xl_of s (Bool.and_eq_true_iff.mp e).1) XL.keeps (by rfl) (by rfl) (by rfl)
    (fun s e => recFacts_of (Bool.and_eq_true_iff.mp e).2) (by rfl) (by assumption) (by decide +kernel) ⟨rfl, rfl, rfl, rfl, rfl, by decide +kernel⟩ ?hw ?hc
  (case hw => w_witness2)
  k_fill
  refine K50.walk (l := PySem.Challenge.rw_trueleaf_k50_growth_told) rfl rfl rfl (fun w h Y => Y) ?F
  case F =>
    intro w mg h KX G
    refine' K50.txt_mk KX G ?a0 ?l0 ?c0 ?k0 ?a1 ?l1 ?c1 ?k1 ?a2 ?l2 ?c2 ?k2 ?a3 ?l3 ?c3 ?k3 ?a4 ?l4 ?c4 ?k4 ?a5 ?l5 ?c5 ?k5 ?a6 ?l6 ?c6 ?k6 ?a7 ?l7 ?c7 ?k7 ?a8 ?l8 ?c8 ?k8 ?a9 ?l9 ?c9 ?k9 ?a10 ?l10 ?c10 ?k10 ?a11 ?l11 ?c11 ?k11 ?a12 ?l12 ?c12 ?k12 ?a13 ?l13 ?c13 ?k13 ?a14 ?l14 ?c14 ?k14 ?a15 ?l15 ?c15 ?k15 ?a16 ?l16 ?c16 ?k16 ?a17 ?l17 ?c17 ?k17 ?a18 ?l18 ?c18 ?k18 ?a19 ?l19 ?c19 ?k19 ?a20 ?l20 ?c20 ?k20 ?z_ValueError ?z_all ?z_bool ?z_enumerate ?z_int ?z_isinstance ?z_len ?z_list ?z_range ?z_tuple ?m_BadPaper ?e_BadPaper ?m_NoGrowth ?e_NoGrowth ?m_TrueleafError ?e_TrueleafError ?t_NoGrowth_NoGrowth ?t_NoGrowth_TrueleafError ?lk_NoGrowth ?ki_NoGrowth_BadPaper ?ki_NoGrowth_ValueError
    (case a0 | l0 | c0 | k0 | a1 | l1 | c1 | k1 | a2 | l2 | c2 | k2 | a3 | l3 | c3 | k3 | a4 | l4 | c4 | k4 | a5 | l5 | c5 | k5 | a6 | l6 | c6 | k6 | a7 | l7 | c7 | k7 | a8 | l8 | c8 | k8 | a9 | l9 | c9 | k9 | a10 | l10 | c10 | k10 | a11 | l11 | c11 | k11 | a12 | l12 | c12 | k12 | a13 | l13 | c13 | k13 | a14 | l14 | c14 | k14 | a15 | l15 | c15 | k15 | a16 | l16 | c16 | k16 | a17 | l17 | c17 | k17 | a18 | l18 | c18 | k18 | a19 | l19 | c19 | k19 | a20 | l20 | c20 | k20 | z_ValueError | z_all | z_bool | z_enumerate | z_int | z_isinstance | z_len | z_list | z_range | z_tuple | m_BadPaper => (first | k_is | (delta K50.Na; k_is) | (delta K50.Lk K50.fdA; k_is) | (delta K50.Cd; k_is) | (delta K50.Kp; k_is) | (delta K50.Zn; k_is)))
    (case e_BadPaper => k_exc)
    (case m_NoGrowth => (first | k_is | (delta K50.Na; k_is) | (delta K50.Lk K50.fdA; k_is) | (delta K50.Cd; k_is) | (delta K50.Kp; k_is) | (delta K50.Zn; k_is)))
    (case e_NoGrowth => k_exc)
    (case m_TrueleafError => (first | k_is | (delta K50.Na; k_is) | (delta K50.Lk K50.fdA; k_is) | (delta K50.Cd; k_is) | (delta K50.Kp; k_is) | (delta K50.Zn; k_is)))
    (case e_TrueleafError => k_exc)
    (case t_NoGrowth_NoGrowth => ((show PySem.W.exmOne _ _ _ = some true); kts_exm))
    (case t_NoGrowth_TrueleafError => ((show PySem.W.exmOne _ _ _ = some true); kts_exm))
    (case lk_NoGrowth => kernel_rfl)
    (case ki_NoGrowth_BadPaper => kernel_rfl)
    (case ki_NoGrowth_ValueError => kernel_rfl)
