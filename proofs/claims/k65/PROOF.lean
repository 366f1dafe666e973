import PyProof.Rows.All
import Wide.All
import OpenK.AllK
import Wide.FinOn
import Lean
import PyProof.EqAt
import PyProof.EqKinds
import PyProof.TupleCall
import PyProof.NeKinds
import KE.LcSums
import PyProof.ExcBaseAll.ValueError
import KE.KTryMore
import KE.RegKTryMore
import PyProof.StrLawsRepr
import PyProof.ReprStr
import PyProof.EnumMake
import PyProof.EnumFor
import KE.KEqDict
import PyProof.Rows.Range3
import PyProof.SumWalkG
import PyProof.ZipIter
import PySem.Challenge.RW_trueleaf_k65_pages_rows
set_option Elab.async false
set_option linter.all false
set_option maxRecDepth 100000
set_option maxHeartbeats 4000000
namespace L2
open PySem
def defArgs (s : Stmt) : Arguments := match s with
  | .FunctionDef _ a _ _ _ _ _ _ _ _ => a
  | _ => { posonlyargs := [], args := [], vararg := none, kwonlyargs := [], kw_defaults := [], kwarg := none, defaults := [] }
def defBody (s : Stmt) : List Stmt := match s with
  | .FunctionDef _ _ b _ _ _ _ _ _ _ => b
  | _ => []
def defScope (s : Stmt) : Scope := match s with
  | .FunctionDef _ _ _ _ _ _ sc _ _ _ => sc
  | _ => { kind := .function, names := [], isGenerator := false, isCoroutine := false }

end L2
namespace K65
open PySem PySem.W L2 PyProof.Rows
noncomputable def top (i : Nat) : Stmt := PySem.Challenge.pw_trueleaf_k65_pages_rows.main.body.getD i (.Pass ⟨0, 0, 0, 0⟩)
noncomputable abbrev os (s : String) : Str := Str.ofString s
noncomputable abbrev kh (P : Params) (s : Str) : Int := PyData.keyHash P s
noncomputable abbrev cO (n : String) (a b c : Nat) (l1 l2 l5 : Int) (r0 : Addr) (m : Int) (r1 r2 r3 r4 : Addr) (x y : Int) (d : Nat) : Obj := ⟨.type "code", none, .fields #[.str (os n) a, .str (os n) b, .str (os "/claim/cut.py") c, .int l1 0, .int l2 0, .int 0 0, .int 0 0, .int l5 0, .ref r0, .bool true, .int m 0, .ref r1, .none, .ref r2, .ref r3, .ref r4, .int x 0, .int y 0, .str (os "/claim/cut.py") d], #[]⟩
noncomputable abbrev fO (n : String) (i : Nat) (d : Value) (m : String) (k : Nat) (r : Addr) : Obj := ⟨.type "function", none, .func (fnOf (os n) (os n) (defArgs (top i)) (defBody (top i)) (defScope (top i)) d .none .none (.str (os m) k) none (.ref r) .none), #[]⟩
noncomputable def kk : Params → Frag := fun P => (nat_lit 2, ⟨(.none), none, .dict ([]).toArray 0, #[]⟩) ::
  (nat_lit 3, ⟨(.type "dict"), none, .dict (List.toArray (⟨kh P (os "__name__"), (.str (os "__name__") 165), (.str (os "law_trueleaf_k65_pages_rows") 234)⟩ :: ⟨kh P (os "__doc__"), (.str (os "__doc__") 166), (.none)⟩ :: ⟨kh P (os "__package__"), (.str (os "__package__") 167), (.none)⟩ :: ⟨kh P (os "__loader__"), (.str (os "__loader__") 168), (.builtin "__main__.__loader__#opaque")⟩ :: ⟨kh P (os "__spec__"), (.str (os "__spec__") 169), (.none)⟩ :: ⟨kh P (os "__annotations__"), (.str (os "__annotations__") 170), (.ref 6)⟩ :: ⟨kh P (os "__builtins__"), (.str (os "__builtins__") 171), (.ref 4)⟩ :: ⟨kh P (os "__file__"), (.str (os "__file__") 173), (.str (os "/claim/cut.py") 172)⟩ :: ⟨kh P (os "__cached__"), (.str (os "__cached__") 174), (.none)⟩ :: ⟨kh P (os "figures_of"), (.str (os "figures_of") 195), (.ref 21)⟩ :: ⟨kh P (os "said"), (.str (os "said") 207), (.ref 28)⟩ :: ⟨kh P (os "foot_rows"), (.str (os "foot_rows") 219), (.ref 35)⟩ :: ⟨kh P (os "pages_of"), (.str (os "pages_of") 227), (.ref 40)⟩ :: ⟨kh P (os "page_rows"), (.str (os "page_rows") 233), (.ref 45)⟩ :: ⟨kh P (os "_law_cell_at"), (.str (os "_law_cell_at") 243), (.ref 52)⟩ :: ⟨kh P (os "_law_mixed"), (.str (os "_law_mixed") 250), (.ref 59)⟩ :: ⟨kh P (os "_law_first"), (.str (os "_law_first") 259), (.ref 66)⟩ :: ⟨kh P (os "_law_signs"), (.str (os "_law_signs") 265), (.ref 71)⟩ :: ⟨kh P (os "_law_said_by"), (.str (os "_law_said_by") 276), (.ref 78)⟩ :: ⟨kh P (os "_law_high_by"), (.str (os "_law_high_by") 289), (.ref 85)⟩ :: ⟨kh P (os "_law_behind_by"), (.str (os "_law_behind_by") 302), (.ref 92)⟩ :: ⟨kh P (os "_law_sooner"), (.str (os "_law_sooner") 310), (.ref 99)⟩ :: ⟨kh P (os "_law_numbers"), (.str (os "_law_numbers") 323), (.ref 106)⟩ :: ⟨kh P (os "_law_rising"), (.str (os "_law_rising") 341), (.ref 113)⟩ :: ⟨kh P (os "_law_some"), (.str (os "_law_some") 352), (.ref 120)⟩ :: ⟨kh P (os "_law_parts"), (.str (os "_law_parts") 358), (.ref 125)⟩ :: ⟨kh P (os "_law_sizes"), (.str (os "_law_sizes") 364), (.ref 130)⟩ :: ⟨kh P (os "_law_fitting"), (.str (os "_law_fitting") 370), (.ref 135)⟩ :: ⟨kh P (os "_law_let"), (.str (os "_law_let") 381), (.ref 142)⟩ :: ⟨kh P (os "_law_words"), (.str (os "_law_words") 387), (.ref 147)⟩ :: ⟨kh P (os "_law_drawn"), (.str (os "_law_drawn") 393), (.ref 152)⟩ :: ⟨kh P (os "_law_copied"), (.str (os "_law_copied") 399), (.ref 157)⟩ :: ⟨kh P (os "_law_filled_by"), (.str (os "_law_filled_by") 411), (.ref 164)⟩ :: ⟨kh P (os "_law_is_pages"), (.str (os "_law_is_pages") 417), (.ref 169)⟩ :: ⟨kh P (os "_law_due"), (.str (os "_law_due") 423), (.ref 174)⟩ :: ⟨kh P (os "law"), (.str (os "law") 438), (.ref 181)⟩ :: [])) 36, #[]⟩) ::
  (nat_lit 20, cO "figures_of" 189 190 191 2 1 3 15 181 16 17 18 19 193 2 194) ::
  (nat_lit 21, fO "figures_of" 1 (.none) "trueleaf.signs" 187 20) ::
  (nat_lit 27, cO "said" 198 199 200 5 3 3 22 181 23 24 25 26 205 5 206) ::
  (nat_lit 28, fO "said" 3 (.none) "trueleaf.widths" 196 27) ::
  (nat_lit 34, cO "foot_rows" 208 209 210 12 3 3 29 181 30 31 32 33 217 12 218) ::
  (nat_lit 35, fO "foot_rows" 4 (.none) "trueleaf.widths" 196 34) ::
  (nat_lit 39, ⟨(.type "code"), none, (.fields #[.str (os "pages_of") 222, .str (os "pages_of") 223, .str (os "/claim/cut.py") 224, .int 22 0, .int 2 0, .int 0 0, .int 0 0, .int 3 0, .ref 36, .bool true, .int 181 0, .ref 37, .none, .none, .none, .ref 38, .int 225 0, .int 22 0, .str (os "/claim/cut.py") 226]), #[]⟩) ::
  (nat_lit 40, fO "pages_of" 6 (.none) "trueleaf.pages" 220 39) ::
  (nat_lit 44, ⟨(.type "code"), none, (.fields #[.str (os "page_rows") 228, .str (os "page_rows") 229, .str (os "/claim/cut.py") 230, .int 27 0, .int 3 0, .int 0 0, .int 0 0, .int 3 0, .ref 41, .bool true, .int 181 0, .ref 42, .none, .none, .none, .ref 43, .int 231 0, .int 27 0, .str (os "/claim/cut.py") 232]), #[]⟩) ::
  (nat_lit 45, fO "page_rows" 7 (.none) "trueleaf.pages" 220 44) ::
  (nat_lit 51, cO "_law_cell_at" 236 237 238 38 2 3 46 181 47 48 49 50 241 38 242) ::
  (nat_lit 52, fO "_law_cell_at" 9 (.none) "law_trueleaf_k65_pages_rows" 234 51) ::
  (nat_lit 58, cO "_law_mixed" 244 245 246 42 1 3 53 181 54 55 56 57 248 42 249) ::
  (nat_lit 59, fO "_law_mixed" 10 (.none) "law_trueleaf_k65_pages_rows" 234 58) ::
  (nat_lit 65, cO "_law_first" 251 252 253 44 1 3 60 181 61 62 63 64 257 44 258) ::
  (nat_lit 66, fO "_law_first" 11 (.none) "law_trueleaf_k65_pages_rows" 234 65) ::
  (nat_lit 70, ⟨(.type "code"), none, (.fields #[.str (os "_law_signs") 260, .str (os "_law_signs") 261, .str (os "/claim/cut.py") 262, .int 54 0, .int 2 0, .int 0 0, .int 0 0, .int 3 0, .ref 67, .bool true, .int 181 0, .ref 68, .none, .none, .none, .ref 69, .int 263 0, .int 54 0, .str (os "/claim/cut.py") 264]), #[]⟩) ::
  (nat_lit 71, fO "_law_signs" 12 (.none) "law_trueleaf_k65_pages_rows" 234 70) ::
  (nat_lit 77, cO "_law_said_by" 266 267 268 59 3 3 72 181 73 74 75 76 274 59 275) ::
  (nat_lit 78, fO "_law_said_by" 13 (.none) "law_trueleaf_k65_pages_rows" 234 77) ::
  (nat_lit 84, cO "_law_high_by" 277 278 279 66 3 3 79 181 80 81 82 83 287 66 288) ::
  (nat_lit 85, fO "_law_high_by" 14 (.none) "law_trueleaf_k65_pages_rows" 234 84) ::
  (nat_lit 91, cO "_law_behind_by" 290 291 292 79 3 3 86 181 87 88 89 90 300 79 301) ::
  (nat_lit 92, fO "_law_behind_by" 15 (.none) "law_trueleaf_k65_pages_rows" 234 91) ::
  (nat_lit 98, cO "_law_sooner" 303 304 305 90 2 3 93 181 94 95 96 97 308 90 309) ::
  (nat_lit 99, fO "_law_sooner" 16 (.none) "law_trueleaf_k65_pages_rows" 234 98) ::
  (nat_lit 105, cO "_law_numbers" 311 312 313 92 2 3 100 181 101 102 103 104 321 92 322) ::
  (nat_lit 106, fO "_law_numbers" 17 (.none) "law_trueleaf_k65_pages_rows" 234 105) ::
  (nat_lit 112, cO "_law_rising" 324 325 326 103 3 3 107 181 108 109 110 111 339 103 340) ::
  (nat_lit 113, fO "_law_rising" 18 (.none) "law_trueleaf_k65_pages_rows" 234 112) ::
  (nat_lit 119, cO "_law_some" 342 343 344 126 3 3 114 181 115 116 117 118 350 126 351) ::
  (nat_lit 120, fO "_law_some" 19 (.none) "law_trueleaf_k65_pages_rows" 234 119) ::
  (nat_lit 124, ⟨(.type "code"), none, (.fields #[.str (os "_law_parts") 353, .str (os "_law_parts") 354, .str (os "/claim/cut.py") 355, .int 137 0, .int 2 0, .int 0 0, .int 0 0, .int 3 0, .ref 121, .bool true, .int 181 0, .ref 122, .none, .none, .none, .ref 123, .int 356 0, .int 137 0, .str (os "/claim/cut.py") 357]), #[]⟩) ::
  (nat_lit 125, fO "_law_parts" 20 (.none) "law_trueleaf_k65_pages_rows" 234 124) ::
  (nat_lit 129, ⟨(.type "code"), none, (.fields #[.str (os "_law_sizes") 359, .str (os "_law_sizes") 360, .str (os "/claim/cut.py") 361, .int 148 0, .int 3 0, .int 0 0, .int 0 0, .int 3 0, .ref 126, .bool true, .int 181 0, .ref 127, .none, .none, .none, .ref 128, .int 362 0, .int 148 0, .str (os "/claim/cut.py") 363]), #[]⟩) ::
  (nat_lit 130, fO "_law_sizes" 21 (.none) "law_trueleaf_k65_pages_rows" 234 129) ::
  (nat_lit 134, ⟨(.type "code"), none, (.fields #[.str (os "_law_fitting") 365, .str (os "_law_fitting") 366, .str (os "/claim/cut.py") 367, .int 165 0, .int 5 0, .int 0 0, .int 0 0, .int 3 0, .ref 131, .bool true, .int 181 0, .ref 132, .none, .none, .none, .ref 133, .int 368 0, .int 165 0, .str (os "/claim/cut.py") 369]), #[]⟩) ::
  (nat_lit 135, fO "_law_fitting" 22 (.none) "law_trueleaf_k65_pages_rows" 234 134) ::
  (nat_lit 141, cO "_law_let" 371 372 373 173 4 3 136 181 137 138 139 140 379 173 380) ::
  (nat_lit 142, fO "_law_let" 23 (.none) "law_trueleaf_k65_pages_rows" 234 141) ::
  (nat_lit 146, ⟨(.type "code"), none, (.fields #[.str (os "_law_words") 382, .str (os "_law_words") 383, .str (os "/claim/cut.py") 384, .int 180 0, .int 4 0, .int 0 0, .int 0 0, .int 3 0, .ref 143, .bool true, .int 181 0, .ref 144, .none, .none, .none, .ref 145, .int 385 0, .int 180 0, .str (os "/claim/cut.py") 386]), #[]⟩) ::
  (nat_lit 147, fO "_law_words" 24 (.none) "law_trueleaf_k65_pages_rows" 234 146) ::
  (nat_lit 151, ⟨(.type "code"), none, (.fields #[.str (os "_law_drawn") 388, .str (os "_law_drawn") 389, .str (os "/claim/cut.py") 390, .int 189 0, .int 3 0, .int 0 0, .int 0 0, .int 3 0, .ref 148, .bool true, .int 181 0, .ref 149, .none, .none, .none, .ref 150, .int 391 0, .int 189 0, .str (os "/claim/cut.py") 392]), #[]⟩) ::
  (nat_lit 152, fO "_law_drawn" 25 (.none) "law_trueleaf_k65_pages_rows" 234 151) ::
  (nat_lit 156, ⟨(.type "code"), none, (.fields #[.str (os "_law_copied") 394, .str (os "_law_copied") 395, .str (os "/claim/cut.py") 396, .int 201 0, .int 1 0, .int 0 0, .int 0 0, .int 3 0, .ref 153, .bool true, .int 181 0, .ref 154, .none, .none, .none, .ref 155, .int 397 0, .int 201 0, .str (os "/claim/cut.py") 398]), #[]⟩) ::
  (nat_lit 157, fO "_law_copied" 26 (.none) "law_trueleaf_k65_pages_rows" 234 156) ::
  (nat_lit 163, cO "_law_filled_by" 400 401 402 203 3 3 158 181 159 160 161 162 409 203 410) ::
  (nat_lit 164, fO "_law_filled_by" 27 (.none) "law_trueleaf_k65_pages_rows" 234 163) ::
  (nat_lit 168, ⟨(.type "code"), none, (.fields #[.str (os "_law_is_pages") 412, .str (os "_law_is_pages") 413, .str (os "/claim/cut.py") 414, .int 212 0, .int 3 0, .int 0 0, .int 0 0, .int 3 0, .ref 165, .bool true, .int 181 0, .ref 166, .none, .none, .none, .ref 167, .int 415 0, .int 212 0, .str (os "/claim/cut.py") 416]), #[]⟩) ::
  (nat_lit 169, fO "_law_is_pages" 28 (.none) "law_trueleaf_k65_pages_rows" 234 168) ::
  (nat_lit 173, ⟨(.type "code"), none, (.fields #[.str (os "_law_due") 418, .str (os "_law_due") 419, .str (os "/claim/cut.py") 420, .int 223 0, .int 2 0, .int 0 0, .int 0 0, .int 3 0, .ref 170, .bool true, .int 181 0, .ref 171, .none, .none, .none, .ref 172, .int 421 0, .int 223 0, .str (os "/claim/cut.py") 422]), #[]⟩) ::
  (nat_lit 174, fO "_law_due" 29 (.none) "law_trueleaf_k65_pages_rows" 234 173) ::
  (nat_lit 180, cO "law" 424 425 426 243 1 3 175 181 176 177 178 179 436 243 437) ::
  (nat_lit 181, fO "law" 30 (.none) "law_trueleaf_k65_pages_rows" 234 180) :: []
noncomputable def vw : Program := { PySem.Challenge.pw_trueleaf_k65_pages_rows with main := { PySem.Challenge.pw_trueleaf_k65_pages_rows.main with body := top 1 :: top 3 :: top 4 :: top 6 :: top 7 :: top 9 :: top 10 :: top 11 :: top 12 :: top 13 :: top 14 :: top 15 :: top 16 :: top 17 :: top 18 :: top 19 :: top 20 :: top 21 :: top 22 :: top 23 :: top 24 :: top 25 :: top 26 :: top 27 :: top 28 :: top 29 :: top 30 :: [] } }
noncomputable abbrev ls : List Str := []
noncomputable abbrev hk : Hook := kHook kk (nat_lit 2 :: nat_lit 3 :: nat_lit 20 :: nat_lit 21 :: nat_lit 27 :: nat_lit 28 :: nat_lit 34 :: nat_lit 35 :: nat_lit 39 :: nat_lit 40 :: nat_lit 44 :: nat_lit 45 :: nat_lit 51 :: nat_lit 52 :: nat_lit 58 :: nat_lit 59 :: nat_lit 65 :: nat_lit 66 :: nat_lit 70 :: nat_lit 71 :: nat_lit 77 :: nat_lit 78 :: nat_lit 84 :: nat_lit 85 :: nat_lit 91 :: nat_lit 92 :: nat_lit 98 :: nat_lit 99 :: nat_lit 105 :: nat_lit 106 :: nat_lit 112 :: nat_lit 113 :: nat_lit 119 :: nat_lit 120 :: nat_lit 124 :: nat_lit 125 :: nat_lit 129 :: nat_lit 130 :: nat_lit 134 :: nat_lit 135 :: nat_lit 141 :: nat_lit 142 :: nat_lit 146 :: nat_lit 147 :: nat_lit 151 :: nat_lit 152 :: nat_lit 156 :: nat_lit 157 :: nat_lit 163 :: nat_lit 164 :: nat_lit 168 :: nat_lit 169 :: nat_lit 173 :: nat_lit 174 :: nat_lit 180 :: nat_lit 181 :: []) (fun _ => by kernel_rfl)
noncomputable abbrev rr : RowW := OpenRow.toRowW (OpenLaw.row PySem.Challenge.rw_trueleaf_k65_pages_rows)
noncomputable abbrev xt : Shared → Bool := fun s => xlAt vw [] s && recOk (RowW.records rr) s
set_option maxHeartbeats 0 in
theorem left : LeftO PySem.Challenge.pw_trueleaf_k65_pages_rows vw ls xt (Hook.obs hk) (Hook.val hk) 1830 := by
  intro w
  kernel_rfl
end K65
set_option maxHeartbeats 4000000
namespace L2
open PySem PySem.Spec PyProof.Rows

abbrev Key := Sum Int Str
def keyIs : Key → Value → Bool
  | .inl k, v => Value.isInt k v
  | .inr x, v => Value.isStrOf x v
def keyH (w : World) : Key → Int
  | .inl k => hashInt k
  | .inr x => hashStr w x
theorem keyIs_shape : ∀ {k : Key} {v : Value}, keyIs k v = true → (∃ i t, k = Sum.inl i ∧ v = Value.int i t) ∨ (∃ x t, k = Sum.inr x ∧ v = Value.str x t)
  | .inl i, v, h => by
    obtain ⟨t, e⟩ := Value.isInt_shape (k := i) (v := v) h
    exact .inl ⟨i, t, rfl, e⟩
  | .inr x, v, h => by
    obtain ⟨t, e⟩ := Value.isStrOf_shape (x := x) (v := v) h
    exact .inr ⟨x, t, rfl, e⟩
theorem key_ll (a b : Int) : decide ((Sum.inl a : Key) = Sum.inl b) = (a == b) := by
  by_cases e : a = b
  · subst e; simp
  · have h : ¬ (Sum.inl a : Key) = Sum.inl b := fun q => e (Sum.inl.inj q)
    rw [decide_eq_false h]
    exact (beq_eq_false_iff_ne.mpr e).symm
theorem key_rr (a b : Str) : decide ((Sum.inr a : Key) = Sum.inr b) = decide (a = b) := by
  by_cases e : a = b
  · subst e; simp
  · have h : ¬ (Sum.inr a : Key) = Sum.inr b := fun q => e (Sum.inr.inj q)
    rw [decide_eq_false h, decide_eq_false e]
theorem key_lr (a : Int) (b : Str) : decide ((Sum.inl a : Key) = Sum.inr b) = false := decide_eq_false (fun q => nomatch q)
theorem key_rl (a : Str) (b : Int) : decide ((Sum.inr a : Key) = Sum.inl b) = false := decide_eq_false (fun q => nomatch q)

def mixKind (prog : Program) (w : World) : PySem.KeyKind prog w Key where
  is := keyIs
  hash := keyH w
  inj := fun v a b ha hb => by
    rcases keyIs_shape ha with ⟨i, t, rfl, rfl⟩ | ⟨x, t, rfl, rfl⟩
    · rcases keyIs_shape hb with ⟨j, u, rfl, e⟩ | ⟨y, u, rfl, e⟩
      · injection e with e1 _; rw [e1]
      · exact nomatch e
    · rcases keyIs_shape hb with ⟨j, u, rfl, e⟩ | ⟨y, u, rfl, e⟩
      · exact nomatch e
      · injection e with e1 _; rw [e1]
  byValue := fun k v h => by
    rcases keyIs_shape h with ⟨i, t, rfl, rfl⟩ | ⟨x, t, rfl, rfl⟩ <;> rfl
  pyHash := fun hv h => by
    rcases keyIs_shape hv with ⟨i, t, rfl, rfl⟩ | ⟨x, t, rfl, rfl⟩
    · exact wpAny_pyHash_int h
    · exact wpAny_pyHash_str h
  eqBool := fun hu hv h => by
    rcases keyIs_shape hu with ⟨i, t, rfl, rfl⟩ | ⟨x, t, rfl, rfl⟩
    · rcases keyIs_shape hv with ⟨j, u, rfl, rfl⟩ | ⟨y, u, rfl, rfl⟩
      · rw [key_ll] at h; exact wpAny_eqBool_int h
      · rw [key_lr] at h; exact SeqAt.EqAt.int_str i t y u _ _ _ _ h
    · rcases keyIs_shape hv with ⟨j, u, rfl, rfl⟩ | ⟨y, u, rfl, rfl⟩
      · rw [key_rl] at h; exact SeqAt.EqAt.str_int x t j u _ _ _ _ h
      · rw [key_rr] at h; exact wpAny_eqBool_str h
  «strs» := fun k x t v h => by
    rcases keyIs_shape h with ⟨i, u, rfl, e⟩ | ⟨y, u, rfl, e⟩
    · exact nomatch e
    · injection e with e1 _
      subst e1
      cases v <;> rfl

end L2

namespace L2
open PySem PySem.Spec PyProof.Rows

inductive V where
  | non | bl (b : Bool) | int (i : Int) | str (x : Str) | byt (b : Array UInt8) | flt (b : UInt64) | ref (a : Addr) | ty (n : String)
  deriving DecidableEq

def RelV : V → Value → Prop
  | .non, u => u = Value.none
  | .bl b, u => u = Value.bool b
  | .int i, u => ∃ t, u = Value.int i t
  | .str x, u => ∃ t, u = Value.str x t
  | .byt b, u => ∃ t, u = Value.bytes b t
  | .flt b, u => ∃ t, u = Value.float b t
  | .ref a, u => u = Value.ref a
  | .ty n, u => u = Value.type n

abbrev Vals : List V → List Value → Prop := Paired RelV
theorem Vals.length {xs : List V} {us : List Value} (r : Vals xs us) : xs.length = us.length := Paired.length r
theorem Vals.get : ∀ {xs : List V} {us : List Value} {i : Nat} {x : V}, Vals xs us → xs[i]? = some x → ∃ u, us[i]? = some u ∧ RelV x u
  | _, _, _, _, .nil, e => by simp at e
  | _, _, 0, _, .cons r _, e => by simp at e; subst e; exact ⟨_, rfl, r⟩
  | _, _, i + 1, x, .cons _ t, e => by
    obtain ⟨u, h1, h2⟩ := Vals.get (i := i) (x := x) t (by simpa using e)
    exact ⟨u, by simpa using h1, h2⟩
theorem Vals.set {x : V} {u : Value} (r : RelV x u) : ∀ {xs : List V} {us : List Value} (i : Nat), Vals xs us → Vals (xs.set i x) (us.set i u)
  | _, _, _, .nil => .nil
  | _, _, 0, .cons _ t => .cons r t
  | _, _, i + 1, .cons q t => .cons q (Vals.set r i t)
theorem Vals.append : ∀ {xs ys : List V} {us ws : List Value}, Vals xs us → Vals ys ws → Vals (xs ++ ys) (us ++ ws)
  | _, _, _, _, .nil, s => s
  | _, _, _, _, .cons r t, s => .cons r (Vals.append t s)
theorem Vals.take : ∀ {xs : List V} {us : List Value} (n : Nat), Vals xs us → Vals (xs.take n) (us.take n)
  | _, _, 0, _ => .nil
  | _, _, _ + 1, .nil => .nil
  | _, _, n + 1, .cons r t => .cons r (Vals.take n t)
theorem Vals.drop : ∀ {xs : List V} {us : List Value} (n : Nat), Vals xs us → Vals (xs.drop n) (us.drop n)
  | _, _, 0, r => r
  | _, _, _ + 1, .nil => .nil
  | _, _, n + 1, .cons _ t => Vals.drop n t
def RelO : Option V → Option Value → Prop
  | some v, some u => RelV v u
  | none, none => True
  | _, _ => False
def KV {κ : Type} : List (κ × V) → List (κ × Value) → Prop := Paired fun (p : κ × V) (q : κ × Value) => p.1 = q.1 ∧ RelV p.2 q.2

def kV : Key → V
  | .inl i => .int i
  | .inr x => .str x

inductive HO where
    | lst (xs : List V)
    | tup (xs : List V)
    | dK (kvs : List (Key × V)) | dT (kvs : List (List Key × V))
    | set (S : Int → Bool) (n : Nat)
    | ins (C dx : Addr) (fs : List (Str × V))
    | own (x : Addr)
    | xd (fs : List (Str × V))
    | met (f x : Addr)
    | rng (lo hi : Int)
    | frz (o : Obj) (u : HO)
    | tbl (ps : Array Value)
    | ext (φ : Heap → Prop)

abbrev Hp := Addr → Option HO
def upd (H : Hp) (a : Addr) (o : HO) : Hp := fun b => if b = a then some o else H b
theorem upd_same {H : Hp} {a : Addr} {o : HO} : upd H a o a = some o := by unfold upd; rw [if_pos rfl]
theorem upd_ne {H : Hp} {a b : Addr} {o : HO} (h : b ≠ a) : upd H a o b = H b := by unfold upd; rw [if_neg h]
theorem ne_of {H : Hp} {a b : Addr} {o u : HO} (h : H a = some o) (h' : H b = some u) (d : o ≠ u) : a ≠ b := by
  intro e; subst e; rw [h] at h'; exact d (Option.some.inj h')
theorem ne_of_none {H : Hp} {a b : Addr} {o : HO} (h : H a = some o) (h' : H b = none) : a ≠ b := by
  intro e; subst e; rw [h] at h'; cases h'

section
variable (P : Program) (w : World)
def ObjOk (H : Hp) (h : Heap) (a : Addr) : HO → Prop
  | .lst xs => xs.length ≤ sizeLine ∧ ∃ (its : List Value) (n : Nat), Vals xs its ∧ h.get? a = some { cls := .type "list", data := .seq its.toArray n }
  | .tup xs => xs.length ≤ sizeLine ∧ ∃ its : List Value, Vals xs its ∧ IsTup h a its.toArray
  | .dK kvs => kvs.length ≤ sizeLine ∧ (a == sysModules) = false ∧ ∃ vs, KV kvs vs ∧ h.DictOf (mixKind P w) a vs
  | .dT kvs => kvs.length ≤ sizeLine ∧ (a == sysModules) = false ∧ ∃ xs : List (List Key × Addr × Value),
      Paired (fun (p : List Key × V) (q : List Key × Addr × Value) => p.1 = q.1 ∧ H q.2.1 = some (.tup (p.1.map kV)) ∧ RelV p.2 q.2.2) kvs xs ∧
      ∃ o es ep, h.get? a = some o ∧ o.ExactDict ∧ o.data = .dict es ep ∧ es.toList = xs.map (entryOfKey (tupleKind (mixKind P w))) ∧ (xs.map (·.1)).Nodup
  | .set S n => h.SetOf (intKind P w) a S n
  | .ins C dx fs => H dx = some (.own a) ∧ fs.length ≤ 1000 ∧ dx ≠ a ∧ h.get? a = some (PySem.W.instObj C dx) ∧
      ∃ mA, h.Ns1 dx mA ∧ (∀ f, RelO (fs.lookup f) (mA f)) ∧ PySem.Within mA (fs.map (·.1))
  | .own _ => ∃ o, h.get? a = some o
  | .xd fs => ∃ mA, h.Ns1 a mA ∧ ∀ f, RelO (fs.lookup f) (mA f)
  | .rng lo hi => ∃ t u v, h.get? a = some { cls := .type "range", data := .fields #[.int lo t, .int hi u, .int 1 v] }
  | .frz o u => h.get? a = some o ∧ ObjOk H h a u
  | .tbl ps => h.get? a = some { cls := .none, data := .fields ps }
  | .met f x => h.get? a = some (PySem.W.methodObj (.ref f) (.ref x))
  | .ext φ => φ h ∧ (∃ o, h.get? a = some o) ∧ ∀ h1 h2 : Heap, φ h1 → (∀ o, h1.get? a = some o → h2.get? a = some o) → φ h2
def HOk (H : Hp) (h : Heap) : Prop := ∀ a o, H a = some o → ObjOk P w H h a o
end

section
variable {P : Program} {w : World} {H H' : Hp} {h h' : Heap} {a : Addr} {o : HO}
theorem ObjOk.lt (x : ObjOk P w H h a o) : a < h.objs.size := by
  cases o with
  | lst xs => obtain ⟨_, _, _, _, e⟩ := x; exact Heap.lt_size e
  | tup xs => obtain ⟨_, _, _, p⟩ := x; exact p.lt
  | dK kvs => obtain ⟨_, _, _, _, o, _, _, e, _⟩ := x; exact Heap.lt_size e
  | dT kvs => obtain ⟨_, _, _, _, o, _, _, e, _⟩ := x; exact Heap.lt_size e
  | set S n => obtain ⟨o, _, _, _, e, _⟩ := x; exact Heap.lt_size e
  | ins C dx fs => obtain ⟨_, _, _, e, _⟩ := x; exact Heap.lt_size e
  | own y => obtain ⟨_, e⟩ := x; exact Heap.lt_size e
  | xd fs => obtain ⟨_, ⟨_, _, _, e, _⟩, _⟩ := x; exact Heap.lt_size e
  | rng lo hi => obtain ⟨_, _, _, e⟩ := x; exact Heap.lt_size e
  | frz ob u => obtain ⟨e, _⟩ := x; exact Heap.lt_size e
  | tbl ps => exact Heap.lt_size (show h.get? a = some _ from x)
  | met f y => exact Heap.lt_size (show h.get? a = some _ from x)
  | ext φ => obtain ⟨_, ⟨_, e⟩, _⟩ := x; exact Heap.lt_size e
theorem Paired.mapP {α β : Type} {F G : α → β → Prop} : ∀ {l₁ : List α} {l₂ : List β}, Paired F l₁ l₂ → (∀ a b, F a b → G a b) → Paired G l₁ l₂
  | _, _, .nil, _ => .nil
  | _, _, .cons r t, f => .cons (f _ _ r) (Paired.mapP t f)
theorem ObjOk.stay (x : ObjOk P w H h a o) (k : ∀ b u, (b = a ∨ H b = some (.own a)) → h.get? b = some u → h'.get? b = some u)
    (ho : ∀ b, H b = some (.own a) → H' b = some (.own a)) (ht : ∀ b xs, H b = some (.tup xs) → H' b = some (.tup xs)) : ObjOk P w H' h' a o := by
  induction o with
  | lst xs => obtain ⟨z, its, n, r, e⟩ := x; exact ⟨z, its, n, r, k _ _ (.inl rfl) e⟩
  | tup xs => obtain ⟨z, its, r, ob, e, c⟩ := x; exact ⟨z, its, r, ob, k _ _ (.inl rfl) e, c⟩
  | dK kvs => obtain ⟨z, y, vs, r, ob, es, ep, e, c⟩ := x; exact ⟨z, y, vs, r, ob, es, ep, k _ _ (.inl rfl) e, c⟩
  | dT kvs =>
    obtain ⟨z, y, xs, r, ob, es, ep, e, c⟩ := x
    exact ⟨z, y, xs, Paired.mapP r fun p q z => ⟨z.1, ht _ _ z.2.1, z.2.2⟩, ob, es, ep, k _ _ (.inl rfl) e, c⟩
  | set S n => obtain ⟨ob, es, ep, t, e, c⟩ := x; exact ⟨ob, es, ep, t, k _ _ (.inl rfl) e, c⟩
  | ins C dx fs =>
    obtain ⟨d, z, ne, e, mA, ⟨od, es, ep, e2, c⟩, r⟩ := x
    exact ⟨ho _ d, z, ne, k _ _ (.inl rfl) e, mA, ⟨od, es, ep, k _ _ (.inr d) e2, c⟩, r⟩
  | own y => obtain ⟨ob, e⟩ := x; exact ⟨ob, k _ _ (.inl rfl) e⟩
  | xd fs => obtain ⟨mA, ⟨od, es, ep, e, c⟩, r⟩ := x; exact ⟨mA, ⟨od, es, ep, k _ _ (.inl rfl) e, c⟩, r⟩
  | rng lo hi => obtain ⟨t, u, v, e⟩ := x; exact ⟨t, u, v, k _ _ (.inl rfl) e⟩
  | frz ob u ih => obtain ⟨e, q⟩ := x; exact ⟨k _ _ (.inl rfl) e, ih q⟩
  | tbl ps =>
    have e : h.get? a = some { cls := .none, data := .fields ps } := x
    show h'.get? a = some { cls := .none, data := .fields ps }
    exact k a _ (.inl rfl) e
  | met f y =>
    have e : h.get? a = some (PySem.W.methodObj (.ref f) (.ref y)) := x
    show h'.get? a = some (PySem.W.methodObj (.ref f) (.ref y))
    exact k a _ (.inl rfl) e
  | ext φ => obtain ⟨p, ⟨o, e⟩, st⟩ := x; exact ⟨st _ _ p fun o q => k _ _ (.inl rfl) q, ⟨o, k _ _ (.inl rfl) e⟩, st⟩
theorem HOk.lt (x : HOk P w H h) (e : H a = some o) : a < h.objs.size := (x a o e).lt
theorem HOk.fresh (x : HOk P w H h) (e : h.objs.size ≤ a) : H a = none := by
  cases q : H a with
  | none => rfl
  | some u => exact absurd (Nat.lt_of_lt_of_le (x.lt q) e) (Nat.lt_irrefl _)
theorem HOk.kept (x : HOk P w H h) (k : ∀ b u, h.get? b = some u → h'.get? b = some u) : HOk P w H h' := fun a o e =>
  (x a o e).stay (fun b u _ q => k b u q) (fun _ q => q) fun _ _ q => q
theorem HOk.laid (x : HOk P w H h) (k : ∀ b u, h.get? b = some u → h'.get? b = some u) (hp : h.objs.size ≤ a) (new : ObjOk P w (upd H a o) h' a o) : HOk P w (upd H a o) h' := fun b u e => by
  have hn := x.fresh hp
  by_cases hb : b = a
  · subst hb; rw [upd_same] at e; cases e; exact new
  · rw [upd_ne hb] at e
    exact (x b u e).stay (fun c v _ q => k c v q) (fun c q => by rw [upd_ne (ne_of_none q hn)]; exact q) fun c xs q => by rw [upd_ne (ne_of_none q hn)]; exact q
end

def Rd (H : Hp) (a : Addr) (u : HO) : Prop := H a = some u ∨ ∃ o, H a = some (.frz o u)
theorem Rd.of {H : Hp} {a : Addr} {u : HO} (h : H a = some u) : Rd H a u := .inl h
theorem Rd.ok {P : Program} {w : World} {H : Hp} {h : Heap} {a : Addr} {u : HO} (r : Rd H a u) (x : HOk P w H h) : ObjOk P w H h a u := by
  rcases r with r | ⟨o, r⟩
  · exact x a u r
  · obtain ⟨_, q⟩ := x a _ r
    exact q
def Mut : Option HO → Prop
  | some (.lst _) => True
  | some (.dK _) => True
  | some (.dT _) => True
  | some (.set _ _) => True
  | some (.ins _ _ _) => True
  | some (.ext _) => True
  | _ => False
section
variable {P : Program} {w : World} {H : Hp} {h h' : Heap} {x e : Addr} {o' : HO}
theorem HOk.write (ok : HOk P w H h) (mu : Mut (H x)) (he : e = x ∨ H e = some (.own x)) (k : ∀ b u, b ≠ e → h.get? b = some u → h'.get? b = some u) (heo : ∃ u, h'.get? e = some u)
    (new : ObjOk P w (upd H x o') h' x o') : HOk P w (upd H x o') h' := fun b u q => by
  have nown : ∀ c y, H c = some (.own y) → c ≠ x := fun c y r z => by subst z; rw [r] at mu; exact mu
  have ntup : ∀ c xs, H c = some (.tup xs) → c ≠ x := fun c xs r z => by subst z; rw [r] at mu; exact mu
  by_cases hb : b = x
  · subst hb; rw [upd_same] at q; cases q; exact new
  · rw [upd_ne hb] at q
    by_cases hbe : b = e
    · have q' : H b = some (.own x) := by
        rcases he with z | z
        · exact absurd (hbe.trans z) hb
        · rw [hbe]; exact z
      rw [q] at q'; cases q'
      obtain ⟨v, hv⟩ := heo
      exact ⟨v, by rw [hbe]; exact hv⟩
    · refine (ok b u q).stay (fun c v hc r => k c v ?_ r) (fun c r => by rw [upd_ne (nown c b r)]; exact r) fun c xs r => by rw [upd_ne (ntup c xs r)]; exact r
      rcases hc with rfl | hc
      · exact hbe
      · rintro rfl
        rcases he with z | z
        · exact nown c b hc z
        · rw [hc] at z; cases z; exact hb rfl
end

structure Un (fs ex : List Addr) (H H' : Hp) (h h' : Heap) : Prop where
  keep : ∀ b o, h.get? b = some o → H b = none → b ∉ fs → b ∉ ex → h'.get? b = some o
  slot : ∀ b o, h.get? b = some o → H b = none → b ∈ fs → b ∉ ex → ∃ sl, h'.get? b = some { o with slots := sl }
  free : ∀ b o, h.get? b = some o → H b = none → b ∉ ex → H' b = none
  there : ∀ b o, h.get? b = some o → b ∉ ex → ∃ o', h'.get? b = some o'
  tups : ∀ b xs, H b = some (.tup xs) → H' b = some (.tup xs)
  frzs : ∀ b o u, H b = some (.frz o u) → H' b = some (.frz o u)
  tbls : ∀ b ps, H b = some (.tbl ps) → ∃ more, H' b = some (.tbl (ps ++ more))
section
variable {fs fs' ex ex' : List Addr} {H H1 H2 : Hp} {h h1 h2 h' : Heap} {a x e : Addr} {o : HO}
theorem Un.any (u : Un fs ex H H1 h h1) {b : Addr} {ob : Obj} (q : h.get? b = some ob) (n : H b = none) (hx : b ∉ ex) : ∃ sl, h1.get? b = some { ob with slots := sl } := by
  by_cases hb : b ∈ fs
  · exact u.slot b ob q n hb hx
  · exact ⟨ob.slots, u.keep b ob q n hb hx⟩
theorem Un.trans (a : Un fs ex H H1 h h1) (b : Un fs ex H1 H2 h1 h2) : Un fs ex H H2 h h2 where
  keep := fun c ob q n hc hx => b.keep c ob (a.keep c ob q n hc hx) (a.free c ob q n hx) hc hx
  slot := fun c ob q n hc hx => by
    obtain ⟨sl, e1⟩ := a.slot c ob q n hc hx
    obtain ⟨sl', e2⟩ := b.slot c _ e1 (a.free c ob q n hx) hc hx
    exact ⟨sl', e2⟩
  free := fun c ob q n hx => by
    obtain ⟨o', e1⟩ := a.there c ob q hx
    exact b.free c o' e1 (a.free c ob q n hx) hx
  there := fun c ob q hx => by
    obtain ⟨o', e1⟩ := a.there c ob q hx
    exact b.there c o' e1 hx
  tups := fun c xs q => b.tups c xs (a.tups c xs q)
  frzs := fun c ob xs q => b.frzs c ob xs (a.frzs c ob xs q)
  tbls := fun c ps q => by
    obtain ⟨m1, e1⟩ := a.tbls c ps q
    obtain ⟨m2, e2⟩ := b.tbls c _ e1
    exact ⟨m1 ++ m2, by rw [e2, Array.append_assoc]⟩
theorem Un.kept (k : ∀ b u, h.get? b = some u → h'.get? b = some u) : Un fs ex H H h h' :=
  ⟨fun b ob q _ _ _ => k b ob q, fun b ob q _ _ _ => ⟨ob.slots, k b ob q⟩, fun _ _ _ n _ => n, fun b ob q _ => ⟨ob, k b ob q⟩, fun _ _ q => q, fun _ _ _ q => q, fun _ ps q => ⟨#[], by rw [q]; simp⟩⟩
theorem Un.refl : Un fs ex H H h h := Un.kept fun _ _ q => q
theorem Un.laid (k : ∀ b u, h.get? b = some u → h'.get? b = some u) (hp : h.objs.size ≤ a) (hn : H a = none) : Un fs ex H (upd H a o) h h' where
  keep := fun b u q _ _ _ => k b u q
  slot := fun b u q _ _ _ => ⟨u.slots, k b u q⟩
  free := fun b u q n _ => by rw [upd_ne (Nat.ne_of_lt (Nat.lt_of_lt_of_le (Heap.lt_size q) hp))]; exact n
  there := fun b u q _ => ⟨u, k b u q⟩
  tups := fun b xs q => by rw [upd_ne (ne_of_none q hn)]; exact q
  frzs := fun b u xs q => by rw [upd_ne (ne_of_none q hn)]; exact q
  tbls := fun b ps q => ⟨#[], by rw [upd_ne (ne_of_none q hn), q]; simp⟩
theorem Un.write (mu : Mut (H x)) (he : e = x ∨ H e = some (.own x)) (k : ∀ b u, b ≠ e → h.get? b = some u → h'.get? b = some u) (heo : ∃ u, h'.get? e = some u) : Un fs ex H (upd H x o) h h' := by
  have hx : ∀ b, H b = none → b ≠ x := fun b n z => by subst z; rw [n] at mu; exact mu
  have hb : ∀ b, H b = none → b ≠ e := fun b n z => by
    subst z
    rcases he with r | r
    · exact hx b n r
    · rw [n] at r; cases r
  have hm : ∀ b u, H b = some u → ¬ Mut (some u) → b ≠ x := fun b u q nm z => by subst z; rw [q] at mu; exact nm mu
  refine ⟨fun b u q n _ _ => k b u (hb b n) q, fun b u q n _ _ => ⟨u.slots, k b u (hb b n) q⟩, fun b u q n _ => by rw [upd_ne (hx b n)]; exact n, fun b u q _ => ?_,
    fun b xs q => by rw [upd_ne (hm b _ q fun z => z)]; exact q, fun b u xs q => by rw [upd_ne (hm b _ q fun z => z)]; exact q, fun b ps q => ⟨#[], by rw [upd_ne (hm b _ q fun z => z), q]; simp⟩⟩
  by_cases hbe : b = e
  · subst hbe; exact heo
  · exact ⟨u, k b u hbe q⟩
theorem Un.mono (u : Un fs ex H H1 h h1) (hs : ∀ b ∈ fs, b ∈ fs') (hx : ∀ b ∈ ex, b ∈ ex') : Un fs' ex' H H1 h h1 :=
  ⟨fun b ob q n hb he => u.keep b ob q n (fun z => hb (hs b z)) fun z => he (hx b z), fun _ _ q n _ he => u.any q n fun z => he (hx _ z), fun b ob q n he => u.free b ob q n fun z => he (hx b z), fun b ob q he => u.there b ob q fun z => he (hx b z), u.tups, u.frzs, u.tbls⟩
end

def trk (h : Heap) (H : Hp) : List Addr := (List.range h.objs.size).filter fun a => (H a).isSome
def hidT (h : Heap) (H : Hp) : Heap := PySem.W.hideAll h (trk h H)
theorem hidT_size (h : Heap) (H : Hp) : (hidT h H).objs.size = h.objs.size := PySem.W.hideAll_size _ _
theorem hidT_get {h : Heap} {H : Hp} {b : Addr} {o : Obj} (e : h.get? b = some o) (n : H b = none) : (hidT h H).get? b = some o :=
  PySem.W.hideAll_get _ e fun hm => by
    have q : (H b).isSome = true := (List.mem_filter.mp hm).2
    rw [n] at q; simp at q
theorem of_hidT {h : Heap} {H : Hp} {b : Addr} {o : Obj} (e : (hidT h H).get? b = some o) : h.get? b = some o ∧ H b = none := by
  have e' : h.get? b = some o := PySem.W.of_hideAll (trk h H) e
  refine ⟨e', ?_⟩
  cases q : H b with
  | none => rfl
  | some x =>
    have hm : b ∈ trk h H := List.mem_filter.mpr ⟨List.mem_range.mpr (Heap.lt_size e'), by simp [q]⟩
    have z : (hidT h H).get? b = none := PySem.W.hideAll_none (trk h H) hm
    rw [z] at e; cases e

def allNews (g h : Heap) (L : Addr) : List (Addr × Obj) := (List.range h.objs.size).filterMap fun a => if a = L ∨ (g.get? a).isSome = true then none else (h.get? a).map fun o => (a, o)
def rest (g h : Heap) (L d : Addr) : List (Addr × Obj) := (allNews g h L).filter fun p => decide (p.1 ≠ d)
end L2

namespace L2
open PySem PySem.Spec PyProof.Rows

structure Mod (K : PySem.W.Frag) (mg : Str → Option Value) (base : Heap) : Prop where
  kin : K.In base
  glob : base.Ns mainGlobals mg
  blt : ∃ mb, base.Ns builtinsNs mb ∧ ∀ x : Str, x ≠ "__name__" → mb x = bootBuiltins x
  nolimit : base.NoLimit

structure Cx where
  prog : Program
  w : World
  K : PySem.W.Frag
  mg : Str → Option Value
  base : Heap
  A : Around
  N : List Str
  s₀ : Shared
  H₀ : Hp
  env : Env
  outer : List Env
  stack : List Env
  ex : List Addr
  fn : Str → Bool
  calm : Bool
  pn : List (Addr × Obj)
  xe : Value → Shared → Prop
def frs (l : List Env) : List Addr := l.filterMap (·.frame)
abbrev Cx.fs (X : Cx) : List Addr := frs X.outer

def Vis (sc : Scope) (x : Str) : Prop := sc.names.lookup x = some .local ∨ sc.names.lookup x = some .cell ∨ sc.names.lookup x = some .free
def Loc (sc : Scope) (x : Str) : Prop := sc.names.lookup x = some .local ∨ sc.names.lookup x = some .cell
def Look (env : Env) (h : Heap) (m : Str → Option Value) (x : Str) (u : Value) : Prop :=
  (env.kindOf x = some .local ∧ m x = some u) ∨ ((env.kindOf x = some .cell ∨ env.kindOf x = some .free) ∧ ∃ c, env.cells.lookup x = some c ∧ h.IsCell c (some u))

structure Cx.Ok (X : Cx) : Prop where
  mod : Mod X.K X.mg X.base
  kind : X.env.scope.kind = .function
  glob : X.env.globals = mainGlobals
  blt : X.env.builtins = builtinsNs
  above : X.s₀.heap.objs.size ≤ X.env.locals
  inj : ∀ x y c, X.env.cells.lookup x = some c → X.env.cells.lookup y = some c → x = y
  has : ∀ x, (X.env.kindOf x = some .cell ∨ X.env.kindOf x = some .free) → ∃ c, X.env.cells.lookup x = some c
  cab : ∀ x c, X.fn x = true → X.env.cells.lookup x = some c → X.s₀.heap.objs.size ≤ c
  hd : X.calm = true → X.A.handled = none
  frames : X.A.frames = some X.stack
  stk : X.stack = X.outer ∨ (X.stack = X.env :: X.outer ∧ X.env.frame = some X.env.locals)
  exf : ∀ b ∈ X.ex, b ≠ X.env.locals ∧ ∀ x c, X.env.cells.lookup x = some c → c ≠ b
  bs : ∀ b o, X.base.get? b = some o → X.s₀.heap.get? b = some o ∧ X.H₀ b = none
  bsz : X.base.objs.size ≤ X.s₀.heap.objs.size
  noex : ∀ b o, X.base.get? b = some o → b ∉ X.ex
  exfs : ∀ b ∈ X.ex, b ∉ X.fs
  funs : X.s₀.heap.FunFrames X.base X.outer
  frf : ∀ b ∈ X.fs, X.H₀ b = none

structure Inv (X : Cx) (pins : List (Addr × Obj)) (σ : List (Option V)) (H : Hp) (s : Shared) : Prop where
  ok : X.Ok
  os : s.os = X.s₀.os
  bare : AllBare s.gens
  base : Un X.fs X.ex X.H₀ H X.s₀.heap s.heap
  loc : ∃ m, s.heap.Ns X.env.locals m ∧ ∀ (i : Nat) (x : Str) (v : V), X.N[i]? = some x → σ[i]? = some (some v) → Vis X.env.scope x → ∃ u, RelV v u ∧ Look X.env s.heap m x u
  cell : ∀ x c, X.env.cells.lookup x = some c → ∃ v, s.heap.IsCell c v
  free : H X.env.locals = none
  freeC : ∀ x c, X.env.cells.lookup x = some c → H c = none
  pin : ∀ p ∈ X.pn ++ pins, s.heap.get? p.1 = some p.2 ∧ H p.1 = none ∧ p.1 ≠ X.env.locals ∧ p.1 ∉ X.fs ∧ ∀ v, p.2.data ≠ .cell v
  hok : HOk X.prog X.w H s.heap
  len : σ.length = X.N.length

section
variable {X : Cx} {pins : List (Addr × Obj)} {σ : List (Option V)} {H H' : Hp} {s : Shared} {h' : Heap}

theorem Cx.Ok.nofr (ok : X.Ok) {b : Addr} {o : Obj} (e : X.base.get? b = some o) : b ∉ X.fs := fun hb => by
  have := (ok.funs.mem hb).1
  rw [e] at this; cases this
theorem Inv.bs (I : Inv X pins σ H s) : ∀ b o, X.base.get? b = some o → s.heap.get? b = some o ∧ H b = none := fun b o e =>
  ⟨I.base.keep b o (I.ok.bs b o e).1 (I.ok.bs b o e).2 (I.ok.nofr e) (I.ok.noex b o e), I.base.free b o (I.ok.bs b o e).1 (I.ok.bs b o e).2 (I.ok.noex b o e)⟩
theorem Inv.bk (I : Inv X pins σ H s) : ∀ b o, X.base.get? b = some o → s.heap.get? b = some o := fun b o e => (I.bs b o e).1
theorem Inv.mod (I : Inv X pins σ H s) : Mod X.K X.mg X.base := I.ok.mod
theorem Inv.kIn (I : Inv X pins σ H s) : X.K.In s.heap := I.ok.mod.kin.keeps I.bk
theorem Inv.nolimit (I : Inv X pins σ H s) : s.heap.NoLimit := I.ok.mod.nolimit.keeps I.bk
theorem Inv.fr (I : Inv X pins σ H s) : ∃ m, Fr X.base X.env.locals s.heap m :=
  let ⟨m, hn, _⟩ := I.loc
  ⟨m, hn, I.bk, Nat.le_trans I.ok.bsz I.ok.above⟩
theorem Inv.lt (I : Inv X pins σ H s) : X.env.locals < s.heap.objs.size := let ⟨_, hn, _⟩ := I.loc; hn.lt
theorem Inv.sz (I : Inv X pins σ H s) : X.s₀.heap.objs.size ≤ s.heap.objs.size := Nat.le_trans I.ok.above (Nat.le_of_lt I.lt)
theorem Inv.nofs (I : Inv X pins σ H s) {a : Addr} (h : s.heap.objs.size ≤ a) : a ∉ X.fs := fun hb => by
  obtain ⟨_, o, ho, _⟩ := I.ok.funs.mem hb
  exact absurd (Nat.lt_of_lt_of_le (Heap.lt_size ho) (Nat.le_trans I.sz h)) (Nat.lt_irrefl _)
theorem Inv.cne (I : Inv X pins σ H s) : ∀ x c, X.env.cells.lookup x = some c → c ≠ X.env.locals := fun x c e z => by
  obtain ⟨v, o, ho, hd⟩ := I.cell x c e
  obtain ⟨m, ⟨o', es, ep, ho', hd', _⟩, _⟩ := I.loc
  rw [z, ho'] at ho; cases ho; rw [hd'] at hd; cases hd
theorem Inv.funs (I : Inv X pins σ H s) : s.heap.FunFrames X.base X.outer := by
  have all : ∀ (l : List Env), (∀ b ∈ frs l, b ∈ X.fs) → X.s₀.heap.FunFrames X.base l → s.heap.FunFrames X.base l := by
    intro l
    induction l with
    | nil => intro _ _; trivial
    | cons env r ih =>
      intro hs hl
      obtain ⟨hk, ⟨L, o, hf, hn, ho, hd⟩, hr⟩ := hl
      have hL : L ∈ X.fs := hs L (by unfold frs; rw [List.filterMap_cons, hf]; exact List.mem_cons_self)
      obtain ⟨sl, e⟩ := I.base.slot L o ho (I.ok.frf L hL) hL fun z => I.ok.exfs L z hL
      exact ⟨hk, ⟨L, _, hf, hn, e, hd⟩, ih (fun b hb => hs b (by unfold frs; rw [List.filterMap_cons, hf]; exact List.mem_cons_of_mem _ hb)) hr⟩
  exact all X.outer (fun _ hb => hb) I.ok.funs

theorem Inv.stack (I : Inv X pins σ H s) : s.heap.FunFrames X.base X.stack := by
  rcases I.ok.stk with e | ⟨e, hf⟩
  · rw [e]; exact I.funs
  · rw [e]
    obtain ⟨m, hn, _⟩ := I.loc
    refine .cons (by rw [I.ok.kind]; decide) hf hn ?_ I.funs
    exact Heap.get?_none_of_le (Nat.le_trans I.ok.bsz I.ok.above)
theorem Inv.stkSub (I : Inv X pins σ H s) : ∀ b ∈ frs X.stack, b ∈ X.env.locals :: X.fs := fun b hb => by
  rcases I.ok.stk with e | ⟨e, hf⟩
  · rw [e] at hb; exact List.mem_cons_of_mem _ hb
  · rw [e] at hb
    unfold frs at hb
    rw [List.filterMap_cons, hf] at hb
    exact hb
theorem Inv.stkFree (I : Inv X pins σ H s) : ∀ b ∈ frs X.stack, H b = none := fun b hb => by
  rcases List.mem_cons.mp (I.stkSub b hb) with e | hb
  · rw [e]; exact I.free
  · obtain ⟨_, o, ho, _⟩ := I.ok.funs.mem hb
    exact I.base.free b o ho (I.ok.frf b hb) fun z => I.ok.exfs b z hb

theorem Inv.step {g' : Array GenState} {t' : Nat} {d' : Drawn} {ch : List Addr} (I : Inv X pins σ H s)
    (hch : ∀ b ∈ ch, (b ∈ X.ex ∨ X.s₀.heap.objs.size ≤ b) ∧ b ≠ X.env.locals ∧ (∀ x c, X.env.cells.lookup x = some c → c ≠ b) ∧ ∀ p ∈ X.pn ++ pins, p.1 ≠ b)
    (keep : ∀ b o, b ≠ X.env.locals → b ∉ X.fs → b ∉ ch → s.heap.get? b = some o → H b = none → h'.get? b = some o)
    (slot : ∀ b o, b ≠ X.env.locals → b ∈ X.fs → b ∉ ch → s.heap.get? b = some o → H b = none → ∃ sl, h'.get? b = some { o with slots := sl }) (free : ∀ b o, b ∉ ch → s.heap.get? b = some o → H b = none → H' b = none)
    (there : ∀ b o, b ∉ ch → s.heap.get? b = some o → ∃ o', h'.get? b = some o')
    (tups : ∀ b xs, H b = some (.tup xs) → H' b = some (.tup xs)) (frzs : ∀ b o u, H b = some (.frz o u) → H' b = some (.frz o u)) (tbls : ∀ b ps, H b = some (.tbl ps) → ∃ more, H' b = some (.tbl (ps ++ more)))
    (ns : ∀ m, s.heap.Ns X.env.locals m → h'.Ns X.env.locals m) (hok : HOk X.prog X.w H' h') (hg : AllBare g') :
    Inv X pins σ H' { s with heap := h', gens := g', drawn := d', toks := t' } := by
  have neL : ∀ b o, X.s₀.heap.get? b = some o → b ≠ X.env.locals := fun b o e => Nat.ne_of_lt (Nat.lt_of_lt_of_le (Heap.lt_size e) I.ok.above)
  have neC : ∀ b o, X.s₀.heap.get? b = some o → b ∉ X.ex → b ∉ ch := fun b o e hx hb => by
    rcases (hch b hb).1 with z | z
    · exact hx z
    · exact absurd (Nat.lt_of_lt_of_le (Heap.lt_size e) z) (Nat.lt_irrefl _)
  have cellK : ∀ x c, X.env.cells.lookup x = some c → ∀ v, s.heap.IsCell c v → h'.IsCell c v := fun x c e v ⟨o, ho, hd⟩ => by
    have nch : c ∉ ch := fun z => (hch c z).2.2.1 x c e rfl
    by_cases hc : c ∈ X.fs
    · obtain ⟨sl, q⟩ := slot c o (I.cne x c e) hc nch ho (I.freeC x c e)
      exact ⟨_, q, hd⟩
    · exact ⟨o, keep c o (I.cne x c e) hc nch ho (I.freeC x c e), hd⟩
  refine ⟨I.ok, I.os, hg, ⟨fun b o e n hb hx => ?_, fun b o e n hb hx => ?_, fun b o e n hx => ?_, fun b o e hx => ?_, fun b xs e => tups b xs (I.base.tups b xs e), fun b o xs e => frzs b o xs (I.base.frzs b o xs e), fun b ps e => ?_⟩, ?_, fun x c e => ?_, ?_, fun x c e => ?_, fun p hp => ?_, hok, I.len⟩
  · exact keep b o (neL b o e) hb (neC b o e hx) (I.base.keep b o e n hb hx) (I.base.free b o e n hx)
  · obtain ⟨sl, e1⟩ := I.base.slot b o e n hb hx
    obtain ⟨sl', e2⟩ := slot b _ (neL b o e) hb (neC b o e hx) e1 (I.base.free b o e n hx)
    exact ⟨sl', e2⟩
  · obtain ⟨o', e1⟩ := I.base.there b o e hx
    exact free b o' (neC b o e hx) e1 (I.base.free b o e n hx)
  · obtain ⟨o', e1⟩ := I.base.there b o e hx
    exact there b o' (neC b o e hx) e1
  · obtain ⟨m1, e1⟩ := I.base.tbls b ps e
    obtain ⟨m2, e2⟩ := tbls b _ e1
    exact ⟨m1 ++ m2, by rw [e2, Array.append_assoc]⟩
  · obtain ⟨m, hn, hl⟩ := I.loc
    refine ⟨m, ns m hn, fun i x v e1 e2 e3 => ?_⟩
    obtain ⟨u, r, l⟩ := hl i x v e1 e2 e3
    refine ⟨u, r, ?_⟩
    rcases l with l | ⟨k, c, e, z⟩
    · exact .inl l
    · exact .inr ⟨k, c, e, cellK x c e _ z⟩
  · obtain ⟨v, z⟩ := I.cell x c e
    exact ⟨v, cellK x c e v z⟩
  · obtain ⟨m, ⟨o, _, _, ho, _⟩, _⟩ := I.loc
    exact free _ o (fun z => (hch _ z).2.1 rfl) ho I.free
  · obtain ⟨v, o, ho, hd⟩ := I.cell x c e
    exact free c o (fun z => (hch c z).2.2.1 x c e rfl) ho (I.freeC x c e)
  · obtain ⟨e, n, ne, nf, d⟩ := I.pin p hp
    have nch : p.1 ∉ ch := fun z => (hch p.1 z).2.2.2 p hp rfl
    exact ⟨keep p.1 p.2 ne nf nch e n, free p.1 p.2 nch e n, ne, nf, d⟩
theorem Inv.un {t' : Nat} (I : Inv X pins σ H s) (u : Un X.fs [] H H' s.heap h') (hok : HOk X.prog X.w H' h') : Inv X pins σ H' { s with heap := h', toks := t' } := by
  obtain ⟨m, ⟨o, es, ep, ho, r⟩, _⟩ := id I.loc
  obtain ⟨sl, hL⟩ := u.any ho I.free (by simp)
  exact I.step (g' := s.gens) (d' := s.drawn) (ch := []) (fun _ z => nomatch z) (fun b o _ hb _ e n => u.keep b o e n hb (by simp)) (fun b o _ hb _ e n => u.slot b o e n hb (by simp)) (fun b o _ e n => u.free b o e n (by simp)) (fun b o _ e => u.there b o e (by simp)) u.tups u.frzs u.tbls (fun m' hm => by
    obtain ⟨o', es', ep', ho', r'⟩ := hm
    rw [ho] at ho'; cases ho'
    exact ⟨_, es', ep', hL, r'⟩) hok I.bare
theorem Inv.call {g' : Array GenState} {t' : Nat} {d' : Drawn} {ch : List Addr} (I : Inv X pins σ H s) (u : Un (frs X.stack) ch H H' s.heap h') (hok : HOk X.prog X.w H' h') (hg : AllBare g')
    (hch : ∀ b ∈ ch, (b ∈ X.ex ∨ X.s₀.heap.objs.size ≤ b) ∧ b ≠ X.env.locals ∧ (∀ x c, X.env.cells.lookup x = some c → c ≠ b) ∧ ∀ p ∈ X.pn ++ pins, p.1 ≠ b) :
    Inv X pins σ H' { s with heap := h', gens := g', drawn := d', toks := t' } := by
  obtain ⟨m, ⟨o, es, ep, ho, r⟩, _⟩ := id I.loc
  obtain ⟨sl, hL⟩ := u.any ho I.free fun z => (hch _ z).2.1 rfl
  exact I.step (ch := ch) hch (fun b o hL hb hc e n => u.keep b o e n (fun z => (List.mem_cons.mp (I.stkSub b z)).elim hL hb) hc) (fun b o _ _ hc e n => u.any e n hc) (fun b o hc e n => u.free b o e n hc) (fun b o hc e => u.there b o e hc) u.tups u.frzs u.tbls (fun m' hm => by
    obtain ⟨o', es', ep', ho', r'⟩ := hm
    rw [ho] at ho'; cases ho'
    exact ⟨_, es', ep', hL, r'⟩) hok hg
theorem Inv.turned {t' : Nat} {it : Addr} (I : Inv X pins σ H s) (k : ∀ b o, b ≠ it → s.heap.get? b = some o → h'.get? b = some o) (hn : H it = none) (hL : it ≠ X.env.locals)
    (h1 : it ∈ X.ex ∨ X.s₀.heap.objs.size ≤ it) (h2 : ∀ x c, X.env.cells.lookup x = some c → c ≠ it) (h3 : ∀ p ∈ X.pn ++ pins, p.1 ≠ it) : Inv X pins σ H { s with heap := h', toks := t' } := by
  have nit : ∀ b u, H b = some u → b ≠ it := fun b u e z => by rw [z, hn] at e; cases e
  refine I.step (g' := s.gens) (d' := s.drawn) (ch := [it]) (fun b hb => ?_) (fun b o _ _ hc e _ => k b o (fun z => hc (by simp [z])) e) (fun b o _ _ hc e _ => ⟨o.slots, k b o (fun z => hc (by simp [z])) e⟩) (fun _ _ _ _ n => n)
    (fun b o hc e => ⟨o, k b o (fun z => hc (by simp [z])) e⟩) (fun _ _ e => e) (fun _ _ _ e => e) (fun b ps e => ⟨#[], by rw [e]; simp⟩) (fun m hm => ?_) (fun b u e => ?_) I.bare
  · have e : b = it := by simpa using hb
    subst e
    exact ⟨h1, hL, h2, h3⟩
  · obtain ⟨o, es, ep, ho, r⟩ := hm
    exact ⟨o, es, ep, k _ o (Ne.symm hL) ho, r⟩
  · refine (I.hok b u e).stay (fun c v hc q => k c v ?_ q) (fun _ q => q) fun _ _ q => q
    rcases hc with z | z
    · rw [z]; exact nit b u e
    · exact nit c _ z
theorem Inv.tok (I : Inv X pins σ H s) (t : Nat) : Inv X pins σ H { s with toks := t } := I.un (h' := s.heap) (t' := t) Un.refl I.hok
theorem Inv.kept {t' : Nat} (I : Inv X pins σ H s) (k : ∀ b u, s.heap.get? b = some u → h'.get? b = some u) : Inv X pins σ H { s with heap := h', toks := t' } := I.un (Un.kept k) (I.hok.kept k)
theorem Inv.laid {a : Addr} {o : HO} {t' : Nat} (I : Inv X pins σ H s) (k : ∀ b u, s.heap.get? b = some u → h'.get? b = some u) (hp : s.heap.objs.size ≤ a) (new : ObjOk X.prog X.w (upd H a o) h' a o) :
    Inv X pins σ (upd H a o) { s with heap := h', toks := t' } := I.un (Un.laid k hp (I.hok.fresh hp)) (I.hok.laid k hp new)
theorem Inv.write {x e : Addr} {o : HO} {t' : Nat} (I : Inv X pins σ H s) (mu : Mut (H x)) (he : e = x ∨ H e = some (.own x)) (k : ∀ b u, b ≠ e → s.heap.get? b = some u → h'.get? b = some u) (heo : ∃ u, h'.get? e = some u)
    (new : ObjOk X.prog X.w (upd H x o) h' x o) : Inv X pins σ (upd H x o) { s with heap := h', toks := t' } := I.un (Un.write mu he k heo) (I.hok.write mu he k heo new)
theorem Inv.pins_of {pins' : List (Addr × Obj)} (I : Inv X pins σ H s) (h : ∀ p ∈ pins', s.heap.get? p.1 = some p.2 ∧ H p.1 = none ∧ p.1 ≠ X.env.locals ∧ p.1 ∉ X.fs ∧ ∀ v, p.2.data ≠ .cell v) : Inv X pins' σ H s :=
  ⟨I.ok, I.os, I.bare, I.base, I.loc, I.cell, I.free, I.freeC, fun p hp => (List.mem_append.mp hp).elim (fun z => I.pin p (List.mem_append_left _ z)) (h p), I.hok, I.len⟩

theorem nodup_ix {N : List Str} (hN : N.Nodup) {i j : Nat} {x : Str} (a : N[i]? = some x) (b : N[j]? = some x) : i = j := by
  obtain ⟨h1, e1⟩ := List.getElem?_eq_some_iff.mp a
  obtain ⟨h2, e2⟩ := List.getElem?_eq_some_iff.mp b
  exact (List.getElem_inj hN).mp (e1.trans e2.symm)

theorem store_ok2 {M : Model} {A : Around} {E : Value → Shared → Prop} {i : Nat} {x : Str} {v : V} {u : Value} {Q : Unit → Shared → Prop} (I : Inv X pins σ H s) (hN : X.N.Nodup) (hi : X.N[i]? = some x) (hx : Loc X.env.scope x) (r : RelV v u)
    (h : ∀ s', Inv X pins (σ.set i (some v)) H s' → (∃ a, Heap.SameBut a s.heap s'.heap ∧ (a = X.env.locals ∨ X.env.cells.lookup x = some a)) → Q () s') (hf : X.fn x = true ∨ X.env.scope.names.lookup x = some .local := by first | exact .inl rfl | exact .inr rfl | assumption) : wpAny M A (storeName X.env x u) Q E s := by
  obtain ⟨m, hn, hl⟩ := id I.loc
  have hcls : (X.env.scope.kind == .class || (X.env.scope.kind == .module && X.env.locals != X.env.globals)) = false := by rw [I.ok.kind]; rfl
  have hiσ : i < σ.length := by rw [I.len]; exact (List.getElem?_eq_some_iff.mp hi).1
  have cne := I.cne
  have tracked : ∀ {a : Addr} {h' : Heap}, (∃ o, s.heap.get? a = some o ∧ H a = none) → Heap.SameBut a s.heap h' → HOk X.prog X.w H h' := fun {a h'} ha hs b ob e => by
    obtain ⟨_, _, hfree⟩ := ha
    refine (I.hok b ob e).stay (fun c w' hc q => (hs.2 c ?_).trans q) (fun _ q => q) fun _ _ q => q
    rintro rfl
    rcases hc with rfl | hc
    · rw [hfree] at e; cases e
    · rw [hfree] at hc; cases hc
  rcases hx with hk | hk
  · refine wpAny_storeName_local hk hn (fun h' hn' hs => ?_) hcls
    obtain ⟨oL, _, _, hoL, _⟩ := id hn
    refine h _ ⟨I.ok, I.os, I.bare, ⟨fun b o e n hb hx => ?_, fun b o e n hb hx => ?_, I.base.free, fun b o e hx => ?_, I.base.tups, I.base.frzs, I.base.tbls⟩, ⟨_, hn', fun j y v' e1 e2 e3 => ?_⟩, fun y c e => ?_, I.free, I.freeC, fun p hp => ?_, tracked ⟨oL, hoL, I.free⟩ hs, by simpa using I.len⟩ ⟨_, hs, .inl rfl⟩
    · exact (hs.2 b (Nat.ne_of_lt (Nat.lt_of_lt_of_le (Heap.lt_size e) I.ok.above))).trans (I.base.keep b o e n hb hx)
    · obtain ⟨sl, e1⟩ := I.base.slot b o e n hb hx
      exact ⟨sl, (hs.2 b (Nat.ne_of_lt (Nat.lt_of_lt_of_le (Heap.lt_size e) I.ok.above))).trans e1⟩
    · obtain ⟨o', e1⟩ := I.base.there b o e hx
      exact ⟨o', (hs.2 b (Nat.ne_of_lt (Nat.lt_of_lt_of_le (Heap.lt_size e) I.ok.above))).trans e1⟩
    · by_cases hj : j = i
      · subst hj
        rw [hi] at e1; cases e1
        rw [List.getElem?_set_self hiσ] at e2
        cases e2
        exact ⟨u, r, .inl ⟨hk, by simp⟩⟩
      · rw [List.getElem?_set_ne (Ne.symm hj)] at e2
        obtain ⟨u', r', q⟩ := hl j y v' e1 e2 e3
        refine ⟨u', r', ?_⟩
        rcases q with ⟨k, e⟩ | ⟨k, c, e, z⟩
        · refine .inl ⟨k, ?_⟩
          have : y ≠ x := fun e => hj (nodup_ix hN e1 (e ▸ hi))
          simp [this, e]
        · exact .inr ⟨k, c, e, z.sameBut hs (cne y c e)⟩
    · obtain ⟨w', z⟩ := I.cell y c e
      exact ⟨w', z.sameBut hs (cne y c e)⟩
    · obtain ⟨e, n, ne, nf, d⟩ := I.pin p hp
      exact ⟨(hs.2 p.1 ne).trans e, n, ne, nf, d⟩
  · have hfn : X.fn x = true := by
      rcases hf with z | z
      · exact z
      · rw [z] at hk; cases hk
    obtain ⟨c, hc⟩ := I.ok.has x (.inl hk)
    obtain ⟨w', z⟩ := I.cell x c hc
    refine wpAny_storeName_cell I.ok.kind hk hc z (fun h' hc' hs => ?_)
    obtain ⟨oc, hoc, hocd⟩ := id z
    refine h { s with heap := h' } ⟨I.ok, I.os, I.bare, ⟨fun b o e n hb hx => ?_, fun b o e n hb hx => ?_, I.base.free, fun b o e hx => ?_, I.base.tups, I.base.frzs, I.base.tbls⟩, ⟨m, hn.sameBut hs (Ne.symm (cne x c hc)), fun j y v' e1 e2 e3 => ?_⟩, fun y c' e => ?_, I.free, I.freeC, fun p hp => ?_, tracked ⟨oc, hoc, I.freeC x c hc⟩ hs, by simpa using I.len⟩ ⟨c, hs, .inr hc⟩
    · exact (hs.2 b (Nat.ne_of_lt (Nat.lt_of_lt_of_le (Heap.lt_size e) (I.ok.cab x c hfn hc)))).trans (I.base.keep b o e n hb hx)
    · obtain ⟨sl, e1⟩ := I.base.slot b o e n hb hx
      exact ⟨sl, (hs.2 b (Nat.ne_of_lt (Nat.lt_of_lt_of_le (Heap.lt_size e) (I.ok.cab x c hfn hc)))).trans e1⟩
    · obtain ⟨o', e1⟩ := I.base.there b o e hx
      exact ⟨o', (hs.2 b (Nat.ne_of_lt (Nat.lt_of_lt_of_le (Heap.lt_size e) (I.ok.cab x c hfn hc)))).trans e1⟩
    · by_cases hj : j = i
      · subst hj
        rw [hi] at e1; cases e1
        rw [List.getElem?_set_self hiσ] at e2
        cases e2
        exact ⟨u, r, .inr ⟨.inl hk, c, hc, hc'⟩⟩
      · rw [List.getElem?_set_ne (Ne.symm hj)] at e2
        obtain ⟨u', r', q⟩ := hl j y v' e1 e2 e3
        refine ⟨u', r', ?_⟩
        rcases q with q | ⟨k, c', e, z'⟩
        · exact .inl q
        · refine .inr ⟨k, c', e, z'.sameBut hs ?_⟩
          rintro rfl
          exact hj (nodup_ix hN e1 (I.ok.inj _ _ _ e hc ▸ hi))
    · by_cases hcc : c' = c
      · subst hcc; exact ⟨_, hc'⟩
      · obtain ⟨w2, z2⟩ := I.cell y c' e
        exact ⟨w2, z2.sameBut hs hcc⟩
    · obtain ⟨e, n, ne, nf, d⟩ := I.pin p hp
      refine ⟨(hs.2 p.1 ?_).trans e, n, ne, nf, d⟩
      intro q
      rw [q, hoc] at e
      have q' : oc = p.2 := Option.some.inj e
      exact d w' (by rw [← q']; exact hocd)
theorem store_ok {M : Model} {A : Around} {E : Value → Shared → Prop} {i : Nat} {x : Str} {v : V} {u : Value} {Q : Unit → Shared → Prop} (I : Inv X pins σ H s) (hN : X.N.Nodup) (hi : X.N[i]? = some x) (hx : Loc X.env.scope x) (r : RelV v u)
    (h : ∀ s', Inv X pins (σ.set i (some v)) H s' → Q () s') (hf : X.fn x = true ∨ X.env.scope.names.lookup x = some .local := by first | exact .inl rfl | exact .inr rfl | assumption) : wpAny M A (storeName X.env x u) Q E s :=
  store_ok2 I hN hi hx r (fun s' I' _ => h s' I') hf
theorem Inv.call' {s' : Shared} {ch : List Addr} (I : Inv X pins σ H s) (ho : s'.os = s.os) (u : Un (frs X.stack) ch H H' s.heap s'.heap) (hok : HOk X.prog X.w H' s'.heap) (hg : AllBare s'.gens)
    (hch : ∀ b ∈ ch, (b ∈ X.ex ∨ X.s₀.heap.objs.size ≤ b) ∧ b ≠ X.env.locals ∧ (∀ x c, X.env.cells.lookup x = some c → c ≠ b) ∧ ∀ p ∈ X.pn ++ pins, p.1 ≠ b) : Inv X pins σ H' s' := by
  obtain ⟨h', g', d', t', o'⟩ := s'
  have e : o' = s.os := ho
  subst e
  exact I.call (g' := g') (t' := t') (d' := d') u hok hg hch
end

abbrev XK := Value → Option Addr → Hp → Prop
abbrev St := List (Option V)
abbrev VK := V → Hp → Prop
abbrev TE := St → Hp → VK → Prop
abbrev TT := St → Hp → (Bool → Hp → Prop) → Prop
abbrev TA := St → Hp → (List V → Hp → Prop) → Prop
structure Ends where
  nx : St → Hp → Prop
  rt : VK
  bk : St → Hp → Prop := fun _ _ => False
  ct : St → Hp → Prop := fun _ _ => False
abbrev TS := Ends → St → Hp → Prop

def EP (X : Cx) (pins : List (Addr × Obj)) (σ : St) (Q : VK) (u : Value) (s' : Shared) : Prop := ∃ v H', Inv X pins σ H' s' ∧ RelV v u ∧ Q v H'
def TP (X : Cx) (pins : List (Addr × Obj)) (σ : St) (Q : Bool → Hp → Prop) (b : Bool) (s' : Shared) : Prop := ∃ H', Inv X pins σ H' s' ∧ Q b H'
def AP (X : Cx) (pins : List (Addr × Obj)) (σ : St) (Q : List V → Hp → Prop) (us : List Value) (s' : Shared) : Prop := ∃ vs H', Inv X pins σ H' s' ∧ Vals vs us ∧ Q vs H'
def SP (X : Cx) (pins : List (Addr × Obj)) (D : Ends) (f : Flow) (s' : Shared) : Prop :=
  match f with
  | .next => ∃ σ' H', Inv X pins σ' H' s' ∧ D.nx σ' H'
  | .brk => ∃ σ' H', Inv X pins σ' H' s' ∧ D.bk σ' H'
  | .cont => ∃ σ' H', Inv X pins σ' H' s' ∧ D.ct σ' H'
  | .ret u => ∃ v σ' H', Inv X pins σ' H' s' ∧ RelV v u ∧ D.rt v H'

def PE (X : Cx) (e : Expr) (t : TE) : Prop :=
  ∀ (pins : List (Addr × Obj)) (s : Shared) (σ : St) (H : Hp) (Q : VK), Inv X pins σ H s → t σ H Q → wpAny (model X.prog X.w) X.A (eval e X.env) (EP X pins σ Q) X.xe s
def PT (X : Cx) (e : Expr) (t : TT) : Prop :=
  ∀ (pins : List (Addr × Obj)) (s : Shared) (σ : St) (H : Hp) (Q : Bool → Hp → Prop), Inv X pins σ H s → t σ H Q → wpAny (model X.prog X.w) X.A (isTrue e X.env (eval e X.env)) (TP X pins σ Q) X.xe s
def PW (X : Cx) (e : Expr) (t : TT) : Prop :=
  ∀ (whole : Sem Value) (pins : List (Addr × Obj)) (s : Shared) (σ : St) (H : Hp) (Q : Bool → Hp → Prop), Inv X pins σ H s → t σ H Q → wpAny (model X.prog X.w) X.A (isTrue e X.env whole) (TP X pins σ Q) X.xe s
theorem PW.pt {X : Cx} {e : Expr} {t : TT} (h : PW X e t) : PT X e t := h _
def PA (X : Cx) (es : List Expr) (t : TA) : Prop :=
  ∀ (pos : Pos) (pins : List (Addr × Obj)) (s : Shared) (σ : St) (H : Hp) (Q : List V → Hp → Prop), Inv X pins σ H s → t σ H Q → wpAny (model X.prog X.w) X.A (spliced (backTo pos (starEach es X.env))) (AP X pins σ Q) X.xe s
def PS (X : Cx) (st : Stmt) (t : TS) : Prop :=
  ∀ (pins : List (Addr × Obj)) (s : Shared) (σ : St) (H : Hp) (D : Ends), Inv X pins σ H s → t D σ H → wpAny (model X.prog X.w) X.A (exec st X.env) (SP X pins D) X.xe s
def PSs (X : Cx) (st : List Stmt) (t : TS) : Prop :=
  ∀ (pins : List (Addr × Obj)) (s : Shared) (σ : St) (H : Hp) (D : Ends), Inv X pins σ H s → t D σ H → wpAny (model X.prog X.w) X.A (execs st X.env) (SP X pins D) X.xe s
theorem thn {α : Type} {t : Sem α} {Q Q' : α → Shared → Prop} {M : Model} {A : Around} {E : Value → Shared → Prop} {s : Shared} (h : wpAny M A t Q E s) (hQ : ∀ a s, Q a s → Q' a s) : wpAny M A t Q' E s := wpAny_mono h hQ fun _ _ x => x
end L2

namespace L2
open PySem PySem.Spec PyProof.Rows
section
variable {X : Cx}

def tVar (i : Nat) : TE := fun σ H Q => ∃ v, σ[i]? = some (some v) ∧ Q v H
def tC (v : V) : TE := fun _ H Q => Q v H
theorem pe_var {i : Nat} {x : Str} {pos : Pos} (hN : X.N[i]? = some x) (hv : Vis X.env.scope x) (hd : (x == ("__debug__" : Str)) = false := by decide) (hcd : (x == ("__classdict__" : Str)) = false := by decide) : PE X (.Name x pos) (tVar i) := by
  intro pins s σ H Q I h
  obtain ⟨v, e, h⟩ := h
  obtain ⟨m, hn, hl⟩ := I.loc
  obtain ⟨u, r, l⟩ := hl i x v hN e hv
  have fin : EP X pins σ Q u s := ⟨v, H, I, r, h⟩
  rcases l with ⟨hk, hm⟩ | ⟨hk, c, hc, hcell⟩
  · exact wpAny_Name (wpAny_loadName_local I.ok.kind hk hn hm fin) hd
  · rcases hk with hk | hk
    · exact wpAny_Name (wpAny_loadName_cell I.ok.kind hk hc hcell fin) hd
    · exact wpAny_Name (wpAny_loadName_free I.ok.kind hk hc hcell fin hcd) hd
theorem pe_int {i j pos} : PE X (.Constant (.int i) j pos) (tC (.int i)) := fun _ _ _ H _ I h => wpAny_Constant_int ⟨.int i, H, I.tok _, ⟨_, rfl⟩, h⟩
theorem pe_bl {b j pos} : PE X (.Constant (.bool b) j pos) (tC (.bl b)) := fun _ _ _ H _ I h => Constant_bool ⟨.bl b, H, I, rfl, h⟩
theorem pe_str {x j pos} : PE X (.Constant (.str x) j pos) (tC (.str x)) := fun _ _ _ H _ I h => Calls.Constant_str ⟨.str x, H, I.tok _, ⟨_, rfl⟩, h⟩

def Gl (X : Cx) (x : Str) : Prop := X.env.kindOf x = some .globalImplicit
theorem ld_glob {E : Value → Shared → Prop} {pins : List (Addr × Obj)} {s : Shared} {σ : St} {H : Hp} {x : Str} {u : Value} {pos : Pos} {Q : Value → Shared → Prop} (I : Inv X pins σ H s) (hg : Gl X x) (hm : X.mg x = some u) (h : Q u s)
    (hd : (x == ("__debug__" : Str)) = false := by decide) : wpAny (model X.prog X.w) X.A (eval (.Name x pos) X.env) Q E s :=
  Calls.Name_function_global I.ok.kind hg (Calls.loadGlobal_global (by rw [I.ok.glob]; exact I.mod.glob.keeps I.bk) hm h) hd
theorem ld_blt {E : Value → Shared → Prop} {pins : List (Addr × Obj)} {s : Shared} {σ : St} {H : Hp} {x : Str} {u : Value} {pos : Pos} {Q : Value → Shared → Prop} (I : Inv X pins σ H s) (hg : Gl X x) (hm : X.mg x = none) (hv : bootBuiltins x = some u) (h : Q u s)
    (hn : x ≠ "__name__" := by decide) (hd : (x == ("__debug__" : Str)) = false := by decide) : wpAny (model X.prog X.w) X.A (eval (.Name x pos) X.env) Q E s := by
  obtain ⟨mb, h1, h2⟩ := I.mod.blt
  exact Calls.Name_function_global I.ok.kind hg (Calls.loadGlobal_builtin (by rw [I.ok.glob]; exact I.mod.glob.keeps I.bk) hm (by rw [I.ok.blt]; exact h1.keeps I.bk) ((h2 x hn).trans hv) h) hd
theorem pe_bltn {x : Str} {v : V} {u : Value} {pos : Pos} (hg : Gl X x) (hm : X.mg x = none) (hv : bootBuiltins x = some u) (r : RelV v u) (hn : x ≠ "__name__" := by decide) (hd : (x == ("__debug__" : Str)) = false := by decide) : PE X (.Name x pos) (tC v) :=
  fun _ _ _ H _ I h => ld_blt I hg hm hv ⟨v, H, I, r, h⟩ hn hd

variable {a b : Expr} {ta tb : TE} {pos : Pos}
def tB (t : TE) : TT := fun σ H Q => t σ H fun x H1 => ∃ c, x = .bl c ∧ Q c H1
theorem pt_val {e : Expr} {t : TE} (h : PE X e t) (he : ∀ whole, isTrue e X.env whole = (do let v ← whole; standAt e.pos; holding [v] (truthy v)) := by intro _; rfl) : PT X e (tB t) := by
  intro pins s σ H Q I hw
  refine isTrue_plain (thn (h pins s σ H _ I hw) fun v s1 ⟨x, H1, I1, r1, q1⟩ => ?_) (he _)
  obtain ⟨d, rfl, q⟩ := q1
  cases r1
  exact wpAny_truthy_bool ⟨H1, I1, q⟩

variable {tA tB' : TT} {rest : List Expr}
def tAnd (t u : TT) : TT := fun σ H Q => t σ H fun c H1 => if c = true then u σ H1 Q else Q false H1
def tOr (t u : TT) : TT := fun σ H Q => t σ H fun c H1 => if c = true then Q true H1 else u σ H1 Q
def tNot (t : TT) : TT := fun σ H Q => t σ H fun c H1 => Q (!c) H1
theorem pw_and1 (ha : PT X a tA) : PW X (.BoolOp .And [a] pos) tA := by
  intro wh pins s σ H Q I h
  refine isTrue_and (thn (ha pins s σ H Q I h) fun c s1 e => ?_)
  cases c with
  | true => exact isTrue_and_nil e
  | false => exact e
theorem pw_or1 (ha : PT X a tA) : PW X (.BoolOp .Or [a] pos) tA := by
  intro wh pins s σ H Q I h
  refine isTrue_or (thn (ha pins s σ H Q I h) fun c s1 e => ?_)
  cases c with
  | false => exact isTrue_or_nil e
  | true => exact e
theorem pw_and (ha : PT X a tA) (hb : PW X (.BoolOp .And (b :: rest) pos) tB') : PW X (.BoolOp .And (a :: b :: rest) pos) (tAnd tA tB') := by
  intro wh pins s σ H Q I h
  refine isTrue_and (thn (ha pins s σ H _ I h) fun c s1 ⟨H1, I1, q1⟩ => ?_)
  cases c with
  | true => exact hb wh pins s1 σ H1 Q I1 q1
  | false => exact ⟨H1, I1, q1⟩
theorem pw_or (ha : PT X a tA) (hb : PW X (.BoolOp .Or (b :: rest) pos) tB') : PW X (.BoolOp .Or (a :: b :: rest) pos) (tOr tA tB') := by
  intro wh pins s σ H Q I h
  refine isTrue_or (thn (ha pins s σ H _ I h) fun c s1 ⟨H1, I1, q1⟩ => ?_)
  cases c with
  | true => exact ⟨H1, I1, q1⟩
  | false => exact hb wh pins s1 σ H1 Q I1 q1
theorem pt_not (ha : PT X a tA) : PT X (.UnaryOp .Not a pos) (tNot tA) := by
  intro pins s σ H Q I h
  exact isTrue_not (ha pins s σ H (fun c H1 => Q (!c) H1) I h)
def tAndV (ta tb : TE) : TE := fun σ H Q => ta σ H fun x H1 => ∃ c, x = .bl c ∧ if c = true then tb σ H1 Q else Q (.bl false) H1
def tOrV (ta tb : TE) : TE := fun σ H Q => ta σ H fun x H1 => ∃ c, x = .bl c ∧ if c = true then Q (.bl true) H1 else tb σ H1 Q
theorem pe_one {op} {t : TE} (h : PE X a t) : PE X (.BoolOp op [a] pos) t := fun pins s σ H Q I hw => BoolOp_one (h pins s σ H Q I hw)
theorem pe_and (ha : PE X a ta) (hb : PE X (.BoolOp .And (b :: rest) pos) tb) : PE X (.BoolOp .And (a :: b :: rest) pos) (tAndV ta tb) := by
  intro pins s σ H Q I h
  refine BoolOp_and (thn (ha pins s σ H _ I h) fun v s1 ⟨x, H1, I1, r1, q1⟩ => ?_)
  obtain ⟨c, rfl, q1⟩ := q1
  cases r1
  refine wpAny_truthy_bool ?_
  cases c with
  | true => exact hb pins s1 σ H1 Q I1 q1
  | false => exact ⟨.bl false, H1, I1, rfl, q1⟩
theorem pe_or (ha : PE X a ta) (hb : PE X (.BoolOp .Or (b :: rest) pos) tb) : PE X (.BoolOp .Or (a :: b :: rest) pos) (tOrV ta tb) := by
  intro pins s σ H Q I h
  refine BoolOp_or (thn (ha pins s σ H _ I h) fun v s1 ⟨x, H1, I1, r1, q1⟩ => ?_)
  obtain ⟨c, rfl, q1⟩ := q1
  cases r1
  refine wpAny_truthy_bool ?_
  cases c with
  | false => exact hb pins s1 σ H1 Q I1 q1
  | true => exact ⟨.bl true, H1, I1, rfl, q1⟩
def tIf (t : TT) (ta tb : TE) : TE := fun σ H Q => t σ H fun c H1 => if c = true then ta σ H1 Q else tb σ H1 Q
theorem pe_ifExp {c : Expr} (hc : PT X c tA) (ha : PE X a ta) (hb : PE X b tb) : PE X (.IfExp c a b pos) (tIf tA ta tb) := by
  intro pins s σ H Q I h
  refine wpAny_IfExp (thn (hc pins s σ H _ I h) fun d s1 ⟨H1, I1, q1⟩ => ?_)
  cases d with
  | true => exact ha pins s1 σ H1 Q I1 q1
  | false => exact hb pins s1 σ H1 Q I1 q1
end
end L2

namespace L2
open PySem PySem.Spec PyProof.Rows

def SqL (K : PySem.W.Frag) (H : Hp) (a : Addr) (xs : List V) : Prop :=
  Rd H a (.lst xs) ∨
    ∃ (o : Obj) (its : Array Value) (n : Nat), K.lookup a = some o ∧ o.cls = .type "list" ∧ o.dict = none ∧ o.data = .seq its n ∧ its.size ≤ sizeLine ∧ Vals xs its.toList
def SqT (K : PySem.W.Frag) (H : Hp) (a : Addr) (xs : List V) : Prop :=
  Rd H a (.tup xs) ∨
    ∃ (o : Obj) (its : Array Value) (n : Nat), K.lookup a = some o ∧ o.cls = .type "tuple" ∧ o.data = .seq its n ∧ its.size ≤ sizeLine ∧ Vals xs its.toList
def absV : Value → Option V
  | .none => some .non
  | .bool b => some (.bl b)
  | .int i _ => some (.int i)
  | .str x _ => some (.str x)
  | .bytes b _ => some (.byt b)
  | .float b _ => some (.flt b)
  | .ref a => some (.ref a)
  | .type n => some (.ty n)
  | _ => none
theorem RelV.abs {x : V} {u : Value} (r : RelV x u) : absV u = some x := by
  cases x with
  | non => cases r; rfl
  | bl _ => cases r; rfl
  | int _ => obtain ⟨t, rfl⟩ := r; rfl
  | str _ => obtain ⟨t, rfl⟩ := r; rfl
  | byt _ => obtain ⟨t, rfl⟩ := r; rfl
  | flt _ => obtain ⟨t, rfl⟩ := r; rfl
  | ref _ => cases r; rfl
  | ty _ => cases r; rfl
theorem RelV.inj {x y : V} {u : Value} (r : RelV x u) (q : RelV y u) : x = y := Option.some.inj (r.abs.symm.trans q.abs)
theorem Vals.inj : ∀ {xs ys : List V} {us : List Value}, Vals xs us → Vals ys us → xs = ys
  | _, _, _, .nil, .nil => rfl
  | _, _, _, .cons r t, .cons r' t' => by rw [r.inj r', Vals.inj t t']
section
variable {X : Cx} {pins : List (Addr × Obj)} {σ : St} {H : Hp} {s : Shared} {a : Addr} {xs ys : List V}
theorem SqL.of {K : PySem.W.Frag} (h : H a = some (.lst xs)) : SqL K H a xs := .inl (.inl h)
theorem SqT.of {K : PySem.W.Frag} (h : H a = some (.tup xs)) : SqT K H a xs := .inl (.inl h)
theorem Inv.list (I : Inv X pins σ H s) (h : SqL X.K H a xs) : ∃ its : List Value, Vals xs its ∧ PlainL s.heap a its.toArray ∧ xs.length ≤ sizeLine := by
  rcases h with h | ⟨o, its, n, hk, hc, hd, hs, hz, r⟩
  · obtain ⟨z, its, n, r, e⟩ := h.ok I.hok
    exact ⟨its, r, ⟨_, n, e, rfl, rfl, rfl⟩, z⟩
  · refine ⟨its.toList, r, ⟨o, n, I.kIn a o hk, hc, hd, by simpa using hs⟩, ?_⟩
    have e := r.length
    simp only [Array.length_toList] at e
    omega
theorem Inv.tuple (I : Inv X pins σ H s) (h : SqT X.K H a xs) : ∃ its : List Value, Vals xs its ∧ IsTup s.heap a its.toArray ∧ xs.length ≤ sizeLine := by
  rcases h with h | ⟨o, its, n, hk, hc, hs, hz, r⟩
  · obtain ⟨z, its, r, p⟩ := h.ok I.hok
    exact ⟨its, r, p, z⟩
  · refine ⟨its.toList, r, ⟨o, I.kIn a o hk, hc, n, by simpa using hs⟩, ?_⟩
    have e := r.length
    simp only [Array.length_toList] at e
    omega
theorem Inv.list_inj (I : Inv X pins σ H s) (h : SqL X.K H a xs) (h' : SqL X.K H a ys) : xs = ys := by
  obtain ⟨its, r, ⟨o, n, e, _, _, d⟩, _⟩ := I.list h
  obtain ⟨its', r', ⟨o', n', e', _, _, d'⟩, _⟩ := I.list h'
  rw [e] at e'; cases e'
  rw [d] at d'
  injection d' with d1 _
  have : its = its' := by simpa using congrArg Array.toList d1
  subst this
  exact r.inj r'
end

abbrev Cx.wish (X : Cx) (E : Value → Shared → Prop) : Cx := { X with xe := E }
abbrev Cx.nox (X : Cx) : Cx := X.wish fun _ _ => False
theorem Cx.Ok.wish {X : Cx} (ok : X.Ok) (E : Value → Shared → Prop) : (X.wish E).Ok :=
  ⟨ok.mod, ok.kind, ok.glob, ok.blt, ok.above, ok.inj, ok.has, ok.cab, ok.hd, ok.frames, ok.stk, ok.exf, ok.bs, ok.bsz, ok.noex, ok.exfs, ok.funs, ok.frf⟩
theorem Cx.Ok.unwish {X : Cx} {E : Value → Shared → Prop} (ok : (X.wish E).Ok) : X.Ok :=
  ⟨ok.mod, ok.kind, ok.glob, ok.blt, ok.above, ok.inj, ok.has, ok.cab, ok.hd, ok.frames, ok.stk, ok.exf, ok.bs, ok.bsz, ok.noex, ok.exfs, ok.funs, ok.frf⟩
section
variable {X : Cx} {pins : List (Addr × Obj)} {σ : St} {H : Hp} {s : Shared} {E : Value → Shared → Prop}
theorem Inv.wish (I : Inv X pins σ H s) (E : Value → Shared → Prop) : Inv (X.wish E) pins σ H s := ⟨I.ok.wish E, I.os, I.bare, I.base, I.loc, I.cell, I.free, I.freeC, I.pin, I.hok, I.len⟩
theorem Inv.unwish (I : Inv (X.wish E) pins σ H s) : Inv X pins σ H s := ⟨I.ok.unwish, I.os, I.bare, I.base, I.loc, I.cell, I.free, I.freeC, I.pin, I.hok, I.len⟩
theorem SP.unwish {D : Ends} {f : Flow} {s' : Shared} (h : SP (X.wish E) pins D f s') : SP X pins D f s' := by
  cases f with
  | next => obtain ⟨σ', H', I, q⟩ := h; exact ⟨σ', H', I.unwish, q⟩
  | brk => obtain ⟨σ', H', I, q⟩ := h; exact ⟨σ', H', I.unwish, q⟩
  | cont => obtain ⟨σ', H', I, q⟩ := h; exact ⟨σ', H', I.unwish, q⟩
  | ret u => obtain ⟨v, σ', H', I, r, q⟩ := h; exact ⟨v, σ', H', I.unwish, r, q⟩
theorem PE.nox {e : Expr} {t : TE} (h : PE X.nox e t) : PE X e t := fun pins s σ H Q I hw =>
  wpAny_mono (h pins s σ H Q (I.wish _) hw) (fun _ _ ⟨v, H', I', r, q⟩ => ⟨v, H', I'.unwish, r, q⟩) fun _ _ z => False.elim z
theorem PT.nox {e : Expr} {t : TT} (h : PT X.nox e t) : PT X e t := fun pins s σ H Q I hw =>
  wpAny_mono (h pins s σ H Q (I.wish _) hw) (fun _ _ ⟨H', I', q⟩ => ⟨H', I'.unwish, q⟩) fun _ _ z => False.elim z
theorem PSs.nox {st : List Stmt} {t : TS} (h : PSs X.nox st t) : PSs X st t := fun pins s σ H D I hw =>
  wpAny_mono (h pins s σ H D (I.wish _) hw) (fun _ _ q => q.unwish) fun _ _ z => False.elim z
end

section
variable {X : Cx} {st : Stmt} {rest : List Stmt} {t u : TS} {e : Expr} {te : TE} {pos : Pos}
def tNext : TS := fun D σ H => D.nx σ H
def tSeq (t u : TS) : TS := fun D σ H => t { D with nx := u D } σ H
theorem pss_nil : PSs X [] tNext := fun _ _ σ H _ I h => wpAny_execs_nil ⟨σ, H, I, h⟩
theorem pss_cons (h1 : PS X st t) (h2 : PSs X rest u) : PSs X (st :: rest) (tSeq t u) := by
  intro pins s σ H D I h
  refine wpAny_execs_cons (thn (h1 pins s σ H { D with nx := u D } I h) fun f s1 q => ?_)
  cases f with
  | next =>
    obtain ⟨σ', H', I', q⟩ := q
    exact h2 pins s1 σ' H' D I' q
  | ret v => exact q
  | brk => exact q
  | cont => exact q
theorem pss_one (h1 : PS X st t) : PSs X [st] t := by
  intro pins s σ H D I h
  refine wpAny_execs_cons (thn (h1 pins s σ H D I h) fun f s1 q => ?_)
  cases f with
  | next => exact wpAny_execs_nil q
  | ret v => exact q
  | brk => exact q
  | cont => exact q
theorem Inv.quiet {pins : List (Addr × Obj)} {σ : St} {H : Hp} {s : Shared} (I : Inv X pins σ H s) : interactive X.env = false := by simp [interactive, I.ok.kind]
def tDrop (te : TE) : TS := fun D σ H => te σ H fun _ H1 => D.nx σ H1
theorem ps_expr (he : PE X e te) (hs : swapsWith e none pos.line X.env = pure false := by rfl) : PS X (.Expr e pos) (tDrop te) := by
  intro pins s σ H D I h
  exact wpAny_Expr_any (thn (he pins s σ H _ I h) fun v s1 ⟨x, H1, I1, r1, q1⟩ => ⟨σ, H1, I1, q1⟩) I.quiet hs
def tRet (te : TE) : TS := fun D σ H => te σ H D.rt
theorem ps_ret (he : PE X e te) : PS X (.Return (some e) pos) (tRet te) := by
  intro pins s σ H D I h
  exact wpAny_Return_some (thn (he pins s σ H _ I h) fun v s1 ⟨x, H1, I1, r1, q1⟩ => ⟨x, σ, H1, I1, r1, q1⟩)
def tIfS (c : TT) (t u : TS) : TS := fun D σ H => c σ H fun b H1 => if b = true then t D σ H1 else u D σ H1
theorem ps_if {c : Expr} {a b : List Stmt} {tc : TT} (hc : PT X c tc) (ha : PSs X a t) (hb : PSs X b u) : PS X (.If c a b pos) (tIfS tc t u) := by
  intro pins s σ H D I h
  refine wpAny_If (thn (hc pins s σ H _ I h) fun d s1 ⟨H1, I1, q1⟩ => ?_)
  cases d with
  | true => exact ha pins s1 σ H1 D I1 q1
  | false => exact hb pins s1 σ H1 D I1 q1
end

abbrev TG := V → St → Hp → (St → Hp → Prop) → Prop
abbrev TGs := List V → St → Hp → (St → Hp → Prop) → Prop
def PG (X : Cx) (target : Expr) (t : TG) : Prop :=
  ∀ (pins : List (Addr × Obj)) (s : Shared) (σ : St) (H : Hp) (v : V) (u : Value) (Q : St → Hp → Prop), Inv X pins σ H s → RelV v u → t v σ H Q →
    wpAny (model X.prog X.w) X.A (assign target X.env u) (fun _ s' => ∃ σ' H', Inv X pins σ' H' s' ∧ Q σ' H') X.xe s
def PGs (X : Cx) (ts : List Expr) (t : TGs) : Prop :=
  ∀ (pins : List (Addr × Obj)) (s : Shared) (σ : St) (H : Hp) (vs : List V) (us : List Value) (Q : St → Hp → Prop), Inv X pins σ H s → Vals vs us → t vs σ H Q →
    wpAny (model X.prog X.w) X.A (assignInOrder ((assignEach ts X.env).map (·.2)) us) (fun _ s' => ∃ σ' H', Inv X pins σ' H' s' ∧ Q σ' H') X.xe s
abbrev TSet := V → V → V → Hp → (Hp → Prop) → Prop
def PSet (X : Cx) (t : TSet) : Prop :=
  ∀ (pins : List (Addr × Obj)) (s : Shared) (σ : St) (H : Hp) (o i v : V) (ov iv u : Value) (Q : Hp → Prop), Inv X pins σ H s → RelV o ov → RelV i iv → RelV v u → t o i v H Q →
    wpAny (model X.prog X.w) X.A (setItem ov iv u) (fun _ s' => ∃ H', Inv X pins σ H' s' ∧ Q H') X.xe s
section
variable {X : Cx} {pos : Pos}
def gName (i : Nat) : TG := fun v σ H Q => Q (σ.set i (some v)) H
theorem pg_name {i : Nat} {x : Str} (hN : X.N.Nodup) (hi : X.N[i]? = some x) (hx : Loc X.env.scope x) (hf : X.fn x = true ∨ X.env.scope.names.lookup x = some .local := by first | exact .inl rfl | exact .inr rfl | assumption) : PG X (.Name x pos) (gName i) := by
  intro pins s σ H v u Q I r h
  exact wpAny_assign_Name (store_ok I hN hi hx r (fun s' I' => ⟨_, H, I', h⟩) hf)
def gNil : TGs := fun vs σ H Q => vs = [] ∧ Q σ H
def gCons (t : TG) (u : TGs) : TGs := fun vs σ H Q => ∃ v r, vs = v :: r ∧ t v σ H fun σ' H' => u r σ' H' Q
theorem pgs_nil : PGs X [] gNil := by
  intro pins s σ H vs us Q I r h
  obtain ⟨e, h⟩ := h
  subst e
  cases r
  exact assignInOrder_nil ⟨σ, H, I, h⟩
theorem pgs_cons {e : Expr} {es : List Expr} {t : TG} {u : TGs} (h1 : PG X e t) (h2 : PGs X es u)
    (hs : (assignEach (e :: es) X.env).map (·.2) = assign e X.env :: (assignEach es X.env).map (·.2) := by rfl) : PGs X (e :: es) (gCons t u) := by
  intro pins s σ H vs us Q I r h
  obtain ⟨v, vr, e1, h⟩ := h
  subst e1
  cases r with
  | cons r rr =>
    rw [hs]
    refine assignInOrder_cons (thn (h1 pins s σ H _ _ _ I r h) fun _ s1 ⟨σ1, H1, I1, q1⟩ => ?_)
    exact h2 pins s1 σ1 H1 _ _ Q I1 rr q1
def gTup (K : PySem.W.Frag) (n : Nat) (t : TGs) : TG := fun v σ H Q => ∃ a xs, v = .ref a ∧ SqT K H a xs ∧ xs.length = n ∧ t xs σ H Q
theorem pg_tup {es : List Expr} {k : Nat} {t : TGs} {n : Nat} (hc : X.calm = true) (h : PGs X es t)
    (hn : (assignEach es X.env).length = n := by rfl) (hst : (assignEach es X.env).findIdx? (·.1) = none := by rfl) : PG X (.Tuple es k pos) (gTup X.K n t) := by
  intro pins s σ H v u Q I r hw
  obtain ⟨a, xs, e1, hq, hl, hw⟩ := hw
  subst e1
  cases r
  obtain ⟨its, rv, ht, hz⟩ := I.tuple hq
  refine assign_Tuple_tuple (I.ok.hd hc) ht (by simp [hn, ← hl, rv.length]) hst fun h' hx => ?_
  have I1 : Inv X pins σ H { s with heap := h' } := I.kept (t' := s.toks) fun b o e => hx b o (Nat.ne_of_lt (Heap.lt_size e)) e
  exact h pins _ σ H xs _ Q I1 (by simpa using rv) hw
def gSub (to ti : TE) (t : TSet) : TG := fun v σ H Q => to σ H fun o H1 => ti σ H1 fun i H2 => t o i v H2 fun H3 => Q σ H3
theorem pg_sub {o i : Expr} {to ti : TE} {t : TSet} (ho : PE X o to) (hi : PE X i ti) (hs : PSet X t)
    (ha : ∀ v, assign (.Subscript o i pos) X.env v = (do
      let ov ← holding [v] (eval o X.env)
      let iv ← holding [v, ov] (eval i X.env)
      standAt pos
      holding [v, ov, iv] (setItem ov iv v)
      release [v, ov, iv] []) := by intro _; rfl) : PG X (.Subscript o i pos) (gSub to ti t) := by
  intro pins s σ H v u Q I r h
  rw [ha]
  refine wpAny_bind (wpAny_holding (thn (ho pins s σ H _ I h) fun ov s1 ⟨x, H1, I1, r1, q1⟩ => ?_))
  refine wpAny_bind (wpAny_holding (thn (hi pins s1 σ H1 _ I1 q1) fun iv s2 ⟨y, H2, I2, r2, q2⟩ => ?_))
  refine wpAny_bind (wpAny_standAt (wpAny_bind (wpAny_holding (thn (hs pins s2 σ H2 x y v ov iv u _ I2 r1 r2 r q2) fun _ s3 ⟨H3, I3, q3⟩ => ?_))))
  exact wpAny_release ⟨σ, H3, I3, q3⟩
def tAsg (te : TE) (g : TG) : TS := fun D σ H => te σ H fun x H1 => g x σ H1 D.nx
theorem ps_asg {tg e : Expr} {te : TE} {g : TG} (he : PE X e te) (hg : PG X tg g) (hs : swapsWithSole [tg] e pos.line X.env = pure false := by rfl) (hw : swappedStores [tg] e X.env = pure none := by rfl)
    (h1 : (assignEach [tg] X.env).map (·.2) = [assign tg X.env] := by rfl) : PS X (.Assign [tg] e pos) (tAsg te g) := by
  intro pins s σ H D I h
  refine wpAny_Assign_stores (thn (he pins s σ H _ I h) fun v s1 ⟨x, H1, I1, r1, q1⟩ => ?_) hs hw
  rw [h1]
  exact thn (hg pins s1 σ H1 x v _ I1 r1 q1) fun _ s2 q => q
theorem ps_set {i : Nat} {x : Str} {e : Expr} {te : TE} {pos' : Pos} (hN : X.N.Nodup) (hi : X.N[i]? = some x) (hx : Loc X.env.scope x) (he : PE X e te) (hs : swapsWith e (some (.Name x pos')) pos.line X.env = pure false := by rfl) (hf : X.fn x = true ∨ X.env.scope.names.lookup x = some .local := by first | exact .inl rfl | exact .inr rfl | assumption) :
    PS X (.Assign [.Name x pos'] e pos) (tAsg te (gName i)) := by
  intro pins s σ H D I h
  refine wpAny_Assign_Name (thn (he pins s σ H _ I h) fun v s1 ⟨y, H1, I1, r1, q1⟩ => ?_) hs
  exact store_ok I1 hN hi hx r1 (fun s2 I2 => ⟨_, H1, I2, q1⟩) hf
end

section
variable {X : Cx} {pos : Pos}
end

structure It where
  go : Nat → Hp → Prop
  yld : Nat → Hp → V → Hp → Prop
  stop : Nat → Hp → Prop
def FpOk (X : Cx) (pins : List (Addr × Obj)) (H : Hp) (b : Addr) : Prop :=
  H b = none ∧ b ≠ X.env.locals ∧ b ∉ X.fs ∧ (b ∈ X.ex ∨ X.s₀.heap.objs.size ≤ b) ∧ (∀ x c, X.env.cells.lookup x = some c → c ≠ b) ∧ ∀ p ∈ X.pn ++ pins, p.1 ≠ b
theorem Inv.fpOk {X : Cx} {pins : List (Addr × Obj)} {σ : St} {H H' : Hp} {s : Shared} {b : Addr} (I : Inv X pins σ H s) (hb : s.heap.objs.size ≤ b) (hn : H' b = none) : FpOk X pins H' b := by
  refine ⟨hn, Nat.ne_of_gt (Nat.lt_of_lt_of_le I.lt hb), I.nofs hb, .inr (Nat.le_trans I.sz hb), fun x c e z => ?_, fun p hp z => ?_⟩
  · obtain ⟨v, q⟩ := I.cell x c e
    exact absurd (Nat.lt_of_lt_of_le q.lt (by rw [z]; exact hb)) (Nat.lt_irrefl _)
  · exact absurd (Nat.lt_of_lt_of_le (Heap.lt_size (I.pin p hp).1) (by rw [z]; exact hb)) (Nat.lt_irrefl _)
structure Turn (P : Program) (w : World) (K : PySem.W.Frag) (tg : Expr) (J : It) (fp : List Addr) (it : Addr) (tn : Nat → Heap → Prop) : Prop where
  mem : it ∈ fp
  obj : ∀ i h, tn i h → ∀ b ∈ fp, ∃ o, h.get? b = some o ∧ ∀ v, o.data ≠ .cell v
  keep : ∀ i h h', tn i h → (∀ b ∈ fp, ∀ o, h.get? b = some o → h'.get? b = some o) → tn i h'
  item : ∀ (X : Cx), X.prog = P → X.w = w → X.K = K → X.calm = true → ∀ (i : Nat) (pins : List (Addr × Obj)) (s : Shared) (σ : St) (H : Hp) (E : Value → Shared → Prop), Inv X pins σ H s → (∀ b ∈ fp, FpOk X pins H b) → tn i s.heap → J.go i H →
    wpAny (model P w) X.A (pyNext (.ref it)) (fun r s1 => ∃ u, r = some u ∧
      wpAny (model P w) X.A (letOwnedTupleGo tg (.ref it) u) (fun _ s2 => ∃ x H', Inv X pins σ H' s2 ∧ RelV x u ∧ J.yld i H x H' ∧ tn (i + 1) s2.heap ∧ ∀ b ∈ fp, H' b = none) E s1) E s
  done : ∀ (X : Cx), X.prog = P → X.w = w → X.K = K → X.calm = true → ∀ (i : Nat) (pins : List (Addr × Obj)) (s : Shared) (σ : St) (H : Hp) (E : Value → Shared → Prop), Inv X pins σ H s → (∀ b ∈ fp, FpOk X pins H b) → tn i s.heap → J.stop i H →
    wpAny (model P w) X.A (pyNext (.ref it)) (fun r s1 => r = none ∧ Inv X pins σ H s1) E s
  self : ∀ (A : Around) (i : Nat) (s : Shared) (Q : Value → Shared → Prop) (E : Value → Shared → Prop), tn i s.heap → Q (.ref it) s → wpAny (model P w) A (pyIter (.ref it)) Q E s
abbrev TI := St → Hp → (It → Hp → Prop) → Prop
def PIE (X : Cx) (pins : List (Addr × Obj)) (σ : St) (tg : Expr) (R : It → Hp → Prop) (itv : Value) (s2 : Shared) : Prop :=
  ∃ (it : Addr) (fp : List Addr) (tn : Nat → Heap → Prop) (J : It) (H' : Hp), itv = .ref it ∧ Inv X pins σ H' s2 ∧ Turn X.prog X.w X.K tg J fp it tn ∧ tn 0 s2.heap ∧ (∀ b ∈ fp, FpOk X pins H' b) ∧ R J H'
def PI (X : Cx) (tg iter : Expr) (wi : TI) : Prop :=
  ∀ (pins : List (Addr × Obj)) (s : Shared) (σ : St) (H : Hp) (R : It → Hp → Prop), Inv X pins σ H s → wi σ H R →
    wpAny (model X.prog X.w) X.A (eval iter X.env) (fun v s1 => wpAny (model X.prog X.w) X.A (pyIter v) (PIE X pins σ tg R) X.xe s1) X.xe s

theorem go_of {M : Model} {A : Around} {E : Value → Shared → Prop} {s : Shared} {tg : Expr} {it : Addr} {u : Value} {o : Obj} {n : String} {vs : Array Value} {Q : Unit → Shared → Prop} (ho : s.heap.get? it = some o) (hc : o.cls = .type n) (hd : o.data = .fields vs)
    (hn : ["enumerate", "zip", "dict_itemiterator", "dict_reverseitemiterator", "odict_iterator", "itertools.zip_longest", "itertools.pairwise"].contains n = false) (hQ : Q () s) : wpAny M A (letOwnedTupleGo tg (.ref it) u) Q E s := by
  unfold letOwnedTupleGo
  cases tg <;> first
    | exact wpAny_pure hQ
    | (cases u <;> first
        | exact wpAny_pure hQ
        | (refine wpAny_bind (wpAny_load ho ?_)
           rw [hc, hd]
           show wpAny M A (if (["enumerate", "zip", "dict_itemiterator", "dict_reverseitemiterator", "odict_iterator", "itertools.zip_longest", "itertools.pairwise"].contains n && vs[0]? == some (rawInt _)) = true then _ else _) Q E s
           rw [if_neg (by intro h; rw [hn, Bool.false_and] at h; cases h)]
           exact wpAny_pure hQ))

def Itl (K : PySem.W.Frag) (a : Addr) : It :=
  ⟨fun i H => ∃ xs x, SqL K H a xs ∧ xs[i]? = some x, fun i H x H' => H' = H ∧ ∀ xs, SqL K H a xs → xs[i]? = some x, fun i H => ∃ xs, SqL K H a xs ∧ xs.length ≤ i⟩
def Itr (lo : Int) (n : Nat) : It := ⟨fun i _ => i < n, fun i H x H' => H' = H ∧ x = .int (lo + i), fun i _ => n ≤ i⟩
theorem turn_list {P : Program} {w : World} {K : PySem.W.Frag} {tg : Expr} (a it : Addr) : Turn P w K tg (Itl K a) [it] it (fun i h => h.IsListIter it a i) where
  mem := by simp
  obj := fun i h st b hb => by
    have e : b = it := by simpa using hb
    subst e
    obtain ⟨o, e, c, d⟩ := st
    exact ⟨o, e, fun v z => by rw [d] at z; cases z⟩
  keep := fun i h h' st k => st.at fun o e => k it (by simp) o e
  item := by
    intro X hP hw hK hc i pins s σ H E I hf st hg
    subst hP hw hK
    obtain ⟨xs, x, hq, hx⟩ := hg
    obtain ⟨its, rv, p, hz⟩ := I.list hq
    obtain ⟨u, hu, ru⟩ := rv.get hx
    obtain ⟨f0, f1, f2, f3, f4, f5⟩ := hf it (by simp)
    refine wpAny_pyNext_list_item st p.isList (x := u) (by simpa using hu) fun h' st' sb => ?_
    have I1 : Inv X pins σ H { s with heap := h' } := I.turned (t' := s.toks) (fun b o hb e => (sb.2 b hb).trans e) f0 f1 f3 f4 f5
    obtain ⟨o, e, c, d⟩ := id st'
    exact ⟨u, rfl, go_of (s := { s with heap := h' }) e c d (by decide) ⟨x, H, I1, ru, ⟨rfl, fun ys hy => by rw [I.list_inj hy hq]; exact hx⟩, st', fun b hb => (hf b hb).1⟩⟩
  done := by
    intro X hP hw hK hc i pins s σ H E I hf st hg
    subst hP hw hK
    obtain ⟨xs, hq, hx⟩ := hg
    obtain ⟨its, rv, p, hz⟩ := I.list hq
    obtain ⟨f0, f1, f2, f3, f4, f5⟩ := hf it (by simp)
    have hl := rv.length
    exact wpAny_pyNext_list_end (I.ok.hd hc) st p.isList (by simp; omega) fun h' eb => ⟨rfl, I.turned (t' := s.toks) (fun b o hb e => eb b o hb e) f0 f1 f3 f4 f5⟩
  self := fun _ _ _ _ _ st h => wpAny_pyIter_listiter st h
theorem turn_range {P : Program} {w : World} {K : PySem.W.Frag} {tg : Expr} (it : Addr) (lo : Int) (n : Nat) : Turn P w K tg (Itr lo n) [it] it (fun i h => IsRangeIter h it (lo + (i : Nat) * 1) ((n : Int) - (i : Nat)) 1) where
  mem := by simp
  obj := fun i h st b hb => by
    have e : b = it := by simpa using hb
    subst e
    exact ⟨_, st, fun v z => by
      have z' : Data.fields _ = Data.cell v := z
      cases z'⟩
  keep := fun i h h' st k => k it (by simp) _ st
  item := by
    intro X hP hw hK hc i pins s σ H E I hf st hg
    subst hP hw hK
    obtain ⟨f0, f1, f2, f3, f4, f5⟩ := hf it (by simp)
    have W := Walks.range (prog := X.prog) (w := X.w) (I.ok.hd hc) it lo 1 n
    refine W.item i s _ _ hg st fun v h' tk hv st' kk => ?_
    obtain ⟨t, rfl⟩ := hv
    have I1 : Inv X pins σ H { s with heap := h', toks := tk } := I.turned (fun b o hb e => kk b o (by simpa using hb) e) f0 f1 f3 f4 f5
    refine ⟨_, rfl, go_of (s := { s with heap := h', toks := tk }) (n := "range_iterator") st' rfl rfl (by decide) ⟨.int (lo + i), H, I1, ⟨t, ?_⟩, ⟨rfl, rfl⟩, st', fun b hb => (hf b hb).1⟩⟩
    rw [Int.mul_one]
  done := by
    intro X hP hw hK hc i pins s σ H E I hf st hg
    subst hP hw hK
    obtain ⟨f0, f1, f2, f3, f4, f5⟩ := hf it (by simp)
    exact wpAny_pyNext_range_end (I.ok.hd hc) st (by have : n ≤ i := hg; omega) fun h' eb => ⟨rfl, I.turned (t' := s.toks) (fun b o hb e => eb b o hb e) f0 f1 f3 f4 f5⟩
  self := fun _ _ _ _ _ st h => wpAny_pyIter_rangeiter st h
end L2

namespace L2
open PySem PySem.Spec PyProof.Rows
section
variable {X : Cx} {tg : Expr}
def iList (K : PySem.W.Frag) (tl : TE) : TI := fun σ H R => tl σ H fun x H1 => ∃ a, x = .ref a ∧ (∃ xs, SqL K H1 a xs) ∧ R (Itl K a) H1
theorem pi_list {l : Expr} {tl : TE} (hl : PE X l tl) : PI X tg l (iList X.K tl) := by
  intro pins s σ H R I h
  refine thn (hl pins s σ H _ I h) fun v s1 ⟨x, H1, I1, r1, q1⟩ => ?_
  obtain ⟨a, e, ⟨xs, hq⟩, q⟩ := q1
  subst e
  cases r1
  obtain ⟨its, rv, p, hz⟩ := I1.list hq
  refine wpAny_pyIter_list p.isList ?_
  refine ⟨s1.heap.objs.size, [s1.heap.objs.size], _, _, H1, rfl, I1.kept (t' := s1.toks) fun b o e => Heap.get?_push_of_some _ e, turn_list a _, ⟨_, Heap.get?_push_size _ rfl, rfl, rfl⟩, fun b hb => ?_, q⟩
  have e : b = s1.heap.objs.size := by simpa using hb
  subst e
  exact I1.fpOk (Nat.le_refl _) (I1.hok.fresh (Nat.le_refl _))
theorem range_it {pins : List (Addr × Obj)} {σ : St} {H : Hp} {s : Shared} {R : It → Hp → Prop} {E : Value → Shared → Prop} {lo hi : Int} {t u v : Tok} {tk : Nat} (I : Inv X pins σ H s) (h1 : -(2 ^ 62) ≤ lo) (h2 : lo < 2 ^ 62) (h3 : -(2 ^ 62) ≤ hi) (h4 : hi < 2 ^ 62)
    (q : R (Itr lo (hi - lo).toNat) H) : wpAny (model X.prog X.w) X.A (pyIter (.ref s.heap.objs.size)) (PIE X pins σ tg R) E { s with heap := s.heap.push { cls := .type "range", data := .fields #[.int lo t, .int hi u, .int 1 v] }, toks := tk } := by
  refine wpAny_pyIter_range (IsRange.new ..) (small_one h1 h2 h3 h4) ?_
  have I1 : Inv X pins σ H { s with heap := s.heap.push { cls := .type "range", data := .fields #[.int lo t, .int hi u, .int 1 v] }, toks := tk } := I.kept fun b o e => Heap.get?_push_of_some _ e
  refine ⟨(s.heap.push { cls := .type "range", data := .fields #[.int lo t, .int hi u, .int 1 v] }).objs.size, [(s.heap.push { cls := .type "range", data := .fields #[.int lo t, .int hi u, .int 1 v] }).objs.size], _, _, H, rfl,
    I1.kept (t' := tk) fun b o e => Heap.get?_push_of_some _ e, turn_range _ lo (hi - lo).toNat, ?_, fun b hb => ?_, q⟩
  · have e1 : lo + ((0 : Nat) : Int) * 1 = lo := by simp
    have e2 : (((hi - lo).toNat : Nat) : Int) - ((0 : Nat) : Int) = Builtin.Range.rangeSize lo hi 1 := by rw [rangeSize_one]; split <;> omega
    show IsRangeIter _ _ (lo + ((0 : Nat) : Int) * 1) ((((hi - lo).toNat : Nat) : Int) - ((0 : Nat) : Int)) 1
    rw [e1, e2]
    exact Heap.get?_push_size _ rfl
  · have e : b = (s.heap.push { cls := .type "range", data := .fields #[.int lo t, .int hi u, .int 1 v] }).objs.size := by simpa using hb
    subst e
    exact I1.fpOk (Nat.le_refl _) (I1.hok.fresh (Nat.le_refl _))
def iRng1 (ta : TA) : TI := fun σ H R => ta σ H fun vs H1 => ∃ j : Int, vs = [.int j] ∧ -(2 ^ 62) ≤ j ∧ j < 2 ^ 62 ∧ R (Itr 0 j.toNat) H1
theorem pi_range1 {a : Expr} {ta : TA} {p pos : Pos} (hg : Gl X "range") (hm : X.mg "range" = none) (ha : PA X [a] ta) (hs : starEach [a] X.env = [(false, eval a X.env)] := by rfl) : PI X tg (.Call (.Name "range" p) [a] [] pos) (iRng1 ta) := by
  intro pins s σ H R I h
  refine Call_ (ld_blt I hg hm boot_range (PyProof.Rows.callWith_type1 (thn (ha pos pins s σ H _ I h) fun us s1 ⟨vs, H1, I1, r1, q1⟩ => ?_) hs rfl))
  obtain ⟨j, e, q1, q2, q⟩ := q1
  subst e
  cases r1 with
  | cons r rr =>
    cases rr
    obtain ⟨t, rfl⟩ := r
    exact call_range_1 (range_it I1 (by omega) (by omega) q1 q2 (by simpa using q))
def tFor (wi : TI) (g : TG) (tb : TS) : TS := fun D σ H => wi σ H fun J H1 => ∃ W : Nat → Nat → St → Hp → Prop, (∃ m, W 0 m σ H1) ∧ ∀ i m σ H, W i m σ H →
  (J.stop i H ∧ D.nx σ H) ∨ (J.go i H ∧ ∃ N : St → Hp → Prop, (∀ σ' H', N σ' H' → ∃ m', m' < m ∧ W (i + 1) m' σ' H') ∧ ∀ x H', J.yld i H x H' → g x σ H' fun σ2 H2 => tb { D with nx := N, ct := N, bk := D.nx } σ2 H2)
def pinsAt (fp : List Addr) (h : Heap) : List (Addr × Obj) := fp.filterMap fun b => (h.get? b).map fun o => (b, o)
theorem mem_pinsAt {fp : List Addr} {h : Heap} {b : Addr} {o : Obj} (hb : b ∈ fp) (e : h.get? b = some o) : (b, o) ∈ pinsAt fp h := List.mem_filterMap.mpr ⟨b, hb, by rw [e]; rfl⟩
theorem of_pinsAt {fp : List Addr} {h : Heap} {p : Addr × Obj} (hp : p ∈ pinsAt fp h) : p.1 ∈ fp ∧ h.get? p.1 = some p.2 := by
  obtain ⟨b, hb, e⟩ := List.mem_filterMap.mp hp
  cases q : h.get? b with
  | none => rw [q] at e; cases e
  | some o =>
    rw [q] at e
    have e' : (b, o) = p := Option.some.inj e
    subst e'
    exact ⟨hb, q⟩
theorem Inv.pinned {pins : List (Addr × Obj)} {σ : St} {H : Hp} {s : Shared} {fp : List Addr} (I : Inv X pins σ H s) (hf : ∀ b ∈ fp, FpOk X pins H b) (ho : ∀ b ∈ fp, ∃ o, s.heap.get? b = some o ∧ ∀ v, o.data ≠ .cell v) : Inv X (pins ++ pinsAt fp s.heap) σ H s :=
  I.pins_of fun p hp => (List.mem_append.mp hp).elim (fun z => I.pin p (List.mem_append_right _ z)) fun z => by
    obtain ⟨hb, e⟩ := of_pinsAt z
    obtain ⟨f0, f1, f2, _⟩ := hf p.1 hb
    obtain ⟨o, e', d⟩ := ho p.1 hb
    rw [e] at e'; cases e'
    exact ⟨e, f0, f1, f2, d⟩
theorem Inv.unpinned {pins pl : List (Addr × Obj)} {σ : St} {H : Hp} {s : Shared} (I : Inv X (pins ++ pl) σ H s) : Inv X pins σ H s := I.pins_of fun p hp => I.pin p (List.mem_append_right _ (List.mem_append_left _ hp))
theorem ps_for {iter : Expr} {body : List Stmt} {wi : TI} {g : TG} {tb : TS} {pos : Pos} (hp : PassesOwn (model X.prog X.w) X.A X.env X.xe) (hc : X.calm = true) (hi : PI X tg iter wi) (hg : PG X tg g) (hb : PSs X body tb)
    (hs : ∀ x, foldedSetIterable iter X.env x = pure x := by intro _; rfl) : PS X (.For tg iter body [] pos) (tFor wi g tb) := by
  intro pins s σ H D I h
  refine wpAny_For (thn (hi pins s σ H _ I h) fun v s1 h1 => thn h1 fun itv s2 h2 => ?_) hs
  obtain ⟨it, fp, tn, J, H2, e, I2, T, st2, f2, W, ⟨m0, w0⟩, turn⟩ := h2
  subst e
  -- what stays true of the iterator's objects through the loop
  have stat : ∀ {H' : Hp}, (∀ b ∈ fp, H' b = none) → ∀ b ∈ fp, FpOk X pins H' b := fun hn b hb => ⟨hn b hb, (f2 b hb).2⟩
  refine codeAny_forLoop_any (fun n s' => ∃ i σ' H', Inv X pins σ' H' s' ∧ tn i s'.heap ∧ (∀ b ∈ fp, H' b = none) ∧ W i n σ' H') ?_ m0 ⟨0, σ, H2, I2, st2, fun b hb => (f2 b hb).1, w0⟩
  rintro n s3 ⟨i, σ3, H3, I3, st3, fr3, w3⟩
  rcases turn i n σ3 H3 w3 with ⟨stop, qn⟩ | ⟨go, N, hN, step⟩
  · refine wpAny_passesOwn hp (thn (T.done X rfl rfl rfl hc i pins s3 σ3 H3 X.xe I3 (stat fr3) st3 stop) fun r s4 ⟨hr, I4⟩ => ?_)
    subst hr
    exact wpAny_execs_nil ⟨σ3, H3, I4, qn⟩
  · refine wpAny_passesOwn hp (thn (T.item X rfl rfl rfl hc i pins s3 σ3 H3 X.xe I3 (stat fr3) st3 go) fun r s4 ⟨u, hr, h4⟩ => ?_)
    subst hr
    refine wpAny_passesOwn hp (thn h4 fun _ s5 ⟨x, H5, I5, r5, y5, st5, fr5⟩ => ?_)
    have I5' := I5.pinned (stat fr5) (T.obj _ _ st5)
    refine wpAny_passesOwn hp (thn (hg _ s5 σ3 H5 x u _ I5' r5 (step x H5 y5)) fun _ s6 ⟨σ6, H6, I6, q6⟩ => ?_)
    refine wpAny_passesOwn hp (thn (hb _ s6 σ6 H6 _ I6 q6) fun f s7 q7 => ?_)
    have again : ∀ {σ7 : St} {H7 : Hp}, Inv X (pins ++ pinsAt fp s5.heap) σ7 H7 s7 → N σ7 H7 → ∃ m, m < n ∧ ∃ i σ' H', Inv X pins σ' H' s7 ∧ tn i s7.heap ∧ (∀ b ∈ fp, H' b = none) ∧ W i m σ' H' := fun {σ7 H7} I7 n7 => by
      obtain ⟨m', hm, w7⟩ := hN σ7 H7 n7
      refine ⟨m', hm, i + 1, σ7, H7, I7.unpinned, T.keep _ _ _ st5 fun b hb o e => (I7.pin (b, o) (List.mem_append_right _ (List.mem_append_right _ (mem_pinsAt hb e)))).1, fun b hb => ?_, w7⟩
      obtain ⟨o, e, d⟩ := T.obj _ _ st5 b hb
      exact (I7.pin (b, o) (List.mem_append_right _ (List.mem_append_right _ (mem_pinsAt hb e)))).2.1
    cases f with
    | next => obtain ⟨σ7, H7, I7, n7⟩ := q7; exact again I7 n7
    | cont => obtain ⟨σ7, H7, I7, n7⟩ := q7; exact again I7 n7
    | brk => obtain ⟨σ7, H7, I7, q7⟩ := q7; exact ⟨σ7, H7, I7.unpinned, q7⟩
    | ret v => obtain ⟨x7, σ7, H7, I7, r7, q7⟩ := q7; exact ⟨x7, σ7, H7, I7.unpinned, r7, q7⟩
end

theorem for_list {K : PySem.W.Frag} {a : Addr} {xs : List V} {g : TG} {tb : TS} {D : Ends} {σ : St} {H : Hp} (Pv : Nat → St → Hp → Prop) (h0 : Pv 0 σ H) (hl : ∀ i σ H, i ≤ xs.length → Pv i σ H → SqL K H a xs)
    (hs : ∀ i x σ H, xs[i]? = some x → Pv i σ H → g x σ H fun σ2 H2 => tb { D with nx := Pv (i + 1), ct := Pv (i + 1), bk := D.nx } σ2 H2) (hd : ∀ σ H, Pv xs.length σ H → D.nx σ H) :
    ∃ W : Nat → Nat → St → Hp → Prop, (∃ m, W 0 m σ H) ∧ ∀ i m σ H, W i m σ H →
      ((Itl K a).stop i H ∧ D.nx σ H) ∨ ((Itl K a).go i H ∧ ∃ N : St → Hp → Prop, (∀ σ' H', N σ' H' → ∃ m', m' < m ∧ W (i + 1) m' σ' H') ∧ ∀ x H', (Itl K a).yld i H x H' → g x σ H' fun σ2 H2 => tb { D with nx := N, ct := N, bk := D.nx } σ2 H2) := by
  refine ⟨fun i m σ H => m = xs.length - i ∧ i ≤ xs.length ∧ Pv i σ H, ⟨xs.length, by simp, Nat.zero_le _, h0⟩, ?_⟩
  rintro i m σ H ⟨rfl, hi, p⟩
  have q := hl i σ H hi p
  by_cases hlt : i < xs.length
  · refine .inr ⟨⟨xs, xs[i], q, by simp [hlt]⟩, Pv (i + 1), fun σ' H' p' => ⟨xs.length - (i + 1), by omega, rfl, hlt, p'⟩, fun x H' y => ?_⟩
    obtain ⟨e, y⟩ := y
    subst e
    exact hs i x σ _ (y xs q) p
  · have e : i = xs.length := by omega
    subst e
    exact .inl ⟨⟨xs, q, Nat.le_refl _⟩, hd σ H p⟩
theorem for_range {lo : Int} {n : Nat} {g : TG} {tb : TS} {D : Ends} {σ : St} {H : Hp} (Pv : Nat → St → Hp → Prop) (h0 : Pv 0 σ H)
    (hs : ∀ i σ H, i < n → Pv i σ H → g (.int (lo + i)) σ H fun σ2 H2 => tb { D with nx := Pv (i + 1), ct := Pv (i + 1), bk := D.nx } σ2 H2) (hd : ∀ σ H, Pv n σ H → D.nx σ H) :
    ∃ W : Nat → Nat → St → Hp → Prop, (∃ m, W 0 m σ H) ∧ ∀ i m σ H, W i m σ H →
      ((Itr lo n).stop i H ∧ D.nx σ H) ∨ ((Itr lo n).go i H ∧ ∃ N : St → Hp → Prop, (∀ σ' H', N σ' H' → ∃ m', m' < m ∧ W (i + 1) m' σ' H') ∧ ∀ x H', (Itr lo n).yld i H x H' → g x σ H' fun σ2 H2 => tb { D with nx := N, ct := N, bk := D.nx } σ2 H2) := by
  refine ⟨fun i m σ H => m = n - i ∧ i ≤ n ∧ Pv i σ H, ⟨n, by simp, Nat.zero_le _, h0⟩, ?_⟩
  rintro i m σ H ⟨rfl, hi, p⟩
  by_cases hlt : i < n
  · refine .inr ⟨hlt, Pv (i + 1), fun σ' H' p' => ⟨n - (i + 1), by omega, rfl, hlt, p'⟩, fun x H' y => ?_⟩
    obtain ⟨e, y⟩ := y
    subst e y
    exact hs i σ _ hlt p
  · have e : i = n := by omega
    subst e
    exact .inl ⟨Nat.le_refl _, hd σ H p⟩
end L2

namespace L2
open PySem PySem.Spec PyProof.Rows

abbrev R2 := V → V → Hp → VK → Prop
def OpR (X : Cx) (f : Value → Value → Sem Value) (r : R2) : Prop :=
  ∀ (pins : List (Addr × Obj)) (s : Shared) (σ : St) (H : Hp) (x y : V) (v u : Value) (Q : VK), Inv X pins σ H s → RelV x v → RelV y u → r x y H Q →
    wpAny (model X.prog X.w) X.A (f v u) (EP X pins σ Q) X.xe s
def UnR (X : Cx) (f : Value → Sem Value) (r : V → Hp → VK → Prop) : Prop :=
  ∀ (pins : List (Addr × Obj)) (s : Shared) (σ : St) (H : Hp) (x : V) (v : Value) (Q : VK), Inv X pins σ H s → RelV x v → r x H Q →
    wpAny (model X.prog X.w) X.A (f v) (EP X pins σ Q) X.xe s
def CallR (X : Cx) (f : Value) (r : List V → Hp → VK → Prop) : Prop :=
  ∀ (pins : List (Addr × Obj)) (s : Shared) (σ : St) (H : Hp) (xs : List V) (us : List Value) (Q : VK), Inv X pins σ H s → Vals xs us → r xs H Q →
    wpAny (model X.prog X.w) X.A (call f us) (EP X pins σ Q) X.xe s
def tOp (r : R2) (ta tb : TE) : TE := fun σ H Q => ta σ H fun x H1 => tb σ H1 fun y H2 => r x y H2 Q
def tUn (r : V → Hp → VK → Prop) (ta : TE) : TE := fun σ H Q => ta σ H fun x H1 => r x H1 Q
def rI (C : Int → Int → Prop) (g : Int → Int → V) : R2 := fun x y H Q => ∃ i j, x = .int i ∧ y = .int j ∧ C i j ∧ Q (g i j) H
def rI0 (g : Int → Int → V) : R2 := fun x y H Q => ∃ i j, x = .int i ∧ y = .int j ∧ Q (g i j) H
def rU (g : Int → V) : V → Hp → VK → Prop := fun x H Q => ∃ i, x = .int i ∧ Q (g i) H

section
variable {X : Cx} {a b c : Expr} {ta tb tc : TE} {pos : Pos}

theorem binT (ha : PE X a ta) (hb : PE X b tb) {pins : List (Addr × Obj)} {s : Shared} {σ : St} {H : Hp} {R : V → V → Hp → Prop} (I : Inv X pins σ H s)
    (h : ta σ H fun x H1 => tb σ H1 fun y H2 => R x y H2) {Q : Value → Shared → Prop} {f : Value → Value → Sem Value}
    (hf : ∀ v u s2 x y H2, Inv X pins σ H2 s2 → RelV x v → RelV y u → R x y H2 → wpAny (model X.prog X.w) X.A (f v u) Q X.xe s2) :
    wpAny (model X.prog X.w) X.A (eval a X.env) (fun v s₁ => wpAny (model X.prog X.w) X.A (eval b X.env) (fun u s₂ => wpAny (model X.prog X.w) X.A (f v u) Q X.xe s₂) X.xe s₁) X.xe s := by
  refine thn (ha pins s σ H _ I h) fun v s1 ⟨x, H1, I1, r1, q1⟩ => ?_
  refine thn (hb pins s1 σ H1 _ I1 q1) fun u s2 ⟨y, H2, I2, r2, q2⟩ => ?_
  exact hf v u s2 x y H2 I2 r1 r2 q2

theorem pe_op {op : Operator} {r : R2} (ho : OpR X (binaryOp op) r) (ha : PE X a ta) (hb : PE X b tb) : PE X (.BinOp a op b pos) (tOp r ta tb) := by
  intro pins s σ H Q I h
  exact wpAny_BinOp (binT ha hb I h fun v u s2 x y H2 I2 rx ry q => ho pins s2 σ H2 x y v u Q I2 rx ry q)
theorem pe_un {op : UnaryOp} {r : V → Hp → VK → Prop} (ho : UnR X (unaryOp op) r) (ha : PE X a ta) : PE X (.UnaryOp op a pos) (tUn r ta) := by
  intro pins s σ H Q I h
  exact UnaryOp_ (thn (ha pins s σ H _ I h) fun v s1 ⟨x, H1, I1, r1, q1⟩ => ho pins s1 σ H1 x v Q I1 r1 q1)
theorem opI {f : Value → Value → Sem Value} {C : Int → Int → Prop} {g : Int → Int → Int}
    (rule : ∀ (i j : Int) (t u : Tok) (s : Shared) (Q : Value → Shared → Prop) (E : Value → Shared → Prop), C i j → Q (.int (g i j) s.toks) { s with toks := s.toks + 1 } → wpAny (model X.prog X.w) X.A (f (.int i t) (.int j u)) Q E s) :
    OpR X f (rI C fun i j => .int (g i j)) := by
  intro pins s σ H x y v u Q I rx ry h
  obtain ⟨i, j, rfl, rfl, hc, q⟩ := h
  obtain ⟨t, rfl⟩ := rx
  obtain ⟨t', rfl⟩ := ry
  exact rule i j t t' s _ _ hc ⟨.int (g i j), H, I.tok _, ⟨_, rfl⟩, q⟩
theorem opI0 {f : Value → Value → Sem Value} {g : Int → Int → Int}
    (rule : ∀ (i j : Int) (t u : Tok) (s : Shared) (Q : Value → Shared → Prop) (E : Value → Shared → Prop), Q (.int (g i j) s.toks) { s with toks := s.toks + 1 } → wpAny (model X.prog X.w) X.A (f (.int i t) (.int j u)) Q E s) :
    OpR X f (rI0 fun i j => .int (g i j)) := by
  intro pins s σ H x y v u Q I rx ry h
  obtain ⟨i, j, rfl, rfl, q⟩ := h
  obtain ⟨t, rfl⟩ := rx
  obtain ⟨t', rfl⟩ := ry
  exact rule i j t t' s _ _ ⟨.int (g i j), H, I.tok _, ⟨_, rfl⟩, q⟩
theorem opB0 {f : Value → Value → Sem Value} {g : Int → Int → Bool}
    (rule : ∀ (i j : Int) (t u : Tok) (s : Shared) (Q : Value → Shared → Prop) (E : Value → Shared → Prop), Q (.bool (g i j)) s → wpAny (model X.prog X.w) X.A (f (.int i t) (.int j u)) Q E s) :
    OpR X f (rI0 fun i j => .bl (g i j)) := by
  intro pins s σ H x y v u Q I rx ry h
  obtain ⟨i, j, rfl, rfl, q⟩ := h
  obtain ⟨t, rfl⟩ := rx
  obtain ⟨t', rfl⟩ := ry
  exact rule i j t t' s _ _ ⟨.bl (g i j), H, I, rfl, q⟩

def CDiv (i j : Int) : Prop := 0 < j ∧ j < 1073741824
def CPow (i j : Int) : Prop := 0 ≤ j ∧ j ≤ 1000000 ∧ i.natAbs < 2 ^ 64
def CMul (i j : Int) : Prop := (-(2 ^ 64) < i ∧ i < 2 ^ 64) ∨ (-(2 ^ 64) < j ∧ j < 2 ^ 64)
theorem CMul.ok {i j : Int} (h : CMul i j) : IntMulOk i j := by
  rcases h with ⟨h1, h2⟩ | ⟨h1, h2⟩
  · exact .of_left (intBits_le_64 h1 h2)
  · exact .of_right (intBits_le_64 h1 h2)
theorem op_add : OpR X (binaryOp .Add) (rI0 fun i j => .int (i + j)) := opI0 fun _ _ _ _ _ _ _ q => add_int q
theorem op_sub : OpR X (binaryOp .Sub) (rI0 fun i j => .int (i - j)) := opI0 fun _ _ _ _ _ _ _ q => sub_int q
theorem op_mul : OpR X (binaryOp .Mult) (rI CMul fun i j => .int (i * j)) := opI fun _ _ _ _ _ _ _ hc q => mul_int q hc.ok
theorem op_fdiv : OpR X (binaryOp .FloorDiv) (rI CDiv fun i j => .int (i / j)) := opI fun i j _ _ _ _ _ hc q => by
  have h1 : (0 : Int) < j := hc.1
  have h2 : j < 1073741824 := hc.2
  exact floordiv_int (by omega) (by rw [Int.fdiv_eq_ediv_of_nonneg i (by omega)]; exact q) (.inl (PyProof.noPylong_small (by omega)))
theorem op_mod : OpR X (binaryOp .Mod) (rI (fun _ j => 0 < j) fun i j => .int (i % j)) := opI fun i j _ _ _ _ _ hc q => by
  have h1 : (0 : Int) < j := hc
  exact mod_int' (by omega) (by rw [Int.fmod_eq_emod_of_nonneg i (by omega)]; exact q)
theorem op_pow : OpR X (binaryOp .Pow) (rI CPow fun i j => .int (i ^ j.toNat)) := opI fun _ _ _ _ _ _ _ hc q => pow_int_small hc.1 hc.2.1 hc.2.2 q
theorem unI {f : Value → Sem Value} {g : Int → Int}
    (rule : ∀ (i : Int) (t : Tok) (s : Shared) (Q : Value → Shared → Prop) (E : Value → Shared → Prop), Q (.int (g i) s.toks) { s with toks := s.toks + 1 } → wpAny (model X.prog X.w) X.A (f (.int i t)) Q E s) :
    UnR X f (rU fun i => .int (g i)) := by
  intro pins s σ H x v Q I rx h
  obtain ⟨i, rfl, q⟩ := h
  obtain ⟨t, rfl⟩ := rx
  exact rule i t s _ _ ⟨.int (g i), H, I.tok _, ⟨_, rfl⟩, q⟩
theorem un_neg : UnR X (unaryOp .USub) (rU fun i => .int (-i)) := unI fun _ _ _ _ _ q => neg_int q
end

def scal : V → V → Bool
  | .non, .non => true | .non, .int _ => true | .int _, .non => true | .non, .bl _ => true | .bl _, .non => true | .non, .str _ => true | .str _, .non => true
  | .int _, .int _ => true | .bl _, .bl _ => true | .str _, .str _ => true | .byt _, .byt _ => true
  | .int _, .str _ => true | .str _, .int _ => true | .bl _, .str _ => true | .str _, .bl _ => true
  | _, _ => false
def rEq : R2 := fun x y H Q => scal x y = true ∧ Q (.bl (decide (x = y))) H
def rNe : R2 := fun x y H Q => scal x y = true ∧ Q (.bl (!decide (x = y))) H

theorem dec_int {i j : Int} : decide (V.int i = V.int j) = (i == j) := by
  rw [Bool.eq_iff_iff]
  simp
theorem dec_bl {i j : Bool} : decide (V.bl i = V.bl j) = (i == j) := by
  rw [Bool.eq_iff_iff]
  simp
theorem dec_str {i j : Str} : decide (V.str i = V.str j) = (i == j) := by
  rw [Bool.eq_iff_iff]
  simp
theorem dec_byt {i j : Array UInt8} : decide (V.byt i = V.byt j) = (i.toList == j.toList) := by
  rw [Bool.eq_iff_iff]
  cases i
  cases j
  simp

section
variable {X : Cx} {a b c : Expr} {ta tb tc : TE} {pos : Pos}
theorem fin_bl {pins : List (Addr × Obj)} {σ : St} {H : Hp} {s : Shared} {Q : VK} {k k' : Bool} (I : Inv X pins σ H s) (q : Q (.bl k) H) (e : k = k') : EP X pins σ Q (.bool k') s := by
  subst e
  exact ⟨.bl k, H, I, rfl, q⟩
theorem op_eq : OpR X (compareOp .Eq) rEq := by
  intro pins s σ H x y v u Q I rx ry h
  obtain ⟨hs, q⟩ := h
  cases x with
  | non =>
    cases rx
    cases y with
    | non => cases ry; exact PySem.EqNone.eq_none_none (fin_bl I q (by simp))
    | bl j => cases ry; exact PySem.EqNone.eq_none_bool (fin_bl I q (by simp))
    | int j => obtain ⟨t', rfl⟩ := ry; exact PySem.EqNone.eq_none_int (fin_bl I q (by simp))
    | str j => obtain ⟨t', rfl⟩ := ry; exact PySem.EqNone.eq_none_str (fin_bl I q (by simp))
    | _ => exact absurd (show false = true from hs) Bool.false_ne_true
  | bl i =>
    cases rx
    cases y with
    | non => cases ry; exact PySem.EqNone.eq_bool_none (fin_bl I q (by simp))
    | bl j => cases ry; exact eq_bool (fin_bl I q dec_bl)
    | str j => obtain ⟨t', rfl⟩ := ry; exact PySem.EqMixed.eq_bool_str (fin_bl I q (by simp))
    | _ => exact absurd (show false = true from hs) Bool.false_ne_true
  | int i =>
    obtain ⟨t, rfl⟩ := rx
    cases y with
    | non => cases ry; exact PySem.EqNone.eq_int_none (fin_bl I q (by simp))
    | int j => obtain ⟨t', rfl⟩ := ry; exact eq_int (fin_bl I q dec_int)
    | str j => obtain ⟨t', rfl⟩ := ry; exact PySem.EqMixed.eq_int_str (fin_bl I q (by simp))
    | _ => exact absurd (show false = true from hs) Bool.false_ne_true
  | str i =>
    obtain ⟨t, rfl⟩ := rx
    cases y with
    | non => cases ry; exact PySem.EqNone.eq_str_none (fin_bl I q (by simp))
    | bl j => cases ry; exact PySem.EqMixed.eq_str_bool (fin_bl I q (by simp))
    | int j => obtain ⟨t', rfl⟩ := ry; exact PySem.EqMixed.eq_str_int (fin_bl I q (by simp))
    | str j => obtain ⟨t', rfl⟩ := ry; exact eq_str (fin_bl I q dec_str)
    | _ => exact absurd (show false = true from hs) Bool.false_ne_true
  | byt i =>
    obtain ⟨t, rfl⟩ := rx
    cases y with
    | byt j => obtain ⟨t', rfl⟩ := ry; exact PySem.W.eq_bytes (fin_bl I q dec_byt)
    | _ => exact absurd (show false = true from hs) Bool.false_ne_true
  | _ => cases y <;> exact absurd (show false = true from hs) Bool.false_ne_true
theorem op_ne : OpR X (compareOp .NotEq) rNe := by
  intro pins s σ H x y v u Q I rx ry h
  obtain ⟨hs, q⟩ := h
  cases x with
  | non =>
    cases rx
    cases y with
    | non => cases ry; exact PySem.EqNone.ne_none_none (fin_bl I q (by simp))
    | bl j => cases ry; exact PySem.EqNone.ne_none_bool (fin_bl I q (by simp))
    | int j => obtain ⟨t', rfl⟩ := ry; exact PySem.EqNone.ne_none_int (fin_bl I q (by simp))
    | str j => obtain ⟨t', rfl⟩ := ry; exact PySem.EqNone.ne_none_str (fin_bl I q (by simp))
    | _ => exact absurd (show false = true from hs) Bool.false_ne_true
  | bl i =>
    cases rx
    cases y with
    | non => cases ry; exact PySem.EqNone.ne_bool_none (fin_bl I q (by simp))
    | bl j => cases ry; exact ne_bool (fin_bl I q (congrArg not dec_bl))
    | str j => obtain ⟨t', rfl⟩ := ry; exact PySem.EqMixed.ne_bool_str (fin_bl I q (by simp))
    | _ => exact absurd (show false = true from hs) Bool.false_ne_true
  | int i =>
    obtain ⟨t, rfl⟩ := rx
    cases y with
    | non => cases ry; exact PySem.EqNone.ne_int_none (fin_bl I q (by simp))
    | int j => obtain ⟨t', rfl⟩ := ry; exact ne_int (fin_bl I q (congrArg not dec_int))
    | str j => obtain ⟨t', rfl⟩ := ry; exact PySem.EqMixed.ne_int_str (fin_bl I q (by simp))
    | _ => exact absurd (show false = true from hs) Bool.false_ne_true
  | str i =>
    obtain ⟨t, rfl⟩ := rx
    cases y with
    | non => cases ry; exact PySem.EqNone.ne_str_none (fin_bl I q (by simp))
    | bl j => cases ry; exact PySem.EqMixed.ne_str_bool (fin_bl I q (by simp))
    | int j => obtain ⟨t', rfl⟩ := ry; exact PySem.EqMixed.ne_str_int (fin_bl I q (by simp))
    | str j => obtain ⟨t', rfl⟩ := ry; exact ne_str (fin_bl I q (congrArg not dec_str))
    | _ => exact absurd (show false = true from hs) Bool.false_ne_true
  | byt i =>
    obtain ⟨t, rfl⟩ := rx
    cases y with
    | byt j => obtain ⟨t', rfl⟩ := ry; exact PySem.W.ne_bytes (fin_bl I q (congrArg not dec_byt))
    | _ => exact absurd (show false = true from hs) Bool.false_ne_true
  | _ => cases y <;> exact absurd (show false = true from hs) Bool.false_ne_true

theorem op_lt : OpR X (compareOp .Lt) (rI0 fun i j => .bl (decide (i < j))) := opB0 fun _ _ _ _ _ _ _ q => lt_int q
theorem op_le : OpR X (compareOp .LtE) (rI0 fun i j => .bl (decide (i ≤ j))) := opB0 fun _ _ _ _ _ _ _ q => le_int q
theorem op_gt : OpR X (compareOp .Gt) (rI0 fun i j => .bl (decide (j < i))) := opB0 fun _ _ _ _ _ _ _ q => gt_int q
theorem op_ge : OpR X (compareOp .GtE) (rI0 fun i j => .bl (decide (j ≤ i))) := opB0 fun _ _ _ _ _ _ _ q => ge_int q
theorem nomark (b : Expr) {op : CmpOp} (h : op ≠ .In := by decide) (h2 : op ≠ .NotIn := by decide) : behindInMarks op b = false := by
  have e1 : (op == CmpOp.In) = false := by cases op <;> first | rfl | exact absurd rfl h
  have e2 : (op == CmpOp.NotIn) = false := by cases op <;> first | rfl | exact absurd rfl h2
  cases b <;> simp [behindInMarks, e1, e2]
theorem pe_cmpR {op : CmpOp} {r : R2} (ho : OpR X (compareOp op) r) (ha : PE X a ta) (hb : PE X b tb) (hm : behindInMarks op b = false) : PE X (.Compare a [op] [b] pos) (tOp r ta tb) := by
  intro pins s σ H Q I h
  exact wpAny_Compare1 (binT ha hb I h fun v u s2 x y H2 I2 rx ry q => ho pins s2 σ H2 x y v u Q I2 rx ry q) hm
def tTest (t : TE) : TT := fun σ H Q => t σ H fun x H' => ∃ k, x = .bl k ∧ Q k H'
theorem pt_cmpR {op : CmpOp} {r : R2} (ho : OpR X (compareOp op) r) (ha : PE X a ta) (hb : PE X b tb) (hm : behindInMarks op b = false) : PT X (.Compare a [op] [b] pos) (tTest (tOp r ta tb)) := by
  intro pins s σ H Q I h
  refine wpAny_isTrue_Compare1 (thn (ha pins s σ H _ I h) fun v s1 ⟨x, H1, I1, r1, q1⟩ => thn (hb pins s1 σ H1 _ I1 q1) fun u s2 ⟨y, H2, I2, r2, q2⟩ =>
    thn (ho pins s2 σ H2 x y v u _ I2 r1 r2 q2) fun c s3 ⟨z, H3, I3, r3, k, e, q3⟩ => ?_) hm
  subst e
  cases r3
  exact wpAny_truthy_bool ⟨H3, I3, q3⟩
theorem line63 : (sizeLine : Nat) < 2 ^ 63 := by rw [sizeLine_eq]; decide
theorem op_add_str : OpR X (binaryOp .Add) (fun x y H Q => ∃ i j, x = .str i ∧ y = .str j ∧ i.length + j.length ≤ sizeLine ∧ Q (.str (i ++ j)) H) := by
  intro pins s σ H x y v u Q I rx ry h
  obtain ⟨i, j, rfl, rfl, hz, q⟩ := h
  obtain ⟨t, rfl⟩ := rx
  obtain ⟨t', rfl⟩ := ry
  exact add_str (fun t' tk => ⟨.str (i ++ j), H, I.tok _, ⟨_, rfl⟩, q⟩) hz
theorem vals1 {x : V} {us : List Value} (r : Vals [x] us) : ∃ u, us = [u] ∧ RelV x u := by
  cases r with
  | cons r1 r2 => cases r2; exact ⟨_, rfl, r1⟩
theorem vals2 {x y : V} {us : List Value} (r : Vals [x, y] us) : ∃ u w', us = [u, w'] ∧ RelV x u ∧ RelV y w' := by
  cases r with
  | cons r1 r2 =>
    cases r2 with
    | cons r3 r4 => cases r4; exact ⟨_, _, rfl, r1, r3⟩
theorem call_max2 (hc : X.calm = true) : CallR X (.builtin "max") (fun xs H Q => ∃ i j, xs = [.int i, .int j] ∧ Q (.int (if j > i then j else i)) H) := by
  intro pins s σ H xs us Q I r h
  obtain ⟨i, j, rfl, q⟩ := h
  obtain ⟨u, w', rfl, ⟨t, rfl⟩, ⟨t', rfl⟩⟩ := vals2 r
  refine max_two_ints (I.ok.hd hc) fun h' tk k => ⟨_, H, I.kept k, ?_, q⟩
  by_cases hj : j > i
  · rw [if_pos hj, if_pos hj]; exact ⟨_, rfl⟩
  · rw [if_neg hj, if_neg hj]; exact ⟨_, rfl⟩
theorem call_min2 (hc : X.calm = true) : CallR X (.builtin "min") (fun xs H Q => ∃ i j, xs = [.int i, .int j] ∧ Q (.int (if j < i then j else i)) H) := by
  intro pins s σ H xs us Q I r h
  obtain ⟨i, j, rfl, q⟩ := h
  obtain ⟨u, w', rfl, ⟨t, rfl⟩, ⟨t', rfl⟩⟩ := vals2 r
  refine min_two_ints (I.ok.hd hc) fun h' tk k => ⟨_, H, I.kept k, ?_, q⟩
  by_cases hj : j < i
  · rw [if_pos hj, if_pos hj]; exact ⟨_, rfl⟩
  · rw [if_neg hj, if_neg hj]; exact ⟨_, rfl⟩
theorem call_int1 : CallR X (.type "int") (fun xs H Q => (∃ i, xs = [.int i] ∧ Q (.int i) H) ∨ ∃ k, xs = [.bl k] ∧ Q (.int (if k then 1 else 0)) H) := by
  intro pins s σ H xs us Q I r h
  rcases h with ⟨i, rfl, q⟩ | ⟨k, rfl, q⟩
  · obtain ⟨u, rfl, t, rfl⟩ := vals1 r
    exact call_int_int ⟨.int i, H, I, ⟨_, rfl⟩, q⟩
  · obtain ⟨u, rfl, r1⟩ := vals1 r
    cases r1
    exact call_int_bool ⟨.int (if k then 1 else 0), H, I.tok _, ⟨_, rfl⟩, q⟩
theorem call_str_int : CallR X (.type "str") (fun xs H Q => ∃ i, xs = [.int i] ∧ i.natAbs.log2 < 1920 ∧ Q (.str (toString i)) H) := by
  intro pins s σ H xs us Q I r h
  obtain ⟨i, rfl, hz, q⟩ := h
  obtain ⟨u, rfl, t, rfl⟩ := vals1 r
  exact PySem.P.str_of_int hz ⟨.str _, H, I.tok _, ⟨_, rfl⟩, q⟩
end
end L2

namespace L2
open PySem PySem.Spec PyProof.Rows

section
variable {prog : Program} {w : World} {A : Around} {E : Value → Shared → Prop} {s : Shared} {K : PySem.W.Frag} {x dx C f : Addr} {mA : Str → Option Value} {name : Str} {v : Value}

end

section
variable {P : Program} {w : World} {H H' : Hp} {h h' : Heap} {a C dx : Addr} {fs fs' : List (Str × V)}
end

structure Cls (K : PySem.W.Frag) (C : Addr) : Prop where
  pg : PySem.W.plainGet K C Str.empty = true
  hd : PySem.W.hasDictIn K C = true
  po : PySem.W.plainOver K C = true
  sa : PySem.W.findIn K (.ref C) "__setattr__" = some (some (.builtin "object.__setattr__"))
theorem Cls.get {K : PySem.W.Frag} {C : Addr} (c : Cls K C) (f : Str) : PySem.W.plainGet K C f = true := c.pg
section
variable {X : Cx} {pins : List (Addr × Obj)} {σ : St} {H : Hp} {s : Shared} {a C dx : Addr} {fs : List (Str × V)} {f : Str} {v : V} {A : Around} {E : Value → Shared → Prop}

end

section
variable {X : Cx} {o e value : Expr} {f : Str} {pos pos' tpos : Pos} {ta tv : TE}
end

section
variable {X : Cx} {pins : List (Addr × Obj)} {σ : St} {H : Hp} {s : Shared} {A : Around} {E : Value → Shared → Prop} {Q : Value → Shared → Prop} {c : Value} {b : Bool}
end
end L2

namespace L2
open PySem PySem.Spec PyProof.Rows

structure Room (k : Nat) (A : Around) : Prop where
  hd : A.handled = none
  dp : A.depth + 3 * k + 5 < recursionLimit
  un : A.units + 16 * k + 200 < cLine
theorem Room.mono {j k : Nat} {A : Around} (r : Room k A) (h : j ≤ k) : Room j A := ⟨r.hd, by have := r.dp; omega, by have := r.un; omega⟩
theorem Room.deeper {k : Nat} {A : Around} (r : Room (k + 1) A) (env : Env) : Room k (A.deeper env) :=
  ⟨r.hd, by have := r.dp; show A.depth + 1 + 3 * k + 5 < _; omega, by have := r.un; show A.units + 3 + 16 * k + 200 < _; omega⟩
theorem Room.in1 {k : Nat} {A : Around} (r : Room (k + 1) A) : Room k A.in1 :=
  ⟨r.hd, by have := r.dp; show A.depth + 3 * k + 5 < _; omega, by have := r.un; show A.units + 1 + 16 * k + 200 < _; omega⟩
theorem Room.depth {k : Nat} {A : Around} (r : Room k A) : A.depth < recursionLimit := by have := r.dp; omega
theorem Room.units {k : Nat} {A : Around} (r : Room k A) : A.units + 64 < cLine := by have := r.un; omega
def tNil : TA := fun _ H Q => Q [] H
def tCons (ta : TE) (tr : TA) : TA := fun σ H Q => ta σ H fun x H1 => tr σ H1 fun xs H2 => Q (x :: xs) H2
section
variable {X : Cx} {e : Expr} {es : List Expr} {te : TE} {t : TA} {pos : Pos}
theorem pa_nil : PA X [] tNil := fun _ _ _ _ H Q I h => Calls.spliced_nil ⟨[], H, I, .nil, h⟩
theorem pa_cons (ha : PE X e te) (hr : PA X es t) (hs : starEach (e :: es) X.env = (false, eval e X.env) :: starEach es X.env := by rfl) : PA X (e :: es) (tCons te t) := by
  intro pos pins s σ H Q I h
  rw [hs]
  show wpAny _ _ (spliced ((false, eval e X.env) :: backTo pos (starEach es X.env))) _ _ s
  refine Calls.spliced_cons (thn (ha pins s σ H _ I h) fun u s1 ⟨x, H1, I1, r1, q1⟩ => ?_)
  exact thn (hr pos pins s1 σ H1 _ I1 q1) fun us s2 ⟨xs, H2, I2, r2, q2⟩ => ⟨x :: xs, H2, I2, .cons r1 r2, q2⟩

def tTup (t : TA) : TE := fun σ H Q => t σ H fun xs H1 => xs.length ≤ sizeLine ∧ ∀ p, H1 p = none → Q (.ref p) (upd H1 p (.tup xs))
def tLst (t : TA) : TE := fun σ H Q => t σ H fun xs H1 => xs.length ≤ sizeLine ∧ ∀ p, H1 p = none → Q (.ref p) (upd H1 p (.lst xs))
theorem pe_tup {x1} (h : PA X es t) : PE X (.Tuple es x1 pos) (tTup t) := by
  intro pins s σ H Q I hq
  refine wpAny_Tuple_spliced (thn (h pos pins s σ H _ I hq) fun us s1 ⟨xs, H1, I1, r, z, q⟩ => ⟨by rw [← r.length]; exact z, ?_⟩)
  have hf : H1 s1.heap.objs.size = none := I1.hok.fresh (Nat.le_refl _)
  refine ⟨.ref s1.heap.objs.size, upd H1 s1.heap.objs.size (.tup xs), I1.laid (t' := s1.toks) (fun b u e => Heap.get?_push_of_some _ e) (Nat.le_refl _) ?_, rfl, q _ hf⟩
  exact ⟨z, us, r, ⟨_, Heap.get?_push_size _ rfl, rfl, _, rfl⟩⟩
theorem pe_lst (h : PA X es t) : PE X (.List es pos) (tLst t) := by
  intro pins s σ H Q I hq
  refine wpAny_List_spliced (thn (h pos pins s σ H _ I hq) fun us s1 ⟨xs, H1, I1, r, z, q⟩ => ⟨by rw [← r.length]; exact z, ?_⟩)
  have hf : H1 s1.heap.objs.size = none := I1.hok.fresh (Nat.le_refl _)
  refine ⟨.ref s1.heap.objs.size, upd H1 s1.heap.objs.size (.lst xs), I1.laid (t' := s1.toks) (fun b u e => Heap.get?_push_of_some _ e) (Nat.le_refl _) ?_, rfl, q _ hf⟩
  exact ⟨z, us, 0, r, Heap.get?_push_size _ rfl⟩
end

abbrev Sp := List V → Hp → VK → XK → Prop
abbrev CXT := List Env → Hp → Shared → XK → Value → Shared → Prop

structure Env0 (P : Program) (w : World) (K : PySem.W.Frag) (mg : Str → Option Value) (base : Heap) (A : Around) (outer : List Env) (s : Shared) (H : Hp) : Prop where
  frames : A.frames = some outer
  mod : Mod K mg base
  bs : ∀ b o, base.get? b = some o → s.heap.get? b = some o ∧ H b = none
  bsz : base.objs.size ≤ s.heap.objs.size
  funs : s.heap.FunFrames base outer
  frf : ∀ b ∈ frs outer, H b = none
  hok : HOk P w H s.heap
  bare : AllBare s.gens
def CE (outer : List Env) (P : Program) (w : World) (H : Hp) (s : Shared) (Q : VK) (u : Value) (s' : Shared) : Prop :=
  ∃ v H', s'.os = s.os ∧ AllBare s'.gens ∧ Un (frs outer) [] H H' s.heap s'.heap ∧ HOk P w H' s'.heap ∧ RelV v u ∧ Q v H'
def CR (CX : CXT) (outer : List Env) (P : Program) (w : World) (H : Hp) (s : Shared) (Q : VK) (E : XK) (r : Result) (s' : Shared) : Prop :=
  match r with
  | .ok (.ret u) => CE outer P w H s Q u s'
  | .ok _ => False
  | .error e => CX outer H s E e s'
structure FnOk (P : Program) (w : World) (K : PySem.W.Frag) (mg : Str → Option Value) (base : Heap) (CX : CXT) (k : Nat) (f : Addr) (fd : FuncData) (ps : List Str) (sp : Sp) : Prop where
  len : ∀ vs H Q E, sp vs H Q E → vs.length = ps.length
  run : ∀ (A : Around) (outer : List Env) (s : Shared) (H : Hp) (args : Args) (us : List Value) (vs : List V) (Q : VK) (E : XK), Room k A → Env0 P w K mg base A outer s H → BindsTo s fd args (ps.zip us) → Vals vs us → sp vs H Q E →
    codeAny (model P w) A (.call (.ref f) args) (CR CX outer P w H s Q E) s
theorem FnOk.mono {P : Program} {w : World} {K : PySem.W.Frag} {mg : Str → Option Value} {base : Heap} {CX : CXT} {j k : Nat} {f : Addr} {fd : FuncData} {ps : List Str} {sp : Sp} (F : FnOk P w K mg base CX j f fd ps sp) (h : j ≤ k) :
    FnOk P w K mg base CX k f fd ps sp := ⟨F.len, fun A outer s H args us vs Q E hr => F.run A outer s H args us vs Q E (hr.mono h)⟩
theorem Env0.in1 {P : Program} {w : World} {K : PySem.W.Frag} {mg : Str → Option Value} {base : Heap} {A : Around} {outer : List Env} {s : Shared} {H : Hp} (e : Env0 P w K mg base A outer s H) :
    Env0 P w K mg base A.in1 outer s H := ⟨e.frames, e.mod, e.bs, e.bsz, e.funs, e.frf, e.hok, e.bare⟩

section
variable {X : Cx} {pins : List (Addr × Obj)} {σ : St} {H : Hp} {s s' : Shared}
theorem Inv.env0 (I : Inv X pins σ H s) : Env0 X.prog X.w X.K X.mg X.base X.A X.stack s H :=
  ⟨I.ok.frames, I.ok.mod, I.bs, Nat.le_trans I.ok.bsz I.sz, I.stack, I.stkFree, I.hok, I.bare⟩
theorem Inv.after {Q : VK} {u : Value} (I : Inv X pins σ H s) (h : CE X.stack X.prog X.w H s Q u s') : EP X pins σ Q u s' := by
  obtain ⟨v, H', os, bare, un, hok, r, q⟩ := h
  obtain ⟨hh, g, d, t, os'⟩ := s'
  obtain rfl : os' = s.os := os
  exact ⟨v, H', I.call (h' := hh) (g' := g) (d' := d) (t' := t) (ch := []) un hok bare (fun b z => absurd z (by simp)), r, q⟩
end

def tCall (sp : Sp) (dvs : List V) (E : XK) (t : TA) : TE := fun σ H Q => t σ H fun vs H1 => sp (vs ++ dvs) H1 Q E
def Binds (K : PySem.W.Frag) (fd : FuncData) (ps : List Str) (ds : List Value) : Prop :=
  ∀ (s : Shared) (us : List Value), K.In s.heap → (us ++ ds).length = ps.length → BindsTo s fd ⟨us, []⟩ (ps.zip (us ++ ds))
theorem Binds.all {K : PySem.W.Frag} {fd : FuncData} {ps : List Str} (h : ∀ us : List Value, us.length = ps.length → bindArgs fd ⟨us, []⟩ = pure (ps.zip us)) : Binds K fd ps [] := fun s us _ hl => by
  rw [List.append_nil] at hl ⊢
  exact .of_eq (h us hl)

def Passes (CX : CXT) (X : Cx) (E : XK) : Prop := ∀ (pins : List (Addr × Obj)) (σ : St) (H : Hp) (s : Shared) (e : Value) (s' : Shared), Inv X pins σ H s → CX X.stack H s E e s' → X.xe e s'

section
variable {X : Cx} {CX : CXT} {k : Nat} {f C : Addr} {fd : FuncData} {ps : List Str} {sp : Sp} {dvs : List V} {ds : List Value} {E : XK} {x m : Str} {p pos apos : Pos} {e o : Expr} {es : List Expr} {ta : TE} {t : TA}

theorem run_fn {pins : List (Addr × Obj)} {σ : St} {H : Hp} {s : Shared} {Q : VK} {us : List Value} {vs : List V} (F : FnOk X.prog X.w X.K X.mg X.base CX k f fd ps sp) (hr : Room k X.A) (hb : Binds X.K fd ps ds) (hd : Vals dvs ds) (hx : Passes CX X E)
    (I : Inv X pins σ H s) (r : Vals vs us) (h : sp (vs ++ dvs) H Q E) : wpAny (model X.prog X.w) X.A (call (.ref f) us) (EP X pins σ Q) X.xe s := by
  have r2 : Vals (vs ++ dvs) (us ++ ds) := r.append hd
  have hl : (us ++ ds).length = ps.length := by rw [← r2.length]; exact F.len _ _ _ _ h
  refine wpAny_call (codeAny_mono (F.run X.A X.stack s H ⟨us, []⟩ (us ++ ds) (vs ++ dvs) Q E hr I.env0 (hb s us I.kIn hl) r2 h) fun r s' hq => ?_)
  cases r with
  | error e => exact hx pins σ H s e s' I hq
  | ok fl =>
    cases fl with
    | ret u => exact I.after hq
    | next => exact False.elim hq
    | brk => exact False.elim hq
    | cont => exact False.elim hq

theorem pe_call (F : FnOk X.prog X.w X.K X.mg X.base CX k f fd ps sp) (hr : Room k X.A) (hg : Gl X x) (hm : X.mg x = some (.ref f)) (hk : PySem.W.keepIn X.K (.ref f) = true) (hb : Binds X.K fd ps ds) (hd : Vals dvs ds) (hx : Passes CX X E)
    (ha : PA X (e :: es) t) (hdb : (x == ("__debug__" : Str)) = false := by decide) (he : starEach (e :: es) X.env = (false, eval e X.env) :: starEach es X.env := by rfl) (hpl : (backTo pos (starEach es X.env)).any (·.1) = false := by rfl) :
    PE X (.Call (.Name x p) (e :: es) [] pos) (tCall sp dvs E t) := by
  intro pins s σ H Q I h
  refine wpAny_Call_Name_kw (ld_glob I hg hm ?_ hdb)
  refine PySem.W.callWith_K (h₀ := X.base) I.ok.mod.kin hk (thn (ha pos pins s σ H _ I h) fun us s1 ⟨vs, H1, I1, r, q⟩ => ⟨I1.kIn, ?_⟩) he hpl
  exact run_fn F hr hb hd hx I1 r q
end

section
variable {X : Cx} {CX : CXT} {k : Nat} {f C : Addr} {fd : FuncData} {ps ks : List Str} {sp : Sp} {E : XK} {x m : Str} {p pos apos kpos : Pos} {e o : Expr} {es : List Expr} {kws : List Keyword} {te ta : TE} {t tk : TA} {nm : Option Str}
variable {g : List Value → List Value → List Value} {gV : List V → List V → List V}
end

structure FnScope (N P : List Str) (sc : Scope) : Prop where
  kind : sc.kind = .function
  co : sc.isCoroutine = false
  gen : sc.isGenerator = false
  nd : N.Nodup
  pre : N.take P.length = P
  par : ∀ x ∈ P, sc.names.lookup x = some .local ∨ sc.names.lookup x = some .cell
  nofree : ∀ y ∈ sc.names, y.2 ≠ .free

theorem bindL_out {kindOf : Str → Option NameKind} {x : Str} : ∀ {binds : List (Str × Value)} {m : Str → Option Value}, (∀ v, (x, v) ∉ binds) → bindL kindOf binds m x = m x
  | [], _, _ => rfl
  | (n, v) :: r, m, h => by
    unfold bindL
    rw [bindL_out fun w hw => h w (List.mem_cons_of_mem _ hw)]
    split
    · have : x ≠ n := by rintro rfl; exact h v List.mem_cons_self
      simp [this]
    · rfl
theorem bindC_out {kindOf : Str → Option NameKind} {x : Str} : ∀ {binds : List (Str × Value)} {m : Str → Option Value}, (∀ v, (x, v) ∉ binds) → bindC kindOf binds m x = m x
  | [], _, _ => rfl
  | (n, v) :: r, m, h => by
    unfold bindC
    rw [bindC_out fun w hw => h w (List.mem_cons_of_mem _ hw)]
    split
    · rfl
    · have : x ≠ n := by rintro rfl; exact h v List.mem_cons_self
      simp [this]
theorem bindL_get {kindOf : Str → Option NameKind} {x : Str} {v : Value} : ∀ {P : List Str} {vs : List Value} {i : Nat} {m : Str → Option Value}, P.Nodup → P[i]? = some x → vs[i]? = some v → kindOf x = some .local →
    bindL kindOf (P.zip vs) m x = some v
  | [], _, _, _, _, h, _, _ => by simp at h
  | _ :: _, [], _, _, _, _, h, _ => by simp at h
  | p :: P, w :: vs, 0, m, nd, h1, h2, hk => by
    simp at h1 h2; subst h1; subst h2
    show bindL kindOf ((p, w) :: P.zip vs) m p = _
    unfold bindL
    rw [bindL_out fun v hv => (List.nodup_cons.mp nd).1 (List.of_mem_zip hv).1, if_pos hk]
    simp
  | p :: P, w :: vs, i + 1, m, nd, h1, h2, hk => by
    show bindL kindOf ((p, w) :: P.zip vs) m x = _
    unfold bindL
    exact bindL_get (i := i) (List.nodup_cons.mp nd).2 (by simpa using h1) (by simpa using h2) hk
theorem bindC_get {kindOf : Str → Option NameKind} {x : Str} {v : Value} : ∀ {P : List Str} {vs : List Value} {i : Nat} {m : Str → Option Value}, P.Nodup → P[i]? = some x → vs[i]? = some v → kindOf x ≠ some .local →
    bindC kindOf (P.zip vs) m x = some v
  | [], _, _, _, _, h, _, _ => by simp at h
  | _ :: _, [], _, _, _, _, h, _ => by simp at h
  | p :: P, w :: vs, 0, m, nd, h1, h2, hk => by
    simp at h1 h2; subst h1; subst h2
    show bindC kindOf ((p, w) :: P.zip vs) m p = _
    unfold bindC
    rw [bindC_out fun v hv => (List.nodup_cons.mp nd).1 (List.of_mem_zip hv).1, if_neg hk]
    simp
  | p :: P, w :: vs, i + 1, m, nd, h1, h2, hk => by
    show bindC kindOf ((p, w) :: P.zip vs) m x = _
    unfold bindC
    exact bindC_get (i := i) (List.nodup_cons.mp nd).2 (by simpa using h1) (by simpa using h2) hk

def start (N : List Str) (vs : List V) : St := vs.map some ++ List.replicate (N.length - vs.length) none

def cxOf (CX : CXT) (P : Program) (w : World) (K : PySem.W.Frag) (mg : Str → Option Value) (base : Heap) (N : List Str) (qual : Str) (scope : Scope) (f : Addr) (cd : Value) (A : Around) (outer : List Env) (s : Shared) (H : Hp) (E : XK) : Cx where
  prog := P
  w := w
  K := K
  mg := mg
  base := base
  A := A.deeper (envOfC qual scope s.heap.objs.size f cd)
  N := N
  s₀ := s
  H₀ := H
  env := envOfC qual scope s.heap.objs.size f cd
  outer := outer
  stack := envOfC qual scope s.heap.objs.size f cd :: outer
  ex := []
  calm := true
  fn := fun _ => true
  pn := []
  xe := fun e s' => wpAny (model P w) (A.deeper (envOfC qual scope s.heap.objs.size f cd)) (leaving (envOfC qual scope s.heap.objs.size f cd) e) (fun _ s'' => CX outer H s E e s'') (fun e' s'' => CX outer H s E e' s'') s'

theorem cell_has {sc : Scope} {n : Nat} {x : Str} (h : sc.names.lookup x = some .cell) : ∃ c, (cellsFrom n sc.names []).lookup x = some c := by
  have q := PySem.W.cellsFrom_some sc.names n [] (.inl h)
  exact Option.isSome_iff_exists.mp q

theorem inv_start {CX : CXT} {P : Program} {w : World} {K : PySem.W.Frag} {mg : Str → Option Value} {base : Heap} {N ps : List Str} {qual : Str} {scope : Scope} {f : Addr} {cd : Value} {A : Around} {outer : List Env} {s s1 : Shared} {H : Hp} {E : XK} {us : List Value} {vs : List V}
    (S : FnScope N ps scope) (hd : A.handled = none) (e0 : Env0 P w K mg base A outer s H) (hl : vs.length = ps.length) (r : Vals vs us)
    (x : InCallC s s.heap.objs.size (bindL (envOfC qual scope s.heap.objs.size f cd).kindOf (ps.zip us) fun _ => none) (cellsFrom (s.heap.objs.size + 1) scope.names []) (bindC (envOfC qual scope s.heap.objs.size f cd).kindOf (ps.zip us) fun _ => none) s1) :
    Inv (cxOf CX P w K mg base N qual scope f cd A outer s H E) [] (start N vs) H s1 := by
  have hpl : ps.length ≤ N.length := by have := congrArg List.length S.pre; rw [List.length_take] at this; omega
  obtain ⟨h1, tk, rfl, hk⟩ := x.done
  have noA : ∀ b : Addr, b ∉ (cxOf CX P w K mg base N qual scope f cd A outer s H E).ex := fun b z => absurd (show b ∈ ([] : List Addr) from z) (by simp)
  refine ⟨⟨e0.mod, S.kind, rfl, rfl, Nat.le_refl _, fun y z c h1 h2 => ?_, fun y hy => ?_, fun y c _ h => ?_, fun _ => hd, Around.frames_deeper e0.frames, .inr ⟨rfl, rfl⟩, fun b z => absurd z (noA b), e0.bs, e0.bsz, fun b _ _ => noA b, fun b z => absurd z (noA b), e0.funs, e0.frf⟩,
    rfl, e0.bare, Un.kept hk, ⟨_, x.toInCall.ns, fun i y v h1 h2 h3 => ?_⟩, fun y c h => ⟨_, x.cell y c h⟩, e0.hok.fresh (Nat.le_refl _), fun y c h => ?_, fun p hp => absurd (show p ∈ ([] : List (Addr × Obj)) from hp) (by simp), e0.hok.kept hk, ?_⟩
  · exact name_of_addr x.apart (PySem.mem_of_lookup h1) (PySem.mem_of_lookup h2)
  · have hy : scope.names.lookup y = some .cell ∨ scope.names.lookup y = some .free := hy
    rcases hy with hy | hy
    · exact cell_has hy
    · exact absurd rfl (S.nofree _ (PySem.mem_of_lookup hy))
  · exact Nat.le_of_lt (x.above y c (PySem.mem_of_lookup h))
  · have hi : i < vs.length := by
      unfold start at h2
      by_cases hi : i < vs.length
      · exact hi
      · rw [List.getElem?_append_right (by simpa using hi)] at h2
        rw [List.getElem?_replicate] at h2
        split at h2 <;> cases h2
    have ha : vs[i]? = some v := by
      unfold start at h2
      rw [List.getElem?_append_left (by simpa using hi), List.getElem?_map] at h2
      cases e : vs[i]? with
      | none => rw [e] at h2; cases h2
      | some a => rw [e] at h2; cases h2; rfl
    obtain ⟨u, hu, rv⟩ := r.get ha
    have hp : ps[i]? = some y := by
      rw [← S.pre, List.getElem?_take_of_lt (by omega)]; exact h1
    have ndP : ps.Nodup := by rw [← S.pre]; exact S.nd.sublist (List.take_sublist _ _)
    refine ⟨u, rv, ?_⟩
    rcases S.par y (List.mem_of_getElem? hp) with k | k
    · exact .inl ⟨k, bindL_get ndP hp hu k⟩
    · obtain ⟨c, e⟩ := cell_has (n := s.heap.objs.size + 1) k
      refine .inr ⟨.inl k, c, e, ?_⟩
      have q := x.cell y c e
      rw [bindC_get ndP hp hu (by show scope.names.lookup y ≠ _; rw [k]; decide)] at q
      exact q
  · exact e0.hok.fresh (Nat.le_of_lt (x.above y c (PySem.mem_of_lookup h)))
  · unfold start
    show _ = N.length
    rw [List.length_append, List.length_map, List.length_replicate]
    omega

theorem fn_of {CX : CXT} {P : Program} {w : World} {K : PySem.W.Frag} {mg : Str → Option Value} {base : Heap} {k : Nat} {f : Addr} {name qual : Str} {params : Arguments} {body : List Stmt} {scope : Scope} {dV kV doc pm cdv ct oc : Value} {an od : Option Addr}
    {osl : Array (Option Value)} {N ps : List Str} {sp : Sp} (lk : K.lookup f = some ⟨oc, od, .func (PySem.W.fnOf name qual params body scope dV kV doc pm an cdv ct), osl⟩) (hcd : PySem.W.codeIn K cdv qual = true) (S : FnScope N ps scope)
    (len : ∀ vs H Q E, sp vs H Q E → vs.length = ps.length)
    (hbody : ∀ (A : Around) (outer : List Env) (s : Shared) (H : Hp) (vs : List V) (Q : VK) (E : XK), Room k (A.deeper (envOfC qual scope s.heap.objs.size f cdv)) → sp vs H Q E →
      ∃ t, PSs (cxOf CX P w K mg base N qual scope f cdv A outer s H E) body t ∧ t { nx := fun _ H' => Q .non H', rt := Q } (start N vs) H) :
    FnOk P w K mg base CX (k + 1) f (PySem.W.fnOf name qual params body scope dV kV doc pm an cdv ct) ps sp := by
  refine ⟨len, fun A outer s H args us vs Q E hr e0 hb r hsp => ?_⟩
  have hl := len _ _ _ _ hsp
  have KX : K.In s.heap := e0.mod.kin.keeps fun b o e => (e0.bs b o e).1
  have lim : s.heap.NoLimit := e0.mod.nolimit.keeps fun b o e => (e0.bs b o e).1
  have hkind : ∀ y ∈ ps.zip us, scope.names.lookup y.1 = some .local ∨ (scope.names.lookup y.1 = some .cell ∧ ((cellsFrom (s.heap.objs.size + 1) scope.names []).lookup y.1).isSome = true) := fun ⟨n, v⟩ hy => by
    rcases S.par n (List.of_mem_zip hy).1 with q | q
    · exact .inl q
    · exact .inr ⟨q, PySem.W.cellsFrom_some _ _ _ (.inl q)⟩
  refine codeAny_call_function hr.depth (KX _ _ lk) rfl S.co S.gen rfl (PySem.W.codeRec_of KX hcd) (hb _ _ _ _ ?_)
  refine wpAny_newFunctionEnv_cells S.kind hkind fun env he s1 x => ?_
  subst he
  refine ⟨lim.keeps x.toInCall.keep, codeAny_func ?_⟩
  obtain ⟨t, ht, hq⟩ := hbody A outer s H vs Q E (hr.deeper _) hsp
  have I : Inv (cxOf CX P w K mg base N qual scope f cdv A outer s H E) [] (start N vs) H s1 := inv_start S hr.hd e0 hl r x
  refine wpAny_mono (ht [] s1 (start N vs) H _ I hq) (fun fl s' hs => ?_) fun e s' hs => hs
  have fin : ∀ {σ' : St} {H' : Hp} {v : V} {u : Value}, Inv (cxOf CX P w K mg base N qual scope f cdv A outer s H E) [] σ' H' s' → RelV v u → Q v H' → CE outer P w H s Q u s' :=
    fun {σ' H' v u} J rv q => ⟨v, H', J.os, J.bare, J.base, J.hok, rv, q⟩
  cases fl with
  | ret u =>
    obtain ⟨v, σ', H', J, rv, q⟩ := hs
    exact fin J rv q
  | next =>
    obtain ⟨σ', H', J, q⟩ := hs
    exact fin (v := V.non) (u := Value.none) J rfl q
  | brk =>
    obtain ⟨_, _, _, q⟩ := hs
    exact False.elim q
  | cont =>
    obtain ⟨_, _, _, q⟩ := hs
    exact False.elim q
end L2

namespace L2
open PySem PySem.Spec PyProof.Rows
section
variable {X : Cx} {x : Str} {p pos : Pos} {e : Expr} {es : List Expr} {t : TA} {id T : String} {r : List V → Hp → VK → Prop}

def tCB (r : List V → Hp → VK → Prop) (t : TA) : TE := fun σ H Q => t σ H fun vs H1 => r vs H1 Q
theorem pe_callB (hc : CallR X (.builtin id) r) (hg : Gl X x) (hm : X.mg x = none) (hv : bootBuiltins x = some (.builtin id)) (ha : PA X (e :: es) t) (hn : x ≠ "__name__" := by decide) (hdb : (x == ("__debug__" : Str)) = false := by decide)
    (he : starEach (e :: es) X.env = (false, eval e X.env) :: starEach es X.env := by rfl) (hpl : (backTo pos (starEach es X.env)).any (·.1) = false := by rfl) : PE X (.Call (.Name x p) (e :: es) [] pos) (tCB r t) := by
  intro pins s σ H Q I h
  refine wpAny_Call_Name_kw (ld_blt I hg hm hv ?_ hn hdb)
  exact PyProof.Rows.callWith_builtin1 (thn (ha pos pins s σ H _ I h) fun us s1 ⟨vs, H1, I1, r1, q1⟩ => hc pins s1 σ H1 vs us Q I1 r1 q1) he hpl
theorem pe_callTy (hc : CallR X (.type T) r) (hg : Gl X x) (hm : X.mg x = none) (hv : bootBuiltins x = some (.type T)) (ha : PA X (e :: es) t) (hn : x ≠ "__name__" := by decide) (hdb : (x == ("__debug__" : Str)) = false := by decide)
    (he : starEach (e :: es) X.env = (false, eval e X.env) :: starEach es X.env := by rfl) (hpl : (backTo pos (starEach es X.env)).any (·.1) = false := by rfl) : PE X (.Call (.Name x p) (e :: es) [] pos) (tCB r t) := by
  intro pins s σ H Q I h
  refine wpAny_Call_Name_kw (ld_blt I hg hm hv ?_ hn hdb)
  exact PyProof.Rows.callWith_type1 (thn (ha pos pins s σ H _ I h) fun us s1 ⟨vs, H1, I1, r1, q1⟩ => hc pins s1 σ H1 vs us Q I1 r1 q1) he hpl
end
end L2

namespace HT
open PySem PyProof.Rows

section
open PySem.SeqAt
open PySem.AutoSeq1 (wpAny_loadPart')
open PySem.MeetsSeq PySem.MeetsSeq2 PySem.MeetsSeq3

end

section
variable {prog : Program} {w : World} {A : Around} {E : Value → Shared → Prop} {s : Shared}

def sIx (n d : Nat) : Option Int → Nat
  | none => d
  | some v => if v < 0 then (v + (n : Int)).toNat else min v.toNat n
theorem sIx_none (n d : Nat) : sIx n d none = d := rfl
theorem sIx_nat (n d k : Nat) : sIx n d (some (k : Int)) = min k n := by
  show (if (k : Int) < 0 then ((k : Int) + (n : Int)).toNat else min (k : Int).toNat n) = min k n
  rw [if_neg (by omega), Int.toNat_natCast]
end
end HT

namespace L2
open PySem PySem.Spec PyProof.Rows

abbrev TO := St → Hp → (Option Int → Hp → Prop) → Prop
def PO (X : Cx) (e : Option Expr) (t : TO) : Prop :=
  ∀ (pins : List (Addr × Obj)) (s : Shared) (σ : St) (H : Hp) (Q : Option Int → Hp → Prop), Inv X pins σ H s → t σ H Q →
    wpAny (model X.prog X.w) X.A (evalPart e X.env) (fun u s' => ∃ o H', Inv X pins σ H' s' ∧ IsPart u o ∧ Q o H') X.xe s
def tNoPart : TO := fun _ H Q => Q none H
def tPart (t : TE) : TO := fun σ H Q => t σ H fun x H1 => ∃ i, x = .int i ∧ Q (some i) H1

section
variable {X : Cx} {e : Expr} {te : TE} {lo hi : Option Expr} {tl th : TO} {pos p2 : Pos}

theorem po_none : PO X none tNoPart := by
  intro pins s σ H Q I h
  rw [evalPart_none]
  exact wpAny_pure ⟨none, H, I, .none, h⟩
theorem po_some (h : PE X e te) : PO X (some e) (tPart te) := by
  intro pins s σ H Q I hw
  rw [evalPart_some]
  refine thn (h pins s σ H _ I hw) fun u s1 ⟨x, H1, I1, r1, q1⟩ => ?_
  obtain ⟨i, rfl, q⟩ := q1
  obtain ⟨t, rfl⟩ := r1
  exact ⟨some i, H1, I1, .int i t, q⟩

def SlR (X : Cx) (r : V → Option Int → Option Int → Hp → VK → Prop) : Prop :=
  ∀ (pins : List (Addr × Obj)) (s : Shared) (σ : St) (H : Hp) (x : V) (v vl vu : Value) (lo hi : Option Int) (sl : Addr) (Q : VK), Inv X pins σ H s → RelV x v → s.heap.IsSliceOf sl vl vu .none → IsPart vl lo → IsPart vu hi → r x lo hi H Q →
    ∃ T id, typeLookup (.type T) "__getitem__" = pure (some (.builtin id)) ∧ s.TypeIs v T ∧ wpAny (model X.prog X.w) X.A (getItem v (.ref sl)) (EP X pins σ Q) X.xe s
def tSl (r : V → Option Int → Option Int → Hp → VK → Prop) (te : TE) (tl th : TO) : TE := fun σ H Q => te σ H fun x H1 => tl σ H1 fun l H2 => th σ H2 fun u H3 => r x l u H3 Q
theorem pe_slice {r : V → Option Int → Option Int → Hp → VK → Prop} (hr : SlR X r) (he : PE X e te) (hl : PO X lo tl) (hu : PO X hi th) : PE X (.Subscript e (.Slice lo hi none p2) pos) (tSl r te tl th) := by
  intro pins s σ H Q I h
  refine Subscript_ (thn (he pins s σ H _ I h) fun v s1 ⟨x, H1, I1, r1, q1⟩ => ?_)
  refine wpAny_Slice (thn (hl pins s1 σ H1 _ I1 q1) fun vl s2 ⟨l, H2, I2, pl, q2⟩ => thn (hu pins s2 σ H2 _ I2 q2) fun vu s3 ⟨u, H3, I3, pu, q3⟩ => ?_)
  rw [evalPart_none]
  refine wpAny_pure ?_
  have I4 : Inv X pins σ H3 { s3 with heap := s3.heap.push { cls := .type "slice", data := .fields #[vl, vu, .none] } } := I3.kept (t' := s3.toks) fun b ob q => Heap.get?_push_of_some _ q
  obtain ⟨T, id, hT, ht, hg⟩ := hr pins { s3 with heap := s3.heap.push { cls := .type "slice", data := .fields #[vl, vu, .none] } } σ H3 x v vl vu l u s3.heap.objs.size Q I4 r1 (Heap.IsSliceOf.new ..) pl pu q3
  show wpAny (model X.prog X.w) X.A (subscriptTail e (.Slice lo hi none p2) v (.ref s3.heap.objs.size)) (EP X pins σ Q) X.xe { s3 with heap := s3.heap.push { cls := .type "slice", data := .fields #[vl, vu, .none] } }
  exact tail_any (ops := [.ref s3.heap.objs.size, v]) ht hT hg (by with_unfolding_all rfl)

def cutV (xs : List V) (lo hi : Option Int) : List V := (xs.drop (HT.sIx xs.length 0 lo)).take (HT.sIx xs.length xs.length hi - HT.sIx xs.length 0 lo)
theorem cutV_length (xs : List V) (lo hi : Option Int) : (cutV xs lo hi).length ≤ xs.length := by
  unfold cutV
  rw [List.length_take, List.length_drop]
  omega
end
end L2

namespace L2
open PySem PySem.Spec PyProof.Rows

def ixN (n : Nat) (i : Int) : Option Nat := if 0 ≤ i then (if i < n then some i.toNat else none) else if -(n : Int) ≤ i then some (i + n).toNat else none
def atI {α : Type} (xs : List α) (i : Int) : Option α := (ixN xs.length i).bind fun j => xs[j]?
theorem ixN_seq {n : Nat} {i : Int} {j : Nat} (h : ixN n i = some j) : seqIndex? i n = some j ∧ j < n ∧ -(n : Int) ≤ i ∧ i < n := by
  unfold ixN at h
  by_cases h0 : 0 ≤ i
  · rw [if_pos h0] at h
    by_cases h1 : i < n
    · rw [if_pos h1] at h
      have e : i.toNat = j := Option.some.inj h
      exact ⟨by rw [seqIndex_of h0 h1, e], by omega, by omega, h1⟩
    · rw [if_neg h1] at h; cases h
  · rw [if_neg h0] at h
    by_cases h1 : -(n : Int) ≤ i
    · rw [if_pos h1] at h
      have e : (i + n).toNat = j := Option.some.inj h
      exact ⟨by rw [seqIndex_neg (by omega) h1, e], by omega, h1, by omega⟩
    · rw [if_neg h1] at h; cases h
theorem atI_get {α : Type} {xs : List α} {i : Int} {v : α} (h : atI xs i = some v) : ∃ j, seqIndex? i xs.length = some j ∧ xs[j]? = some v ∧ j < xs.length ∧ -(xs.length : Int) ≤ i ∧ i < xs.length := by
  unfold atI at h
  cases e : ixN xs.length i with
  | none => rw [e] at h; cases h
  | some j =>
    rw [e] at h
    obtain ⟨h1, h2, h3, h4⟩ := ixN_seq e
    exact ⟨j, h1, h, h2, h3, h4⟩
theorem atI_nat {α : Type} {xs : List α} {j : Nat} {v : α} (h : xs[j]? = some v) : atI xs (j : Int) = some v := by
  have hj : j < xs.length := (List.getElem?_eq_some_iff.mp h).1
  have e : ixN xs.length (j : Int) = some j := by
    unfold ixN
    rw [if_pos (by omega), if_pos (by omega)]; simp
  unfold atI; rw [e]; exact h
def PlainIx (b : Expr) : Prop := ∀ o i, subscripted b false o i = operate [o, i] (getItem o i)
def IxR (X : Cx) (r : R2) : Prop :=
  ∀ (value slice : Expr) (pins : List (Addr × Obj)) (s : Shared) (σ : St) (H : Hp) (x y : V) (v u : Value) (Q : VK), Inv X pins σ H s → RelV x v → RelV y u → r x y H Q →
    subscripted slice false v u = operate [v, u] (getItem v u) → wpAny (model X.prog X.w) X.A (subscriptTail value slice v u) (EP X pins σ Q) X.xe s
def MtR (X : Cx) (id : String) (r : V → List V → Hp → VK → Prop) : Prop :=
  ∀ (pins : List (Addr × Obj)) (s : Shared) (σ : St) (H : Hp) (x : V) (xs : List V) (v : Value) (us : List Value) (Q : VK), Inv X pins σ H s → RelV x v → Vals xs us → r x xs H Q →
    wpAny (model X.prog X.w) X.A (call (.builtin id) (v :: us)) (EP X pins σ Q) X.xe s
section
variable {X : Cx} {a b : Expr} {ta tb : TE} {pos : Pos}
theorem pe_ix {r : R2} (hr : IxR X r) (ha : PE X a ta) (hb : PE X b tb) (hs : PlainIx b) : PE X (.Subscript a b pos) (tOp r ta tb) := by
  intro pins s σ H Q I h
  exact Subscript_ (binT ha hb I h fun v u s2 x y H2 I2 rx ry q => hr a b pins s2 σ H2 x y v u Q I2 rx ry q (hs _ _))

def rIxL (K : PySem.W.Frag) : R2 := fun x y H Q => ∃ p xs i v, x = .ref p ∧ y = .int i ∧ SqL K H p xs ∧ atI xs i = some v ∧ Q v H
def rIxT (K : PySem.W.Frag) : R2 := fun x y H Q => ∃ p xs i v, x = .ref p ∧ y = .int i ∧ SqT K H p xs ∧ atI xs i = some v ∧ Q v H
def rIxS : R2 := fun x y H Q => ∃ z i c, x = .str z ∧ y = .int i ∧ z.length ≤ sizeLine ∧ atI z.cps.toList i = some c ∧ Q (.str ⟨#[c]⟩) H
theorem ix_list : IxR X (rIxL X.K) := by
  intro value slice pins s σ H x y v u Q I rx ry h hs
  obtain ⟨p, xs, i, z, rfl, rfl, hq, he, q⟩ := h
  cases rx
  obtain ⟨t, rfl⟩ := ry
  obtain ⟨its, r, pl, hz⟩ := I.list hq
  obtain ⟨j, h1, h2, h3, h4, h5⟩ := atI_get he
  obtain ⟨w, ew, rw'⟩ := r.get h2
  have hl := r.length
  have hn := line63
  have fin : EP X pins σ Q w s := ⟨z, H, I, rw', q⟩
  by_cases h0 : 0 ≤ i
  · have hj : i.toNat = j := by
      rw [seqIndex_of h0 h5] at h1
      exact Option.some.inj h1
    exact item_listR pl.isList h0 (by omega) (by rw [hj]; simpa using ew) fin hs
  · have hj : (i + (its.toArray.size : Int)).toNat = j := by
      rw [seqIndex_neg (by omega) h4] at h1
      rw [List.size_toArray, ← hl]
      exact Option.some.inj h1
    exact subscriptTail_builtinR (x := w) pl.isList.typeIs slot_list_getitem.lookup
      (wpAny_getItem_list_neg (Q := fun r s' => r = w ∧ EP X pins σ Q r s') pl.isList (by omega) (by rw [List.size_toArray] <;> omega) (by omega) (by rw [hj]; simpa using ew) ⟨rfl, fin⟩) hs
theorem ix_tup : IxR X (rIxT X.K) := by
  intro value slice pins s σ H x y v u Q I rx ry h hs
  obtain ⟨p, xs, i, z, rfl, rfl, hq, he, q⟩ := h
  cases rx
  obtain ⟨t, rfl⟩ := ry
  obtain ⟨its, r, pl, hz⟩ := I.tuple hq
  obtain ⟨j, h1, h2, h3, h4, h5⟩ := atI_get he
  obtain ⟨w, ew, rw'⟩ := r.get h2
  have hl := r.length
  have hn := line63
  have fin : EP X pins σ Q w s := ⟨z, H, I, rw', q⟩
  exact subscriptTail_builtinR (x := w) pl.typeIs slot_tuple_getitem.lookup
    (getItem_tuple (j := j) (Q := fun r s' => r = w ∧ EP X pins σ Q r s') pl (by omega) (by omega) (by rw [List.size_toArray, ← hl]; exact h1) (by simpa using ew) ⟨rfl, fin⟩) hs
theorem ix_str : IxR X rIxS := by
  intro value slice pins s σ H x y v u Q I rx ry h hs
  obtain ⟨z, i, c, rfl, rfl, hz, he, q⟩ := h
  obtain ⟨t, rfl⟩ := rx
  obtain ⟨t', rfl⟩ := ry
  obtain ⟨j, h1, h2, h3, h4, h5⟩ := atI_get he
  have hl : z.cps.toList.length = z.length := by simp [Str.length]
  rw [hl] at h1 h4 h5
  have hn := line63
  exact tail_any (typeIs_str s z t) slot_str_getitem.lookup (getItem_str (c := c) (by
    have e1 : decide (i < -(2 ^ 63 : Int)) = false := decide_eq_false (by omega)
    have e2 : decide (i ≥ 2 ^ 63) = false := decide_eq_false (by omega)
    rw [e1, e2, Bool.or_false]) (by rw [h1]; simpa using h2) ⟨.str ⟨#[c]⟩, H, I.tok _, ⟨_, rfl⟩, q⟩) hs
theorem mapSeq_set (its : List Value) (n j : Nat) (u : Value) : Obj.mapSeq (·.setIfInBounds j u) { cls := .type "list", data := .seq its.toArray n } = { cls := .type "list", data := .seq (its.set j u).toArray n } := by
  simp [Obj.mapSeq]
theorem Inv.lst {pins : List (Addr × Obj)} {σ : St} {H : Hp} {s : Shared} {p : Addr} {xs : List V} (I : Inv X pins σ H s) (h : H p = some (.lst xs)) :
    ∃ (its : List Value) (n : Nat), Vals xs its ∧ s.heap.get? p = some { cls := .type "list", data := .seq its.toArray n } ∧ xs.length ≤ sizeLine := by
  obtain ⟨z, its, n, r, e⟩ := I.hok p _ h
  exact ⟨its, n, r, e, z⟩
theorem Inv.lstUpd {pins : List (Addr × Obj)} {σ : St} {H : Hp} {s : Shared} {p : Addr} {xs ys : List V} {its its' : List Value} {n n' : Nat} {f : Obj → Obj} (I : Inv X pins σ H s) (h : H p = some (.lst xs))
    (ho : s.heap.get? p = some { cls := .type "list", data := .seq its.toArray n }) (hf : f { cls := .type "list", data := .seq its.toArray n } = { cls := .type "list", data := .seq its'.toArray n' }) (r : Vals ys its') (hz : ys.length ≤ sizeLine) (t : Nat) :
    Inv X pins σ (upd H p (.lst ys)) { s with heap := s.heap.update p f, toks := t } := by
  have e : (s.heap.update p f).get? p = some { cls := .type "list", data := .seq its'.toArray n' } := by
    rw [Heap.get?_update_self f ho (by rw [hf] <;> rfl), hf]
  refine I.write (x := p) (e := p) (by rw [h]; trivial) (.inl rfl) (fun b u hb q => (Heap.get?_update_other _ _ (Ne.symm hb)).trans q) ⟨_, e⟩ ?_
  exact ⟨hz, its', n', r, e⟩
def rSetL : V → V → V → Hp → (Hp → Prop) → Prop := fun o i v H Q => ∃ p xs k j, o = .ref p ∧ i = .int k ∧ H p = some (.lst xs) ∧ ixN xs.length k = some j ∧ Q (upd H p (.lst (xs.set j v)))
theorem set_list : PSet X rSetL := by
  intro pins s σ H o i v ov iv u Q I ro ri rv h
  obtain ⟨p, xs, k, j, rfl, rfl, hp, hj, q⟩ := h
  cases ro
  obtain ⟨t, rfl⟩ := ri
  obtain ⟨its, n, r, ho, hz⟩ := I.lst hp
  obtain ⟨h1, h2, h3, h4⟩ := ixN_seq hj
  have hl := r.length
  have hn := line63
  have I' : Inv X pins σ (upd H p (.lst (xs.set j v))) { s with heap := s.heap.update p (Obj.mapSeq (·.setIfInBounds j u)) } :=
    I.lstUpd hp ho (mapSeq_set its n j u) (r.set rv j) (by rw [List.length_set]; exact hz) s.toks
  by_cases h0 : 0 ≤ k
  · have hk : k.toNat = j := by
      rw [seqIndex_of h0 h4] at h1
      exact Option.some.inj h1
    exact PySem.W.ki_setAt ho h0 (by omega) (by rw [List.size_toArray, ← hl]; exact h4) (by rw [hk]; exact ⟨_, I', q⟩)
  · have hk : (k + (its.toArray.size : Int)).toNat = j := by
      rw [seqIndex_neg (by omega) h3] at h1
      rw [List.size_toArray, ← hl]
      exact Option.some.inj h1
    exact PySem.W.ki_setBack ho (by omega) (by rw [List.size_toArray, ← hl]; exact h3) (by omega) (by rw [hk]; exact ⟨_, I', q⟩)

theorem slice_bounds (lo hi : Option Int) (n : Nat) : (sliceBounds lo hi none n).1 = ((HT.sIx n 0 lo : Nat) : Int) ∧ (sliceBounds lo hi none n).2.1 = ((HT.sIx n n hi : Nat) : Int) ∧ (sliceBounds lo hi none n).2.2 = 1 := by
  refine ⟨?_, ?_, rfl⟩
  · cases lo with
    | none => simp [sliceBounds, HT.sIx]
    | some i =>
      simp only [sliceBounds, HT.sIx, Option.getD_none, show (1 : Int) > 0 by decide, if_true]
      by_cases h : i < 0
      · simp only [h, if_true] <;> omega
      · simp only [h, if_false] <;> omega
  · cases hi with
    | none => simp [sliceBounds, HT.sIx]
    | some i =>
      simp only [sliceBounds, HT.sIx, Option.getD_none, show (1 : Int) > 0 by decide, if_true]
      by_cases h : i < 0
      · simp only [h, if_true] <;> omega
      · simp only [h, if_false] <;> omega
theorem slicePick_cut (its : List Value) (lo hi : Option Int) : slicePick its.toArray lo hi none = ((its.drop (HT.sIx its.length 0 lo)).take (HT.sIx its.length its.length hi - HT.sIx its.length 0 lo)).toArray := by
  obtain ⟨h1, h2, h3⟩ := slice_bounds lo hi its.toArray.size
  unfold slicePick
  rw [h1, h2, h3]
  simp only [sliceRange_one, pick_run, List.size_toArray] <;> rfl
def rSlL (K : PySem.W.Frag) : V → Option Int → Option Int → Hp → VK → Prop := fun x lo hi H Q => ∃ a xs, x = .ref a ∧ SqL K H a xs ∧ ∀ p, H p = none → Q (.ref p) (upd H p (.lst (cutV xs lo hi)))
theorem sl_list : SlR X (rSlL X.K) := by
  intro pins s σ H x v vl vu lo hi sl Q I rx hs pl pu h
  obtain ⟨a, xs, rfl, hx, q⟩ := h
  cases rx
  obtain ⟨its, r, ht, hz⟩ := I.list hx
  have hlen := r.length
  refine ⟨"list", _, slot_list_getitem.lookup, ht.isList.typeIs, ?_⟩
  refine wpAny_getItem_list_slice ht.isList hs pl pu .none (by simp) ?_ (by rw [List.size_toArray] <;> omega)
  rw [slicePick_cut, ← hlen]
  refine ⟨.ref s.heap.objs.size, _, I.laid (t' := s.toks) (o := .lst (cutV xs lo hi)) (fun b ob q => Heap.get?_push_of_some _ q) (Nat.le_refl _) ?_, rfl, q _ (I.hok.fresh (Nat.le_refl _))⟩
  exact ⟨Nat.le_trans (cutV_length xs lo hi) hz, _, 0, (r.drop (HT.sIx xs.length 0 lo)).take (HT.sIx xs.length xs.length hi - HT.sIx xs.length 0 lo), Heap.get?_push_size _ rfl⟩

def flatV : V → Bool
  | .non => true
  | .bl _ => true
  | .int _ => true
  | .str _ => true
  | _ => false
def eqV : V → V → Bool
  | .non, .non => true
  | .bl a, .bl b => a == b
  | .bl a, .int b => (if a then 1 else 0) == b
  | .int a, .bl b => a == (if b then 1 else 0)
  | .int a, .int b => a == b
  | .str a, .str b => a == b
  | _, _ => false
theorem eqAt_V {A : Around} {s : Shared} {y x : V} {u v : Value} (ry : RelV y u) (rx : RelV x v) (fy : flatV y = true) (fx : flatV x = true) : SeqAt.EqAt A s u v (eqV y x) := by
  cases y with
  | non =>
    cases ry
    cases x with
    | non => cases rx; exact SeqAt.EqAt.same _
    | bl b => cases rx; exact SeqAt.EqAt.none_bool b
    | int b => obtain ⟨t, rfl⟩ := rx; exact SeqAt.EqAt.none_int b t
    | str b => obtain ⟨t, rfl⟩ := rx; exact SeqAt.EqAt.none_str b t
    | _ => exact absurd (show false = true from fx) Bool.false_ne_true
  | bl a =>
    cases ry
    cases x with
    | non => cases rx; exact SeqAt.EqAt.bool_none a
    | bl b => cases rx; exact SeqAt.EqAt.bool_bool a b
    | int b => obtain ⟨t, rfl⟩ := rx; exact SeqAt.EqAt.bool_int a b t
    | str b => obtain ⟨t, rfl⟩ := rx; exact SeqAt.EqAt.bool_str a b t
    | _ => exact absurd (show false = true from fx) Bool.false_ne_true
  | int a =>
    obtain ⟨t', rfl⟩ := ry
    cases x with
    | non => cases rx; exact SeqAt.EqAt.int_none a t'
    | bl b => cases rx; exact SeqAt.EqAt.int_bool a t' b
    | int b => obtain ⟨t, rfl⟩ := rx; exact SeqAt.EqAt.int_int a t' b t
    | str b => obtain ⟨t, rfl⟩ := rx; exact SeqAt.EqAt.int_str a t' b t
    | _ => exact absurd (show false = true from fx) Bool.false_ne_true
  | str a =>
    obtain ⟨t', rfl⟩ := ry
    cases x with
    | non => cases rx; exact SeqAt.EqAt.str_none a t'
    | bl b => cases rx; exact SeqAt.EqAt.str_bool a t' b
    | int b => obtain ⟨t, rfl⟩ := rx; exact SeqAt.EqAt.str_int a t' b t
    | str b => obtain ⟨t, rfl⟩ := rx; exact SeqAt.EqAt.str_str a t' b t
    | _ => exact absurd (show false = true from fx) Bool.false_ne_true
  | _ => exact absurd (show false = true from fy) Bool.false_ne_true
theorem call_len_seq : CallR X (.builtin "len") (fun xs H Q => ∃ p ys, xs = [.ref p] ∧ (SqL X.K H p ys ∨ SqT X.K H p ys) ∧ Q (.int ys.length) H) := by
  intro pins s σ H xs us Q I r h
  obtain ⟨p, ys, rfl, hq, q⟩ := h
  obtain ⟨u, rfl, rx⟩ := vals1 r
  cases rx
  have hn := line63
  rcases hq with hq | hq
  · obtain ⟨its, r', pl, hz⟩ := I.list hq
    have hlen := r'.length
    exact Calls.call_len_list pl.isList (by simp only [List.size_toArray] <;> omega) ⟨.int ys.length, H, I.tok _, ⟨s.toks + 1, by rw [List.size_toArray, hlen]⟩, q⟩
  · obtain ⟨its, r', pl, hz⟩ := I.tuple hq
    have hlen := r'.length
    exact len_tuple pl (by simp only [List.size_toArray] <;> omega) ⟨.int ys.length, H, I.tok _, ⟨s.toks + 1, by rw [List.size_toArray, hlen]⟩, q⟩
theorem call_len_str : CallR X (.builtin "len") (fun xs H Q => ∃ z, xs = [.str z] ∧ z.length ≤ sizeLine ∧ Q (.int z.length) H) := by
  intro pins s σ H xs us Q I r h
  obtain ⟨z, rfl, hz, q⟩ := h
  obtain ⟨u, rfl, t, rfl⟩ := vals1 r
  have hn := line63
  exact len_str (by omega) ⟨.int z.length, H, I.tok _, ⟨_, rfl⟩, q⟩
theorem call_list_of : CallR X (.type "list") (fun xs H Q => ∃ p ys, xs = [.ref p] ∧ (SqL X.K H p ys ∨ SqT X.K H p ys) ∧ ∀ l, H l = none → Q (.ref l) (upd H l (.lst ys))) := by
  intro pins s σ H xs us Q I r h
  obtain ⟨p, ys, rfl, hq, q⟩ := h
  obtain ⟨u, rfl, rx⟩ := vals1 r
  cases rx
  have fin : ∀ (its : List Value), Vals ys its → ys.length ≤ sizeLine → ∀ (h' : Heap) (c' : Nat), (∀ b o', s.heap.get? b = some o' → h'.get? b = some o') →
      h'.get? s.heap.objs.size = some { cls := .type "list", dict := none, data := .seq its.toArray c', slots := #[] } → EP X pins σ Q (.ref s.heap.objs.size) { s with heap := h' } := fun its r' hz h' c' kp e =>
    ⟨.ref s.heap.objs.size, _, I.laid (t' := s.toks) kp (Nat.le_refl _) (show ObjOk X.prog X.w _ h' _ (.lst ys) from ⟨hz, its, c', r', e⟩), rfl, q _ (I.hok.fresh (Nat.le_refl _))⟩
  rcases hq with hq | hq
  · obtain ⟨its, r', pl, hz⟩ := I.list hq
    have hlen := r'.length
    obtain ⟨o, ho, hc, n, hd⟩ := pl.isList
    exact call_list_seq p (.inl rfl) ho hc hd (fun h' c' kp e => fin its r' hz h' c' kp e) (by simp only [List.size_toArray] <;> omega)
  · obtain ⟨its, r', pl, hz⟩ := I.tuple hq
    have hlen := r'.length
    obtain ⟨o, ho, hc, n, hd⟩ := pl
    exact call_list_seq p (.inr rfl) ho hc hd (fun h' c' kp e => fin its r' hz h' c' kp e) (by simp only [List.size_toArray] <;> omega)
def tyV (K : PySem.W.Frag) (T : String) (x : V) (H : Hp) : Prop := match x with
  | .str _ => T = "str"
  | .int _ => T = "int"
  | .ref p => (T = "list" ∧ ∃ xs, SqL K H p xs) ∨ (T = "tuple" ∧ ∃ o, K.lookup p = some o ∧ o.cls = .type "tuple" ∧ o.dict = none) ∨
      (T = "dict" ∧ ((∃ kvs, H p = some (.dK kvs)) ∨ ∃ kvs, H p = some (.dT kvs))) ∨ (T = "set" ∧ ∃ S n, H p = some (.set S n))
  | _ => False
theorem tyV_is {pins : List (Addr × Obj)} {σ : St} {H : Hp} {s : Shared} {T : String} {x : V} {v : Value} (I : Inv X pins σ H s) (r : RelV x v) (ty : tyV X.K T x H) :
    s.TypeIs v T ∧ ∀ a, v = .ref a → ∃ ob, s.heap.get? a = some ob ∧ ob.dict = none := by
  cases x with
  | str z =>
    obtain ⟨t, rfl⟩ := r
    cases (show T = "str" from ty)
    exact ⟨typeIs_str s z t, fun _ e => nomatch e⟩
  | int i =>
    obtain ⟨t, rfl⟩ := r
    cases (show T = "int" from ty)
    exact ⟨typeIs_int s i t, fun _ e => nomatch e⟩
  | ref p =>
    cases r
    rcases ty with ⟨rfl, xs, hq⟩ | ⟨rfl, o, hk, hc, hd⟩ | ⟨rfl, hk⟩ | ⟨rfl, S, n, hk⟩
    · obtain ⟨its, _, pl, _⟩ := I.list hq
      refine ⟨pl.isList.typeIs, fun a e => ?_⟩
      cases e
      obtain ⟨o, n, e, c, hd, _⟩ := pl
      exact ⟨o, e, hd⟩
    · refine ⟨⟨o, I.kIn p o hk, hc⟩, fun a e => ?_⟩
      cases e
      exact ⟨o, I.kIn _ o hk, hd⟩
    · have z : ∃ o, s.heap.get? p = some o ∧ o.ExactDict := by
        rcases hk with ⟨kvs, hk⟩ | ⟨kvs, hk⟩
        · obtain ⟨_, _, _, _, o, _, _, e, ex, _⟩ := I.hok p _ hk
          exact ⟨o, e, ex⟩
        · obtain ⟨_, _, _, _, o, _, _, e, ex, _⟩ := I.hok p _ hk
          exact ⟨o, e, ex⟩
      obtain ⟨o, e, ex⟩ := z
      refine ⟨⟨o, e, ex.1⟩, fun a e2 => ?_⟩
      cases e2
      exact ⟨o, e, ex.2.1⟩
    · obtain ⟨o, _, _, _, e, ex, _⟩ := I.hok p _ hk
      refine ⟨⟨o, e, ex.1⟩, fun a e2 => ?_⟩
      cases e2
      exact ⟨o, e, ex.2.1⟩
  | _ => exact False.elim ty
def tBM0 (K : PySem.W.Frag) (T : String) (r : V → List V → Hp → VK → Prop) (to : TE) : TE := fun σ H Q => to σ H fun x H1 => tyV K T x H1 ∧ r x [] H1 Q
def tBM (K : PySem.W.Frag) (T : String) (r : V → List V → Hp → VK → Prop) (to : TE) (t : TA) : TE := fun σ H Q => to σ H fun x H1 => tyV K T x H1 ∧ t σ H1 fun xs H2 => r x xs H2 Q
variable {o e : Expr} {es : List Expr} {to : TE} {t : TA} {name : Str} {apos cpos : Pos} {T id : String} {r : V → List V → Hp → VK → Prop}
theorem pe_bm0 (pa : PlainAttrs T) (slot : Slot T name id) (hty : typeOf (.builtin id) = pure (.type "method_descriptor")) (hm : MtR X id r) (ho : PE X o to)
    (hbase : attributeBase o name X.env (eval o X.env) = eval o X.env := by rfl) (hline : (apos.endLine == cpos.line) = true := by rfl) : PE X (.Call (.Attribute o name apos) [] [] cpos) (tBM0 X.K T r to) := by
  intro pins s σ H Q I h
  refine wpAny_Call_method0_late hbase hline (thn (ho pins s σ H _ I h) fun v s1 ⟨x, H1, I1, r1, ty, q1⟩ => ?_)
  obtain ⟨h1, h2⟩ := tyV_is I1 r1 ty
  exact ⟨T, id, pa, slot, hty, h1, h2, Calls.callWith_builtin rfl (PySem.evalArgs_none (hm pins s1 σ H1 x [] v [] Q I1 r1 .nil q1))⟩
theorem pe_bm (pa : PlainAttrs T) (slot : Slot T name id) (hty : typeOf (.builtin id) = pure (.type "method_descriptor")) (hm : MtR X id r) (ho : PE X o to) (ha : PA X (e :: es) t)
    (hbase : attributeBase o name X.env (eval o X.env) = eval o X.env := by rfl)
    (hfew : ((backTo cpos (starEach (e :: es) X.env)).all (fun x => !x.1) && (backToKw cpos (keywordEach [] X.env)).all (fun x => x.1.isSome)
      && decide ((e :: es).length + ([] : List Keyword).length + (if ([] : List Keyword).isEmpty then 0 else 1) < 30)) = true := by rfl)
    (hline : (apos.endLine == cpos.line) = true := by rfl) (hs : starEach (e :: es) X.env = (false, eval e X.env) :: starEach es X.env := by rfl) (hplain : (backTo cpos (starEach es X.env)).any (·.1) = false := by rfl) :
    PE X (.Call (.Attribute o name apos) (e :: es) [] cpos) (tBM X.K T r to t) := by
  intro pins s σ H Q I h
  refine wpAny_Call_method_late hbase hfew hline rfl (thn (ho pins s σ H _ I h) fun v s1 ⟨x, H1, I1, r1, ty, q1⟩ => ?_)
  obtain ⟨h1, h2⟩ := tyV_is I1 r1 ty
  refine ⟨T, id, pa, slot, hty, h1, h2, ?_⟩
  have hA := ha cpos pins s1 σ H1 _ I1 q1
  rw [hs] at hA ⊢
  refine Calls.callWith_builtin (by show (false || (backTo cpos (starEach es X.env)).any (·.1)) = false; rw [hplain] <;> rfl) (Calls.evalArgs_plain ?_)
  exact thn hA fun us s2 ⟨vs, H2, I2, r2, q2⟩ => hm pins s2 σ H2 x vs v us Q I2 r1 r2 q2
end
end L2

namespace L2
open PySem PySem.Spec PyProof.Rows

def MtM (X : Cx) (id : String) (r : V → List V → Hp → VK → Prop) : Prop :=
  ∀ (pins : List (Addr × Obj)) (s : Shared) (σ : St) (H : Hp) (x : V) (xs : List V) (v : Value) (us : List Value) (Q : VK), Inv X pins σ H s → RelV x v → Vals xs us → r x xs H Q →
    wpAny (model X.prog X.w) X.A (call (.builtin id) (v :: us)) (EP X pins σ Q) X.xe s

theorem Vals.one : ∀ {x : V} {us : List Value}, Vals [x] us → ∃ u, us = [u] ∧ RelV x u
  | _, _, .cons r .nil => ⟨_, rfl, r⟩
theorem Vals.two : ∀ {x y : V} {us : List Value}, Vals [x, y] us → ∃ u v, us = [u, v] ∧ RelV x u ∧ RelV y v
  | _, _, _, .cons r (.cons q .nil) => ⟨_, _, rfl, r, q⟩
theorem Vals.zero : ∀ {us : List Value}, Vals [] us → us = []
  | _, .nil => rfl
theorem Vals.dropLast {xs : List V} {us : List Value} (h : Vals xs us) : Vals xs.dropLast us.dropLast := by
  induction h with
  | nil => exact .nil
  | cons r t ih =>
    cases t with
    | nil => exact .nil
    | cons q t' => exact .cons r ih
theorem Vals.reverse {xs : List V} {us : List Value} (h : Vals xs us) : Vals xs.reverse us.reverse := by
  induction h with
  | nil => exact .nil
  | cons r t ih => rw [List.reverse_cons, List.reverse_cons]; exact Vals.append ih (.cons r .nil)
theorem Vals.rep {xs : List V} {us : List Value} (h : Vals xs us) : ∀ k : Nat, Vals (List.replicate k xs).flatten (List.replicate k us).flatten
  | 0 => .nil
  | k + 1 => by
    rw [List.replicate_succ, List.replicate_succ, List.flatten_cons, List.flatten_cons]
    exact Vals.append h (Vals.rep h k)
theorem foldl_rep (its : List Value) : ∀ (k : Nat) (acc : List Value),
    List.foldl (fun x1 x2 => x1 ++ x2) acc.toArray (List.replicate k its.toArray) = (acc ++ (List.replicate k its).flatten).toArray
  | 0, acc => by simp
  | k + 1, acc => by
    have e : acc.toArray ++ its.toArray = (acc ++ its).toArray := by simp
    have e2 : (acc ++ its) ++ (List.replicate k its).flatten = acc ++ (List.replicate (k + 1) its).flatten := by
      rw [List.replicate_succ, List.flatten_cons, List.append_assoc]
    rw [← e2, ← foldl_rep its k (acc ++ its), ← e, List.replicate_succ, List.foldl_cons]

section
variable {X : Cx} {pins : List (Addr × Obj)} {σ : St} {H : Hp} {s : Shared} {l b : Addr} {xs ys zs : List V}

theorem Inv.lset {its its' : List Value} {n : Nat} {f : Array Value → Array Value} {t' : Nat} (I : Inv X pins σ H s) (hH : H l = some (.lst xs))
    (e : s.heap.get? l = some { cls := .type "list", data := .seq its.toArray n }) (hf : f its.toArray = its'.toArray) (hv : Vals ys its') (hz : ys.length ≤ sizeLine) :
    Inv X pins σ (upd H l (.lst ys)) { s with heap := s.heap.update l (Obj.mapSeq f), toks := t' } := by
  have q := PySem.IsL.update e f
  rw [hf] at q
  refine I.write (x := l) (e := l) (by rw [hH]; exact trivial) (.inl rfl) (fun b' u hb hu => (Heap.get?_update_other s.heap (Obj.mapSeq f) (Ne.symm hb)).trans hu) ⟨_, q⟩ ?_
  exact ⟨hz, its', _, hv, q⟩
theorem Inv.lnew {its : List Value} {t' : Nat} (I : Inv X pins σ H s) (hv : Vals ys its) (hz : ys.length ≤ sizeLine) :
    Inv X pins σ (upd H s.heap.objs.size (.lst ys)) { s with heap := s.heap.push { cls := .type "list", data := .seq its.toArray }, toks := t' } :=
  I.laid (fun _ _ q => Heap.get?_push_of_some _ q) (Nat.le_refl _) ⟨hz, its, 0, hv, Heap.get?_push_size _ rfl⟩
theorem Inv.fresh (I : Inv X pins σ H s) : H s.heap.objs.size = none := I.hok.fresh (Nat.le_refl _)
theorem Inv.lstM (I : Inv X pins σ H s) (hH : H l = some (.lst xs)) : xs.length ≤ sizeLine ∧ ∃ (its : List Value) (n : Nat), Vals xs its ∧ xs.length = its.length ∧ s.heap.get? l = some { cls := .type "list", data := .seq its.toArray n } := by
  obtain ⟨z, its, n, r, e⟩ := I.hok l _ hH
  exact ⟨z, its, n, r, r.length, e⟩

theorem notLongL {n : Nat} (h : n ≤ sizeLine) : Builtin.List.listTooLong n = false := by
  unfold Builtin.List.listTooLong
  exact decide_eq_false (by omega)
end

section
variable {X : Cx}

def rAppend : V → List V → Hp → VK → Prop := fun x vs H Q => ∃ l xs y, x = .ref l ∧ vs = [y] ∧ H l = some (.lst xs) ∧ xs.length < sizeLine ∧ Q .non (upd H l (.lst (xs ++ [y])))
theorem mt_append : MtM X "list.append" rAppend := by
  intro pins s σ H x vs v us Q I rx rv h
  obtain ⟨l, xs, y, rfl, rfl, hH, hz, q⟩ := h
  cases rx
  obtain ⟨u, rfl, ru⟩ := rv.one
  obtain ⟨z, its, n, r, hl, e⟩ := I.lstM hH
  refine call_meets F.slot_list_append ⟨_, e, rfl⟩ F.entry_list_append (F.args_list_append_2 _ _) (PySem.list_append l its.toArray n u (by rw [List.size_toArray]; omega)) ⟨e, ?_⟩
  refine ⟨.non, _, I.lset (its' := its ++ [u]) hH e (by simp) (r.append (.cons ru .nil)) ?_, rfl, q⟩
  rw [List.length_append, List.length_singleton]
  omega

def rExtend : V → List V → Hp → VK → Prop := fun x vs H Q => ∃ l b xs zs, x = .ref l ∧ vs = [.ref b] ∧ H l = some (.lst xs) ∧ H b = some (.lst zs) ∧ xs.length + zs.length ≤ sizeLine ∧ Q .non (upd H l (.lst (xs ++ zs)))
theorem mt_extend : MtM X "list.extend" rExtend := by
  intro pins s σ H x vs v us Q I rx rv h
  obtain ⟨l, b, xs, zs, rfl, rfl, hH, hB, hz, q⟩ := h
  cases rx
  obtain ⟨u, rfl, ru⟩ := rv.one
  cases ru
  obtain ⟨z, its, n, r, hl, e⟩ := I.lstM hH
  obtain ⟨z2, its2, n2, r2, hl2, e2⟩ := I.lstM hB
  have hsz : its.toArray.size + its2.toArray.size ≤ sizeLine := by rw [List.size_toArray, List.size_toArray]; omega
  have hlong : ¬ (!its.toArray.isEmpty && Builtin.List.listTooLong (its.toArray.size + its2.toArray.size)) = true := by
    rw [notLongL hsz, Bool.and_false]
    exact Bool.false_ne_true
  refine call_meets F.slot_list_extend ⟨_, e, rfl⟩ F.entry_list_extend (F.args_list_extend_2 _ _)
    (AutoSeq1.list_extend_list_list_0 l its.toArray n b its2.toArray n2 hlong (by rw [List.size_toArray]; omega) (by omega)) ⟨e, e2, ?_⟩
  refine ⟨.non, _, I.lset (its' := its ++ its2) hH e (by simp) (r.append r2) ?_, rfl, q⟩
  rw [List.length_append]
  omega

def rClear : V → List V → Hp → VK → Prop := fun x vs H Q => ∃ l xs, x = .ref l ∧ vs = [] ∧ H l = some (.lst xs) ∧ Q .non (upd H l (.lst []))
theorem mt_clear : MtM X "list.clear" rClear := by
  intro pins s σ H x vs v us Q I rx rv h
  obtain ⟨l, xs, rfl, rfl, hH, q⟩ := h
  cases rx
  have hus := rv.zero
  subst hus
  obtain ⟨z, its, n, r, hl, e⟩ := I.lstM hH
  refine call_meets F.slot_list_clear ⟨_, e, rfl⟩ F.entry_list_clear (F.args_list_clear_1 _) (AutoSeq1.list_clear_list_0 l its.toArray n (by rw [List.size_toArray]; omega)) ⟨e, ?_⟩
  exact ⟨.non, _, I.lset (its' := []) (ys := []) hH e rfl .nil (Nat.zero_le _), rfl, q⟩

def rCat : R2 := fun x y H Q => ∃ l b xs zs, x = .ref l ∧ y = .ref b ∧ H l = some (.lst xs) ∧ H b = some (.lst zs) ∧ xs.length + zs.length ≤ sizeLine ∧ ∀ p, H p = none → Q (.ref p) (upd H p (.lst (xs ++ zs)))
theorem op_cat : OpR X (binaryOp .Add) rCat := by
  intro pins s σ H x y v u Q I rx ry h
  obtain ⟨l, b, xs, zs, rfl, rfl, hH, hB, hz, q⟩ := h
  cases rx
  cases ry
  obtain ⟨z, its, n, r, hl, e⟩ := I.lstM hH
  obtain ⟨z2, its2, n2, r2, hl2, e2⟩ := I.lstM hB
  refine PySem.P.add_list e e2 ?_ (by rw [List.size_toArray, List.size_toArray]; omega)
  have ea : its.toArray ++ its2.toArray = (its ++ its2).toArray := by simp
  rw [ea]
  exact ⟨.ref _, _, I.lnew (t' := s.toks) (r.append r2) (by rw [List.length_append]; omega), rfl, q _ I.fresh⟩
def rRep : R2 := fun x y H Q => ∃ l k xs, x = .ref l ∧ y = .int k ∧ H l = some (.lst xs) ∧ -(2 ^ 63) ≤ k ∧ k < 2 ^ 63 ∧ xs.length * k.toNat ≤ sizeLine ∧
  ∀ p, H p = none → Q (.ref p) (upd H p (.lst (List.replicate k.toNat xs).flatten))
theorem len_rep {α : Type} (xs : List α) (k : Nat) : (List.replicate k xs).flatten.length = k * xs.length := by
  induction k with
  | zero => simp
  | succ k ih => rw [List.replicate_succ, List.flatten_cons, List.length_append, ih, Nat.succ_mul, Nat.add_comm]
theorem op_rep : OpR X (binaryOp .Mult) rRep := by
  intro pins s σ H x y v u Q I rx ry h
  obtain ⟨l, k, xs, rfl, rfl, hH, h1, h2, hz, q⟩ := h
  cases rx
  obtain ⟨t, rfl⟩ := ry
  obtain ⟨z, its, n, r, hl, e⟩ := I.lstM hH
  have hlen : its.toArray.size * k.toNat ≤ sizeLine := by rw [List.size_toArray, ← hl]; exact hz
  have hcap : ¬ its.toArray.size * k.toNat > (2 ^ 63 - 1) / 8 := by
    have : (sizeLine : Nat) ≤ (2 ^ 63 - 1) / 8 := by decide
    omega
  have hfit : ¬ (!Builtin.List.listFitsIndex k) = true := by
    rw [fitsIndex_both h1 h2]
    exact Bool.false_ne_true
  have hlong : ¬ Builtin.List.listTooLong (its.toArray.size * k.toNat) = true := by
    rw [notLongL hlen]
    exact Bool.false_ne_true
  have hnew : List.foldl (fun x1 x2 => x1 ++ x2) #[] (List.replicate (if its.toArray.isEmpty = true then 0 else k.toNat) its.toArray) = (List.replicate k.toNat its).flatten.toArray := by
    have f0 : ∀ m : Nat, List.foldl (fun x1 x2 => x1 ++ x2) #[] (List.replicate m its.toArray) = (List.replicate m its).flatten.toArray := fun m => by
      have := foldl_rep its m []
      rw [List.nil_append] at this
      exact this
    rw [f0]
    cases its with
    | nil => simp
    | cons a r' => rw [if_neg (by simp)]
  refine wpAny_binaryOp_repeat_ref (T := "list") (U := "int") (by decide) ⟨_, e, rfl⟩ (fun s' => typeIs_int s' k t) noFill_list_mul F.fills_int_mul F.slot_int_rmul repeat_list F.slot_int_index.lookup
    (call_meets F.slot_int_rmul (typeIs_int s k t) F.entry_int_rmul (F.args_int_rmul_2 _ _) (int___rmul___int_list k t l its.toArray n)
      ⟨e, rfl, ⟨_, e, rfl⟩, call_meets F.slot_list_mul ⟨_, e, rfl⟩ F.entry_list_mul (F.args_list_mul_2 _ _) (AutoListH.list___mul___list_int_3 l its.toArray n k t hfit hcap hlong) ⟨e, ?_⟩⟩)
  rw [hnew]
  exact ⟨.ref _, _, I.lnew (t' := s.toks) (r.rep k.toNat) (by rw [len_rep, Nat.mul_comm]; exact hz), rfl, q _ I.fresh⟩

end

section
variable {prog : Program} {w : World} {A : Around} {E : Value → Shared → Prop} {s : Shared}
end

section
variable {X : Cx}
end
end L2


namespace L2
open PySem PySem.Spec PyProof.Rows

section
variable {κ : Type} [DecidableEq κ]
def valV (kvs : List (κ × V)) (k : κ) : Option V := (kvs.find? fun kv => decide (kv.1 = k)).map (·.2)
def putK (kvs : List (κ × V)) (k : κ) (v : V) : List (κ × V) :=
  if (kvs.any fun kv => decide (kv.1 = k)) = true then kvs.map (fun kv => if kv.1 = k then (kv.1, v) else kv) else kvs ++ [(k, v)]
def dropK (kvs : List (κ × V)) (k : κ) : List (κ × V) := kvs.filter fun kv => decide (kv.1 ≠ k)

theorem valV_pos {p : κ × V} {r : List (κ × V)} {k : κ} (e : p.1 = k) : valV (p :: r) k = some p.2 := by simp [valV, List.find?_cons, e]
theorem valV_neg {p : κ × V} {r : List (κ × V)} {k : κ} (e : ¬ p.1 = k) : valV (p :: r) k = valV r k := by simp [valV, List.find?_cons, e]
theorem valV_any (k : κ) : ∀ kvs : List (κ × V), (kvs.any fun kv => decide (kv.1 = k)) = (valV kvs k).isSome
  | [] => rfl
  | p :: r => by
    rw [List.any_cons]
    by_cases e : p.1 = k
    · simp only [valV_pos e, decide_eq_true e, Bool.true_or, Option.isSome_some]
    · rw [valV_neg e, decide_eq_false e, Bool.false_or]; exact valV_any k r
theorem RelO.isSome_eq {o : Option V} {u : Option Value} (r : RelO o u) : o.isSome = u.isSome := by
  cases o with
  | none => cases u with
    | none => rfl
    | some _ => exact (show False from r).elim
  | some _ => cases u with
    | none => exact (show False from r).elim
    | some _ => rfl
theorem RelO.getD {o : Option V} {u : Option Value} {d : V} {d' : Value} (r : RelO o u) (rd : RelV d d') : RelV (o.getD d) (u.getD d') := by
  cases o with
  | none => cases u with
    | none => exact rd
    | some _ => exact (show False from r).elim
  | some _ => cases u with
    | none => exact (show False from r).elim
    | some _ => exact r

theorem KV.val {kvs : List (κ × V)} {vs : List (κ × Value)} (r : KV kvs vs) (k : κ) : RelO (valV kvs k) (valueAt vs k) := by
  unfold KV at r
  induction r with
  | nil => exact True.intro
  | @cons p q ps qs h t ih =>
    obtain ⟨h1, h2⟩ := h
    by_cases e : p.1 = k
    · have e' : q.1 = k := h1.symm.trans e
      have b : valueAt (q :: qs) k = some q.2 := by simp [valueAt, List.find?_cons, e']
      rw [valV_pos e, b]; exact h2
    · have e' : ¬ q.1 = k := fun z => e (h1.trans z)
      have b : valueAt (q :: qs) k = valueAt qs k := by simp [valueAt, List.find?_cons, e']
      rw [valV_neg e, b]; exact ih
theorem KV.any {kvs : List (κ × V)} {vs : List (κ × Value)} (r : KV kvs vs) (k : κ) : (kvs.any fun kv => decide (kv.1 = k)) = vs.any fun kv => decide (kv.1 = k) := by
  unfold KV at r
  induction r with
  | nil => rfl
  | cons h t ih => rw [List.any_cons, List.any_cons, ih, h.1]
theorem KV.repl {kvs : List (κ × V)} {vs : List (κ × Value)} (r : KV kvs vs) (k : κ) {y : V} {u : Value} (ry : RelV y u) :
    KV (kvs.map fun kv => if kv.1 = k then (kv.1, y) else kv) (vs.map fun kv => if kv.1 = k then (kv.1, u) else kv) := by
  unfold KV at r ⊢
  induction r with
  | nil => exact .nil
  | @cons p q ps qs h t ih =>
    rw [List.map_cons, List.map_cons]
    refine .cons ?_ ih
    obtain ⟨h1, h2⟩ := h
    by_cases e : p.1 = k
    · rw [if_pos e, if_pos (h1.symm.trans e)]; exact ⟨h1, ry⟩
    · rw [if_neg e, if_neg (fun z => e (h1.trans z))]; exact ⟨h1, h2⟩
theorem KV.put {kvs : List (κ × V)} {vs : List (κ × Value)} (r : KV kvs vs) (k : κ) {y : V} {u : Value} (ry : RelV y u) : KV (putK kvs k y) (stored vs k u) := by
  unfold putK stored
  rw [r.any k]
  by_cases e : (vs.any fun kv => decide (kv.1 = k)) = true
  · rw [if_pos e, if_pos e]; exact r.repl k ry
  · rw [if_neg e, if_neg e]; exact Paired.snoc r ⟨rfl, ry⟩
theorem KV.drop {kvs : List (κ × V)} {vs : List (κ × Value)} (r : KV kvs vs) (k : κ) : KV (dropK kvs k) (without vs k) := by
  unfold KV at r ⊢
  unfold dropK without
  induction r with
  | nil => exact .nil
  | @cons p q ps qs h t ih =>
    obtain ⟨h1, h2⟩ := h
    rw [List.filter_cons, List.filter_cons]
    by_cases e : p.1 = k
    · have a : ¬ decide (p.1 ≠ k) = true := by simp [e]
      have b : ¬ decide (q.1 ≠ k) = true := by simp [h1.symm.trans e]
      rw [if_neg a, if_neg b]; exact ih
    · have e' : ¬ q.1 = k := fun z => e (h1.trans z)
      have a : decide (p.1 ≠ k) = true := by simp [e]
      have b : decide (q.1 ≠ k) = true := by simp [e']
      rw [if_pos a, if_pos b]; exact .cons ⟨h1, h2⟩ ih
theorem KV.length {kvs : List (κ × V)} {vs : List (κ × Value)} (r : KV kvs vs) : kvs.length = vs.length := Paired.length r
end


abbrev KT (H : Hp) : List (List Key × V) → List (List Key × Addr × Value) → Prop := Paired fun p q => p.1 = q.1 ∧ H q.2.1 = some (.tup (p.1.map kV)) ∧ RelV p.2 q.2.2
theorem KT.val {H : Hp} {kvs : List (List Key × V)} {xs : List (List Key × Addr × Value)} (r : KT H kvs xs) (k : List Key) : RelO (valV kvs k) ((atKey xs k).map (·.2)) := by
  induction r with
  | nil => exact True.intro
  | @cons p q ps qs h t ih =>
    obtain ⟨h1, _, h2⟩ := h
    by_cases e : p.1 = k
    · have e' : q.1 = k := h1.symm.trans e
      have b : atKey (q :: qs) k = some q.2 := by simp [atKey, List.find?_cons, e']
      rw [valV_pos e, b]; exact h2
    · have e' : ¬ q.1 = k := fun z => e (h1.trans z)
      have b : atKey (q :: qs) k = atKey qs k := by simp [atKey, List.find?_cons, e']
      rw [valV_neg e, b]; exact ih
theorem KT.repl {H : Hp} {kvs : List (List Key × V)} {xs : List (List Key × Addr × Value)} (r : KT H kvs xs) (k : List Key) {y : V} {u : Value} (ry : RelV y u) :
    KT H (kvs.map fun kv => if kv.1 = k then (kv.1, y) else kv) (xs.map (putAt k u)) := by
  induction r with
  | nil => exact .nil
  | @cons p q ps qs h t ih =>
    rw [List.map_cons, List.map_cons]
    refine .cons ?_ ih
    obtain ⟨h1, h2, h3⟩ := h
    unfold putAt
    by_cases e : p.1 = k
    · rw [if_pos e, if_pos (h1.symm.trans e)]; exact ⟨h1, h2, ry⟩
    · rw [if_neg e, if_neg (fun z => e (h1.trans z))]; exact ⟨h1, h2, h3⟩
theorem KT.put {H : Hp} {kvs : List (List Key × V)} {xs : List (List Key × Addr × Value)} (r : KT H kvs xs) (k : List Key) {b : Addr} {y : V} {u : Value} (hb : H b = some (.tup (k.map kV))) (ry : RelV y u) :
    KT H (putK kvs k y) (storedH xs k b u) := by
  have e : (kvs.any fun kv => decide (kv.1 = k)) = (atKey xs k).isSome := by
    rw [valV_any, (r.val k).isSome_eq, Option.isSome_map]
  unfold putK storedH
  rw [e]
  by_cases q : (atKey xs k).isSome = true
  · rw [if_pos q, if_pos q]; exact r.repl k ry
  · rw [if_neg q, if_neg q]; exact Paired.snoc r ⟨rfl, hb, ry⟩
theorem KT.keeps {H H' : Hp} {kvs : List (List Key × V)} {xs : List (List Key × Addr × Value)} (r : KT H kvs xs) (ht : ∀ b ys, H b = some (.tup ys) → H' b = some (.tup ys)) : KT H' kvs xs :=
  Paired.mapP r fun _ _ z => ⟨z.1, ht _ _ z.2.1, z.2.2⟩

section
variable {P : Program} {w : World} {H : Hp} {h : Heap} {a : Addr}
end

def DGet (H : Hp) (a : Addr) (y : V) (r : Option V) : Prop :=
  (∃ kvs k, Rd H a (.dK kvs) ∧ y = kV k ∧ r = valV kvs k) ∨ ∃ kvs k b, Rd H a (.dT kvs) ∧ y = .ref b ∧ H b = some (.tup (k.map kV)) ∧ r = valV kvs k
def DPut (H : Hp) (a : Addr) (y v : V) (H' : Hp) : Prop :=
  (∃ kvs k, H a = some (.dK kvs) ∧ y = kV k ∧ kvs.length < sizeLine ∧ H' = upd H a (.dK (putK kvs k v))) ∨
  ∃ kvs k b, H a = some (.dT kvs) ∧ y = .ref b ∧ H b = some (.tup (k.map kV)) ∧ kvs.length < sizeLine ∧ H' = upd H a (.dT (putK kvs k v))
theorem DGet.k {H : Hp} {a : Addr} {kvs : List (Key × V)} {k : Key} (e : H a = some (.dK kvs)) : DGet H a (kV k) (valV kvs k) := .inl ⟨kvs, k, .inl e, rfl, rfl⟩
theorem DGet.t {H : Hp} {a b : Addr} {kvs : List (List Key × V)} {k : List Key} (e : H a = some (.dT kvs)) (eb : H b = some (.tup (k.map kV))) : DGet H a (.ref b) (valV kvs k) := .inr ⟨kvs, k, b, .inl e, rfl, eb, rfl⟩
theorem DPut.k {H : Hp} {a : Addr} {kvs : List (Key × V)} {k : Key} {v : V} (e : H a = some (.dK kvs)) (hl : kvs.length < sizeLine) : DPut H a (kV k) v (upd H a (.dK (putK kvs k v))) := .inl ⟨kvs, k, e, rfl, hl, rfl⟩
theorem DPut.t {H : Hp} {a b : Addr} {kvs : List (List Key × V)} {k : List Key} {v : V} (e : H a = some (.dT kvs)) (eb : H b = some (.tup (k.map kV))) (hl : kvs.length < sizeLine) :
    DPut H a (.ref b) v (upd H a (.dT (putK kvs k v))) := .inr ⟨kvs, k, b, e, rfl, eb, hl, rfl⟩


section
variable {X : Cx} {pins : List (Addr × Obj)} {σ : St} {H : Hp} {s : Shared} {a : Addr} {y v : V} {u r : Value} {o : Option V} {A : Around} {E : Value → Shared → Prop}

theorem Inv.big (I : Inv X pins σ H s) : sysModules < s.heap.objs.size := by
  have h : mainGlobals < s.heap.objs.size := (I.mod.glob.keeps I.bk).lt
  exact Nat.lt_trans (by decide) h

end

section
variable {X : Cx} {pins : List (Addr × Obj)} {σ : St} {H : Hp} {s : Shared} {a : Addr} {kvs : List (Key × V)} {k : Key} {u : Value} {A : Around} {E : Value → Shared → Prop}
end


section
variable {X : Cx} {o i e value : Expr} {pos pos' tpos : Pos} {td ty tv : TE}
end


section
variable {X : Cx} {pos : Pos}
end

section
variable {X : Cx} {pins : List (Addr × Obj)} {σ : St} {H : Hp} {s : Shared} {a : Addr} {y d : V} {u r : Value} {o : Option V} {A : Around} {E : Value → Shared → Prop}
end

section
variable {X : Cx} {o e f : Expr} {apos cpos : Pos} {td ty tx : TE}
end

section
variable {X : Cx} {pins : List (Addr × Obj)} {σ : St} {H : Hp} {s : Shared} {a : Addr} {kvs : List (Key × V)} {A : Around} {E : Value → Shared → Prop}
end


section
variable {X : Cx} {pins : List (Addr × Obj)} {σ : St} {H : Hp} {s : Shared} {a : Addr} {y : V} {u : Value} {A : Around} {E : Value → Shared → Prop}
end
end L2

namespace Att
open PySem PySem.W PySem.Calls PyProof.Rows

theorem ints_of_wellAll {P : Params} {h : Heap} : ∀ (ns : List Int) (vs : List Value), WellAll P h vs (ns.map WData.int) → IntsAre vs ns := by
  intro ns
  induction ns with
  | nil =>
    intro vs w
    rw [List.map_nil] at w
    cases w
    exact .nil
  | cons n ns ih =>
    intro vs w
    rw [List.map_cons] at w
    cases w with
    | cons a b =>
      cases a
      exact .cons _ _ (ih _ b)

theorem script_of {l : OpenLaw} {n : Nat} (hn : l.most = some n) {P : Params} {h : Heap} {args : List WData} {vals : List Value}
    (hpre : l.row.toRowW.claim.pre args = true) (hwl : WellAll P h vals args) :
    ∃ a vs ns, vals = [Value.ref a] ∧ args = [WData.list (ns.map WData.int)] ∧ h.get? a = some { cls := .type "list", data := .seq vs.toArray } ∧ IntsAre vs ns ∧ ns.length ≤ n := by
  have hsh : WShape.hasAll [] args [.list .int] = true := (pre_splitW hpre).1
  have hc : l.pre.holds [] { args := args } = true := (pre_splitW hpre).2
  obtain ⟨d, r, rfl, h1, h2⟩ := hasAllW_cons hsh
  obtain rfl := hasAllW_nil h2
  obtain ⟨xs, rfl, h3⟩ := hasW_list h1
  obtain ⟨ns, rfl⟩ := items_int h3
  have hlen : ns.length ≤ n := by
    unfold OpenLaw.pre at hc
    have h4 : (WTm.not (.lt (.lit (.int (n : Int))) (.len (.arg 0)))).holds [] { args := [.list (ns.map .int)] } = true := by
      have h4 := (holds_andW hc).1
      rw [hn] at h4
      exact h4
    have h5 := condW_of h4 (w_not (w_lt w_lit (w_len_list (w_arg rfl))))
    rw [List.length_map] at h5
    refine Nat.le_of_not_lt fun q => ?_
    have q' : (n : Int) < ((ns.length : Nat) : Int) := by omega
    first
      | (rw [decide_eq_true q'] at h5; exact absurd h5 (by decide))
      | (simp at h5; omega)
  cases hwl with
  | cons w1 w2 =>
    cases w2
    cases w1 with
    | list ho hall => exact ⟨_, _, ns, rfl, rfl, ho, ints_of_wellAll ns _ hall, hlen⟩

theorem post_true (l : OpenLaw) (args : List WData) : l.row.toRowW.claim.post args (.bool true) args = true :=
  postW_of (r := l.row.toRowW) (X := (true == true))
    (show WShape.has [] (.bool true) .bool = true by first | rfl | decide | simp [WShape.has, WShape.arms, WShape.armsAll])
    (show (WTm.eq .res (.lit (.bool true))).value [] { args := args, res := some (.bool true), after := args } = some (.bool (true == true)) from w_eq_bool (w_res rfl) w_lit) rfl

theorem attach_call {l : OpenLaw} {n : Nat} {q : Program} {loose : List Str} {XP : (Str → Option Value) → Heap → Prop} {YP : World → Heap → Prop} {d : DefRec}
    (hn : l.most = some n) (hdf : d.params.defaults = [])
    (call : ∀ (w : World) (s₀ s₁ : Shared) (mg mb : Str → Option Value) (fa : Addr) (o : Obj) (pm cd doc : Value) (a : Addr) (vs : List Value) (ns : List Int),
      Ground q loose [] XP w s₀ mg mb s₁.heap → YP w s₁.heap →
      s₁.heap.get? fa = some o → o.data = .func (docDef d.name d.params d.body d.scope pm cd doc) → s₁.heap.CodeRec cd d.name → mg d.name = some (.ref fa) →
      s₁.heap.get? a = some { cls := .type "list", data := .seq vs.toArray } → IntsAre vs ns → ns.length ≤ n → s₁.gens = #[] →
      codeAny (model l.prog w) callerA (.call (.ref fa) ⟨[.ref a], []⟩) (fun r s' => r = .ok (.ret (.bool true)) ∧ OldK s₁.heap s'.heap ∧ s'.os = s₁.os ∧ AllBare s'.gens) s₁) :
    WalkO q loose XP YP l.row.toRowW d [] (fun f vs => PySem.call f vs) := by
  intro w s₀ s₁ mg mb G Y fa o pm cd doc dV kV ho hd hcd hD hmg hg args vals as hpre hlay hrd hwl hlo
  obtain rfl : dV = .none := Dflts.none hD hdf
  obtain rfl : kV = .none := Dflts.noKw hD
  obtain ⟨a, vs, ns, rfl, rfl, hobj, hints, hlen⟩ := script_of hn hpre hwl
  refine enter_call (codeAny_mono (call w s₀ s₁ mg mb fa o pm cd doc a vs ns G Y ho (fd_plain hd) hcd hmg hobj hints hlen hg) fun r s' hq => ?_)
  obtain ⟨rfl, h2, h3, h4⟩ := hq
  exact ⟨.inl ⟨.bool true, .bool true, [], rfl, fun _ => rfl, .bool true, post_true l _, fun _ => ⟨List.Pairwise.nil, fun _ hm => (nomatch hm)⟩⟩, h2, h3, h4⟩

section
variable {prog : Program} {w : World} {A : Around} {E : Value → Shared → Prop} {s : Shared} {K : Frag}

end
end Att

namespace L2
open PySem PySem.Spec PyProof.Rows

theorem vals_ints : ∀ {vs : List Value} {ns : List Int}, IntsAre vs ns → Vals (ns.map V.int) vs
  | _, _, .nil => .nil
  | _, _, .cons n t h => .cons ⟨t, rfl⟩ (vals_ints h)

def Only (H : Hp) : Prop := ∀ b, H b = none ∨ ∃ o xs, H b = some (.frz o (.lst xs))

theorem law_call {P : Program} {w : World} {K : PySem.W.Frag} {mg mb : Str → Option Value} {CX : CXT} {k : Nat} {fa a : Addr} {fd : FuncData} {x : Str} {sp : Sp} {s₁ : Shared} {vs : List Value} {ns : List Int}
    (KX : K.In s₁.heap) (hns : s₁.heap.Ns mainGlobals mg) (hb : s₁.heap.Ns builtinsNs mb) (hbb : ∀ x : Str, x ≠ "__name__" → mb x = bootBuiltins x) (hlim : s₁.heap.NoLimit) (hg : s₁.gens = #[])
    (ha : s₁.heap.get? a = some { cls := .type "list", data := .seq vs.toArray }) (hi : IntsAre vs ns) (hl : ns.length ≤ sizeLine) (hr : Room k callerA)
    (F : ∀ base : Heap, K.In base → base.Ns mainGlobals mg → FnOk P w K mg base CX k fa fd [x] sp) (hbind : ∀ (s : Shared) (u : Value), BindsTo s fd ⟨[u], []⟩ [(x, u)])
    (hsp : ∀ H : Hp, Only H → SqL K H a (ns.map V.int) → sp [.ref a] H (fun v _ => v = .bl true) fun _ _ _ => False)
    (hCX : ∀ H e s', CX [] H s₁ (fun _ _ _ => False) e s' → False) :
    codeAny (model P w) callerA (.call (.ref fa) ⟨[.ref a], []⟩) (fun r s' => r = .ok (.ret (.bool true)) ∧ OldK s₁.heap s'.heap ∧ s'.os = s₁.os ∧ AllBare s'.gens) s₁ := by
  have rv := vals_ints hi
  have lenV := hi.length
  -- from an abstract heap in which nothing but the script may be tracked
  have core : ∀ H : Hp, Only H → SqL K H a (ns.map V.int) → HOk P w H s₁.heap → (∀ b, H b ≠ none → b = a) → (H a ≠ none → K.lookup a = none) →
      codeAny (model P w) callerA (.call (.ref fa) ⟨[.ref a], []⟩) (fun r s' => r = .ok (.ret (.bool true)) ∧ OldK s₁.heap s'.heap ∧ s'.os = s₁.os ∧ AllBare s'.gens) s₁ := by
    intro H hO hS hok hA hK
    have base_of : ∀ {b : Addr} {o : Obj}, s₁.heap.get? b = some o → H b = none → (hidT s₁.heap H).get? b = some o := fun e n => hidT_get e n
    have noA : ∀ {b : Addr} {o : Obj} {es : Array DictEntry} {ep : Nat}, s₁.heap.get? b = some o → o.data = .dict es ep → H b = none := fun {b o es ep} e d => by
      cases q : H b with
      | none => rfl
      | some u =>
        have e' : b = a := hA b (by rw [q]; simp)
        subst e'
        rw [ha] at e; cases e
        have d' : Data.seq vs.toArray _ = Data.dict es ep := d
        cases d'
    have nsK : ∀ {b : Addr} {m : Str → Option Value}, s₁.heap.Ns b m → (hidT s₁.heap H).Ns b m := fun {b m} ⟨o, es, ep, e, d, r⟩ => ⟨o, es, ep, base_of e (noA e d), d, r⟩
    have hKb : K.In (hidT s₁.heap H) := fun b o e => base_of (KX b o e) (by
      cases q : H b with
      | none => rfl
      | some u =>
        have e' : b = a := hA b (by rw [q]; simp)
        subst e'
        rw [hK (by rw [q]; simp)] at e; cases e)
    have hM : Mod K mg (hidT s₁.heap H) := ⟨hKb, nsK hns, ⟨mb, nsK hb, hbb⟩, let ⟨mc, h1, h2⟩ := hlim; ⟨mc, nsK h1, h2⟩⟩
    have e0 : Env0 P w K mg (hidT s₁.heap H) callerA [] s₁ H := ⟨rfl, hM, fun b o e => of_hidT e, Nat.le_of_eq (hidT_size _ _), trivial, fun b hb => absurd (show b ∈ ([] : List Addr) from hb) (by simp), hok, .of_eq hg⟩
    refine codeAny_mono ((F _ hKb (nsK hns)).run callerA [] s₁ H ⟨[.ref a], []⟩ [.ref a] [.ref a] _ _ hr e0 (hbind s₁ (.ref a)) (.cons rfl .nil) (hsp H hO hS)) fun r s' h => ?_
    cases r with
    | error e => exact (hCX H e s' h).elim
    | ok fl =>
      cases fl with
      | next => exact False.elim h
      | brk => exact False.elim h
      | cont => exact False.elim h
      | ret u =>
        obtain ⟨v, H', os, bare, un, hok', r', q⟩ := h
        have q' : v = .bl true := q
        subst q'
        obtain rfl : u = Value.bool true := r'
        refine ⟨rfl, OldK.of_keep fun b o e => ?_, os, bare⟩
        cases q : H b with
        | none => exact un.keep b o e q (by intro z; exact absurd (show b ∈ ([] : List Addr) from z) (by simp)) (by simp)
        | some u =>
          rcases hO b with z | ⟨ob, xs, z⟩
          · rw [q] at z; cases z
          · have z2 := un.frzs b ob _ z
            obtain ⟨e1, _⟩ := hok b _ z
            obtain ⟨e2, _⟩ := hok' b _ z2
            rw [e] at e1; cases e1
            exact e2
  cases hk : K.lookup a with
  | some o =>
    -- the script is one of the module's own objects
    have e := KX a o hk
    rw [ha] at e
    cases e
    refine core (fun _ => none) (fun _ => .inl rfl) (.inr ⟨_, vs.toArray, _, hk, rfl, rfl, rfl, by rw [List.size_toArray, lenV]; exact hl, by simpa using rv⟩) (fun b u z => by have z' : (none : Option HO) = some u := z; cases z') (fun b z => absurd rfl z) fun z => absurd rfl z
  | none =>
    refine core (fun b => if b = a then some (.frz { cls := .type "list", data := .seq vs.toArray } (.lst (ns.map V.int))) else none) (fun b => ?_) (.inl (.inr ⟨{ cls := .type "list", data := .seq vs.toArray }, if_pos rfl⟩)) (fun b u z => ?_) (fun b z => ?_) fun _ => hk
    · by_cases hb : b = a
      · exact .inr ⟨_, _, if_pos hb⟩
      · exact .inl (if_neg hb)
    · by_cases hb : b = a
      · have z' := (if_pos hb).symm.trans z
        cases z'
        subst hb
        exact ⟨ha, by rw [List.length_map]; exact hl, vs, _, rv, ha⟩
      · have z' := (if_neg hb).symm.trans z
        cases z'
    · by_cases hb : b = a
      · exact hb
      · exact absurd (if_neg hb) z
end L2

namespace L2
open PySem PySem.Spec PyProof.Rows

theorem walk_of {l : PySem.W.OpenLaw} {n k : Nat} {q : Program} {loose : List Str} {XP : (Str → Option Value) → Heap → Prop} {YP : World → Heap → Prop} {d : DefRec} {K : Params → PySem.W.Frag} {CX : World → CXT} {sp : World → Sp} {x : Str}
    (hn : l.most = some n) (hn2 : n ≤ sizeLine) (hdf : d.params.defaults = []) (hr : Room k callerA)
    (hY : ∀ (w : World) (h : Heap), YP w h → (K w.params).In h)
    (F : ∀ (w : World) (mg : Str → Option Value) (fa : Addr) (h : Heap), (K w.params).In h → h.Ns mainGlobals mg → mg d.name = some (.ref fa) →
      ∃ fd : FuncData, (∀ (s : Shared) (u : Value), BindsTo s fd ⟨[u], []⟩ [(x, u)]) ∧
        ∀ base : Heap, (K w.params).In base → base.Ns mainGlobals mg → FnOk l.prog w (K w.params) mg base (CX w) k fa fd [x] (sp w))
    (hsp : ∀ (w : World) (H : Hp) (a : Addr) (ns : List Int), ns.length ≤ n → Only H → SqL (K w.params) H a (ns.map V.int) → sp w [.ref a] H (fun v _ => v = .bl true) fun _ _ _ => False)
    (hCX : ∀ (w : World) (H : Hp) (s : Shared) (e : Value) (s' : Shared), CX w [] H s (fun _ _ _ => False) e s' → False) :
    PySem.W.WalkO q loose XP YP l.row.toRowW d [] (fun f vs => PySem.call f vs) := by
  refine Att.attach_call hn hdf fun w s₀ s₁ mg mb fa o pm cd doc a vs ns G Y ho hd hcd hmg hobj hints hlen hg => ?_
  have KX := hY w _ Y
  obtain ⟨fd, hb, hF⟩ := F w mg fa _ KX G.T.g hmg
  exact law_call KX G.T.g G.T.b G.T.builtins G.T.nolimit hg hobj hints (Nat.le_trans hlen hn2) hr hF hb (fun H hO hS => hsp w H a ns hlen hO hS) fun H e s' => hCX w H s₁ e s'
end L2


namespace L2
open PySem PySem.Spec PyProof.Rows

abbrev CX0 : CXT := fun _ _ _ _ _ _ => False
abbrev E0 : XK := fun _ _ _ => False
theorem pass0 {X : Cx} : Passes CX0 X E0 := fun _ _ _ _ _ _ _ h => h.elim

structure Fun (K : PySem.W.Frag) (x qual : Str) (st : Stmt) (f : Addr) (fd : FuncData) : Prop where
  ex : ∃ (oc : Value) (od : Option Addr) (kV doc pm : Value) (an : Option Addr) (cdv ct : Value) (osl : Array (Option Value)),
    fd = PySem.W.fnOf x qual (defArgs st) (defBody st) (defScope st) .none kV doc pm an cdv ct ∧ K.lookup f = some ⟨oc, od, .func fd, osl⟩ ∧ PySem.W.codeIn K cdv qual = true
  kp : PySem.W.keepIn K (.ref f) = true
section
variable {P : Program} {w : World} {K : PySem.W.Frag} {mg : Str → Option Value} {base : Heap}
theorem Fun.ok {x qual : Str} {st : Stmt} {f : Addr} {fd : FuncData} {N ps : List Str} {k : Nat} {sp : Sp} (F : Fun K x qual st f fd) (S : FnScope N ps (defScope st)) (len : ∀ vs H Q E, sp vs H Q E → vs.length = ps.length)
    (hbody : ∀ (cdv : Value) (A : Around) (outer : List Env) (s : Shared) (H : Hp) (vs : List V) (Q : VK) (E : XK), Room k (A.deeper (envOfC qual (defScope st) s.heap.objs.size f cdv)) → sp vs H Q E →
      ∃ t, PSs (cxOf CX0 P w K mg base N qual (defScope st) f cdv A outer s H E).nox (defBody st) t ∧ t { nx := fun _ H' => Q .non H', rt := Q } (start N vs) H) : FnOk P w K mg base CX0 (k + 1) f fd ps sp := by
  obtain ⟨oc, od, kV, doc, pm, an, cdv, ct, osl, rfl, lk, hcd⟩ := F.ex
  refine fn_of lk hcd S len fun A outer s H vs Q E hr hsp => ?_
  obtain ⟨t, h, q⟩ := hbody cdv A outer s H vs Q E hr hsp
  exact ⟨t, h.nox, q⟩
theorem Fun.binds {x qual : Str} {st : Stmt} {f : Addr} {fd : FuncData} {ps : List Str} (F : Fun K x qual st f fd)
    (h : ∀ (kV doc pm : Value) (an : Option Addr) (cdv ct : Value) (us : List Value), us.length = ps.length → bindArgs (PySem.W.fnOf x qual (defArgs st) (defBody st) (defScope st) .none kV doc pm an cdv ct) ⟨us, []⟩ = pure (ps.zip us)) : Binds K fd ps [] := by
  obtain ⟨oc, od, kV, doc, pm, an, cdv, ct, osl, rfl, lk, hcd⟩ := F.ex
  exact .all (h kV doc pm an cdv ct)
theorem fun_mk {x qual : Str} {st : Stmt} {f : Addr} {oc : Value} {od an : Option Addr} {osl : Array (Option Value)} {kV doc pm cdv ct : Value} (l : K.lookup f = some ⟨oc, od, .func (PySem.W.fnOf x qual (defArgs st) (defBody st) (defScope st) .none kV doc pm an cdv ct), osl⟩)
    (c : PySem.W.codeIn K cdv qual = true) (k : PySem.W.keepIn K (.ref f) = true) : Fun K x qual st f (PySem.W.fnOf x qual (defArgs st) (defBody st) (defScope st) .none kV doc pm an cdv ct) := ⟨⟨oc, od, kV, doc, pm, an, cdv, ct, osl, rfl, l, c⟩, k⟩
end
theorem hu_of {A : Around} {k : Nat} (hr : Room k A) : A.units + 1 < cLine := Nat.lt_of_le_of_lt (Nat.add_le_add_left (by decide : 1 ≤ 64) _) hr.units
theorem small1000 {n : Nat} (h : n ≤ 1000) : n < sizeLine := Nat.lt_of_le_of_lt h (by decide)

section
variable {X : Cx}
theorem pv (i : Nat) {x : Str} {pos : Pos} (hN : X.N[i]? = some x := by rfl) (hv : Vis X.env.scope x := by first | exact Or.inl rfl | exact Or.inr (Or.inl rfl) | exact Or.inr (Or.inr rfl)) (hd : (x == ("__debug__" : Str)) = false := by decide)
    (hcd : (x == ("__classdict__" : Str)) = false := by decide) : PE X (.Name x pos) (tVar i) := pe_var hN hv hd hcd
end

theorem iteF {A B : Prop} (h : B) : if false = true then A else B := by
  rw [if_neg Bool.false_ne_true]
  exact h
theorem iteT {A B : Prop} (h : A) : if true = true then A else B := by
  rw [if_pos rfl]
  exact h
theorem ite2 {c A B : Prop} [Decidable c] (h1 : c → A) (h2 : ¬ c → B) : if c then A else B := by
  by_cases h : c
  · rw [if_pos h]
    exact h1 h
  · rw [if_neg h]
    exact h2 h
def Same (H H' : Hp) : Prop := ∀ b o, H b = some o → H' b = some o
theorem Same.refl (H : Hp) : Same H H := fun _ _ h => h
theorem Same.trans {H H1 H2 : Hp} (a : Same H H1) (b : Same H1 H2) : Same H H2 := fun c o h => b c o (a c o h)
theorem Same.free {H H' : Hp} (e : Same H H') {l : Addr} (h : H' l = Option.none) : H l = Option.none := by
  cases q : H l with
  | none => rfl
  | some o =>
    rw [e l o q] at h
    cases h
theorem Same.seq {K : PySem.W.Frag} {H H' : Hp} {a : Addr} {xs : List V} (e : Same H H') (h : SqL K H a xs) : SqL K H' a xs := by
  rcases h with (h | ⟨o, h⟩) | h
  · exact .inl (.inl (e _ _ h))
  · exact .inl (.inr ⟨o, e _ _ h⟩)
  · exact .inr h

section
variable {κ : Type} [DecidableEq κ]
end
end L2


namespace L2
open PySem PySem.Spec PyProof.Rows

section
variable {prog : Program} {w : World} {A : Around} {R : Result → Shared → Prop} {s : Shared}
theorem compLoop_any {elt target iter : Expr} {ifs : List Expr} {scope : Scope} {pos : Pos} {it acc : Value} {env : Env} (I : Nat → Shared → Prop)
    (turn : ∀ n s, I n s → wpAny (model prog w) A (pyNext it) (fun r s₁ => match r with
      | none => R (.ok .next) s₁
      | some v => wpAny (model prog w) A (letOwnedTupleGo target it v) (fun _ s₀ => wpAny (model prog w) A (assign target env v) (fun _ s₂ =>
          wpAny (model prog w) A (forIn ifs true fun c r => if r = true then do let ok ← isTrue c env (eval c env); pure (ForInStep.yield ok) else pure (ForInStep.yield r)) (fun ok s₃ =>
            if ok = true then wpAny (model prog w) A (eval elt env) (fun x s₄ =>
              wpAny (model prog w) A (call (.builtin "list.append") [acc, x]) (fun _ s₅ => ∃ m, m < n ∧ I m s₅) (fun _ _ => False) s₄) (fun _ _ => False) s₃
            else ∃ m, m < n ∧ I m s₃) (fun _ _ => False) s₂) (fun _ _ => False) s₀) (fun _ _ => False) s₁) (fun _ _ => False) s)
    (n : Nat) (h : I n s) : codeAny (model prog w) A (.compLoop (.ListComp elt [⟨target, iter, ifs, 0⟩] scope pos) 0 it acc env) R s := by
  refine codeAny_loop rfl I (fun n s hI => ?_) n h
  show wpAny _ A ((compTurn (.ListComp elt [⟨target, iter, ifs, 0⟩] scope pos) 0 it acc env).onRaise (fun x => do noteFrame x env; theTreesLotGoes x)) _ _ s
  refine wpAny_noted ?_
  rw [compTurn_list]
  refine wpAny_bind (wpAny_standAt (wpAny_bind (wpAny_mono (turn n s hI) (fun r s₁ h₁ => ?_) fun _ _ h' => h'.elim)))
  cases r with
  | none => exact wpAny_pure h₁
  | some v =>
    refine wpAny_bind (wpAny_mono h₁ (fun _ s₀ h₀ => ?_) fun _ _ h' => h'.elim)
    refine wpAny_bind (wpAny_mono h₀ (fun _ s₂ h₂ => wpAny_bind (wpAny_mono h₂ (fun ok s₃ h₃ => ?_) fun _ _ h' => h'.elim)) fun _ _ h' => h'.elim)
    cases ok with
    | false => exact wpAny_pure ⟨rfl, h₃⟩
    | true =>
      exact wpAny_bind (wpAny_bind (wpAny_mono h₃ (fun x s₄ h₄ => wpAny_bind (wpAny_mono h₄ (fun _ s₅ h₅ => wpAny_pure (wpAny_pure ⟨rfl, h₅⟩)) fun _ _ h' => h'.elim)) fun _ _ h' => h'.elim))
end

def PTs (X : Cx) (ifs : List Expr) (t : TT) : Prop :=
  ∀ (pins : List (Addr × Obj)) (s : Shared) (σ : St) (H : Hp) (Q : Bool → Hp → Prop), Inv X pins σ H s → t σ H Q →
    wpAny (model X.prog X.w) X.A (forIn ifs true fun c r => if r = true then do let ok ← isTrue c X.env (eval c X.env); pure (ForInStep.yield ok) else pure (ForInStep.yield r)) (TP X pins σ Q) X.xe s
def tYes : TT := fun _ H Q => Q true H
theorem pts_nil {X : Cx} : PTs X [] tYes := fun _ _ _ H _ I h => wpAny_tests_nil ⟨H, I, h⟩
theorem pts_one {X : Cx} {c : Expr} {t : TT} (h : PT X c t) : PTs X [c] t := fun pins s σ H Q I hw => wpAny_tests_one (h pins s σ H Q I hw)

abbrev Cx.blk (X : Cx) (N : List Str) (s : Shared) (H : Hp) (scope : Scope) (cl : List (Str × Addr)) (C : Addr) (ex : List Addr) : Cx :=
  { X with N := N, s₀ := s, H₀ := H, env := compEnvC scope cl C X.env, outer := X.stack, stack := X.stack, ex := ex, fn := fun _ => false, pn := [], xe := fun _ _ => False }

def AllC (env : Env) : List (Str × Addr) → Prop
  | [] => True
  | p :: r => env.cells.lookup p.1 = some p.2 ∧ AllC env r
theorem lookup_mem {α : Type} : ∀ {l : List (Str × α)} {x : Str} {k : α}, l.lookup x = some k → (x, k) ∈ l
  | [], _, _, h => by simp at h
  | (n, k') :: r, x, k, h => by
    rw [List.lookup_cons] at h
    cases hx : x == n with
    | true =>
      rw [hx] at h
      have e : x = n := eq_of_beq hx
      have e2 : k' = k := Option.some.inj h
      rw [e, e2]; exact List.mem_cons_self
    | false =>
      rw [hx] at h
      exact List.mem_cons_of_mem _ (lookup_mem h)
theorem AllC.get {env : Env} : ∀ {cl : List (Str × Addr)} {x : Str} {c : Addr}, AllC env cl → cl.lookup x = some c → env.cells.lookup x = some c := fun {cl x c} h e => by
  have go : ∀ (l : List (Str × Addr)), AllC env l → ∀ p ∈ l, env.cells.lookup p.1 = some p.2 := by
    intro l
    induction l with
    | nil => intro _ p hp; cases hp
    | cons q r ih =>
      intro ha p hp
      rcases List.mem_cons.mp hp with rfl | hp
      · exact ha.1
      · exact ih ha.2 p hp
  exact go cl h (x, c) (lookup_mem e)
def CapOk (X : Cx) (scope : Scope) (cl : List (Str × Addr)) : List Str → List Nat → Prop
  | [], [] => True
  | y :: ys, j :: js => (X.N[j]? = some y ∧ (X.env.kindOf y = some .cell ∨ X.env.kindOf y = some .free) ∧ (cl.lookup y).isSome = true ∧ ((relabel scope X.env).names.lookup y = some .cell ∨ (relabel scope X.env).names.lookup y = some .free)) ∧ CapOk X scope cl ys js
  | _, _ => False
theorem CapOk.get {X : Cx} {scope : Scope} {cl : List (Str × Addr)} : ∀ {ys : List Str} {js : List Nat} {i : Nat} {y : Str}, CapOk X scope cl ys js → ys[i]? = some y →
    ∃ j, js[i]? = some j ∧ X.N[j]? = some y ∧ (X.env.kindOf y = some .cell ∨ X.env.kindOf y = some .free) ∧ (cl.lookup y).isSome = true ∧ ((relabel scope X.env).names.lookup y = some .cell ∨ (relabel scope X.env).names.lookup y = some .free)
  | [], _, _, _, _, e => by simp at e
  | _ :: _, [], _, _, h, _ => h.elim
  | y :: ys, j :: js, 0, z, h, e => by
    have e' : y = z := by simpa using e
    subst e'
    exact ⟨j, rfl, h.1⟩
  | y :: ys, j :: js, i + 1, z, h, e => by
    obtain ⟨k, e1, e2⟩ := CapOk.get (i := i) h.2 (by simpa using e)
    exact ⟨k, by simpa using e1, e2⟩
theorem CapOk.len {X : Cx} {scope : Scope} {cl : List (Str × Addr)} : ∀ {ys : List Str} {js : List Nat}, CapOk X scope cl ys js → ys.length = js.length
  | [], [], _ => rfl
  | [], _ :: _, h => h.elim
  | _ :: _, [], h => h.elim
  | _ :: _, _ :: _, h => by rw [List.length_cons, List.length_cons, CapOk.len h.2]
def capv (σ : St) (js : List Nat) : St := js.map fun j => (σ[j]?).join
theorem relabel_free {scope : Scope} {env : Env} {x : Str} (hcell : ∀ y ∈ scope.names, y.2 ≠ .cell) (h : (relabel scope env).names.lookup x = some .cell ∨ (relabel scope env).names.lookup x = some .free) : (x, NameKind.free) ∈ scope.names := by
  have hm : ∃ k, (k = NameKind.cell ∨ k = NameKind.free) ∧ (x, k) ∈ (relabel scope env).names := by
    rcases h with h | h
    · exact ⟨_, .inl rfl, lookup_mem h⟩
    · exact ⟨_, .inr rfl, lookup_mem h⟩
  obtain ⟨k, hk, hm⟩ := hm
  obtain ⟨⟨n, k'⟩, hin, e⟩ := List.mem_map.mp hm
  dsimp only at e
  by_cases hc : (k' == NameKind.free && env.scope.kind == .function && env.kindOf n == some .cell) = true
  · rw [if_pos hc] at e
    cases e
    have : k' = NameKind.free := by
      rw [Bool.and_eq_true, Bool.and_eq_true] at hc
      exact eq_of_beq hc.1.1
    rw [← this]; exact hin
  · rw [if_neg hc] at e
    cases e
    rcases hk with hk | hk
    · exact absurd hk (hcell _ hin)
    · rw [← hk]; exact hin
section
variable {X : Cx} {pins : List (Addr × Obj)} {σ : St} {H : Hp} {s : Shared}
theorem Inv.adopt {D : Addr} {ys : List V} {its : List Value} {n : Nat} (I : Inv X pins σ H s) (hn : H D = none) (hnew : X.s₀.heap.objs.size ≤ D) (hL : D ≠ X.env.locals) (hc : ∀ x c, X.env.cells.lookup x = some c → c ≠ D) (hp : ∀ p ∈ X.pn ++ pins, p.1 ≠ D)
    (e : s.heap.get? D = some { cls := .type "list", data := .seq its.toArray n }) (hv : Vals ys its) (hz : ys.length ≤ sizeLine) : Inv X pins σ (upd H D (.lst ys)) s := by
  have ne : ∀ b u, H b = some u → b ≠ D := fun b u q => ne_of_none q hn
  refine ⟨I.ok, I.os, I.bare, ⟨I.base.keep, I.base.slot, fun b o q nn hx => ?_, I.base.there, fun b xs q => ?_, fun b o u q => ?_, fun b ps q => ?_⟩, I.loc, I.cell, ?_, fun x c q => ?_, fun p hq => ?_, fun b u q => ?_, I.len⟩
  · rw [upd_ne (Nat.ne_of_lt (Nat.lt_of_lt_of_le (Heap.lt_size q) hnew))]; exact I.base.free b o q nn hx
  · have z := I.base.tups b xs q
    rw [upd_ne (ne b _ z)]; exact z
  · have z := I.base.frzs b o u q
    rw [upd_ne (ne b _ z)]; exact z
  · obtain ⟨more, z⟩ := I.base.tbls b ps q
    exact ⟨more, by rw [upd_ne (ne b _ z)]; exact z⟩
  · rw [upd_ne (Ne.symm hL)]; exact I.free
  · rw [upd_ne (hc x c q)]; exact I.freeC x c q
  · obtain ⟨a1, a2, a3⟩ := I.pin p hq
    exact ⟨a1, by rw [upd_ne (hp p hq)]; exact a2, a3⟩
  · by_cases hb : b = D
    · subst hb
      rw [upd_same] at q; cases q
      exact ⟨hz, its, n, hv, e⟩
    · rw [upd_ne hb] at q
      exact (I.hok b u q).stay (fun c v _ r => r) (fun c r => by rw [upd_ne (ne c _ r)]; exact r) fun c xs r => by rw [upd_ne (ne c _ r)]; exact r
structure Outed (X : Cx) (pins : List (Addr × Obj)) (σ : St) (C D : Addr) (H : Hp) (s : Shared) : Prop where
  inv : Inv X pins σ H s
  ns : ∃ m, s.heap.Ns C m
  nL : C ≠ X.env.locals
  new : X.s₀.heap.objs.size ≤ C
  nc : ∀ x c, X.env.cells.lookup x = some c → c ≠ C
  np : ∀ p ∈ X.pn ++ pins, p.1 ≠ C
  free : H C = none
theorem Outed.gone {C D : Addr} {h' : Heap} (O : Outed X pins σ C D H s) (sb : Heap.SameBut C s.heap h') : Inv X pins σ H { s with heap := h' } :=
  O.inv.turned (t' := s.toks) (it := C) (fun b o hb e => (sb.2 b hb).trans e) O.free O.nL (.inr O.new) O.nc O.np
end

def gLC (J : It) (g : TG) (tc : TT) (te : TE) (n : Nat) (cv : St) (Fin : List V → Hp → Prop) (H1 : Hp) : Prop :=
  ∃ W : Nat → Nat → List V → Hp → Prop, (∃ m, W 0 m [] H1) ∧ ∀ i m ys H, W i m ys H →
    (J.stop i H ∧ Fin ys H) ∨
    (J.go i H ∧ ys.length < sizeLine ∧ ∃ N : List V → Hp → Prop, (∀ ys' H', N ys' H' → ∃ m', m' < m ∧ W (i + 1) m' ys' H') ∧ ∀ x H', J.yld i H x H' → ∀ own : St, own.length = n → g x (own ++ cv) H' fun σ2 H2 => (∃ own2 : St, own2.length = n ∧ σ2 = own2 ++ cv) ∧
      tc σ2 H2 fun b H3 => if b = true then te σ2 H3 fun y H4 => N (ys ++ [y]) H4 else N ys H3)

def clOf (env : Env) : List (Str × NameKind) → List (Str × Addr) → List (Str × Addr)
  | [], acc => acc
  | (n, k) :: r, acc => clOf env r (if k == .free then (match env.cells.lookup n with | some c => (n, c) :: acc | none => acc) else acc)
theorem clOf_all (env : Env) : ∀ (names : List (Str × NameKind)) (acc : List (Str × Addr)), AllC env acc → AllC env (clOf env names acc)
  | [], _, h => h
  | (n, k) :: r, acc, h => by
    refine clOf_all env r _ ?_
    split
    · split
      · exact ⟨by assumption, h⟩
      · exact h
    · exact h
structure LcOk (X : Cx) (scope : Scope) (cl : List (Str × Addr)) (own caps : List Str) (js : List Nat) : Prop where
  clos : closureFor scope X.env = pure cl
  cell : ∀ y ∈ scope.names, y.2 ≠ .cell
  kind : scope.kind = .function
  names : ∀ y ∈ scope.names, y.2 = .local → scope.names.lookup y.1 = some .local
  allc : AllC X.env cl
  free : (scope.names.all fun y => y.2 != .free || (cl.lookup y.1).isSome) = true
  cap : CapOk X scope cl caps js

theorem lcok {X : Cx} {scope : Scope} {own caps : List Str} {js : List Nat} (clos : closureFor scope X.env = pure (clOf X.env scope.names []) := by with_unfolding_all rfl) (cell : ∀ y ∈ scope.names, y.2 ≠ .cell := by decide +kernel) (kind : scope.kind = .function := by rfl)
    (names : ∀ y ∈ scope.names, y.2 = .local → scope.names.lookup y.1 = some .local := by decide +kernel) (free : (scope.names.all fun y => y.2 != .free || ((clOf X.env scope.names []).lookup y.1).isSome) = true := by with_unfolding_all rfl)
    (cap : CapOk X scope (clOf X.env scope.names []) caps js) : LcOk X scope (clOf X.env scope.names []) own caps js := ⟨clos, cell, kind, names, clOf_all _ _ _ trivial, free, cap⟩
section
variable {X : Cx} {elt iter target : Expr} {ifs : List Expr} {scope : Scope} {cl : List (Str × Addr)} {pos : Pos} {own caps : List Str} {js : List Nat} {g : TG} {tc : TT} {te : TE}
theorem lc_block {pins : List (Addr × Obj)} {σ : St} {s₂ : Shared} {H1 : Hp} {it : Addr} {fp : List Addr} {tn : Nat → Heap → Prop} {J : It} {Fin : List V → Hp → Prop} {RR : Value → Addr → Result → Shared → Prop} {E : Value → Shared → Prop}
    (hc : X.calm = true) (L : LcOk X scope cl own caps js)
    (hg : ∀ s H C ex, PG (X.blk (own ++ caps) s H scope cl C ex) target g) (ht : ∀ s H C ex, PTs (X.blk (own ++ caps) s H scope cl C ex) ifs tc) (he : ∀ s H C ex, PE (X.blk (own ++ caps) s H scope cl C ex) elt te)
    (I2 : Inv X pins σ H1 s₂) (T : Turn X.prog X.w X.K target J fp it tn) (st2 : tn 0 s₂.heap) (f2 : ∀ b ∈ fp, FpOk X pins H1 b)
    (G : gLC J g tc te own.length (capv σ js) Fin H1)
    (hRR : ∀ D C H ys s', H D = none → Outed X pins σ C D (upd H D (.lst ys)) s' → Fin ys H → RR (.ref D) C (.ok .next) s') :
    wpAny (model X.prog X.w) X.A (newList []) (fun acc s₃ => wpAny (model X.prog X.w) X.A (newFunctionEnv scope X.env.globals cl [] X.env.qual none .none (some X.env)) (fun cenv s₄ =>
      codeAny (model X.prog X.w) X.A (.compStart (.ListComp elt [⟨target, iter, ifs, 0⟩] scope pos) 0 (.ref it) acc { cenv with scope := relabel scope X.env }) (RR acc cenv.locals) s₄) E s₃) E s₂ := by
  refine wpAny_newObj_type (wpAny_newFunctionEnv L.cell (by intro y hy; simp at hy) (fun h₁ hns₁ hsb₁ => ?_) L.kind)
  dsimp only at hns₁ hsb₁ ⊢
  generalize hH2 : s₂.heap.push { cls := .type "list", dict := none, data := .seq ([] : List Value).toArray } = G2 at hns₁ hsb₁ ⊢
  have hC : G2.objs.size = s₂.heap.objs.size + 1 := by rw [← hH2, Heap.size_push]
  have up2 : ∀ b o, s₂.heap.get? b = some o → G2.get? b = some o := fun b o e => hH2 ▸ Heap.get?_push_of_some _ e
  have hDC : s₂.heap.objs.size ≠ G2.objs.size := by rw [hC]; exact Nat.ne_of_lt (Nat.lt_succ_self _)
  have hD2 : G2.get? s₂.heap.objs.size = some { cls := .type "list", data := .seq ([] : List Value).toArray ([] : List Value).length } := hH2 ▸ Heap.get?_push_size _ rfl
  -- the state with the list laid
  have I3 : Inv X pins σ H1 { s₂ with heap := G2 } := I2.kept (t' := s₂.toks) up2
  have up3 : ∀ b o, G2.get? b = some o → h₁.get? b = some o := fun b o e => hsb₁.extBut b o (Nat.ne_of_lt (Heap.lt_size e)) (Heap.get?_push_of_some _ e)
  have DH : H1 s₂.heap.objs.size = none := I2.fresh
  have CH : H1 G2.objs.size = none := I3.fresh
  have fpl : ∀ b ∈ fp, b < s₂.heap.objs.size := fun b hb => by
    obtain ⟨o, e, _⟩ := T.obj 0 _ st2 b hb
    exact Heap.lt_size e
  have celllt : ∀ x c, X.env.cells.lookup x = some c → c < s₂.heap.objs.size := fun x c e => by
    obtain ⟨v, q⟩ := I2.cell x c e
    exact q.lt
  have locl : X.env.locals < s₂.heap.objs.size := I2.lt
  generalize hD : s₂.heap.objs.size = D at *
  generalize hCC : G2.objs.size = C at *
  have hDltC : D < C := by omega
  have noF : ∀ b, b ∈ frs X.stack → b < D := fun b hb => by
    rcases List.mem_cons.mp (I2.stkSub b hb) with e | hb
    · rw [e]; exact locl
    · obtain ⟨_, o, ho, _⟩ := I2.ok.funs.mem hb
      exact Nat.lt_of_lt_of_le (Heap.lt_size ho) (hD ▸ I2.sz)
  have fpF : ∀ b ∈ fp, b ∉ frs X.stack := fun b hb z => by
    obtain ⟨_, e1, e2, _⟩ := f2 b hb
    rcases List.mem_cons.mp (I2.stkSub b z) with e | z
    · exact e1 e
    · exact e2 z
  have ok' : (X.blk (own ++ caps) { s₂ with heap := G2 } H1 scope cl C (D :: fp)).Ok := {
    mod := I2.ok.mod
    kind := L.kind
    glob := I2.ok.glob
    blt := I2.ok.blt
    above := Nat.le_of_eq hCC
    inj := fun x y c e1 e2 => I2.ok.inj x y c (L.allc.get e1) (L.allc.get e2)
    has := fun x hx => by
      have hm := relabel_free L.cell hx
      have q := List.all_eq_true.mp L.free _ hm
      have q' : (cl.lookup x).isSome = true := by simpa using q
      exact Option.isSome_iff_exists.mp q'
    cab := fun x c e => nomatch e
    hd := I2.ok.hd
    frames := I2.ok.frames
    stk := .inl rfl
    exf := fun b hb => by
      rcases List.mem_cons.mp hb with rfl | hb
      · exact ⟨Nat.ne_of_lt hDltC, fun x c e => Nat.ne_of_lt (celllt x c (L.allc.get e))⟩
      · obtain ⟨_, e1, e2, _, e4, _⟩ := f2 b hb
        exact ⟨Nat.ne_of_lt (Nat.lt_trans (fpl b hb) hDltC), fun x c e => e4 x c (L.allc.get e)⟩
    bs := fun b o e => ⟨up2 b o (I2.bs b o e).1, (I2.bs b o e).2⟩
    bsz := by
      show X.base.objs.size ≤ G2.objs.size
      have := I2.ok.bsz
      have := I2.sz
      omega
    noex := fun b o e hb => by
      have hlt := Heap.lt_size (I2.bs b o e).1
      rcases List.mem_cons.mp hb with z | hb
      · exact absurd (show b < D from hD ▸ hlt) (by rw [z]; exact Nat.lt_irrefl _)
      · obtain ⟨_, _, _, e3, _⟩ := f2 b hb
        rcases e3 with e3 | e3
        · exact I2.ok.noex b o e e3
        · exact absurd (Nat.lt_of_lt_of_le (Heap.lt_size (I2.ok.bs b o e).1) e3) (Nat.lt_irrefl _)
    exfs := fun b hb z => by
      rcases List.mem_cons.mp hb with e | hb
      · exact absurd (noF b z) (by rw [e]; exact Nat.lt_irrefl _)
      · exact fpF b hb z
    funs := I3.stack
    frf := I3.stkFree }
  have hns : h₁.Ns C (fun x => ([] : List (Str × Value)).reverse.lookup x) := hns₁
  have start : Inv (X.blk (own ++ caps) { s₂ with heap := G2 } H1 scope cl C (D :: fp)) [(D, LCg.lst [])] (List.replicate own.length none ++ capv σ js) H1 { s₂ with heap := h₁, toks := s₂.toks + ([] : List (Str × Value)).length } := by
    refine ⟨ok', rfl, I2.bare, Un.kept up3, ⟨_, hns, fun i x v e1 e2 e3 => ?_⟩, fun x c e => ?_, CH, fun x c e => I2.freeC x c (L.allc.get e), fun p hp => ?_, I3.hok.kept up3, ?_⟩
    · have hlo : own.length ≤ i := by
        refine Nat.le_of_not_lt fun hlt => ?_
        rw [List.getElem?_append_left (by rw [List.length_replicate]; exact hlt), List.getElem?_replicate, if_pos hlt] at e2
        cases e2
      have e1' : caps[i - own.length]? = some x := by rw [← List.getElem?_append_right hlo]; exact e1
      obtain ⟨j, j1, j2, j3, j4, j5⟩ := L.cap.get e1'
      have e2' : (capv σ js)[i - own.length]? = some (some v) := by
        rw [← e2, List.getElem?_append_right (by rw [List.length_replicate]; exact hlo), List.length_replicate]
      have e4 : σ[j]? = some (some v) := by
        unfold capv at e2'
        rw [List.getElem?_map, j1] at e2'
        have e5 : (σ[j]?).join = some v := Option.some.inj e2'
        cases hq : σ[j]? with
        | none => rw [hq] at e5; cases e5
        | some q => rw [hq] at e5; exact congrArg some e5
      obtain ⟨m, hn, hl⟩ := I2.loc
      obtain ⟨u, ru, lk⟩ := hl j x v j2 e4 (.inr j3)
      refine ⟨u, ru, .inr ⟨j5, ?_⟩⟩
      rcases lk with ⟨k, _⟩ | ⟨_, c, ec, o, ho, hd⟩
      · rcases j3 with z | z <;> (rw [k] at z; cases z)
      · obtain ⟨c', ec'⟩ := Option.isSome_iff_exists.mp j4
        have := L.allc.get ec'
        rw [ec] at this
        cases this
        exact ⟨c, ec', o, up3 _ _ (up2 _ _ ho), hd⟩
    · obtain ⟨v, o, ho, hd⟩ := I2.cell x c (L.allc.get e)
      exact ⟨v, o, up3 _ _ (up2 _ _ ho), hd⟩
    · have e : p = (D, LCg.lst []) := by simpa using hp
      subst e
      exact ⟨up3 _ _ hD2, DH, Nat.ne_of_lt hDltC, fun z => absurd (noF D z) (Nat.lt_irrefl _), fun v z => by cases z⟩
    · rw [List.length_append, List.length_append, List.length_replicate]
      unfold capv
      rw [List.length_map, L.cap.len]
  obtain ⟨W, ⟨m0, w0⟩, turn⟩ := G
  have loop : codeAny (model X.prog X.w) X.A (.compLoop (.ListComp elt [⟨target, iter, ifs, 0⟩] scope pos) 0 (.ref it) (.ref D) (compEnvC scope cl C X.env)) (RR (.ref D) C) { s₂ with heap := h₁, toks := s₂.toks + ([] : List (Str × Value)).length } := by
    refine compLoop_any (fun n s' => ∃ i ys its ow H', Inv (X.blk (own ++ caps) { s₂ with heap := G2 } H1 scope cl C (D :: fp)) [(D, LCg.lst its)] (ow ++ capv σ js) H' s' ∧ ow.length = own.length ∧ tn i s'.heap ∧ (∀ b ∈ fp, H' b = none) ∧ Vals ys its ∧ ys.length ≤ sizeLine ∧ W i n ys H') ?_ m0
      ⟨0, [], [], List.replicate own.length none, H1, start, List.length_replicate, T.keep _ _ _ st2 fun b _ o e => up3 _ _ (up2 _ _ e), fun b hb => (f2 b hb).1, .nil, Nat.zero_le _, w0⟩
    rintro n s' ⟨i, ys, its, ow, H', I', hlo, st, fr, hv, hz, wv⟩
    have fpok : ∀ {H'' : Hp}, (∀ b ∈ fp, H'' b = none) → ∀ b ∈ fp, FpOk (X.blk (own ++ caps) { s₂ with heap := G2 } H1 scope cl C (D :: fp)) [(D, LCg.lst its)] H'' b := fun hn b hb => by
      obtain ⟨_, e1, e2, e3, e4, e5⟩ := f2 b hb
      refine ⟨hn b hb, Nat.ne_of_lt (Nat.lt_trans (fpl b hb) hDltC), fpF b hb, .inl (List.mem_cons_of_mem _ hb), fun x c e => e4 x c (L.allc.get e), fun p hp => ?_⟩
      have e : p = (D, LCg.lst its) := by simpa using hp
      subst e
      exact Nat.ne_of_gt (fpl b hb)
    rcases turn i n ys H' wv with ⟨stop, fin⟩ | ⟨go, hlt, N, hN, step⟩
    · refine wpAny_mono (T.done (X.blk (own ++ caps) { s₂ with heap := G2 } H1 scope cl C (D :: fp)) rfl rfl rfl hc i _ s' _ H' (fun _ _ => False) I' (fpok fr) st stop) (fun r s4 ⟨hr, I4⟩ => ?_) fun _ _ f => f
      subst hr
      have pD := I4.pin (D, LCg.lst its) (by simp)
      have hch : ∀ b ∈ D :: fp, (b ∈ X.ex ∨ X.s₀.heap.objs.size ≤ b) ∧ b ≠ X.env.locals ∧ (∀ x c, X.env.cells.lookup x = some c → c ≠ b) ∧ ∀ p ∈ X.pn ++ pins, p.1 ≠ b := fun b hb => by
        rcases List.mem_cons.mp hb with rfl | hb
        · exact ⟨.inr (hD ▸ I2.sz), Nat.ne_of_gt locl, fun x c e => Nat.ne_of_lt (celllt x c e), fun p hp => Nat.ne_of_lt (hD ▸ Heap.lt_size (I2.pin p hp).1)⟩
        · obtain ⟨_, e1, e2, e3, e4, e5⟩ := f2 b hb
          exact ⟨e3, e1, e4, e5⟩
      have IX : Inv X pins σ H' s4 := I2.call' (ch := D :: fp) I4.os ((Un.kept up2).trans I4.base) I4.hok I4.bare hch
      have cD := hch D List.mem_cons_self
      have IA : Inv X pins σ (upd H' D (.lst ys)) s4 := IX.adopt pD.2.1 (hD ▸ I2.sz) cD.2.1 cD.2.2.1 cD.2.2.2 pD.1 hv hz
      obtain ⟨mm, hmm, _⟩ := I4.loc
      refine hRR D C H' ys s4 pD.2.1 ⟨IA, ⟨mm, hmm⟩, Nat.ne_of_gt (Nat.lt_trans locl hDltC), ?_, fun x c e => Nat.ne_of_lt (Nat.lt_trans (celllt x c e) hDltC), fun p hp => ?_, ?_⟩ fin
      · have := I2.sz
        omega
      · exact Nat.ne_of_lt (Nat.lt_trans (show p.1 < D from hD ▸ Heap.lt_size (I2.pin p hp).1) hDltC)
      · rw [upd_ne (Nat.ne_of_gt hDltC)]; exact I4.free
    · refine wpAny_mono (T.item (X.blk (own ++ caps) { s₂ with heap := G2 } H1 scope cl C (D :: fp)) rfl rfl rfl hc i _ s' _ H' (fun _ _ => False) I' (fpok fr) st go) (fun r s4 ⟨u, hr, h4⟩ => ?_) fun _ _ f => f
      subst hr
      refine wpAny_mono h4 (fun _ s5 ⟨x, H5, I5, r5, y5, st5, fr5⟩ => ?_) fun _ _ f => f
      have I5' := I5.pinned (fpok fr5) (T.obj _ _ st5)
      have keepT : ∀ {σ8 : St} {H8 : Hp} {s8 : Shared}, Inv (X.blk (own ++ caps) { s₂ with heap := G2 } H1 scope cl C (D :: fp)) ([(D, LCg.lst its)] ++ pinsAt fp s5.heap) σ8 H8 s8 → tn (i + 1) s8.heap ∧ ∀ b ∈ fp, H8 b = none := fun {σ8 H8 s8} I8 =>
        ⟨T.keep _ _ _ st5 fun b hb o e => (I8.pin (b, o) (List.mem_append_right _ (List.mem_append_right _ (mem_pinsAt hb e)))).1, fun b hb => by
          obtain ⟨o, e, d⟩ := T.obj _ _ st5 b hb
          exact (I8.pin (b, o) (List.mem_append_right _ (List.mem_append_right _ (mem_pinsAt hb e)))).2.1⟩
      refine wpAny_mono (hg _ _ _ _ _ s5 _ H5 x u _ I5' r5 (step x H5 y5 ow hlo)) (fun _ s6 ⟨σ6, H6, I6, ⟨own2, hl2, e6⟩, q6⟩ => ?_) fun _ _ f => f
      subst e6
      refine wpAny_mono (ht _ _ _ _ _ s6 _ H6 _ I6 q6) (fun b s7 ⟨H7, I7, q7⟩ => ?_) fun _ _ f => f
      cases b with
      | false =>
        rw [if_neg Bool.false_ne_true]
        rw [if_neg Bool.false_ne_true] at q7
        obtain ⟨m', hm, w7⟩ := hN _ _ q7
        obtain ⟨k1, k2⟩ := keepT I7
        exact ⟨m', hm, i + 1, ys, its, own2, H7, I7.unpinned, hl2, k1, k2, hv, hz, w7⟩
      | true =>
        rw [if_pos rfl]
        rw [if_pos rfl] at q7
        refine wpAny_mono (he _ _ _ _ _ s7 _ H7 _ I7 q7) (fun y s8 ⟨vy, H8, I8, r8, n8⟩ => ?_) fun _ _ f => f
        obtain ⟨m', hm, w8⟩ := hN _ _ n8
        obtain ⟨k1, k2⟩ := keepT I8
        have pD := I8.pin (D, LCg.lst its) (by simp)
        have hyl := hv.length
        refine append_at (hsz := by show its.toArray.size ≤ sizeLine; rw [List.size_toArray]; omega) pD.1 fun h9 hs9 hD9 => ?_
        have I9 : Inv (X.blk (own ++ caps) { s₂ with heap := G2 } H1 scope cl C (D :: fp)) [] (own2 ++ capv σ js) H8 { s8 with heap := h9 } := by
          refine (I8.pins_of (pins' := []) fun p hp => nomatch hp).turned (t' := s8.toks) (it := D) (fun b o hb e => (hs9.2 b hb).trans e) pD.2.1 (Nat.ne_of_lt hDltC) (.inl List.mem_cons_self) (fun x c e => Nat.ne_of_lt (celllt x c (L.allc.get e))) fun p hp => ?_
          simp at hp
        refine ⟨m', hm, i + 1, ys ++ [vy], its ++ [y], own2, H8, I9.pins_of fun p hp => ?_, hl2, T.keep _ _ _ k1 fun b hb o e => (hs9.2 b (Nat.ne_of_lt (fpl b hb))).trans e, k2, hv.append (.cons r8 .nil), ?_, w8⟩
        · have e : p = (D, LCg.lst (its ++ [y])) := by simpa using hp
          subst e
          exact ⟨hD9.trans (congrArg some (LCg.lst_snoc its y)), pD.2.1, Nat.ne_of_lt hDltC, fun z => absurd (noF D z) (Nat.lt_irrefl _), fun v z => by cases z⟩
        · rw [List.length_append, List.length_singleton]; omega
  exact codeAny_compStart_list loop (T.self _ _ _ _ _ (T.keep _ _ _ st2 fun b _ o e => up3 _ _ (up2 _ _ e)) loop)

def tLCg (wi : TI) (g : TG) (tc : TT) (te : TE) (n : Nat) (js : List Nat) : TE := fun σ H Q => wi σ H fun J H1 => gLC J g tc te n (capv σ js) (fun ys H => ∀ p, H p = none → Q (.ref p) (upd H p (.lst ys))) H1
variable {wi : TI}
theorem pe_lcg (hc : X.calm = true) (L : LcOk X scope cl own caps js) (hi : PI X target iter wi)
    (hg : ∀ s H C ex, PG (X.blk (own ++ caps) s H scope cl C ex) target g) (ht : ∀ s H C ex, PTs (X.blk (own ++ caps) s H scope cl C ex) ifs tc) (he : ∀ s H C ex, PE (X.blk (own ++ caps) s H scope cl C ex) elt te)
    (hs : ∀ x, foldedSetIterable iter X.env x = pure x := by intro _; rfl) : PE X (.ListComp elt [⟨target, iter, ifs, 0⟩] scope pos) (tLCg wi g tc te own.length js) := by
  intro pins s σ H Q I h
  rw [eval_ListComp]
  refine wpAny_comprehension_free (use := none) rfl hs L.clos L.kind L.names (thn (hi pins s σ H _ I h) fun v s1 h1 => thn h1 fun itv s2 h2 => ?_)
  obtain ⟨it, fp, tn, J, H2, e, I2, T, st2, f2, G⟩ := h2
  subst e
  refine lc_block hc L hg ht he I2 T st2 f2 G ?_
  intro D C H3 ys s' hD O fin
  obtain ⟨m, hn⟩ := O.ns
  exact ⟨m, hn, fun h' sb => ⟨.ref D, _, O.gone sb, rfl, fin D hD⟩⟩
theorem ps_lcg {k : Nat} {y : Str} {py spos : Pos} (hc : X.calm = true) (L : LcOk X scope cl own caps js) (hi : PI X target iter wi)
    (hg : ∀ s H C ex, PG (X.blk (own ++ caps) s H scope cl C ex) target g) (ht : ∀ s H C ex, PTs (X.blk (own ++ caps) s H scope cl C ex) ifs tc) (he : ∀ s H C ex, PE (X.blk (own ++ caps) s H scope cl C ex) elt te)
    (hN : X.N.Nodup) (hk : X.N[k]? = some y) (hy : X.env.scope.names.lookup y = some .local)
    (hsw : swapsWith (.ListComp elt [⟨target, iter, ifs, 0⟩] scope pos) (some (.Name y py)) spos.line X.env = pure true := by rfl)
    (hs : ∀ x, foldedSetIterable iter X.env x = pure x := by intro _; rfl) : PS X (.Assign [.Name y py] (.ListComp elt [⟨target, iter, ifs, 0⟩] scope pos) spos) (tAsg (tLCg wi g tc te own.length js) (gName k)) := by
  intro pins s σ H De I h
  rw [exec_Assign_Name_used _ _ _ _ hsw]
  refine wpAny_bind (wpAny_standAt (wpAny_bind ?_))
  show wpAny _ _ (do let _ ← comprehension (.ListComp elt [⟨target, iter, ifs, 0⟩] scope pos) scope X.env _ (newList []) false (eval iter X.env) (some (assign (.Name y py) X.env))) _ _ s
  refine wpAny_bind (wpAny_mono (wpAny_comprehension_free (use := some (assign (.Name y py) X.env)) (Q := fun _ s' => SP X pins De .next s') rfl hs L.clos L.kind L.names
    (thn (hi pins s σ H _ I h) fun v s1 h1 => thn h1 fun itv s2 h2 => ?_)) (fun _ s' hq => wpAny_pure (wpAny_pure hq)) fun _ _ e => e)
  obtain ⟨it, fp, tn, J, H2, e, I2, T, st2, f2, G⟩ := h2
  subst e
  refine lc_block hc L hg ht he I2 T st2 f2 G ?_
  intro D C H3 ys s' hD O fin
  show wpAny _ _ (assign (.Name y py) X.env (.ref D)) _ _ _
  refine wpAny_assign_Name (store_ok2 O.inv hN hk (.inl hy) (show RelV (.ref D) (.ref D) from rfl) (fun s'' I'' sb => ?_) (.inr hy))
  obtain ⟨a, hsb, ha⟩ := sb
  have hne : C ≠ a := by
    rcases ha with rfl | ha
    · exact O.nL
    · exact Ne.symm (O.nc _ _ ha)
  obtain ⟨m, hn⟩ := O.ns
  refine ⟨m, hn.sameBut hsb hne, fun h' sb' => ⟨_, _, ?_, fin D hD⟩⟩
  exact I''.turned (t' := s''.toks) (it := C) (fun b o hb e => (sb'.2 b hb).trans e) O.free O.nL (.inr O.new) O.nc O.np
end
end L2

namespace L2
open PySem PySem.Spec PyProof.Rows

section
variable {X : Cx} {elt iter : Expr} {ifs : List Expr} {scope : Scope} {cl : List (Str × Addr)} {pos : Pos} {caps : List Str} {js : List Nat} {tc : TT} {te : TE} {wi : TI} {x : Str} {px : Pos}
theorem gLC1 {J : It} {cv : St} {Fin : List V → Hp → Prop} {H1 : Hp} (h : ∃ W : Nat → Nat → List V → Hp → Prop, (∃ m, W 0 m [] H1) ∧ ∀ i m ys H, W i m ys H →
    (J.stop i H ∧ Fin ys H) ∨
    (J.go i H ∧ ys.length < sizeLine ∧ ∃ N : List V → Hp → Prop, (∀ ys' H', N ys' H' → ∃ m', m' < m ∧ W (i + 1) m' ys' H') ∧ ∀ x H', J.yld i H x H' →
      tc (some x :: cv) H' fun b H3 => if b = true then te (some x :: cv) H3 fun y H4 => N (ys ++ [y]) H4 else N ys H3)) : gLC J (gName 0) tc te 1 cv Fin H1 := by
  obtain ⟨W, w0, turn⟩ := h
  refine ⟨W, w0, fun i m ys H w => ?_⟩
  rcases turn i m ys H w with ⟨a, b⟩ | ⟨a, b, N, hN, c⟩
  · exact .inl ⟨a, b⟩
  · refine .inr ⟨a, b, N, hN, fun v H' y own ho => ?_⟩
    match own, ho with
    | [τ], _ => exact ⟨⟨[some v], rfl, rfl⟩, c v H' y⟩
def tLC (wi : TI) (tc : TT) (te : TE) (js : List Nat) : TE := tLCg wi (gName 0) tc te 1 js
theorem pe_lc (hc : X.calm = true) (L : LcOk X scope cl [x] caps js) (hi : PI X (.Name x px) iter wi)
    (ht : ∀ s H C ex, PTs (X.blk (x :: caps) s H scope cl C ex) ifs tc) (he : ∀ s H C ex, PE (X.blk (x :: caps) s H scope cl C ex) elt te)
    (hN : (x :: caps).Nodup := by decide +kernel) (hx : (relabel scope X.env).names.lookup x = some .local := by with_unfolding_all rfl)
    (hs : ∀ x, foldedSetIterable iter X.env x = pure x := by intro _; rfl) : PE X (.ListComp elt [⟨.Name x px, iter, ifs, 0⟩] scope pos) (tLC wi tc te js) :=
  pe_lcg (own := [x]) (g := gName 0) hc L hi (fun s H C ex => pg_name (i := 0) hN rfl (.inl hx) (.inr hx)) ht he hs
theorem ps_lc {k : Nat} {y : Str} {py spos : Pos} (hc : X.calm = true) (L : LcOk X scope cl [x] caps js) (hi : PI X (.Name x px) iter wi)
    (ht : ∀ s H C ex, PTs (X.blk (x :: caps) s H scope cl C ex) ifs tc) (he : ∀ s H C ex, PE (X.blk (x :: caps) s H scope cl C ex) elt te)
    (hXN : X.N.Nodup) (hk : X.N[k]? = some y) (hy : X.env.scope.names.lookup y = some .local) (hN : (x :: caps).Nodup := by decide +kernel) (hx : (relabel scope X.env).names.lookup x = some .local := by with_unfolding_all rfl)
    (hsw : swapsWith (.ListComp elt [⟨.Name x px, iter, ifs, 0⟩] scope pos) (some (.Name y py)) spos.line X.env = pure true := by rfl)
    (hs : ∀ x, foldedSetIterable iter X.env x = pure x := by intro _; rfl) : PS X (.Assign [.Name y py] (.ListComp elt [⟨.Name x px, iter, ifs, 0⟩] scope pos) spos) (tAsg (tLC wi tc te js) (gName k)) :=
  ps_lcg (own := [x]) (g := gName 0) hc L hi (fun s H C ex => pg_name (i := 0) hN rfl (.inl hx) (.inr hx)) ht he hXN hk hy hsw hs
theorem lc_list {K : PySem.W.Frag} {a : Addr} {xs : List V} {cv : St} {Fin : List V → Hp → Prop} {H1 : Hp} (Pv : Nat → List V → Hp → Prop) (h0 : Pv 0 [] H1) (hl : ∀ i ys H, i ≤ xs.length → Pv i ys H → SqL K H a xs) (hz : ∀ i ys H, i < xs.length → Pv i ys H → ys.length < sizeLine)
    (hs : ∀ i x ys H, xs[i]? = some x → Pv i ys H → tc (some x :: cv) H fun b H3 => if b = true then te (some x :: cv) H3 fun y H4 => Pv (i + 1) (ys ++ [y]) H4 else Pv (i + 1) ys H3)
    (hd : ∀ ys H, Pv xs.length ys H → Fin ys H) : gLC (Itl K a) (gName 0) tc te 1 cv Fin H1 := by
  refine gLC1 ⟨fun i m ys H => m = xs.length - i ∧ i ≤ xs.length ∧ Pv i ys H, ⟨xs.length, by simp, Nat.zero_le _, h0⟩, ?_⟩
  rintro i m ys H ⟨rfl, hi, p⟩
  have q := hl i ys H hi p
  by_cases hlt : i < xs.length
  · refine .inr ⟨⟨xs, xs[i], q, by simp [hlt]⟩, hz i ys H hlt p, Pv (i + 1), fun ys' H' p' => ⟨xs.length - (i + 1), by omega, rfl, hlt, p'⟩, fun v H' y => ?_⟩
    obtain ⟨e, y⟩ := y
    subst e
    exact hs i v ys _ (y xs q) p
  · have e : i = xs.length := by omega
    subst e
    exact .inl ⟨⟨xs, q, Nat.le_refl _⟩, hd ys H p⟩
theorem lc_range {lo : Int} {n : Nat} {cv : St} {Fin : List V → Hp → Prop} {H1 : Hp} (Pv : Nat → List V → Hp → Prop) (h0 : Pv 0 [] H1) (hz : ∀ i ys H, i < n → Pv i ys H → ys.length < sizeLine)
    (hs : ∀ i ys H, i < n → Pv i ys H → tc (some (.int (lo + i)) :: cv) H fun b H3 => if b = true then te (some (.int (lo + i)) :: cv) H3 fun y H4 => Pv (i + 1) (ys ++ [y]) H4 else Pv (i + 1) ys H3)
    (hd : ∀ ys H, Pv n ys H → Fin ys H) : gLC (Itr lo n) (gName 0) tc te 1 cv Fin H1 := by
  refine gLC1 ⟨fun i m ys H => m = n - i ∧ i ≤ n ∧ Pv i ys H, ⟨n, by simp, Nat.zero_le _, h0⟩, ?_⟩
  rintro i m ys H ⟨rfl, hi, p⟩
  by_cases hlt : i < n
  · refine .inr ⟨hlt, hz i ys H hlt p, Pv (i + 1), fun ys' H' p' => ⟨n - (i + 1), by omega, rfl, hlt, p'⟩, fun v H' y => ?_⟩
    obtain ⟨e, y⟩ := y
    subst e y
    exact hs i ys _ hlt p
  · have e : i = n := by omega
    subst e
    exact .inl ⟨Nat.le_refl _, hd ys H p⟩
end

theorem yes_go {A B : Hp → Prop} {σ : St} {H : Hp} (h : A H) : tYes σ H (fun b H3 => if b = true then A H3 else B H3) := by
  show if true = true then A H else B H
  rw [if_pos rfl]
  exact h
section
variable {X : Cx} {tg : Expr}
end
section
variable {X : Cx}
theorem op_mul_str : OpR X (binaryOp .Mult) (fun x y H Q => ∃ z n, x = .str z ∧ y = .int n ∧ MulOk z n ∧ Q (.str (Txt.mul z n)) H) := by
  intro pins s σ H x y v u Q I rx ry h
  obtain ⟨z, n, rfl, rfl, hm, q⟩ := h
  obtain ⟨t, rfl⟩ := rx
  obtain ⟨t', rfl⟩ := ry
  exact SB.mul hm fun t'' k => ⟨.str _, H, I.tok k, ⟨t'', rfl⟩, q⟩
theorem strsAre_of {ys : List Str} : ∀ {us : List Value}, Vals (ys.map V.str) us → StrsAre us ys := by
  induction ys with
  | nil => intro us h; cases h; exact .nil
  | cons y ys ih =>
    intro us h
    cases h with
    | cons r t =>
      obtain ⟨tk, rfl⟩ := r
      exact .cons y tk (ih t)
theorem mt_join : MtR X "str.join" (fun x xs H Q => ∃ sep a ys, x = .str sep ∧ xs = [.ref a] ∧ SqL X.K H a (ys.map V.str) ∧ sep.length ≤ 16 ∧ (ys.map (·.length)).sum + ys.length ≤ 1048576 ∧ Q (.str (Txt.join sep ys)) H) := by
  intro pins s σ H x xs v us Q I rx r h
  obtain ⟨sep, a, ys, rfl, rfl, hS, h1, h2, q⟩ := h
  obtain ⟨t, rfl⟩ := rx
  obtain ⟨w', rfl, rfl⟩ := vals1 r
  obtain ⟨its, rv, p, hz⟩ := I.list hS
  exact join_listW p.isList (strsAre_of (by simpa using rv)) h1 h2 fun t' k => ⟨.str _, H, I.tok k, ⟨t', rfl⟩, q⟩
theorem call_int_text : CallR X (.type "int") (fun xs H Q => ∃ x n, xs = [.str x] ∧ PySem.intText? x = some n ∧ x.length ≤ 640 ∧ Q (.int n) H) := by
  intro pins s σ H xs us Q I r h
  obtain ⟨x, n, rfl, hn, hl, q⟩ := h
  obtain ⟨u, rfl, t, rfl⟩ := vals1 r
  exact PySem.W.KIN.call_text hn hl ⟨.int _, H, I.tok _, ⟨_, rfl⟩, q⟩
end
end L2

namespace Tl
open PySem PySem.Builtin PySem.Builtin.Str L2

abbrev tx (l : List Nat) : Str := ⟨l.toArray⟩
theorem tx_of (s : Str) : s = tx s.cps.toList := by cases s; rfl
theorem tx_app (a b : List Nat) : tx a ++ tx b = tx (a ++ b) := by
  show (⟨a.toArray ++ b.toArray⟩ : Str) = ⟨(a ++ b).toArray⟩
  rw [List.append_toArray]
theorem tx_len (l : List Nat) : (tx l).length = l.length := by show l.toArray.size = _; simp
theorem tx_inj {a b : List Nat} (h : tx a = tx b) : a = b := by
  have e : a.toArray = b.toArray := congrArg Str.cps h
  have e2 := congrArg Array.toList e
  simpa using e2
def cutL {α : Type} (l : List α) (lo hi : Option Int) : List α := (l.drop (HT.sIx l.length 0 lo)).take (HT.sIx l.length l.length hi - HT.sIx l.length 0 lo)
theorem cut_to {α : Type} (l : List α) (j : Nat) : cutL l none (some (j : Int)) = l.take j := by
  unfold cutL
  rw [HT.sIx_none, HT.sIx_nat, List.drop_zero, Nat.sub_zero]
  by_cases h : j ≤ l.length
  · rw [Nat.min_eq_left h]
  · rw [Nat.min_eq_right (by omega), List.take_of_length_le (Nat.le_refl _), List.take_of_length_le (by omega)]
def repL {α : Type} (l : List α) (n : Nat) : List α := (List.replicate n l).flatten
theorem repL_succ {α : Type} (l : List α) (n : Nat) : repL l (n + 1) = l ++ repL l n := by unfold repL; rw [List.replicate_succ, List.flatten_cons]
theorem repL_len {α : Type} (l : List α) : ∀ n : Nat, (repL l n).length = n * l.length
  | 0 => by simp [repL]
  | n + 1 => by rw [repL_succ, List.length_append, repL_len l n, Nat.add_mul]; omega
theorem fold_rep (l : List Nat) : ∀ (n : Nat) (acc : List Nat), (List.replicate n l.toArray).foldl (· ++ ·) acc.toArray = (acc ++ repL l n).toArray
  | 0, acc => by simp [repL]
  | n + 1, acc => by
    rw [List.replicate_succ, List.foldl_cons, List.append_toArray, fold_rep l n, repL_succ, List.append_assoc]
theorem mul_tx (l : List Nat) (n : Nat) : Txt.mul (tx l) (n : Int) = tx (repL l n) := by
  unfold Txt.mul
  by_cases h1 : (n : Int) < 1
  · have e : n = 0 := by omega
    subst e
    rw [if_pos h1]; rfl
  · rw [if_neg h1]
    by_cases h2 : ((n : Int) == 1 || (tx l).length == 0) = true
    · rw [if_pos h2]
      rcases Bool.or_eq_true _ _ ▸ h2 with h | h
      · have e : n = 1 := by have := eq_of_beq h; omega
        subst e
        rw [repL_succ]; simp [repL]
      · have e : l = [] := by
          have := eq_of_beq h
          rw [tx_len] at this
          exact List.eq_nil_of_length_eq_zero this
        subst e
        have : ∀ k, repL ([] : List Nat) k = [] := fun k => by
          induction k with
          | zero => rfl
          | succ k ih => rw [repL_succ, ih]; rfl
        rw [this]
    · rw [if_neg h2]
      have := fold_rep l n []
      have e : ((n : Int)).toNat = n := by omega
      rw [e]
      show (⟨(List.replicate n l.toArray).foldl (· ++ ·) #[]⟩ : Str) = _
      rw [show (#[] : Array Nat) = ([] : List Nat).toArray from rfl, this, List.nil_append]
theorem mulOk_small {l : List Nat} {n : Nat} (h1 : n ≤ 100000) (h2 : l.length ≤ 100) : MulOk (tx l) (n : Int) := by
  have hb : l.length * n ≤ 10000000 := by
    have := Nat.mul_le_mul h2 h1
    omega
  refine ⟨?_, fun _ _ => ?_, fun _ _ => ?_⟩
  · rw [decide_eq_false (by omega), decide_eq_false (by omega)]; rfl
  · rw [tx_len]
    have : (100 : Int) ≤ (2 ^ 63 - 1) / (n : Int) := by
      by_cases e : n = 0
      · omega
      · exact (Int.le_ediv_iff_mul_le (by omega)).mpr (by omega)
    omega
  · rw [tx_len]
    unfold tooLong
    have e : ((n : Int)).toNat = n := by omega
    rw [e]
    exact decide_eq_false (by show ¬ (_ > 16777216); omega)

def joinL (sep : List Nat) : List (List Nat) → List Nat
  | [] => []
  | [x] => x
  | x :: y :: r => x ++ sep ++ joinL sep (y :: r)
theorem join_tx (sep : List Nat) : ∀ ps : List (List Nat), Txt.join (tx sep) (ps.map tx) = tx (joinL sep ps) := by
  have go : ∀ ps : List (List Nat), Str.join (tx sep) (ps.map tx) = tx (joinL sep ps) := by
    intro ps
    induction ps with
    | nil => rfl
    | cons x r ih =>
      cases r with
      | nil => rfl
      | cons y r =>
        show tx x ++ tx sep ++ Str.join (tx sep) (tx y :: r.map tx) = _
        rw [show Str.join (tx sep) (tx y :: r.map tx) = tx (joinL sep (y :: r)) from ih, tx_app, tx_app]
        rfl
  intro ps
  show glued (tx sep) (ps.map tx) = _
  rw [StrLaws.glued_eq_join]
  exact go ps
end Tl

namespace L2
open PySem PySem.Spec PyProof.Rows

def isiV (K : PySem.W.Frag) (T : String) (x : V) (H : Hp) (b : Bool) : Prop := match x with
  | .non => b = false
  | .bl _ => b = (T == "bool" || T == "int")
  | .int _ => b = (T == "int")
  | .str _ => b = (T == "str")
  | .ref p => ((∃ xs, SqL K H p xs) ∧ b = (T == "list")) ∨ ((∃ xs, SqT K H p xs) ∧ b = (T == "tuple"))
  | _ => False
section
variable {X : Cx}
theorem call_isi : CallR X (.builtin "isinstance") (fun xs H Q => ∃ x T b, xs = [x, .ty T] ∧ (T = "bool" ∨ T = "int" ∨ T = "str" ∨ T = "tuple" ∨ T = "list") ∧ isiV X.K T x H b ∧ Q (.bl b) H) := by
  intro pins s σ H xs us Q I r h
  obtain ⟨x, T, b, rfl, hT, hv, q⟩ := h
  obtain ⟨u, w', rfl, r1, r2⟩ := vals2 r
  cases r2
  have no : b = false → EP X pins σ Q (.bool false) { s with toks := s.toks + 1 } := fun e => ⟨.bl false, H, I.tok _, rfl, e ▸ q⟩
  have yes : b = true → EP X pins σ Q (.bool true) s := fun e => ⟨.bl true, H, I, rfl, e ▸ q⟩
  cases x with
  | non =>
    cases r1
    have hv' : b = false := hv
    rcases hT with rfl | rfl | rfl | rfl | rfl
    · exact IsiPair.NoneType_bool (no hv')
    · exact IsiPair.NoneType_int (no hv')
    · exact IsiPair.NoneType_str (no hv')
    · exact IsiPair.NoneType_tuple (no hv')
    · exact IsiPair.NoneType_list (no hv')
  | bl c =>
    cases r1
    rcases hT with rfl | rfl | rfl | rfl | rfl
    · exact IsiPair.bool_bool (yes (hv.trans (by decide)))
    · exact IsiPair.bool_int (yes (hv.trans (by decide)))
    · exact IsiPair.bool_str (no (hv.trans (by decide)))
    · exact IsiPair.bool_tuple (no (hv.trans (by decide)))
    · exact IsiPair.bool_list (no (hv.trans (by decide)))
  | int c =>
    obtain ⟨t, rfl⟩ := r1
    rcases hT with rfl | rfl | rfl | rfl | rfl
    · exact IsiPair.int_bool (no (hv.trans (by decide)))
    · exact IsiPair.int_int (yes (hv.trans (by decide)))
    · exact IsiPair.int_str (no (hv.trans (by decide)))
    · exact IsiPair.int_tuple (no (hv.trans (by decide)))
    · exact IsiPair.int_list (no (hv.trans (by decide)))
  | str c =>
    obtain ⟨t, rfl⟩ := r1
    rcases hT with rfl | rfl | rfl | rfl | rfl
    · exact IsiPair.str_bool (no (hv.trans (by decide)))
    · exact IsiPair.str_int (no (hv.trans (by decide)))
    · exact IsiPair.str_str (yes (hv.trans (by decide)))
    · exact IsiPair.str_tuple (no (hv.trans (by decide)))
    · exact IsiPair.str_list (no (hv.trans (by decide)))
  | ref p =>
    cases r1
    rcases hv with ⟨⟨xs, hq⟩, hb⟩ | ⟨⟨xs, hq⟩, hb⟩
    · obtain ⟨its, _, p', _⟩ := I.list hq
      obtain ⟨o, n, e, c, _⟩ := p'
      rcases hT with rfl | rfl | rfl | rfl | rfl
      · exact IsiPair.list_bool e c (no (hb.trans (by decide)))
      · exact IsiPair.list_int e c (no (hb.trans (by decide)))
      · exact IsiPair.list_str e c (no (hb.trans (by decide)))
      · exact IsiPair.list_tuple e c (no (hb.trans (by decide)))
      · exact IsiPair.list_list e c (yes (hb.trans (by decide)))
    · obtain ⟨its, _, p', _⟩ := I.tuple hq
      obtain ⟨o, e, c, _⟩ := p'
      rcases hT with rfl | rfl | rfl | rfl | rfl
      · exact IsiPair.tuple_bool e c (no (hb.trans (by decide)))
      · exact IsiPair.tuple_int e c (no (hb.trans (by decide)))
      · exact IsiPair.tuple_str e c (no (hb.trans (by decide)))
      · exact IsiPair.tuple_tuple e c (yes (hb.trans (by decide)))
      · exact IsiPair.tuple_list e c (no (hb.trans (by decide)))
  | byt c => exact hv.elim
  | flt c => exact hv.elim
  | ty c => exact hv.elim
end

section
variable {X : Cx}
end
structure DefOk (K : PySem.W.Frag) (mg : Str → Option Value) (x : Str) (st : Stmt) (ps : List Str) (f : Addr) (fd : FuncData) : Prop where
  fn : Fun K x x st f fd
  bd : Binds K fd ps []
  mg : mg x = some (.ref f)
  ba : ∀ us : List Value, us.length = ps.length → bindArgs fd ⟨us, []⟩ = pure (ps.zip us)
section
variable {X : Cx} {x : Str} {st : Stmt} {ps : List Str} {f : Addr} {fd : FuncData} {k : Nat} {sp : Sp} {e : Expr} {es : List Expr} {t : TA} {p pos : Pos}
theorem pe_callD (D : DefOk X.K X.mg x st ps f fd) (G : FnOk X.prog X.w X.K X.mg X.base CX0 k f fd ps sp) (hr : Room k X.A) (hg : Gl X x) (ha : PA X (e :: es) t) (hd : (x == ("__debug__" : Str)) = false := by decide)
    (he : starEach (e :: es) X.env = (false, eval e X.env) :: starEach es X.env := by rfl) (hpl : (backTo pos (starEach es X.env)).any (·.1) = false := by rfl) : PE X (.Call (.Name x p) (e :: es) [] pos) (tCall sp [] E0 t) := pe_call G hr hg D.mg D.fn.kp D.bd .nil pass0 ha hd he hpl
theorem defok_mk {K : PySem.W.Frag} {h : Heap} {mg : Str → Option Value} (KX : K.In h) (G : h.Ns mainGlobals mg) {od an : Option Addr} {sl : Array (Option Value)} {oc kV dc pm cd ct : Value} (a : PySem.W.nsIn K mainGlobals x = some (some (.ref f)))
    (l : K.lookup f = some ⟨oc, od, .func (PySem.W.fnOf x x (defArgs st) (defBody st) (defScope st) .none kV dc pm an cd ct), sl⟩) (c : PySem.W.codeIn K cd x = true) (k : PySem.W.keepIn K (.ref f) = true)
    (b : ∀ (kV doc pm : Value) (an : Option Addr) (cdv ct : Value) (us : List Value), us.length = ps.length → bindArgs (PySem.W.fnOf x x (defArgs st) (defBody st) (defScope st) .none kV doc pm an cdv ct) ⟨us, []⟩ = pure (ps.zip us)) :
    DefOk K mg x st ps f (PySem.W.fnOf x x (defArgs st) (defBody st) (defScope st) .none kV dc pm an cd ct) :=
  ⟨fun_mk l c k, (fun_mk l c k).binds b, PySem.W.mg_of KX G a, fun us hl => b _ _ _ _ _ _ us hl⟩
end
end L2

namespace L2
open PySem PySem.Spec PyProof.Rows

theorem cut_seq {t u : TS} {D : Ends} {σ : St} {H : Hp} (Mid : St → Hp → Prop) (h2 : ∀ σ' H', Mid σ' H' → u D σ' H') (h1 : (∀ σ' H', Mid σ' H' → u D σ' H') → t { D with nx := u D } σ H) : tSeq t u D σ H := h1 h2

def eqVs : List V → List V → Bool
  | [], [] => true
  | a :: r, b :: s => eqV a b && eqVs r s
  | _, _ => false
theorem eqVs_len : ∀ {xs ys : List V}, xs.length ≠ ys.length → eqVs xs ys = false
  | [], [], h => absurd rfl h
  | [], _ :: _, _ => rfl
  | _ :: _, [], _ => rfl
  | a :: r, b :: s, h => by
    show (eqV a b && eqVs r s) = false
    rw [eqVs_len (xs := r) (ys := s) (fun e => h (by rw [List.length_cons, List.length_cons, e])), Bool.and_false]
theorem eqVs_range : ∀ {xs ys : List V}, xs.length = ys.length → (List.range xs.length).all (fun j => eqV ((xs[j]?).getD .non) ((ys[j]?).getD .non)) = eqVs xs ys
  | [], [], _ => rfl
  | [], _ :: _, h => by simp at h
  | _ :: _, [], h => by simp at h
  | a :: r, b :: s, h => by
    have ih := eqVs_range (xs := r) (ys := s) (by simpa using h)
    rw [List.length_cons, List.range_succ_eq_map, List.all_cons, List.all_map]
    show (eqV a b && _) = (eqV a b && eqVs r s)
    rw [← ih]
    rfl
theorem eqV_refl : ∀ {x : V}, flatV x = true → eqV x x = true := by
  intro x f
  cases x with
  | non => rfl
  | bl b => show (b == b) = true; simp
  | int i => show (i == i) = true; simp
  | str s => show (s == s) = true; simp
  | _ => exact absurd (show false = true from f) Bool.false_ne_true
section
variable {X : Cx}
theorem flat_get {xs : List V} (f : xs.all flatV = true) {j : Nat} {x : V} (h : xs[j]? = some x) : flatV x = true := List.all_eq_true.mp f x (List.mem_of_getElem? h)
theorem items_eq {A : Around} {s : Shared} {xs ys : List V} {its its2 : List Value} (r : Vals xs its) (r2 : Vals ys its2) (fx : xs.all flatV = true) (fy : ys.all flatV = true) (j : Nat) (h1 : j < its.toArray.size) (h2 : j < its2.toArray.size) :
    SeqAt.EqAt A s its.toArray[j] its2.toArray[j] (eqV ((xs[j]?).getD .non) ((ys[j]?).getD .non)) := by
  have l1 := r.length
  have l2 := r2.length
  have h1' : j < its.length := by simpa using h1
  have h2' : j < its2.length := by simpa using h2
  have e1 : xs[j]? = some xs[j] := List.getElem?_eq_getElem (by omega)
  have e2 : ys[j]? = some ys[j] := List.getElem?_eq_getElem (by omega)
  obtain ⟨u, hu, ru⟩ := r.get e1
  obtain ⟨v, hv, rv⟩ := r2.get e2
  have eu : its.toArray[j] = u := by
    have : its[j]? = some its[j] := List.getElem?_eq_getElem h1'
    rw [hu] at this
    simpa using this.symm
  have ev : its2.toArray[j] = v := by
    have : its2[j]? = some its2[j] := List.getElem?_eq_getElem h2'
    rw [hv] at this
    simpa using this.symm
  rw [eu, ev, e1, e2]
  exact eqAt_V ru rv (flat_get fx e1) (flat_get fy e2)
def rEqL (K : PySem.W.Frag) (neg : Bool) : R2 := fun x y H Q => ∃ a b xs ys, x = .ref a ∧ y = .ref b ∧ SqL K H a xs ∧ SqL K H b ys ∧ xs.all flatV = true ∧ ys.all flatV = true ∧ Q (.bl (if neg then !eqVs xs ys else eqVs xs ys)) H
theorem op_neL (hu : X.A.units < cLine) : OpR X (compareOp .NotEq) (rEqL X.K true) := by
  intro pins s σ H x y v u Q I rx ry h
  obtain ⟨a, b, xs, ys, rfl, rfl, ha, hb, fx, fy, q⟩ := h
  cases rx
  cases ry
  obtain ⟨its, r, p, z⟩ := I.list ha
  obtain ⟨its2, r2, p2, z2⟩ := I.list hb
  have l1 := r.length
  have l2 := r2.length
  by_cases hl : xs.length = ys.length
  · refine SeqAt.RcNeAt.lists (e := fun j => eqV ((xs[j]?).getD .non) ((ys[j]?).getD .non)) p.isList p2.isList (by simp; omega) hu (fun j h1 h2 => items_eq r r2 fx fy j h1 h2) _ _ _ _ ⟨.bl _, H, I, rfl, ?_⟩
    have e : its.toArray.size = xs.length := by simp; omega
    rw [e, eqVs_range hl]
    exact q
  · refine SeqAt.RcNeAt.lists_lengths p.isList p2.isList (by simp; omega) hu _ _ _ _ ⟨.bl true, H, I, rfl, ?_⟩
    have q' : Q (.bl (!eqVs xs ys)) H := q
    rw [eqVs_len hl] at q'
    exact q'

theorem call_all (hc : X.calm = true) : CallR X (.builtin "all") (fun xs H Q => ∃ (l : Addr) (bs : List Bool), xs = [.ref l] ∧ SqL X.K H l (bs.map V.bl) ∧ Q (.bl (bs.all id)) H) := by
  intro pins s σ H xs us Q I r h
  obtain ⟨l, bs, rfl, hl, q⟩ := h
  obtain ⟨u, rfl, ru⟩ := vals1 r
  cases ru
  obtain ⟨its, rv, p, z⟩ := I.list hl
  have hlt : l < s.heap.objs.size := by obtain ⟨_, _, e, _⟩ := p; exact Heap.lt_size e
  have len := rv.length
  refine call_all_walk (wpAny_pyIter_list p.isList ?_)
  refine ⟨s.heap.objs.size, [s.heap.objs.size, l], [s.heap.objs.size], its.toArray.size, _, _, fun i => (bs[i]?).getD true, rfl, Walks.list (A := X.A.in1) (I.ok.hd hc) _ l (Nat.ne_of_lt hlt) its.toArray,
    ⟨⟨_, Heap.get?_push_size _ rfl, rfl, rfl⟩, p.isList.push _⟩, fun i v s' Q' E' hP hQ => ?_, fun h' tk hk => ?_⟩
  · have hi : its[i]? = some v := by simpa using hP
    have hlt2 : i < bs.length := by
      have := (List.getElem?_eq_some_iff.mp hi).1
      rw [List.length_map] at len
      omega
    have eb : (bs.map V.bl)[i]? = some (V.bl bs[i]) := by rw [List.getElem?_map, List.getElem?_eq_getElem hlt2]; rfl
    obtain ⟨w', hw, rw'⟩ := rv.get eb
    rw [hi] at hw
    cases hw
    cases rw'
    have e2 : (bs[i]?).getD true = bs[i] := by rw [List.getElem?_eq_getElem hlt2]; rfl
    have hQ2 : Q' ((bs[i]?).getD true) s' := hQ
    rw [e2] at hQ2
    exact wpAny_truthy_bool hQ2
  · have e : ((List.range its.toArray.size).all fun i => (bs[i]?).getD true) = bs.all id := by
      have : its.toArray.size = bs.length := by rw [List.length_map] at len; simp; omega
      rw [this]
      exact LSm.range_all bs
    rw [e]
    exact ⟨.bl _, H, I.kept fun b x e => hk b x (fun hm => by rw [List.mem_singleton.mp hm] at e; exact Nat.lt_irrefl _ (Heap.lt_size e)) (Heap.get?_push_of_some _ e), rfl, q⟩

end

inductive DD where
  | bl (b : Bool)
  | int (i : Int)
  | str (s : Str)
  | tup (l : List DD)
  | lst (l : List DD)
mutual
def Rep (K : PySem.W.Frag) (H : Hp) : DD → V → Prop
  | .bl b, v => v = .bl b
  | .int i, v => v = .int i
  | .str s, v => v = .str s
  | .tup l, v => ∃ a xs, v = .ref a ∧ SqT K H a xs ∧ l.length ≤ 1000 ∧ Reps K H l xs
  | .lst l, v => ∃ a xs, v = .ref a ∧ SqL K H a xs ∧ l.length ≤ 1000 ∧ Reps K H l xs
def Reps (K : PySem.W.Frag) (H : Hp) : List DD → List V → Prop
  | [], xs => xs = []
  | d :: l, xs => ∃ x r, xs = x :: r ∧ Rep K H d x ∧ Reps K H l r
end
theorem Reps.len {K : PySem.W.Frag} {H : Hp} : ∀ {l : List DD} {xs : List V}, Reps K H l xs → xs.length = l.length
  | [], xs, h => by
    unfold Reps at h
    rw [h]; rfl
  | d :: l, xs, h => by
    unfold Reps at h
    obtain ⟨x, r, rfl, _, h⟩ := h
    rw [List.length_cons, List.length_cons, h.len]
theorem Reps.get {K : PySem.W.Frag} {H : Hp} : ∀ {l : List DD} {xs : List V} {i : Nat} {d : DD}, Reps K H l xs → l[i]? = some d → ∃ x, xs[i]? = some x ∧ Rep K H d x
  | [], _, _, _, _, e => by simp at e
  | d :: l, xs, 0, d', h, e => by
    unfold Reps at h
    obtain ⟨x, r, rfl, hx, h⟩ := h
    have : d = d' := by simpa using e
    subst this
    exact ⟨x, rfl, hx⟩
  | d :: l, xs, i + 1, d', h, e => by
    unfold Reps at h
    obtain ⟨x, r, rfl, hx, h⟩ := h
    obtain ⟨y, ey, hy⟩ := h.get (i := i) (by simpa using e)
    exact ⟨y, by simpa using ey, hy⟩
theorem Reps.strs {K : PySem.W.Frag} {H : Hp} : ∀ (l : List Str), Reps K H (l.map DD.str) (l.map V.str)
  | [] => by unfold Reps; rfl
  | s :: r => by
    show Reps K H (DD.str s :: r.map DD.str) (V.str s :: r.map V.str)
    unfold Reps
    exact ⟨_, _, rfl, by unfold Rep; rfl, Reps.strs r⟩
end L2

namespace L2
open PySem PySem.Spec PyProof.Rows

section
variable {X : Cx} {o i : Expr} {pos : Pos} {td ty : TE}
end
end L2

set_option maxHeartbeats 4000000
namespace L2
open PySem PySem.Spec PyProof.Rows

section
variable {P : Program} {w : World} {K : PySem.W.Frag} {mg : Str → Option Value} {base : Heap} {N : List Str} {qual : Str} {scope : Scope} {f : Addr} {cd : Value} {A : Around} {outer : List Env} {s : Shared} {H : Hp} {E : XK}
end

section
variable {X : Cx} {E : XK} {c : Str} {C : Addr} {e : Expr} {es : List Expr} {t : TA} {np cpos pos : Pos}
end
theorem FnOk.calm {P : Program} {w : World} {K : PySem.W.Frag} {mg : Str → Option Value} {base : Heap} {k : Nat} {f : Addr} {fd : FuncData} {ps : List Str} {sp : Sp} (F : FnOk P w K mg base CX0 k f fd ps sp) (CX : CXT) : FnOk P w K mg base CX k f fd ps sp :=
  ⟨F.len, fun A outer s H args us vs Q E hr e0 hb r hs => codeAny_mono (F.run A outer s H args us vs Q E hr e0 hb r hs) fun r s' h => by
    cases r with
    | error e => exact False.elim h
    | ok fl => cases fl <;> exact h⟩
section
variable {X : Cx} {k : Nat} {f T : Addr} {fd : FuncData} {ps : List Str} {sp : Sp} {fx c : Str} {st : Stmt} {e : Expr} {es : List Expr} {t : TA} {b₀ : Stmt} {suite : List Stmt} {th : TS} {np pf cpos apos hpos pos : Pos}
end
end L2

set_option maxHeartbeats 4000000
namespace L2
open PySem PySem.Spec PyProof.Rows Tl

section
variable {X : Cx}
end
end L2

set_option maxHeartbeats 4000000
namespace L2
open PySem PySem.Spec PyProof.Rows Tl

theorem Inv.track {X : Cx} {pins : List (Addr × Obj)} {σ : St} {H : Hp} {s : Shared} {D : Addr} {o : HO} (I : Inv X pins σ H s) (hn : H D = none) (hnew : X.s₀.heap.objs.size ≤ D) (hL : D ≠ X.env.locals) (hc : ∀ x c, X.env.cells.lookup x = some c → c ≠ D) (hp : ∀ p ∈ X.pn ++ pins, p.1 ≠ D)
    (ok : ObjOk X.prog X.w (upd H D o) s.heap D o) : Inv X pins σ (upd H D o) s := by
  have ne : ∀ b u, H b = some u → b ≠ D := fun b u q => ne_of_none q hn
  refine ⟨I.ok, I.os, I.bare, ⟨I.base.keep, I.base.slot, fun b o q nn hx => ?_, I.base.there, fun b xs q => ?_, fun b o u q => ?_, fun b ps q => ?_⟩, I.loc, I.cell, ?_, fun x c q => ?_, fun p hq => ?_, fun b u q => ?_, I.len⟩
  · rw [upd_ne (Nat.ne_of_lt (Nat.lt_of_lt_of_le (Heap.lt_size q) hnew))]; exact I.base.free b o q nn hx
  · have z := I.base.tups b xs q
    rw [upd_ne (ne b _ z)]; exact z
  · have z := I.base.frzs b o u q
    rw [upd_ne (ne b _ z)]; exact z
  · obtain ⟨more, z⟩ := I.base.tbls b ps q
    exact ⟨more, by rw [upd_ne (ne b _ z)]; exact z⟩
  · rw [upd_ne (Ne.symm hL)]; exact I.free
  · rw [upd_ne (hc x c q)]; exact I.freeC x c q
  · obtain ⟨a1, a2, a3⟩ := I.pin p hq
    exact ⟨a1, by rw [upd_ne (hp p hq)]; exact a2, a3⟩
  · by_cases hb : b = D
    · subst hb
      rw [upd_same] at q; cases q
      exact ok
    · rw [upd_ne hb] at q
      exact (I.hok b u q).stay (fun c v _ r => r) (fun c r => by rw [upd_ne (ne c _ r)]; exact r) fun c xs r => by rw [upd_ne (ne c _ r)]; exact r
def Ite (K : PySem.W.Frag) (a : Addr) : It :=
  ⟨fun i H => ∃ xs x, SqL K H a xs ∧ xs[i]? = some x, fun i H x H' => ∃ p, H p = none ∧ x = .ref p ∧ ∀ xs y, SqL K H a xs → xs[i]? = some y → H' = upd H p (.tup [.int (i : Int), y]), fun i H => ∃ xs, SqL K H a xs ∧ xs.length ≤ i⟩
theorem turn_enum {P : Program} {w : World} {K : PySem.W.Frag} {elts : List Expr} {k1} {tp : Pos} (a e it : Addr) (hei : e ≠ it) : Turn P w K (.Tuple elts k1 tp) (Ite K a) [e, it] e (fun i h => (∃ old, IsEnum h e it (i : Nat) old) ∧ h.IsListIter it a i) where
  mem := by simp
  obj := fun i h st b hb => by
    have hb' : b = e ∨ b = it := by simpa using hb
    rcases hb' with rfl | rfl
    · obtain ⟨⟨old, h1⟩, _⟩ := st
      exact ⟨_, h1, fun v z => by cases z⟩
    · obtain ⟨_, o, h1, c, d⟩ := st
      exact ⟨o, h1, fun v z => by rw [d] at z; cases z⟩
  keep := fun i h h' st k => ⟨let ⟨old, h1⟩ := st.1; ⟨old, k e (by simp) _ h1⟩, st.2.at fun o h1 => k it (by simp) o h1⟩
  item := by
    intro X hP hw hK hc i pins s σ H E I hf st hg
    subst hP hw hK
    obtain ⟨xs, x, hq, hx⟩ := hg
    obtain ⟨its, rv, p, hz⟩ := I.list hq
    obtain ⟨u, hu, ru⟩ := rv.get hx
    obtain ⟨f0, f1, f2, f3, f4, f5⟩ := hf e (by simp)
    obtain ⟨g0, g1, g2, g3, g4, g5⟩ := hf it (by simp)
    obtain ⟨⟨old, he⟩, hit⟩ := st
    refine wpAny_pyNext_enum_item he hit p.isList (x := u) (by simpa using hu) hei fun h' heo hit' hT hz' hk => ?_
    have kk : ∀ b o, b ∉ [e, it] → s.heap.get? b = some o → h'.get? b = some o := fun b o hb q => hk b o (fun z => hb (by simp [z])) (fun z => hb (by simp [z])) q
    have nit : ∀ b v, H b = some v → b ∉ [e, it] := fun b v q z => by
      have z' : b = e ∨ b = it := by simpa using z
      rcases z' with rfl | rfl
      · rw [f0] at q; cases q
      · rw [g0] at q; cases q
    have I1 : Inv X pins σ H { s with heap := h', toks := s.toks + 1 } := by
      refine I.step (g' := s.gens) (d' := s.drawn) (ch := [e, it]) (fun b hb => ?_) (fun b o _ _ hb q _ => kk b o hb q) (fun b o _ _ hb q _ => ⟨o.slots, kk b o hb q⟩) (fun _ _ _ _ n => n)
        (fun b o hb q => ⟨o, kk b o hb q⟩) (fun _ _ q => q) (fun _ _ _ q => q) (fun b ps q => ⟨#[], by rw [q]; simp⟩) (fun m hm => ?_) (fun b v q => ?_) I.bare
      · have z' : b = e ∨ b = it := by simpa using hb
        rcases z' with rfl | rfl
        · exact ⟨f3, f1, f4, f5⟩
        · exact ⟨g3, g1, g4, g5⟩
      · obtain ⟨o, es, ep, ho, r⟩ := hm
        exact ⟨o, es, ep, kk _ o (fun z => by
          have z' : X.env.locals = e ∨ X.env.locals = it := by simpa using z
          rcases z' with z' | z'
          · exact f1 z'.symm
          · exact g1 z'.symm) ho, r⟩
      · refine (I.hok b v q).stay (fun c o hc r => kk c o ?_ r) (fun _ r => r) fun _ _ r => r
        rcases hc with rfl | hc
        · exact nit _ _ q
        · exact nit _ _ hc
    have hsz : s.heap.objs.size < h'.objs.size := by rw [hz']; exact Nat.lt_succ_self _
    have hTn : H s.heap.objs.size = none := I.fresh
    have elt : e < s.heap.objs.size := Heap.lt_size he
    have I2 : Inv X pins σ (upd H s.heap.objs.size (.tup [.int (i : Int), x])) { s with heap := h', toks := s.toks + 1 } := by
      refine I1.track hTn I.sz (Nat.ne_of_gt I.lt) (fun y c q => ?_) (fun p hp => ?_) ⟨by show 2 ≤ sizeLine; decide, [.int i s.toks, u], .cons ⟨_, rfl⟩ (.cons ru .nil), ⟨_, hT, rfl, _, rfl⟩⟩
      · obtain ⟨v, q2⟩ := I.cell y c q
        exact Nat.ne_of_lt q2.lt
      · exact Nat.ne_of_lt (Heap.lt_size (I.pin p hp).1)
    refine ⟨_, rfl, wpAny_letOwnedTupleGo_enum (s := { s with heap := h', toks := s.toks + 1 }) heo fun h'' he'' hs'' => ?_⟩
    have I3 : Inv X pins σ (upd H s.heap.objs.size (.tup [.int (i : Int), x])) { s with heap := h'', toks := s.toks + 1 } := Inv.turned (s := { s with heap := h', toks := s.toks + 1 }) (h' := h'') (t' := s.toks + 1) (it := e) I2 (fun b o hb q => (hs''.2 b hb).trans q) (by rw [upd_ne (Nat.ne_of_lt elt)]; exact f0) f1 f3 f4 f5
    refine ⟨.ref s.heap.objs.size, _, I3, rfl, ⟨_, hTn, rfl, fun ys y hy hy2 => ?_⟩, ⟨⟨_, he''⟩, ?_⟩, fun b hb => ?_⟩
    · rw [I.list_inj hy hq, hx] at hy2
      cases hy2
      rfl
    · exact hit'.at fun o h1 => (hs''.2 it (Ne.symm hei)).trans h1
    · have z' : b = e ∨ b = it := by simpa using hb
      rcases z' with rfl | rfl
      · rw [upd_ne (Nat.ne_of_lt elt)]; exact f0
      · have ilt : b < s.heap.objs.size := by
          obtain ⟨o, h1, _⟩ := hit
          exact Heap.lt_size h1
        rw [upd_ne (Nat.ne_of_lt ilt)]; exact g0
  done := by
    intro X hP hw hK hc i pins s σ H E I hf st hg
    subst hP hw hK
    obtain ⟨xs, hq, hx⟩ := hg
    obtain ⟨its, rv, p, hz⟩ := I.list hq
    obtain ⟨g0, g1, g2, g3, g4, g5⟩ := hf it (by simp)
    obtain ⟨⟨old, he⟩, hit⟩ := st
    have hl := rv.length
    exact wpAny_pyNext_enum_end (I.ok.hd hc) he hit p.isList (by simp; omega) fun h' eb => ⟨rfl, I.turned (t' := s.toks) (fun b o hb e => eb b o hb e) g0 g1 g3 g4 g5⟩
  self := fun _ _ _ _ _ st h => by
    obtain ⟨⟨old, he⟩, _⟩ := st
    exact wpAny_pyIter_enum he h
section
variable {X : Cx} {elts : List Expr} {k1 : Nat} {tp : Pos}
def iEnum (K : PySem.W.Frag) (tl : TE) : TI := fun σ H R => tl σ H fun x H1 => ∃ a, x = .ref a ∧ (∃ xs, SqL K H1 a xs) ∧ R (Ite K a) H1
theorem pi_enum {l : Expr} {k1} {tl : TE} {p pos : Pos} (hg : Gl X "enumerate") (hm : X.mg "enumerate" = none) (hl : PE X l tl) (hs : starEach [l] X.env = [(false, eval l X.env)] := by rfl) : PI X (.Tuple elts k1 tp) (.Call (.Name "enumerate" p) [l] [] pos) (iEnum X.K tl) := by
  intro pins s σ H R I h
  have ha : PA X [l] (tCons tl tNil) := pa_cons hl pa_nil hs
  refine Call_ (ld_blt I hg hm (by decide +kernel : bootBuiltins "enumerate" = some (.type "enumerate")) (PyProof.Rows.callWith_type1 (thn (ha pos pins s σ H (fun vs H1 => match vs with | [x] => ∃ a, x = .ref a ∧ (∃ xs, SqL X.K H1 a xs) ∧ R (Ite X.K a) H1 | _ => False) I h) fun us s1 ⟨vs, H1, I1, r1, q1⟩ => ?_) hs rfl))
  match vs, r1, q1 with
  | [x], r1, q1 =>
  obtain ⟨a, rfl, ⟨xs, hq⟩, q⟩ := q1
  obtain ⟨u, rfl, ru⟩ := vals1 r1
  cases ru
  obtain ⟨its, rv, p, hz⟩ := I1.list hq
  refine call_enumerate_list p.isList fun h' he hit hz' hk => ?_
  refine wpAny_pyIter_enum he ?_
  refine ⟨s1.heap.objs.size + 1, [s1.heap.objs.size + 1, s1.heap.objs.size], _, _, H1, rfl, I1.kept (t' := s1.toks) hk, turn_enum a _ _ (Nat.succ_ne_self _), ⟨⟨_, he⟩, hit⟩, fun b hb => ?_, q⟩
  have z' : b = s1.heap.objs.size + 1 ∨ b = s1.heap.objs.size := by simpa using hb
  have I2 := I1.kept (h' := h') (t' := s1.toks) hk
  rcases z' with rfl | rfl
  · exact I1.fpOk (Nat.le_succ _) (I1.hok.fresh (Nat.le_succ _))
  · exact I1.fpOk (Nat.le_refl _) (I1.hok.fresh (Nat.le_refl _))
end
theorem for_enum {K : PySem.W.Frag} {a : Addr} {xs : List V} {g : TG} {tb : TS} {D : Ends} {σ : St} {H : Hp} (Pv : Nat → St → Hp → Prop) (h0 : Pv 0 σ H) (hl : ∀ i σ H, i ≤ xs.length → Pv i σ H → SqL K H a xs)
    (hs : ∀ i x σ H p, xs[i]? = some x → Pv i σ H → H p = none → g (.ref p) σ (upd H p (.tup [.int (i : Int), x])) fun σ2 H2 => tb { D with nx := Pv (i + 1), ct := Pv (i + 1), bk := D.nx } σ2 H2) (hd : ∀ σ H, Pv xs.length σ H → D.nx σ H) :
    ∃ W : Nat → Nat → St → Hp → Prop, (∃ m, W 0 m σ H) ∧ ∀ i m σ H, W i m σ H →
      ((Ite K a).stop i H ∧ D.nx σ H) ∨ ((Ite K a).go i H ∧ ∃ N : St → Hp → Prop, (∀ σ' H', N σ' H' → ∃ m', m' < m ∧ W (i + 1) m' σ' H') ∧ ∀ x H', (Ite K a).yld i H x H' → g x σ H' fun σ2 H2 => tb { D with nx := N, ct := N, bk := D.nx } σ2 H2) := by
  refine ⟨fun i m σ H => m = xs.length - i ∧ i ≤ xs.length ∧ Pv i σ H, ⟨xs.length, by simp, Nat.zero_le _, h0⟩, ?_⟩
  rintro i m σ H ⟨rfl, hi, p⟩
  have q := hl i σ H hi p
  by_cases hlt : i < xs.length
  · refine .inr ⟨⟨xs, xs[i], q, by simp [hlt]⟩, Pv (i + 1), fun σ' H' p' => ⟨xs.length - (i + 1), by omega, rfl, hlt, p'⟩, fun x H' y => ?_⟩
    obtain ⟨t, ht, e, y⟩ := y
    subst e
    have e2 := y xs xs[i] q (by simp [hlt])
    subst e2
    exact hs i xs[i] σ H t (by simp [hlt]) p ht
  · have e : i = xs.length := by omega
    subst e
    exact .inl ⟨⟨xs, q, Nat.le_refl _⟩, hd σ H p⟩
end L2

set_option maxHeartbeats 4000000
namespace L2
open PySem PySem.Spec PyProof.Rows Tl

section
variable {X : Cx} {tg : Expr}
end
end L2
namespace L2
open PySem PySem.Spec PyProof.Rows Tl
theorem op_eqNil {X : Cx} (hu : X.A.units < cLine) : OpR X (compareOp .Eq) (fun x y H Q => ∃ a b xs, x = .ref a ∧ y = .ref b ∧ SqL X.K H a xs ∧ SqL X.K H b [] ∧ Q (.bl xs.isEmpty) H) := by
  intro pins s σ H x y v u Q I rx ry h
  obtain ⟨a, b, xs, rfl, rfl, ha, hb, q⟩ := h
  cases rx
  cases ry
  obtain ⟨its, r, p, z⟩ := I.list ha
  obtain ⟨its2, r2, p2, z2⟩ := I.list hb
  have l1 := r.length
  have l2 := r2.length
  cases xs with
  | nil =>
    refine SeqAt.eq_listAt (e := fun _ => true) p.isList p2.isList (by simp at l1 l2 ⊢; omega) hu (fun j h1 h2 => absurd h1 (by simp at l1 ⊢; omega)) ⟨.bl _, H, I, rfl, ?_⟩
    have e : its.toArray.size = 0 := by rw [List.size_toArray]; exact l1.symm
    rw [e]
    exact q
  | cons x r => exact SeqAt.eq_list_lengthsAt p.isList p2.isList (by simp at l1 l2 ⊢; omega) hu ⟨.bl false, H, I, rfl, q⟩
end L2

set_option maxHeartbeats 4000000
namespace L2
open PySem PySem.Spec PyProof.Rows Tl
theorem op_fdivB {X : Cx} : OpR X (binaryOp .FloorDiv) (rI (fun _ j => 0 < j ∧ j.natAbs.log2 < 9000) fun i j => .int (i / j)) := opI fun i j _ _ _ _ _ hc q => by
  have h1 : (0 : Int) < j := hc.1
  exact floordiv_int (by omega) (by rw [Int.fdiv_eq_ediv_of_nonneg i (by omega)]; exact q) (.inl (PyProof.noPylong_of_log2 hc.2))
end L2

namespace L2
open PySem PySem.Spec PyProof.Rows

section
variable {X : Cx}
theorem eqVs_min {xs ys : List V} : ((List.range (min xs.length ys.length)).all (fun j => eqV ((xs[j]?).getD .non) ((ys[j]?).getD .non)) && (xs.length == ys.length)) = eqVs xs ys := by
  by_cases hl : xs.length = ys.length
  · rw [← hl, Nat.min_self, eqVs_range hl]
    simp
  · rw [eqVs_len hl]
    simp [hl]
def rEqT (K : PySem.W.Frag) (neg : Bool) : R2 := fun x y H Q => ∃ a b xs ys, x = .ref a ∧ y = .ref b ∧ SqT K H a xs ∧ SqT K H b ys ∧ xs.all flatV = true ∧ ys.all flatV = true ∧ Q (.bl (if neg then !eqVs xs ys else eqVs xs ys)) H
theorem op_eqT (hu : X.A.units < cLine) : OpR X (compareOp .Eq) (rEqT X.K false) := by
  intro pins s σ H x y v u Q I rx ry h
  obtain ⟨a, b, xs, ys, rfl, rfl, ha, hb, fx, fy, q⟩ := h
  cases rx
  cases ry
  obtain ⟨its, r, p, z⟩ := I.tuple ha
  obtain ⟨its2, r2, p2, z2⟩ := I.tuple hb
  have l1 := r.length
  have l2 := r2.length
  refine SeqAt.eq_tupleAt (e := fun j => eqV ((xs[j]?).getD .non) ((ys[j]?).getD .non)) p p2 hu (fun j h1 h2 => items_eq r r2 fx fy j h1 h2) ⟨.bl _, H, I, rfl, ?_⟩
  have e1 : its.toArray.size = xs.length := by simp; omega
  have e2 : its2.toArray.size = ys.length := by simp; omega
  rw [e1, e2, eqVs_min]
  exact q
theorem op_neT (hu : X.A.units < cLine) : OpR X (compareOp .NotEq) (rEqT X.K true) := by
  intro pins s σ H x y v u Q I rx ry h
  obtain ⟨a, b, xs, ys, rfl, rfl, ha, hb, fx, fy, q⟩ := h
  cases rx
  cases ry
  obtain ⟨its, r, p, z⟩ := I.tuple ha
  obtain ⟨its2, r2, p2, z2⟩ := I.tuple hb
  have l1 := r.length
  have l2 := r2.length
  refine SeqAt.RcNeAt.tuples (e := fun j => eqV ((xs[j]?).getD .non) ((ys[j]?).getD .non)) p p2 hu (fun j h1 h2 => items_eq r r2 fx fy j h1 h2) _ _ _ _ ⟨.bl _, H, I, rfl, ?_⟩
  have e1 : its.toArray.size = xs.length := by simp; omega
  have e2 : its2.toArray.size = ys.length := by simp; omega
  rw [e1, e2, eqVs_min]
  exact q
def sameV (x : V) : Prop := flatV x = true ∨ ∃ a, x = .ref a
theorem items_same {A : Around} {s : Shared} {xs : List V} {its its2 : List Value} (r : Vals xs its) (r2 : Vals xs its2) (f : ∀ x ∈ xs, sameV x) (j : Nat) (h1 : j < its.toArray.size) (h2 : j < its2.toArray.size) :
    SeqAt.EqAt A s its.toArray[j] its2.toArray[j] true := by
  have l1 := r.length
  have h1' : j < its.length := by simpa using h1
  have h2' : j < its2.length := by simpa using h2
  have hx : j < xs.length := by omega
  have e1 : xs[j]? = some xs[j] := List.getElem?_eq_getElem hx
  obtain ⟨u, hu, ru⟩ := r.get e1
  obtain ⟨v, hv, rv⟩ := r2.get e1
  have eu : its.toArray[j] = u := by
    have : its[j]? = some its[j] := List.getElem?_eq_getElem h1'
    rw [hu] at this
    simpa using this.symm
  have ev : its2.toArray[j] = v := by
    have : its2[j]? = some its2[j] := List.getElem?_eq_getElem h2'
    rw [hv] at this
    simpa using this.symm
  rw [eu, ev]
  rcases f xs[j] (List.getElem_mem hx) with hf | ⟨a, ha⟩
  · have := eqAt_V (A := A) (s := s) ru rv hf hf
    rw [eqV_refl hf] at this
    exact this
  · rw [ha] at ru rv
    cases ru
    cases rv
    exact SeqAt.EqAt.same _
def rEqS (K : PySem.W.Frag) (neg : Bool) : R2 := fun x y H Q => ∃ a b xs, x = .ref a ∧ y = .ref b ∧ SqL K H a xs ∧ SqL K H b xs ∧ (∀ x ∈ xs, sameV x) ∧ Q (.bl (!neg)) H
theorem all_true {n : Nat} : (List.range n).all (fun _ => true) = true := List.all_eq_true.mpr fun _ _ => rfl
theorem op_neS (hu : X.A.units < cLine) : OpR X (compareOp .NotEq) (rEqS X.K true) := by
  intro pins s σ H x y v u Q I rx ry h
  obtain ⟨a, b, xs, rfl, rfl, ha, hb, f, q⟩ := h
  cases rx
  cases ry
  obtain ⟨its, r, p, z⟩ := I.list ha
  obtain ⟨its2, r2, p2, z2⟩ := I.list hb
  have l1 := r.length
  have l2 := r2.length
  refine SeqAt.RcNeAt.lists (e := fun _ => true) p.isList p2.isList (by simp; omega) hu (fun j h1 h2 => items_same r r2 f j h1 h2) _ _ _ _ ⟨.bl _, H, I, rfl, ?_⟩
  rw [all_true]
  exact q

theorem same_new {H : Hp} {p : Addr} (h : H p = none) (o : HO) : Same H (upd H p o) := fun b u q => by rw [upd_ne (ne_of_none q h)]; exact q
theorem Same.tup {K : PySem.W.Frag} {H H' : Hp} {a : Addr} {xs : List V} (e : Same H H') (h : SqT K H a xs) : SqT K H' a xs := by
  rcases h with (h | ⟨o, h⟩) | h
  · exact .inl (.inl (e _ _ h))
  · exact .inl (.inr ⟨o, e _ _ h⟩)
  · exact .inr h
theorem SqT.lst {K : PySem.W.Frag} {H : Hp} {a l : Addr} {xs ys zs : List V} (e : H l = some (.lst ys)) (h : SqT K H a xs) : SqT K (upd H l (.lst zs)) a xs := by
  rcases h with (h | ⟨o, h⟩) | h
  · exact .inl (.inl (by rw [upd_ne (ne_of h e (fun z => nomatch z))]; exact h))
  · exact .inl (.inr ⟨o, by rw [upd_ne (ne_of h e (fun z => nomatch z))]; exact h⟩)
  · exact .inr h
def SameX (l : Addr) (H H' : Hp) : Prop := ∀ b o, b ≠ l → H b = some o → H' b = some o
theorem SameX.refl (l : Addr) (H : Hp) : SameX l H H := fun _ _ _ h => h
theorem SameX.trans {l : Addr} {H H1 H2 : Hp} (a : SameX l H H1) (b : SameX l H1 H2) : SameX l H H2 := fun c o n h => b c o n (a c o n h)
theorem SameX.put {l : Addr} {H H1 : Hp} {o : HO} (a : SameX l H H1) : SameX l H (upd H1 l o) := fun c u n h => by rw [upd_ne n]; exact a c u n h
theorem Same.x {l : Addr} {H H' : Hp} (e : Same H H') : SameX l H H' := fun b o _ h => e b o h
theorem SameX.seq {K : PySem.W.Frag} {H H' : Hp} {a l : Addr} {xs : List V} (e : SameX l H H') (n : a ≠ l) (h : SqL K H a xs) : SqL K H' a xs := by
  rcases h with (h | ⟨o, h⟩) | h
  · exact .inl (.inl (e _ _ n h))
  · exact .inl (.inr ⟨o, e _ _ n h⟩)
  · exact .inr h
theorem SameX.tup {K : PySem.W.Frag} {H H' : Hp} {a l : Addr} {xs : List V} (e : SameX l H H') (n : a ≠ l) (h : SqT K H a xs) : SqT K H' a xs := by
  rcases h with (h | ⟨o, h⟩) | h
  · exact .inl (.inl (e _ _ n h))
  · exact .inl (.inr ⟨o, e _ _ n h⟩)
  · exact .inr h
def sp_law (K : PySem.W.Frag) : Sp := fun vs H Q _ => ∃ (a : Addr) (ns : List Int), vs = [.ref a] ∧ SqL K H a (ns.map V.int) ∧ ns.length ≤ 63 ∧ ∀ H', Q (.bl true) H'
theorem small {n : Nat} (h : n ≤ 1000) : n ≤ sizeLine := Nat.le_of_lt (small1000 h)
theorem small2 {n : Nat} (h : n ≤ 1000000) : n ≤ sizeLine := Nat.le_trans h (by decide)
theorem le1 : 1 ≤ sizeLine := by decide
theorem le2 : 2 ≤ sizeLine := by decide
theorem le4 : 4 ≤ sizeLine := by decide
theorem int_eq {i j : Int} : (decide (V.int i = V.int j) = true) ↔ i = j := by simp
theorem int_ne {i j : Int} : (¬ decide (V.int i = V.int j) = true) ↔ i ≠ j := by simp
theorem andG {a : Prop} {_inst : Decidable a} {X A B : Prop} (hb : ¬ a → B) (hx : a → X) : if a then X else (if false = true then A else B) := by
  by_cases h : a
  · rw [if_pos h]; exact hx h
  · rw [if_neg h]; exact hb h
theorem andN {a : Prop} {_inst : Decidable a} {X A B : Prop} (hb : B) (hx : a → B → X) : if a then X else (if false = true then A else B) := by
  by_cases h : a
  · rw [if_pos h]; exact hx h hb
  · rw [if_neg h]; exact hb
theorem orG {a : Prop} {_inst : Decidable a} {X A B : Prop} (ha : a → A) (hx : ¬ a → X) : if a then (if true = true then A else B) else X := by
  by_cases h : a
  · rw [if_pos h]; exact ha h
  · rw [if_neg h]; exact hx h
theorem map_snoc (n : Int) (ns : List Int) : (ns.map V.int) ++ [V.int n] = (ns ++ [n]).map V.int := by simp
end
end L2

namespace HT
open PySem PyProof.Rows
section
open PySem.SeqAt
open PySem.AutoSeq1 (wpAny_loadPart')
open PySem.MeetsSeq PySem.MeetsSeq2 PySem.MeetsSeq3

end
end HT

namespace L2
open PySem PySem.Spec PyProof.Rows
section
variable {X : Cx}

end
end L2

set_option maxHeartbeats 4000000
namespace L2
open PySem PySem.Spec PyProof.Rows Tl
def figs (n : Nat) : List Nat := (Nat.toDigits 10 n).map Char.toNat
theorem str_figs (n : Nat) : (PySem.Str.ofString (toString ((n : Nat) : Int))) = tx (figs n) := by
  have e := PySem.W.KIN.signs_num n
  rw [tx_of (PySem.Str.ofString _), e]
  rfl
theorem digit_char : ∀ d : Nat, d < 10 → (Nat.digitChar d).toNat = d + 48 := by decide
theorem figs_small {n : Nat} (h : n < 10) : figs n = [n + 48] := by
  unfold figs
  rw [Nat.toDigits_of_lt_base h, List.map_singleton, digit_char n h]
theorem figs_step {n : Nat} (h : 10 ≤ n) : figs n = figs (n / 10) ++ [n % 10 + 48] := by
  have hm : n % 10 < 10 := Nat.mod_lt n (by decide)
  have t : Nat.toDigits 10 (n / 10) ++ Nat.toDigits 10 (n % 10) = Nat.toDigits 10 (10 * (n / 10) + n % 10) := Nat.toDigits_append_toDigits (by decide) (by omega) hm
  rw [Nat.div_add_mod] at t
  unfold figs
  rw [← t, List.map_append, Nat.toDigits_of_lt_base hm, List.map_singleton, digit_char _ hm]
theorem figs_len : ∀ (k n : Nat), n < 10 ^ (k + 1) → (figs n).length ≤ k + 1
  | 0, n, h => by
    rw [figs_small (by simpa using h)]
    simp
  | k + 1, n, h => by
    by_cases hn : n < 10
    · rw [figs_small hn]; simp
    · rw [figs_step (by omega), List.length_append, List.length_singleton]
      have := figs_len k (n / 10) (by
        rw [Nat.pow_succ] at h
        omega)
      omega
theorem figs_in : ∀ (n c : Nat), c ∈ figs n → 48 ≤ c ∧ c ≤ 57 := by
  intro n
  induction n using Nat.strongRecOn with
  | _ n ih =>
    intro c hc
    by_cases h : n < 10
    · rw [figs_small h] at hc
      have : c = n + 48 := by simpa using hc
      omega
    · rw [figs_step (by omega)] at hc
      rcases List.mem_append.mp hc with hc | hc
      · exact ih (n / 10) (by omega) c hc
      · have : c = n % 10 + 48 := by simpa using hc
        omega
theorem figs_pos (n : Nat) : 1 ≤ (figs n).length := by
  by_cases h : n < 10
  · rw [figs_small h]; simp
  · rw [figs_step (by omega), List.length_append, List.length_singleton]
    omega
theorem figs_mono : ∀ (m n : Nat), n ≤ m → (figs n).length ≤ (figs m).length := by
  intro m
  induction m using Nat.strongRecOn with
  | _ m ih =>
    intro n h
    by_cases hn : n < 10
    · rw [figs_small hn]
      exact figs_pos m
    · rw [figs_step (n := n) (by omega), figs_step (n := m) (by omega), List.length_append, List.length_append, List.length_singleton, List.length_singleton]
      have := ih (m / 10) (by omega) (n / 10) (by omega)
      omega
theorem log_small {n : Nat} (h : n < 10 ^ 100) : n.log2 < 1920 := by
  by_cases e : n = 0
  · subst e; decide
  · refine (Nat.log2_lt e).mpr (Nat.lt_trans h ?_)
    decide +kernel
def valF (l : List Nat) : Nat := l.foldl (fun acc c => acc * 10 + (c - 48)) 0
theorem valF_snoc (l : List Nat) (c : Nat) : valF (l ++ [c]) = valF l * 10 + (c - 48) := by unfold valF; rw [List.foldl_append]; rfl
theorem snoc_of {l : List Nat} (h : l ≠ []) : ∃ r c, l = r ++ [c] := ⟨l.dropLast, l.getLast h, (List.dropLast_concat_getLast h).symm⟩
theorem val_lt : ∀ (n : Nat) (l : List Nat), l.length = n → (∀ c ∈ l, 48 ≤ c ∧ c ≤ 57) → valF l < 10 ^ n := by
  intro n
  induction n with
  | zero =>
    intro l hl _
    rw [List.eq_nil_of_length_eq_zero hl]
    decide
  | succ n ih =>
    intro l hl f
    obtain ⟨r, c, rfl⟩ := snoc_of (l := l) (fun e => by rw [e] at hl; cases hl)
    have hl' : r.length = n := by rw [List.length_append, List.length_singleton] at hl; omega
    have := ih r hl' fun d hd => f d (List.mem_append_left _ hd)
    have hc := f c (by simp)
    rw [valF_snoc, Nat.pow_succ]
    omega
theorem read_digits {l : List Nat} (f : ∀ c ∈ l, 48 ≤ c ∧ c ≤ 57) (ne : l ≠ []) (h : l.length ≤ 100) : PySem.intText? (tx l) = some ((valF l : Nat) : Int) := by
  have e : (tx l).cps.toList = l := by simp
  have := PySem.intText_digits (x := tx l) (by rw [e]; exact f) (by rw [e]; exact ne) (by rw [tx_len]; omega)
  rw [e] at this
  exact this
theorem rep_mem {α : Type} (x c : α) : ∀ n : Nat, c ∈ repL [x] n → c = x
  | 0, h => by simp [repL] at h
  | n + 1, h => by
    rw [repL_succ] at h
    rcases List.mem_append.mp h with h | h
    · simpa using h
    · exact rep_mem x c n h
abbrev pl (x : Int × Int) : List V := [.int x.1, .int x.2]
abbrev fm (w h f m : Int) : List V := [.int w, .int h, .int f, .int m]
structure FormOk (w h f m : Int) : Prop where
  w1 : 1 ≤ w
  w2 : w ≤ 4000
  h1 : 1 ≤ h
  h2 : h ≤ 60
  f1 : 0 ≤ f
  f2 : f ≤ 10 ^ 60
  m1 : 1 ≤ m
  m2 : m ≤ 60
def nextTop (x : Int × Int) : Int × Int := (x.1 + 1, 0)
def rowsOn (h : Int) (x : Int × Int) (k : Int) : Int × Int := if h ≤ x.2 + k then nextTop x else (x.1, x.2 + k)
def firstFrom (f : Int) (x : Int × Int) (l : Int) : Int × Int := if l = 4 ∧ (f + x.1) % 2 = 0 then nextTop x else x
def behindI (h f : Int) (x : Int × Int) (l : Int) : Int × Int := if l = 0 then x else if l = 1 then rowsOn h x 1 else if l = 2 then rowsOn h x 2 else firstFrom f (nextTop x) l
def behindBy (h f : Int) (x : Int × Int) (l : Int) : Int × Int :=
  if l < 2 then ((x.1 * h + x.2 + l) / h, (x.1 * h + x.2 + l) % h) else if l = 2 ∧ x.2 + 2 < h then (x.1, x.2 + 2) else if l = 4 ∧ (f + x.1) % 2 = 1 then (x.1 + 2, 0) else (x.1 + 1, 0)
theorem row_div {p r h : Int} (h0 : 0 ≤ r) (h1 : r < h) : (p * h + r) / h = p ∧ (p * h + r) % h = r := by
  have hh : 0 < h := by omega
  constructor
  · rw [Int.add_comm, Int.add_mul_ediv_right _ _ (by omega), Int.ediv_eq_zero_of_lt h0 h1, Int.zero_add]
  · rw [Int.add_comm, Int.add_mul_emod_self_right, Int.emod_eq_of_lt h0 h1]
theorem behind_by {h f l : Int} {x : Int × Int} (hx : 0 ≤ x.2 ∧ x.2 < h) (hl : 0 ≤ l ∧ l < 5) : behindBy h f x l = behindI h f x l := by
  obtain ⟨p, r⟩ := x
  simp only at hx
  unfold behindBy behindI rowsOn firstFrom nextTop
  dsimp only
  by_cases e0 : l < 2
  · rw [if_pos e0]
    by_cases e1 : l = 0
    · have := row_div (p := p) hx.1 hx.2
      rw [if_pos e1, e1, Int.add_zero, this.1, this.2]
    · have e2 : l = 1 := by omega
      rw [if_neg e1, if_pos e2, e2]
      by_cases e : h ≤ r + 1
      · have e3 : p * h + r + 1 = (p + 1) * h + 0 := by rw [Int.add_mul]; omega
        have := row_div (p := p + 1) (r := 0) (h := h) (by omega) (by omega)
        rw [if_pos e, e3, this.1, this.2]
      · have := row_div (p := p) (r := r + 1) (h := h) (by omega) (by omega)
        rw [if_neg e, Int.add_assoc, this.1, this.2]
  · rw [if_neg e0]
    repeat' split
    all_goals first
      | rfl
      | omega
      | (refine Prod.ext ?_ ?_ <;> simp only [] <;> omega)
def sooner (x y : Int × Int) : Bool := decide (x.1 < y.1) || (decide (x.1 = y.1) && decide (x.2 < y.2))
theorem sooner_iff {x y : Int × Int} : sooner x y = true ↔ x.1 < y.1 ∨ (x.1 = y.1 ∧ x.2 < y.2) := by simp [sooner]
theorem not_sooner {x y : Int × Int} : sooner x y = false ↔ ¬ (x.1 < y.1 ∨ (x.1 = y.1 ∧ x.2 < y.2)) := by rw [← sooner_iff]; simp
structure RowIn (h : Int) (x : Int × Int) : Prop where
  p1 : 0 ≤ x.1
  r1 : 0 ≤ x.2
  r2 : x.2 < h
theorem behind_desc (h f l p r : Int) (h0 : 0 ≤ l) (h1 : l ≤ 4) : ∃ q s, behindI h f (p, r) l = (q, s) ∧ (l = 0 ∧ q = p ∧ s = r ∨ l = 1 ∧ (h ≤ r + 1 ∧ q = p + 1 ∧ s = 0 ∨ r + 1 < h ∧ q = p ∧ s = r + 1) ∨
    l = 2 ∧ (h ≤ r + 2 ∧ q = p + 1 ∧ s = 0 ∨ r + 2 < h ∧ q = p ∧ s = r + 2) ∨ l = 3 ∧ q = p + 1 ∧ s = 0 ∨ l = 4 ∧ s = 0 ∧ ((f + p) % 2 = 1 ∧ q = p + 2 ∨ (f + p) % 2 = 0 ∧ q = p + 1)) := by
  have hc : l = 0 ∨ l = 1 ∨ l = 2 ∨ l = 3 ∨ l = 4 := by omega
  rcases hc with rfl | rfl | rfl | rfl | rfl
  · exact ⟨p, r, rfl, .inl ⟨rfl, rfl, rfl⟩⟩
  · by_cases c : h ≤ r + 1
    · exact ⟨p + 1, 0, by show (if h ≤ r + 1 then (p + 1, (0 : Int)) else (p, r + 1)) = _; rw [if_pos c], .inr (.inl ⟨rfl, .inl ⟨c, rfl, rfl⟩⟩)⟩
    · exact ⟨p, r + 1, by show (if h ≤ r + 1 then (p + 1, (0 : Int)) else (p, r + 1)) = _; rw [if_neg c], .inr (.inl ⟨rfl, .inr ⟨Int.not_le.mp c, rfl, rfl⟩⟩)⟩
  · by_cases c : h ≤ r + 2
    · exact ⟨p + 1, 0, by show (if h ≤ r + 2 then (p + 1, (0 : Int)) else (p, r + 2)) = _; rw [if_pos c], .inr (.inr (.inl ⟨rfl, .inl ⟨c, rfl, rfl⟩⟩))⟩
    · exact ⟨p, r + 2, by show (if h ≤ r + 2 then (p + 1, (0 : Int)) else (p, r + 2)) = _; rw [if_neg c], .inr (.inr (.inl ⟨rfl, .inr ⟨Int.not_le.mp c, rfl, rfl⟩⟩))⟩
  · exact ⟨p + 1, 0, by show (if (3 : Int) = 4 ∧ (f + (p + 1)) % 2 = 0 then (p + 1 + 1, (0 : Int)) else (p + 1, 0)) = _; rw [if_neg (fun z => absurd z.1 (by decide))], .inr (.inr (.inr (.inl ⟨rfl, rfl, rfl⟩)))⟩
  · by_cases c : (f + (p + 1)) % 2 = 0
    · exact ⟨p + 1 + 1, 0, by show (if (4 : Int) = 4 ∧ (f + (p + 1)) % 2 = 0 then (p + 1 + 1, (0 : Int)) else (p + 1, 0)) = _; rw [if_pos ⟨rfl, c⟩], .inr (.inr (.inr (.inr ⟨rfl, rfl, .inl ⟨by omega, by omega⟩⟩)))⟩
    · exact ⟨p + 1, 0, by show (if (4 : Int) = 4 ∧ (f + (p + 1)) % 2 = 0 then (p + 1 + 1, (0 : Int)) else (p + 1, 0)) = _; rw [if_neg (fun z => c z.2)], .inr (.inr (.inr (.inr ⟨rfl, rfl, .inr ⟨by omega, rfl⟩⟩)))⟩
theorem first_desc (f l p r : Int) : ∃ q s, firstFrom f (p, r) l = (q, s) ∧ (l = 4 ∧ (f + p) % 2 = 0 ∧ q = p + 1 ∧ s = 0 ∨ (l ≠ 4 ∨ (f + p) % 2 = 1) ∧ q = p ∧ s = r) := by
  unfold firstFrom nextTop
  dsimp only
  split
  all_goals exact ⟨_, _, rfl, by omega⟩
theorem behind_in {h f l : Int} {x : Int × Int} (i : RowIn h x) (h0 : 0 ≤ l) (h1 : l ≤ 4) : RowIn h (behindI h f x l) := by
  obtain ⟨p, r⟩ := x
  obtain ⟨a, b, c⟩ := i
  simp only at a b c
  obtain ⟨q, s, e, d⟩ := behind_desc h f l p r h0 h1
  rw [e]
  constructor <;> simp only <;> omega
theorem behind_self {h f l : Int} {x : Int × Int} (i : RowIn h x) (h0 : 0 ≤ l) (h1 : l ≤ 4) : sooner (behindI h f x l) x = false := by
  obtain ⟨p, r⟩ := x
  obtain ⟨a, b, c⟩ := i
  simp only at a b c
  obtain ⟨q, s, e, d⟩ := behind_desc h f l p r h0 h1
  rw [e, not_sooner]
  simp only
  omega
theorem behind_grows {h f l k : Int} {x y : Int × Int} (i : RowIn h x) (j : RowIn h y) (le : sooner y x = false) (h0 : 0 ≤ l) (h1 : l ≤ k) (h2 : k ≤ 4) : sooner (behindI h f y k) (behindI h f x l) = false := by
  obtain ⟨p, r⟩ := x
  obtain ⟨p', r'⟩ := y
  obtain ⟨a, b, c⟩ := i
  obtain ⟨a', b', c'⟩ := j
  rw [not_sooner] at le ⊢
  simp only at a b c a' b' c' le
  obtain ⟨q, s, e, d⟩ := behind_desc h f l p r h0 (by omega)
  obtain ⟨q', s', e', d'⟩ := behind_desc h f k p' r' (by omega) h2
  rw [e, e']
  simp only
  rcases d with d | d | d | d | d <;> rcases d' with d' | d' | d' | d' | d' <;> omega
theorem first_grows {h f l k : Int} {x y : Int × Int} (i : RowIn h x) (j : RowIn h y) (le : sooner y x = false) (h1 : l ≤ k) (h2 : k ≤ 4) : sooner (firstFrom f y k) (firstFrom f x l) = false := by
  obtain ⟨p, r⟩ := x
  obtain ⟨p', r'⟩ := y
  obtain ⟨a, b, c⟩ := i
  obtain ⟨a', b', c'⟩ := j
  rw [not_sooner] at le ⊢
  simp only at a b c a' b' c' le
  obtain ⟨q, s, e, d⟩ := first_desc f l p r
  obtain ⟨q', s', e', d'⟩ := first_desc f k p' r'
  rw [e, e']
  simp only
  rcases d with d | d <;> rcases d' with d' | d' <;> omega
theorem sooner_refl (x : Int × Int) : sooner x x = false := by rw [not_sooner]; omega
inductive Say where
  | text (l : List Nat)
  | page (k : Nat)
  | row (k : Nat)
def sayV : Say → List V
  | .text l => [.str (PySem.Str.ofString "text"), .str (tx l)]
  | .page k => [.str (PySem.Str.ofString "page"), .int (k : Int)]
  | .row k => [.str (PySem.Str.ofString "row"), .int (k : Int)]
def saidL (h f : Int) (xs : List (Int × Int)) : Say → List Nat
  | .text l => l
  | .page k => figs (f + (xs.getD k (0, 0)).1).toNat
  | .row k => figs ((xs.getD k (0, 0)).1 * h + (xs.getD k (0, 0)).2 + 1).toNat
def SayOk (n : Nat) : Say → Prop
  | .text l => 1 ≤ l.length ∧ l.length ≤ 60 ∧ ∀ c ∈ l, 33 ≤ c ∧ c < 127
  | .page k => k < n
  | .row k => k < n
def PlsOk (h : Int) (xs : List (Int × Int)) : Prop := ∀ x ∈ xs, RowIn h x ∧ x.1 < 10 ^ 60
def PlsA (K : PySem.W.Frag) (H : Hp) (as : List Addr) (xs : List (Int × Int)) : Prop := as.length = xs.length ∧ ∀ (i : Nat) a x, as[i]? = some a → xs[i]? = some x → SqT K H a (pl x)
theorem PlsA.same {K : PySem.W.Frag} {H H' : Hp} {as : List Addr} {xs : List (Int × Int)} (s : Same H H') (h : PlsA K H as xs) : PlsA K H' as xs := ⟨h.1, fun i a x e e' => s.tup (h.2 i a x e e')⟩
theorem PlsA.lst {K : PySem.W.Frag} {H : Hp} {l : Addr} {ys zs : List V} {as : List Addr} {xs : List (Int × Int)} (e : H l = some (.lst ys)) (h : PlsA K H as xs) : PlsA K (upd H l (.lst zs)) as xs := ⟨h.1, fun i a x e1 e' => SqT.lst e (h.2 i a x e1 e')⟩
theorem PlsA.nil {K : PySem.W.Frag} {H : Hp} : PlsA K H [] [] := ⟨rfl, fun i a x e _ => by simp at e⟩
theorem PlsA.snoc {K : PySem.W.Frag} {H : Hp} {as : List Addr} {xs : List (Int × Int)} {a : Addr} {x : Int × Int} (h : PlsA K H as xs) (hx : SqT K H a (pl x)) : PlsA K H (as ++ [a]) (xs ++ [x]) := by
  refine ⟨by simp [h.1], fun i b y e e' => ?_⟩
  by_cases hi : i < as.length
  · rw [List.getElem?_append_left hi] at e
    rw [List.getElem?_append_left (by rw [← h.1]; exact hi)] at e'
    exact h.2 i b y e e'
  · rw [List.getElem?_append_right (by omega)] at e
    rw [List.getElem?_append_right (by rw [← h.1]; omega)] at e'
    have : i - as.length = 0 := by
      rcases Nat.eq_zero_or_pos (i - as.length) with z | z
      · exact z
      · rw [List.getElem?_eq_none (by simp; omega)] at e; cases e
    rw [this] at e
    rw [← h.1, this] at e'
    cases e
    cases e'
    exact hx
theorem PlsA.get {K : PySem.W.Frag} {H : Hp} {as : List Addr} {xs : List (Int × Int)} (h : PlsA K H as xs) {k : Nat} (hk : k < xs.length) : ∃ a, atI (as.map V.ref) (k : Int) = some (V.ref a) ∧ SqT K H a (pl (xs.getD k (0, 0))) := by
  have hk2 : k < as.length := by rw [h.1]; exact hk
  refine ⟨as[k], atI_nat (by rw [List.getElem?_map, List.getElem?_eq_getElem hk2]; rfl), ?_⟩
  rw [List.getD_eq_getElem?_getD, List.getElem?_eq_getElem hk]
  exact h.2 k _ _ (List.getElem?_eq_getElem hk2) (List.getElem?_eq_getElem hk)
theorem PlsOk.get {h : Int} {xs : List (Int × Int)} (o : PlsOk h xs) {k : Nat} (hk : k < xs.length) : RowIn h (xs.getD k (0, 0)) ∧ (xs.getD k (0, 0)).1 < 10 ^ 60 := by
  rw [List.getD_eq_getElem?_getD, List.getElem?_eq_getElem hk]
  exact o _ (List.getElem_mem hk)
theorem PlsOk.snoc {h : Int} {xs : List (Int × Int)} {x : Int × Int} (o : PlsOk h xs) (i : RowIn h x) (b : x.1 < 10 ^ 60) : PlsOk h (xs ++ [x]) := by
  intro y hy
  rcases List.mem_append.mp hy with hy | hy
  · exact o y hy
  · rw [List.mem_singleton.mp hy]
    exact ⟨i, b⟩
theorem page_num {f p : Int} (f1 : 0 ≤ f) (f2 : f ≤ 10 ^ 60) (p1 : 0 ≤ p) (p2 : p < 10 ^ 60) : ∃ n : Nat, f + p = (n : Int) ∧ n < 10 ^ 62 := by
  obtain ⟨n, hn⟩ := Int.eq_ofNat_of_zero_le (show 0 ≤ f + p by omega)
  exact ⟨n, hn, by omega⟩
theorem row_num {h p r : Int} (h1 : 1 ≤ h) (h2 : h ≤ 60) (p1 : 0 ≤ p) (p2 : p < 10 ^ 60) (r1 : 0 ≤ r) (r2 : r < h) : ∃ n : Nat, p * h + r + 1 = (n : Int) ∧ n < 10 ^ 62 := by
  have a : 0 ≤ p * h := Int.mul_nonneg p1 (by omega)
  have b : p * h ≤ p * 60 := Int.mul_le_mul_of_nonneg_left h2 p1
  obtain ⟨n, hn⟩ := Int.eq_ofNat_of_zero_le (show 0 ≤ p * h + r + 1 by omega)
  exact ⟨n, hn, by omega⟩
theorem lt_100 {n : Nat} (h : n < 10 ^ 62) : n < 10 ^ 100 := Nat.lt_trans h (Nat.pow_lt_pow_right (by decide) (by decide))
theorem said_len {w h f m : Int} {xs : List (Int × Int)} {s : Say} (fo : FormOk w h f m) (po : PlsOk h xs) (so : SayOk xs.length s) : 1 ≤ (saidL h f xs s).length ∧ (saidL h f xs s).length ≤ 62 ∧ ∀ c ∈ saidL h f xs s, 33 ≤ c ∧ c < 127 := by
  cases s with
  | text l => exact ⟨so.1, by have := so.2.1; show l.length ≤ 62; omega, so.2.2⟩
  | page k =>
    obtain ⟨i, b⟩ := po.get so
    obtain ⟨n, e, hn⟩ := page_num fo.f1 fo.f2 i.p1 b
    simp only [saidL]
    rw [e]
    exact ⟨figs_pos _, figs_len 61 n hn, fun c hc => by have := figs_in n c hc; omega⟩
  | row k =>
    obtain ⟨i, b⟩ := po.get so
    obtain ⟨n, e, hn⟩ := row_num fo.h1 fo.h2 i.p1 b i.r1 i.r2
    simp only [saidL]
    rw [e]
    exact ⟨figs_pos _, figs_len 61 n hn, fun c hc => by have := figs_in n c hc; omega⟩
theorem ref_same (as : List Addr) : ∀ x ∈ as.map V.ref, sameV x := fun x hx => by
  obtain ⟨a, _, rfl⟩ := List.mem_map.mp hx
  exact .inr ⟨a, rfl⟩
theorem ne_page : decide (V.str (PySem.Str.ofString "page") = V.str (PySem.Str.ofString "text")) = false := by decide +kernel
theorem ne_row : decide (V.str (PySem.Str.ofString "row") = V.str (PySem.Str.ofString "text")) = false := by decide +kernel
theorem ne_row_page : decide (V.str (PySem.Str.ofString "row") = V.str (PySem.Str.ofString "page")) = false := by decide +kernel
theorem refs_snoc (as : List Addr) (a : Addr) : as.map V.ref ++ [V.ref a] = (as ++ [a]).map V.ref := by simp
def sgns : List Nat := [33,34,35,36,38,39,40,41,42,43,44,45,46,47,48,49,50,51,52,53,54,55,56,57,58,59,60,61,62,63,64,65,66,67,68,69,70,71,72,73,74,75,76,77,78,79,80,81,82,83,84,85,86,87,88,89,90,91,92,93,94,95,96,97,98,99,100,101,102,103,104,105,106,107,108,109,110,111,112,113,114,115,116,117,118,119,120,121,122,123,124,125,126]
theorem sgn_in : ∀ k : Nat, k < 93 → 33 ≤ sgns.getD k 0 ∧ sgns.getD k 0 < 127 := by decide +kernel
theorem join_one : ∀ cs : List Nat, joinL [] (cs.map fun c => [c]) = cs
  | [] => rfl
  | [c] => rfl
  | c :: d :: r => by
    show [c] ++ [] ++ joinL [] ((d :: r).map fun c => [c]) = _
    rw [join_one (d :: r)]
    rfl
theorem sum_one : ∀ cs : List Nat, ((cs.map fun c => tx [c]).map (·.length)).sum = cs.length
  | [] => rfl
  | c :: r => by
    rw [List.map_cons, List.map_cons, List.sum_cons, sum_one r, tx_len]
    simp only [List.length_cons, List.length_nil]
    omega
theorem at_last {α : Type} (xs : List α) (x : α) : atI (xs ++ [x]) (-1) = some x := by
  unfold atI ixN
  rw [if_neg (by decide), if_pos (by simp; omega)]
  have e : (-1 + ((xs ++ [x]).length : Int)).toNat = xs.length := by simp; omega
  show (xs ++ [x])[(-1 + ((xs ++ [x]).length : Int)).toNat]? = some x
  rw [e]
  simp
def PlsLe (xs ys : List (Int × Int)) : Prop := xs.length = ys.length ∧ ∀ k, k < xs.length → sooner (ys.getD k (0, 0)) (xs.getD k (0, 0)) = false
theorem getD_app {α : Type} (xs ys : List α) (d : α) (k : Nat) : (xs ++ ys).getD k d = if k < xs.length then xs.getD k d else ys.getD (k - xs.length) d := by
  rw [List.getD_eq_getElem?_getD]
  by_cases e : k < xs.length
  · rw [if_pos e, List.getElem?_append_left e, List.getD_eq_getElem?_getD]
  · rw [if_neg e, List.getElem?_append_right (by omega), List.getD_eq_getElem?_getD]
theorem PlsLe.snoc {xs ys : List (Int × Int)} {x y : Int × Int} (h : PlsLe xs ys) (l : sooner y x = false) : PlsLe (xs ++ [x]) (ys ++ [y]) := by
  refine ⟨by simp [h.1], fun k hk => ?_⟩
  rw [getD_app, getD_app]
  by_cases e : k < xs.length
  · rw [if_pos e, if_pos (by rw [← h.1]; exact e)]
    exact h.2 k e
  · have hk2 : k = xs.length := by simp at hk; omega
    rw [if_neg e, if_neg (by rw [← h.1]; exact e), ← h.1, hk2, Nat.sub_self]
    exact l
theorem row_le {h : Int} {x y : Int × Int} (i : RowIn h x) (j : RowIn h y) (le : sooner y x = false) : x.1 * h + x.2 ≤ y.1 * h + y.2 := by
  rw [not_sooner] at le
  obtain ⟨p, r⟩ := x
  obtain ⟨p', r'⟩ := y
  obtain ⟨a, b, c⟩ := i
  obtain ⟨a', b', c'⟩ := j
  simp only at *
  by_cases e : p = p'
  · subst e
    omega
  · have h1 : (p + 1) * h ≤ p' * h := Int.mul_le_mul_of_nonneg_right (by omega) (by omega)
    rw [Int.add_mul] at h1
    omega
theorem said_grows {w h f m : Int} {xs ys : List (Int × Int)} {s : Say} (fo : FormOk w h f m) (po : PlsOk h xs) (qo : PlsOk h ys) (le : PlsLe xs ys) (so : SayOk xs.length s) : (saidL h f xs s).length ≤ (saidL h f ys s).length := by
  cases s with
  | text l => exact Nat.le_refl _
  | page k =>
    have lk := le.2 k so
    rw [not_sooner] at lk
    exact figs_mono _ _ (Int.toNat_le_toNat (by omega))
  | row k =>
    have := row_le (po.get so).1 (qo.get (le.1 ▸ so)).1 (le.2 k so)
    exact figs_mono _ _ (Int.toNat_le_toNat (by omega))
end L2

set_option maxHeartbeats 4000000
namespace L2
open PySem PySem.Spec PyProof.Rows Tl
def Dq (K : PySem.W.Frag) (H : Hp) : Nat → V → V → Prop
  | 0, x, y => (flatV x = true ∧ flatV y = true ∧ eqV x y = true) ∨ ∃ a, x = .ref a ∧ y = .ref a
  | n + 1, x, y => ((flatV x = true ∧ flatV y = true ∧ eqV x y = true) ∨ ∃ a, x = .ref a ∧ y = .ref a) ∨
      ∃ a b xs ys, x = .ref a ∧ y = .ref b ∧ ((SqL K H a xs ∧ SqL K H b ys) ∨ (SqT K H a xs ∧ SqT K H b ys)) ∧ xs.length = ys.length ∧ ∀ (i : Nat) x y, xs[i]? = some x → ys[i]? = some y → Dq K H n x y
theorem items_deep {X : Cx} {pins : List (Addr × Obj)} {σ : St} {H : Hp} {s : Shared} {xs ys : List V} {its its2 : List Value} {n : Nat} {A : Around} (r : Vals xs its) (r2 : Vals ys its2)
    (d : ∀ (i : Nat) x y, xs[i]? = some x → ys[i]? = some y → ∀ u v, RelV x u → RelV y v → SeqAt.EqAt A s u v true) (j : Nat) (h1 : j < its.toArray.size) (h2 : j < its2.toArray.size) : SeqAt.EqAt A s its.toArray[j] its2.toArray[j] true := by
  have l1 := r.length
  have l2 := r2.length
  have h1' : j < its.length := by simpa using h1
  have h2' : j < its2.length := by simpa using h2
  have hx : j < xs.length := by omega
  have hy : j < ys.length := by omega
  have e1 : xs[j]? = some xs[j] := List.getElem?_eq_getElem hx
  have e2 : ys[j]? = some ys[j] := List.getElem?_eq_getElem hy
  obtain ⟨u, hu, ru⟩ := r.get e1
  obtain ⟨v, hv, rv⟩ := r2.get e2
  have eu : its.toArray[j] = u := by
    have : its[j]? = some its[j] := List.getElem?_eq_getElem h1'
    rw [hu] at this
    simpa using this.symm
  have ev : its2.toArray[j] = v := by
    have : its2[j]? = some its2[j] := List.getElem?_eq_getElem h2'
    rw [hv] at this
    simpa using this.symm
  rw [eu, ev]
  exact d j _ _ e1 e2 u v ru rv
theorem min_true {n m : Nat} (h : n = m) : ((List.range (min n m)).all (fun _ => true) && (n == m)) = true := by
  rw [all_true, h]
  simp
theorem deep_eq {X : Cx} {pins : List (Addr × Obj)} {σ : St} {H : Hp} {s : Shared} (I : Inv X pins σ H s) : ∀ (n : Nat) (A : Around) (x y : V) (u v : Value), Dq X.K H n x y → RelV x u → RelV y v → A.units + n < cLine → SeqAt.EqAt A s u v true
  | 0, A, x, y, u, v, d, ru, rv, hu => by
    rcases d with ⟨f, g, e⟩ | ⟨a, rfl, rfl⟩
    · have := eqAt_V (A := A) (s := s) ru rv f g
      rw [e] at this
      exact this
    · cases ru
      cases rv
      exact SeqAt.EqAt.same _
  | n + 1, A, x, y, u, v, d, ru, rv, hu => by
    rcases d with (⟨f, g, e⟩ | ⟨a, rfl, rfl⟩) | ⟨a, b, xs, ys, rfl, rfl, hab, hl, hd⟩
    · have := eqAt_V (A := A) (s := s) ru rv f g
      rw [e] at this
      exact this
    · cases ru
      cases rv
      exact SeqAt.EqAt.same _
    · cases ru
      cases rv
      by_cases e : a = b
      · subst e
        exact SeqAt.EqAt.same _
      have hrec := fun i x y (e1 : xs[i]? = some x) (e2 : ys[i]? = some y) u v (ru : RelV x u) (rv : RelV y v) => deep_eq I n A.in1 x y u v (hd i x y e1 e2) ru rv (by show A.units + 1 + n < cLine; omega)
      rcases hab with ⟨ha, hb⟩ | ⟨ha, hb⟩
      · obtain ⟨its, r, p, z⟩ := I.list ha
        obtain ⟨its2, r2, p2, z2⟩ := I.list hb
        have l1 := r.length
        have l2 := r2.length
        have := SeqAt.RcAt.lists (A := A) (e := fun _ => true) p.isList p2.isList (by simp; omega) (by omega) (fun j h1 h2 => items_deep (X := X) (pins := pins) (σ := σ) (H := H) (n := n) r r2 hrec j h1 h2)
        rw [all_true] at this
        exact SeqAt.EqAt.of_refs e this
      · obtain ⟨its, r, p, z⟩ := I.tuple ha
        obtain ⟨its2, r2, p2, z2⟩ := I.tuple hb
        have l1 := r.length
        have l2 := r2.length
        have := SeqAt.RcAt.tuples (A := A) (e := fun _ => true) p p2 (by omega) (fun j h1 h2 => items_deep (X := X) (pins := pins) (σ := σ) (H := H) (n := n) r r2 hrec j h1 h2)
        rw [min_true (by simp; omega)] at this
        exact SeqAt.EqAt.of_refs e this
section
variable {X : Cx}
def rEqQ (K : PySem.W.Frag) (neg : Bool) : R2 := fun x y H Q => ∃ n a b xs ys, n ≤ 90 ∧ x = .ref a ∧ y = .ref b ∧ ((SqL K H a xs ∧ SqL K H b ys) ∨ (SqT K H a xs ∧ SqT K H b ys)) ∧ xs.length = ys.length ∧ (∀ (i : Nat) x y, xs[i]? = some x → ys[i]? = some y → Dq K H n x y) ∧ Q (.bl (!neg)) H
theorem op_eqQ (hu : X.A.units + 100 < cLine) : OpR X (compareOp .Eq) (rEqQ X.K false) := by
  intro pins s σ H x y v u Q I rx ry h
  obtain ⟨n, a, b, xs, ys, hn, rfl, rfl, hab, hl, hd, q⟩ := h
  cases rx
  cases ry
  have hrec := fun i x y (e1 : xs[i]? = some x) (e2 : ys[i]? = some y) u v (ru : RelV x u) (rv : RelV y v) => deep_eq I n X.A.in1 x y u v (hd i x y e1 e2) ru rv (by show X.A.units + 1 + n < cLine; omega)
  rcases hab with ⟨ha, hb⟩ | ⟨ha, hb⟩
  · obtain ⟨its, r, p, z⟩ := I.list ha
    obtain ⟨its2, r2, p2, z2⟩ := I.list hb
    have l1 := r.length
    have l2 := r2.length
    refine SeqAt.eq_listAt (e := fun _ => true) p.isList p2.isList (by simp; omega) (by omega) (fun j h1 h2 => items_deep (X := X) (pins := pins) (σ := σ) (H := H) (n := n) r r2 hrec j h1 h2) ⟨.bl _, H, I, rfl, ?_⟩
    rw [all_true]
    exact q
  · obtain ⟨its, r, p, z⟩ := I.tuple ha
    obtain ⟨its2, r2, p2, z2⟩ := I.tuple hb
    have l1 := r.length
    have l2 := r2.length
    refine SeqAt.eq_tupleAt (e := fun _ => true) p p2 (by omega) (fun j h1 h2 => items_deep (X := X) (pins := pins) (σ := σ) (H := H) (n := n) r r2 hrec j h1 h2) ⟨.bl _, H, I, rfl, ?_⟩
    rw [min_true (by simp; omega)]
    exact q
theorem op_neQ (hu : X.A.units + 100 < cLine) : OpR X (compareOp .NotEq) (rEqQ X.K true) := by
  intro pins s σ H x y v u Q I rx ry h
  obtain ⟨n, a, b, xs, ys, hn, rfl, rfl, hab, hl, hd, q⟩ := h
  cases rx
  cases ry
  have hrec := fun i x y (e1 : xs[i]? = some x) (e2 : ys[i]? = some y) u v (ru : RelV x u) (rv : RelV y v) => deep_eq I n X.A.in1 x y u v (hd i x y e1 e2) ru rv (by show X.A.units + 1 + n < cLine; omega)
  rcases hab with ⟨ha, hb⟩ | ⟨ha, hb⟩
  · obtain ⟨its, r, p, z⟩ := I.list ha
    obtain ⟨its2, r2, p2, z2⟩ := I.list hb
    have l1 := r.length
    have l2 := r2.length
    refine SeqAt.RcNeAt.lists (e := fun _ => true) p.isList p2.isList (by simp; omega) (by omega) (fun j h1 h2 => items_deep (X := X) (pins := pins) (σ := σ) (H := H) (n := n) r r2 hrec j h1 h2) _ _ _ _ ⟨.bl _, H, I, rfl, ?_⟩
    rw [all_true]
    exact q
  · obtain ⟨its, r, p, z⟩ := I.tuple ha
    obtain ⟨its2, r2, p2, z2⟩ := I.tuple hb
    have l1 := r.length
    have l2 := r2.length
    refine SeqAt.RcNeAt.tuples (e := fun _ => true) p p2 (by omega) (fun j h1 h2 => items_deep (X := X) (pins := pins) (σ := σ) (H := H) (n := n) r r2 hrec j h1 h2) _ _ _ _ ⟨.bl _, H, I, rfl, ?_⟩
    rw [min_true (by simp; omega)]
    exact q
theorem pre_sum (ns : List Int) : ∀ k, k ≤ ns.length → preSum (fun i => (ns[i]?).getD 0) k = (ns.take k).sum
  | 0, _ => by simp [preSum]
  | k + 1, h => by
    rw [preSum, pre_sum ns k (by omega), List.take_add_one, List.getElem?_eq_getElem (by omega), List.sum_append]
    show _ + ns[k] = _ + (ns[k] + 0)
    rw [Int.add_zero]
theorem call_sum (hc : X.calm = true) : CallR X (.builtin "sum") (fun xs H Q => ∃ (l : Addr) (ns : List Int), xs = [.ref l] ∧ SqL X.K H l (ns.map V.int) ∧ Q (.int ns.sum) H) := by
  intro pins s σ H xs us Q I r h
  obtain ⟨l, ns, rfl, hl, q⟩ := h
  obtain ⟨u, rfl, ru⟩ := vals1 r
  cases ru
  obtain ⟨its, rv, p, z⟩ := I.list hl
  have hlt : l < s.heap.objs.size := by obtain ⟨_, _, e, _⟩ := p; exact Heap.lt_size e
  have len := rv.length
  rw [List.length_map] at len
  refine call_sum_walkG (wpAny_pyIter_list p.isList ?_)
  refine ⟨s.heap.objs.size, [s.heap.objs.size, l], [s.heap.objs.size], its.toArray.size, _, _, fun i => (ns[i]?).getD 0, rfl, Walks.list (A := X.A.in1) (I.ok.hd hc) _ l (Nat.ne_of_lt hlt) its.toArray,
    ⟨⟨_, Heap.get?_push_size _ rfl, rfl, rfl⟩, p.isList.push _⟩, fun b hb => ?_, fun i v hP => ?_, fun h' tk t' hk => ?_⟩
  · show b < (s.heap.push _).objs.size
    rw [Heap.size_push]
    rcases List.mem_cons.mp hb with rfl | hb
    · exact Nat.lt_succ_self _
    · rw [List.mem_singleton.mp hb]
      exact Nat.lt_succ_of_lt hlt
  · have hi : its[i]? = some v := by simpa using hP
    have hlt2 : i < ns.length := by
      have := (List.getElem?_eq_some_iff.mp hi).1
      omega
    have eb : (ns.map V.int)[i]? = some (V.int ns[i]) := by rw [List.getElem?_map, List.getElem?_eq_getElem hlt2]; rfl
    obtain ⟨w', hw, t, ht⟩ := rv.get eb
    rw [hi] at hw
    cases hw
    refine ⟨t, ?_⟩
    have e2 : (ns[i]?).getD 0 = ns[i] := by rw [List.getElem?_eq_getElem hlt2]; rfl
    show v = Value.int ((ns[i]?).getD 0) t
    rw [e2]
    exact ht
  · have e1 : its.toArray.size = ns.length := by simp; omega
    have e : preSum (fun i => (ns[i]?).getD 0) its.toArray.size = ns.sum := by
      rw [e1, pre_sum ns _ (Nat.le_refl _), List.take_length]
    rw [e]
    exact ⟨.int _, H, I.kept fun b x e => hk b x (fun hm => by rw [List.mem_singleton.mp hm] at e; exact Nat.lt_irrefl _ (Heap.lt_size e)) (Heap.get?_push_of_some _ e), ⟨_, rfl⟩, q⟩
end
end L2

set_option maxHeartbeats 4000000
namespace L2
open PySem PySem.Spec PyProof.Rows Tl
def fillStep (w : Int) (rows : List (List Nat)) (t : List Nat) : List (List Nat) :=
  match rows.getLast? with
  | none => [t]
  | some l => if (l.length : Int) + 1 + t.length ≤ w then rows.dropLast ++ [l ++ 32 :: t] else rows ++ [t]
theorem fillStep_nil (w : Int) (t : List Nat) : fillStep w [] t = [t] := rfl
theorem fillStep_snoc (w : Int) (rs : List (List Nat)) (l t : List Nat) : fillStep w (rs ++ [l]) t = if (l.length : Int) + 1 + t.length ≤ w then rs ++ [l ++ 32 :: t] else rs ++ [l] ++ [t] := by simp [fillStep]
def fillW (w : Int) (ts : List (List Nat)) : List (List Nat) := ts.foldl (fillStep w) []
theorem fillW_snoc (w : Int) (ts : List (List Nat)) (t : List Nat) : fillW w (ts ++ [t]) = fillStep w (fillW w ts) t := by simp [fillW, List.foldl_append]
theorem list_snoc {α : Type} (l : List α) : l = [] ∨ ∃ r c, l = r ++ [c] := by
  by_cases h : l = []
  · exact .inl h
  · exact .inr ⟨l.dropLast, l.getLast h, (List.dropLast_concat_getLast h).symm⟩
theorem snoc_ind {α : Type} {P : List α → Prop} (h0 : P []) (h1 : ∀ l a, P l → P (l ++ [a])) : ∀ l, P l := by
  intro l
  have : ∀ n (l : List α), l.length = n → P l := by
    intro n
    induction n with
    | zero => intro l hl; rw [List.eq_nil_of_length_eq_zero hl]; exact h0
    | succ n ih =>
      intro l hl
      rcases list_snoc l with rfl | ⟨r, c, rfl⟩
      · exact h0
      · exact h1 r c (ih r (by simp at hl; exact hl))
  exact this _ l rfl
def numStep (w : Int) (x : Int × Int) (t : Int) : Int × Int := if 0 < x.1 ∧ x.2 + 1 + t ≤ w then (x.1, x.2 + 1 + t) else (x.1 + 1, t)
def numW (w : Int) (ts : List Int) : Int × Int := ts.foldl (numStep w) (0, 0)
theorem numW_snoc (w : Int) (ts : List Int) (t : Int) : numW w (ts ++ [t]) = numStep w (numW w ts) t := by simp [numW, List.foldl_append]
theorem fill_num (w : Int) (ts : List (List Nat)) : (numW w (ts.map fun t => (t.length : Int))).1 = (fillW w ts).length ∧ ((fillW w ts = [] ∧ ts = []) ∨ ∃ rs l, fillW w ts = rs ++ [l] ∧ (numW w (ts.map fun t => (t.length : Int))).2 = l.length) := by
  refine snoc_ind (P := fun ts => (numW w (ts.map fun t => (t.length : Int))).1 = (fillW w ts).length ∧ ((fillW w ts = [] ∧ ts = []) ∨ ∃ rs l, fillW w ts = rs ++ [l] ∧ (numW w (ts.map fun t => (t.length : Int))).2 = l.length)) ⟨rfl, .inl ⟨rfl, rfl⟩⟩ ?_ ts
  intro ts t ih
  rw [List.map_append, List.map_singleton, numW_snoc, fillW_snoc]
  obtain ⟨h1, h2⟩ := ih
  rcases h2 with ⟨h2, h3⟩ | ⟨rs, l, h2, h3⟩
  · rw [h2] at h1 ⊢
    rw [fillStep_nil, numStep, if_neg (by simp at h1; omega)]
    exact ⟨by simp at h1 ⊢; omega, .inr ⟨[], t, rfl, rfl⟩⟩
  · rw [h2] at h1 ⊢
    rw [fillStep_snoc, numStep]
    by_cases e : (l.length : Int) + 1 + t.length ≤ w
    · rw [if_pos e, if_pos ⟨by simp at h1; omega, by rw [h3]; exact e⟩]
      refine ⟨by simp at h1 ⊢; omega, .inr ⟨rs, _, rfl, ?_⟩⟩
      simp
      omega
    · rw [if_neg e, if_neg (by rw [h3]; omega)]
      exact ⟨by simp at h1 ⊢; omega, .inr ⟨rs ++ [l], t, rfl, rfl⟩⟩
theorem fill_small {w : Int} (hw : w ≤ 4000) (ts : List (List Nat)) (h : ∀ t ∈ ts, t.length ≤ 62) : (∀ r ∈ fillW w ts, r.length ≤ 4000) ∧ (fillW w ts).length ≤ ts.length := by
  revert h
  refine snoc_ind (P := fun ts => (∀ t ∈ ts, t.length ≤ 62) → (∀ r ∈ fillW w ts, r.length ≤ 4000) ∧ (fillW w ts).length ≤ ts.length) (fun _ => ⟨fun r hr => (by cases hr), Nat.le_refl _⟩) ?_ ts
  intro ts t ih h
  obtain ⟨i1, i2⟩ := ih fun u hu => h u (List.mem_append_left _ hu)
  have ht := h t (by simp)
  rw [fillW_snoc]
  rcases list_snoc (fillW w ts) with e | ⟨rs, l, e⟩
  · rw [e, fillStep_nil]
    exact ⟨fun r hr => by rw [List.mem_singleton.mp hr]; omega, by simp⟩
  · rw [e] at i1 i2 ⊢
    rw [fillStep_snoc]
    by_cases c : (l.length : Int) + 1 + t.length ≤ w
    · rw [if_pos c]
      refine ⟨fun r hr => ?_, by simp at i2 ⊢; omega⟩
      rcases List.mem_append.mp hr with hr | hr
      · exact i1 r (List.mem_append_left _ hr)
      · rw [List.mem_singleton.mp hr]
        simp
        omega
    · rw [if_neg c]
      refine ⟨fun r hr => ?_, by simp at i2 ⊢; omega⟩
      rcases List.mem_append.mp hr with hr | hr
      · exact i1 r hr
      · rw [List.mem_singleton.mp hr]; omega
theorem fill_wide (w : Int) (ts : List (List Nat)) : (fillW w ts).any (fun r => decide (w < r.length)) = ts.any (fun t => decide (w < t.length)) := by
  refine snoc_ind (P := fun ts => (fillW w ts).any (fun r => decide (w < r.length)) = ts.any (fun t => decide (w < t.length))) rfl ?_ ts
  intro ts t ih
  rw [fillW_snoc, List.any_append, ← ih]
  rcases list_snoc (fillW w ts) with e | ⟨rs, l, e⟩
  · rw [e, fillStep_nil]
    rfl
  · rw [e, fillStep_snoc]
    by_cases c : (l.length : Int) + 1 + t.length ≤ w
    · rw [if_pos c, List.any_append, List.any_append]
      have c1 : ¬ w < ((l ++ 32 :: t).length : Int) := by simp; omega
      have c2 : ¬ w < (l.length : Int) := by omega
      have c3 : ¬ w < (t.length : Int) := by omega
      simp [c2, c3]
      all_goals omega
    · rw [if_neg c, List.any_append]
def highF (w h : Int) (ts : List (List Nat)) : Int := if (fillW w ts).any (fun r => decide (w < r.length)) then h else if h < (fillW w ts).length then h else (fillW w ts).length
def highN (w h : Int) (ts : List Int) : Int := if ts.any (fun t => decide (w < t)) then h else if h < (numW w ts).1 then h else (numW w ts).1
theorem high_eq (w h : Int) (ts : List (List Nat)) : highF w h ts = highN w h (ts.map fun t => (t.length : Int)) := by
  unfold highF highN
  rw [fill_wide, (fill_num w ts).1, List.any_map]
  rfl
def lexLe (x y : Int × Int) : Prop := x.1 < y.1 ∨ (x.1 = y.1 ∧ x.2 ≤ y.2)
theorem step_grows {w t u : Int} {x y : Int × Int} (h : lexLe x y) (hx : 0 ≤ x.1) (hx2 : 0 ≤ x.2) (hy2 : 0 ≤ y.2) (ht : t ≤ u) (t0 : 0 ≤ t) : lexLe (numStep w x t) (numStep w y u) := by
  obtain ⟨a, b⟩ := x
  obtain ⟨c, d⟩ := y
  unfold lexLe numStep at *
  simp only at *
  repeat' split
  all_goals (simp only; omega)
theorem lexLe.refl (x : Int × Int) : lexLe x x := .inr ⟨rfl, Int.le_refl _⟩
theorem lexLe.trans {x y z : Int × Int} (a : lexLe x y) (b : lexLe y z) : lexLe x z := by
  unfold lexLe at *
  omega
theorem fold_grows {w : Int} : ∀ {ts us : List Int} {x y : Int × Int}, ts.length = us.length → (∀ k, k < ts.length → ts.getD k 0 ≤ us.getD k 0) → (∀ t ∈ ts, 0 ≤ t) → lexLe x y → 0 ≤ x.1 → 0 ≤ x.2 → 0 ≤ y.2 → lexLe (ts.foldl (numStep w) x) (us.foldl (numStep w) y)
  | [], [], x, y, _, _, _, h, _, _, _ => h
  | [], _ :: _, _, _, e, _, _, _, _, _, _ => by simp at e
  | _ :: _, [], _, _, e, _, _, _, _, _, _ => by simp at e
  | t :: ts, u :: us, x, y, e, hk, h0, h, a, b, c => by
    have t0 := h0 t (by simp)
    have tu : t ≤ u := hk 0 (by simp)
    rw [List.foldl_cons, List.foldl_cons]
    refine fold_grows (by simpa using e) (fun k hk2 => ?_) (fun v hv => h0 v (List.mem_cons_of_mem _ hv)) (step_grows h a b c tu t0) ?_ ?_ ?_
    · have := hk (k + 1) (by simp; omega)
      simpa using this
    · unfold numStep; split <;> simp only <;> omega
    · unfold numStep; split <;> simp only <;> omega
    · unfold numStep; split <;> simp only <;> omega
theorem any_grows {w : Int} : ∀ {ts us : List Int}, ts.length = us.length → (∀ k, k < ts.length → ts.getD k 0 ≤ us.getD k 0) → ts.any (fun t => decide (w < t)) = true → us.any (fun t => decide (w < t)) = true
  | [], [], _, _, h => h
  | [], _ :: _, e, _, _ => by simp at e
  | _ :: _, [], e, _, _ => by simp at e
  | t :: ts, u :: us, e, hk, h => by
    have tu : t ≤ u := hk 0 (by simp)
    rw [List.any_cons, Bool.or_eq_true] at h ⊢
    rcases h with h | h
    · exact .inl (decide_eq_true (by have := of_decide_eq_true h; omega))
    · exact .inr (any_grows (by simpa using e) (fun k hk2 => by have := hk (k + 1) (by simp; omega); simpa using this) h)
theorem high_grows {w h : Int} {ts us : List Int} (e : ts.length = us.length) (hk : ∀ k, k < ts.length → ts.getD k 0 ≤ us.getD k 0) (h0 : ∀ t ∈ ts, 0 ≤ t) : highN w h ts ≤ highN w h us := by
  have a := fold_grows (w := w) e hk h0 (lexLe.refl (0, 0)) (by decide) (by decide) (by decide)
  have b := any_grows (w := w) e hk
  have c : lexLe (numW w ts) (numW w us) := a
  unfold highN
  by_cases x : ts.any (fun t => decide (w < t)) = true
  · rw [if_pos x, if_pos (b x)]
    exact Int.le_refl _
  · rw [if_neg x]
    unfold lexLe at c
    repeat' split
    all_goals omega
def rowsV (rows : List (List Nat)) : List V := rows.map fun t => V.str (tx t)
def SaysA (K : PySem.W.Frag) (H : Hp) (bs : List Addr) (ss : List Say) : Prop := bs.length = ss.length ∧ ∀ (i : Nat) b s, bs[i]? = some b → ss[i]? = some s → SqT K H b (sayV s)
theorem SaysA.same {K : PySem.W.Frag} {H H' : Hp} {bs : List Addr} {ss : List Say} (s : Same H H') (h : SaysA K H bs ss) : SaysA K H' bs ss := ⟨h.1, fun i a x e e' => s.tup (h.2 i a x e e')⟩
theorem SaysA.lst {K : PySem.W.Frag} {H : Hp} {l : Addr} {ys zs : List V} {bs : List Addr} {ss : List Say} (e : H l = some (.lst ys)) (h : SaysA K H bs ss) : SaysA K (upd H l (.lst zs)) bs ss := ⟨h.1, fun i a x e1 e' => SqT.lst e (h.2 i a x e1 e')⟩
theorem SaysA.nil {K : PySem.W.Frag} {H : Hp} : SaysA K H [] [] := ⟨rfl, fun i a x e _ => by simp at e⟩
theorem SaysA.app {K : PySem.W.Frag} {H : Hp} {bs cs : List Addr} {ss ts : List Say} (h : SaysA K H bs ss) (g : SaysA K H cs ts) : SaysA K H (bs ++ cs) (ss ++ ts) := by
  refine ⟨by simp [h.1, g.1], fun i b y e e' => ?_⟩
  by_cases hi : i < bs.length
  · rw [List.getElem?_append_left hi] at e
    rw [List.getElem?_append_left (by rw [← h.1]; exact hi)] at e'
    exact h.2 i b y e e'
  · rw [List.getElem?_append_right (by omega)] at e
    rw [List.getElem?_append_right (by rw [← h.1]; omega), ← h.1] at e'
    exact g.2 _ b y e e'
theorem SaysA.one {K : PySem.W.Frag} {H : Hp} {b : Addr} {s : Say} (h : SqT K H b (sayV s)) : SaysA K H [b] [s] := by
  refine ⟨rfl, fun i a x e e' => ?_⟩
  match i, e, e' with
  | 0, e, e' =>
    cases e
    cases e'
    exact h
theorem SaysA.take {K : PySem.W.Frag} {H : Hp} {bs : List Addr} {ss : List Say} (h : SaysA K H bs ss) (n : Nat) : SaysA K H (bs.take n) (ss.take n) := by
  refine ⟨by simp [h.1], fun i b y e e' => ?_⟩
  rw [List.getElem?_take] at e e'
  split at e
  · rename_i c
    rw [if_pos c] at e'
    exact h.2 i b y e e'
  · cases e
theorem SaysA.drop {K : PySem.W.Frag} {H : Hp} {bs : List Addr} {ss : List Say} (h : SaysA K H bs ss) (n : Nat) : SaysA K H (bs.drop n) (ss.drop n) := by
  refine ⟨by simp [h.1], fun i b y e e' => ?_⟩
  rw [List.getElem?_drop] at e e'
  exact h.2 _ b y e e'
theorem Same.put {H H2 : Hp} {r : Addr} {o : HO} (s : Same H H2) (hr : H r = none) : Same H (upd H2 r o) := fun b u q => by rw [upd_ne (ne_of_none q hr)]; exact s b u q
theorem ix_last (n : Nat) (h : 0 < n) : ixN n (-1) = some (n - 1) := by
  unfold ixN
  rw [if_neg (by decide), if_pos (by omega)]
  congr 1
  omega
theorem set_last (rs : List V) (l x : V) : (rs ++ [l]).set ((rs ++ [l]).length - 1) x = rs ++ [x] := by
  rw [List.length_append, List.length_singleton, Nat.add_sub_cancel, List.set_append_right _ _ (Nat.le_refl _), Nat.sub_self]
  rfl
theorem rowsV_snoc (rs : List (List Nat)) (t : List Nat) : rowsV (rs ++ [t]) = rowsV rs ++ [V.str (tx t)] := by simp [rowsV]
theorem flat_rows (rs : List (List Nat)) : (rowsV rs).all flatV = true := by
  unfold rowsV
  rw [List.all_map]
  exact List.all_eq_true.mpr fun _ _ => rfl
theorem cbl : (PySem.Str.ofString " ") = tx [32] := by decide +kernel
theorem rows_nil (rs : List (List Nat)) : eqVs (rowsV rs) [] = rs.isEmpty := by
  cases rs with
  | nil => rfl
  | cons a r => rfl
theorem foot_at {bs : List Addr} {ss : List Say} (e : bs.length = ss.length) {i : Nat} {y : V} (h : (bs.map V.ref)[i]? = some y) : ∃ b s, y = V.ref b ∧ bs[i]? = some b ∧ ss[i]? = some s := by
  rw [List.getElem?_map] at h
  cases eb : bs[i]? with
  | none => rw [eb] at h; cases h
  | some b =>
    rw [eb] at h
    have hi : i < ss.length := by rw [← e]; exact (List.getElem?_eq_some_iff.mp eb).1
    exact ⟨b, ss[i], (Option.some.inj h).symm, rfl, List.getElem?_eq_getElem hi⟩
theorem take_snoc {α : Type} {l : List α} {i : Nat} {a : α} (h : l[i]? = some a) : l.take (i + 1) = l.take i ++ [a] := by rw [List.take_add_one, h]; rfl
theorem rows_at {rs : List (List Nat)} {i : Nat} {y : V} (h : (rowsV rs)[i]? = some y) : ∃ t, y = V.str (tx t) ∧ rs[i]? = some t := by
  unfold rowsV at h
  rw [List.getElem?_map] at h
  cases e : rs[i]? with
  | none => rw [e] at h; cases h
  | some t => rw [e] at h; exact ⟨t, (Option.some.inj h).symm, rfl⟩
theorem cutV_map {α : Type} (f : α → V) (ns : List α) (lo hi : Option Int) : cutV (ns.map f) lo hi = (cutL ns lo hi).map f := by
  unfold cutV cutL
  rw [List.length_map, List.map_take, List.map_drop]
end L2

set_option maxHeartbeats 4000000
namespace L2
open PySem PySem.Spec PyProof.Rows Tl
theorem pick {α : Type} (xs : List α) (m k : Int) (h : m = (xs.length : Int)) (h0 : 0 < m) : ∃ z, z ∈ xs ∧ atI xs (k % m) = some z := by
  have b1 := Int.emod_nonneg k (show m ≠ 0 by omega)
  have b2 := Int.emod_lt_of_pos k h0
  obtain ⟨d, hd⟩ := Int.eq_ofNat_of_zero_le b1
  have hl : d < xs.length := by omega
  refine ⟨xs[d], List.getElem_mem hl, ?_⟩
  rw [hd]
  exact atI_nat (List.getElem?_eq_getElem hl)
theorem at_int {xs : List Int} (k : Nat) (h : k < xs.length) : atI (xs.map V.int) (k : Int) = some (V.int (xs.getD k 0)) := by
  refine atI_nat ?_
  rw [List.getElem?_map, List.getD_eq_getElem?_getD, List.getElem?_eq_getElem h]
  rfl
def StrOk (n : Nat) (xs : List Int) : Prop := xs.length = n ∧ ∀ x ∈ xs, 0 ≤ x ∧ x < 2147483647
theorem StrOk.get {n k : Nat} {xs : List Int} (h : StrOk n xs) (hk : k < n) : 0 ≤ xs.getD k 0 ∧ xs.getD k 0 < 2147483647 := by
  have hk2 : k < xs.length := by rw [h.1]; exact hk
  rw [List.getD_eq_getElem?_getD, List.getElem?_eq_getElem hk2]
  exact h.2 _ (List.getElem_mem hk2)
theorem StrOk.at {n k : Nat} {xs : List Int} (h : StrOk n xs) (hk : k < n) : atI (xs.map V.int) (k : Int) = some (V.int (xs.getD k 0)) := at_int k (by rw [h.1]; exact hk)
end L2
namespace L2
open PySem PySem.Spec PyProof.Rows Tl
structure Wd where
  lead : Int
  kept : Bool
  say : Say
  foot : List Say
structure WdOk (n : Nat) (d : Wd) : Prop where
  l0 : 0 ≤ d.lead
  l1 : d.lead ≤ 4
  s : SayOk n d.say
  f : ∀ s ∈ d.foot, SayOk n s
  n : d.foot.length ≤ 40
def WdAt (K : PySem.W.Frag) (H : Hp) (a : Addr) (d : Wd) : Prop := ∃ (sa fo : Addr) (bs : List Addr), SqT K H a [.int d.lead, .bl d.kept, .ref sa, .ref fo] ∧ SqT K H sa (sayV d.say) ∧ SqL K H fo (bs.map V.ref) ∧ SaysA K H bs d.foot
theorem WdAt.same {K : PySem.W.Frag} {H H' : Hp} {a : Addr} {d : Wd} (s : Same H H') (h : WdAt K H a d) : WdAt K H' a d := by
  obtain ⟨sa, fo, bs, h1, h2, h3, h4⟩ := h
  exact ⟨sa, fo, bs, s.tup h1, s.tup h2, s.seq h3, h4.same s⟩
def WdsA (K : PySem.W.Frag) (H : Hp) (as : List Addr) (ds : List Wd) : Prop := as.length = ds.length ∧ ∀ (i : Nat) a d, as[i]? = some a → ds[i]? = some d → WdAt K H a d
theorem WdsA.same {K : PySem.W.Frag} {H H' : Hp} {as : List Addr} {ds : List Wd} (s : Same H H') (h : WdsA K H as ds) : WdsA K H' as ds := ⟨h.1, fun i a d e e' => (h.2 i a d e e').same s⟩
theorem WdsA.nil {K : PySem.W.Frag} {H : Hp} : WdsA K H [] [] := ⟨rfl, fun i a x e _ => by simp at e⟩
theorem WdsA.snoc {K : PySem.W.Frag} {H : Hp} {as : List Addr} {ds : List Wd} {a : Addr} {d : Wd} (h : WdsA K H as ds) (hx : WdAt K H a d) : WdsA K H (as ++ [a]) (ds ++ [d]) := by
  refine ⟨by simp [h.1], fun i b y e e' => ?_⟩
  by_cases hi : i < as.length
  · rw [List.getElem?_append_left hi] at e
    rw [List.getElem?_append_left (by rw [← h.1]; exact hi)] at e'
    exact h.2 i b y e e'
  · rw [List.getElem?_append_right (by omega)] at e
    rw [List.getElem?_append_right (by rw [← h.1]; omega)] at e'
    have : i - as.length = 0 := by
      rcases Nat.eq_zero_or_pos (i - as.length) with z | z
      · exact z
      · rw [List.getElem?_eq_none (by simp; omega)] at e; cases e
    rw [this] at e
    rw [← h.1, this] at e'
    cases e
    cases e'
    exact hx
def BkAt (K : PySem.W.Frag) (H : Hp) (b : Addr) (w h f m : Int) (ds : List Wd) : Prop := ∃ (fa wa : Addr) (as : List Addr), SqT K H b [.ref fa, .ref wa] ∧ SqT K H fa (fm w h f m) ∧ SqL K H wa (as.map V.ref) ∧ WdsA K H as ds
theorem BkAt.same {K : PySem.W.Frag} {H H' : Hp} {b : Addr} {w h f m : Int} {ds : List Wd} (s : Same H H') (g : BkAt K H b w h f m ds) : BkAt K H' b w h f m ds := by
  obtain ⟨fa, wa, as, h1, h2, h3, h4⟩ := g
  exact ⟨fa, wa, as, s.tup h1, s.tup h2, s.seq h3, h4.same s⟩
def LwAt (K : PySem.W.Frag) (H : Hp) (a : Addr) (xs : List (Int × Int)) : Prop := ∃ as : List Addr, SqL K H a (as.map V.ref) ∧ PlsA K H as xs
theorem LwAt.same {K : PySem.W.Frag} {H H' : Hp} {a : Addr} {xs : List (Int × Int)} (s : Same H H') (h : LwAt K H a xs) : LwAt K H' a xs := by
  obtain ⟨as, h1, h2⟩ := h
  exact ⟨as, s.seq h1, h2.same s⟩
end L2
namespace L2
open PySem PySem.Spec PyProof.Rows Tl
theorem cut_nat {α : Type} (xs : List α) (a b : Nat) : cutL xs (some (a : Int)) (some (b : Int)) = (xs.drop a).take (b - a) := by
  unfold cutL HT.sIx
  have h1 : ¬ ((a : Int) < 0) := by omega
  have h2 : ¬ ((b : Int) < 0) := by omega
  simp only [if_neg h1, if_neg h2, Int.toNat_natCast]
  by_cases h : a ≤ xs.length
  · rw [Nat.min_eq_left h]
    by_cases g : b ≤ xs.length
    · rw [Nat.min_eq_left g]
    · rw [Nat.min_eq_right (by omega), List.take_of_length_le (by simp), List.take_of_length_le (by simp; omega)]
  · rw [List.drop_of_length_le (by omega), List.drop_of_length_le (by omega)]
    simp
theorem StrOk.cut {n a : Nat} {xs : List Int} (h : StrOk n xs) (b : Nat) (hb : a + b ≤ n) : StrOk b ((xs.drop a).take b) := by
  refine ⟨by simp [h.1]; omega, fun x hx => h.2 x (List.mem_of_mem_drop (List.mem_of_mem_take hx))⟩
end L2

set_option maxHeartbeats 4000000
namespace L2
open PySem PySem.Spec PyProof.Rows Tl

section
variable {prog : Program} {w : World} {A : Around} {R : Result → Shared → Prop} {I : Addr} {fp wr : List Addr} {P : Nat → Value → Prop} {St : Nat → Heap → Prop}
end
section
variable {prog : Program} {w : World} {A : Around} {R : Result → Shared → Prop} {I : Addr} {fp wr : List Addr} {P : Nat → Value → Prop} {St : Nat → Heap → Prop}
end
end L2

set_option maxHeartbeats 4000000
namespace L2
open PySem PySem.Spec PyProof.Rows Tl
def laterI (x y : Int × Int) : Int × Int := if sooner x y then y else x
structure Frm where
  w : Int
  h : Int
  f : Int
  m : Int
structure BkOk (F : Frm) (ds : List Wd) (xs : List (Int × Int)) : Prop where
  fo : FormOk F.w F.h F.f F.m
  len : ds.length = xs.length
  wd : ∀ d ∈ ds, WdOk ds.length d
  po : PlsOk F.h xs
  n : ds.length ≤ 400
def wd0 : Wd := ⟨0, false, .text [], []⟩
abbrev dAt (ds : List Wd) (i : Nat) : Wd := ds.getD i wd0
abbrev xAt (xs : List (Int × Int)) (i : Nat) : Int × Int := xs.getD i (0, 0)
def wideW (F : Frm) (xs : List (Int × Int)) (d : Wd) : Int := ((saidL F.h F.f xs d.say).length : Int)
def highW (F : Frm) (xs : List (Int × Int)) (d : Wd) : Int := highF F.w F.h (d.foot.map (saidL F.h F.f xs))
def toldBehind (F : Frm) (ds : List Wd) (xs : List (Int × Int)) (i : Nat) : Int × Int :=
  firstFrom F.f (if 0 < i then laterI (xAt xs i) (behindI F.h F.f (xAt xs (i - 1)) (dAt ds i).lead) else xAt xs i) (dAt ds i).lead
def toldWide (F : Frm) (xs : List (Int × Int)) (j : Nat) (wide : Int) : Option (Int × Int) := if wide ≤ F.w then none else some (behindI F.h F.f (xAt xs j) 1)
def toldHigh (F : Frm) (xs : List (Int × Int)) (i j : Nat) (high : Int) : Option (Int × Int) := if (xAt xs j).1 < (xAt xs i).1 ∨ (xAt xs i).2 + 1 + high ≤ F.h then none else some ((xAt xs i).1 + 1, 0)
def toldKept (ds : List Wd) (xs : List (Int × Int)) (i : Nat) : Option (Int × Int) := if i + 1 = ds.length ∨ (dAt ds (i + 1)).kept = false then none else some ((xAt xs (i + 1)).1, 0)
def toldNever (F : Frm) (ds : List Wd) (xs : List (Int × Int)) (i : Nat) : Option (Int × Int) := if wideW F xs (dAt ds i) ≤ F.w ∧ highW F xs (dAt ds i) + 1 ≤ F.h then none else some (F.m, 0)
def segD (ds : List Wd) (j i : Nat) : List Wd := (ds.drop j).take (i + 1 - j)
def wides (F : Frm) (ds : List Wd) (xs : List (Int × Int)) (j i : Nat) : List Int := (segD ds j i).map (wideW F xs)
def highs (F : Frm) (ds : List Wd) (xs : List (Int × Int)) (j i : Nat) : List Int := (segD ds j i).map (highW F xs)
def together (l : List Int) : Int := l.sum + l.length - 1
def PlO (K : PySem.W.Frag) (H : Hp) (v : V) : Option (Int × Int) → Prop
  | none => v = .non
  | some x => ∃ q, v = .ref q ∧ SqT K H q (pl x)
theorem PlO.same {K : PySem.W.Frag} {H H' : Hp} {v : V} {o : Option (Int × Int)} (s : Same H H') (h : PlO K H v o) : PlO K H' v o := by
  cases o with
  | none => exact h
  | some x => obtain ⟨q, e, hq⟩ := h; exact ⟨q, e, s.tup hq⟩
theorem BkOk.d {F : Frm} {ds : List Wd} {xs : List (Int × Int)} (B : BkOk F ds xs) {i : Nat} (h : i < ds.length) : ds[i]? = some (dAt ds i) ∧ WdOk xs.length (dAt ds i) := by
  have e : ds[i]? = some ds[i] := List.getElem?_eq_getElem h
  have e2 : dAt ds i = ds[i] := by show ds.getD i wd0 = _; rw [List.getD_eq_getElem?_getD, e]; rfl
  rw [e2]
  exact ⟨e, B.len ▸ B.wd _ (List.getElem_mem h)⟩
theorem BkOk.x {F : Frm} {ds : List Wd} {xs : List (Int × Int)} (B : BkOk F ds xs) {i : Nat} (h : i < ds.length) : RowIn F.h (xAt xs i) ∧ (xAt xs i).1 < 10 ^ 60 := B.po.get (B.len ▸ h)
theorem WdsA.get {K : PySem.W.Frag} {H : Hp} {as : List Addr} {ds : List Wd} (h : WdsA K H as ds) {k : Nat} (hk : k < ds.length) : ∃ a, atI (as.map V.ref) (k : Int) = some (V.ref a) ∧ WdAt K H a (dAt ds k) := by
  have hk2 : k < as.length := by rw [h.1]; exact hk
  refine ⟨as[k], atI_nat (by rw [List.getElem?_map, List.getElem?_eq_getElem hk2]; rfl), ?_⟩
  have e : ds[k]? = some (dAt ds k) := by
    show _ = some (ds.getD k wd0)
    rw [List.getD_eq_getElem?_getD, List.getElem?_eq_getElem hk]
    rfl
  exact h.2 k _ _ (List.getElem?_eq_getElem hk2) e
theorem WdsA.drop {K : PySem.W.Frag} {H : Hp} {as : List Addr} {ds : List Wd} (h : WdsA K H as ds) (n : Nat) : WdsA K H (as.drop n) (ds.drop n) := by
  refine ⟨by simp [h.1], fun i b y e e' => ?_⟩
  rw [List.getElem?_drop] at e e'
  exact h.2 _ b y e e'
theorem WdsA.take {K : PySem.W.Frag} {H : Hp} {as : List Addr} {ds : List Wd} (h : WdsA K H as ds) (n : Nat) : WdsA K H (as.take n) (ds.take n) := by
  refine ⟨by simp [h.1], fun i b y e e' => ?_⟩
  rw [List.getElem?_take] at e e'
  split at e
  · rename_i c
    rw [if_pos c] at e'
    exact h.2 i b y e e'
  · cases e
theorem wd_at {as : List Addr} {ds : List Wd} (e : as.length = ds.length) {i : Nat} {y : V} (h : (as.map V.ref)[i]? = some y) : ∃ b d, y = V.ref b ∧ as[i]? = some b ∧ ds[i]? = some d := by
  rw [List.getElem?_map] at h
  cases eb : as[i]? with
  | none => rw [eb] at h; cases h
  | some b =>
    rw [eb] at h
    have hi : i < ds.length := by rw [← e]; exact (List.getElem?_eq_some_iff.mp eb).1
    exact ⟨b, ds[i], (Option.some.inj h).symm, rfl, List.getElem?_eq_getElem hi⟩
theorem LwAt.get {K : PySem.W.Frag} {H : Hp} {a : Addr} {xs : List (Int × Int)} {as : List Addr} (h : PlsA K H as xs) {k : Nat} (hk : k < xs.length) : ∃ b, atI (as.map V.ref) (k : Int) = some (V.ref b) ∧ SqT K H b (pl (xAt xs k)) := h.get hk
def PlOs (K : PySem.W.Frag) (H : Hp) (vs : List V) (os : List (Option (Int × Int))) : Prop := vs.length = os.length ∧ ∀ (k : Nat) v o, vs[k]? = some v → os[k]? = some o → PlO K H v o
theorem PlOs.same {K : PySem.W.Frag} {H H' : Hp} {vs : List V} {os : List (Option (Int × Int))} (s : Same H H') (h : PlOs K H vs os) : PlOs K H' vs os := ⟨h.1, fun k v o e e' => (h.2 k v o e e').same s⟩
theorem PlO.lst {K : PySem.W.Frag} {H : Hp} {l : Addr} {ys zs : List V} {v : V} {o : Option (Int × Int)} (e : H l = some (.lst ys)) (h : PlO K H v o) : PlO K (upd H l (.lst zs)) v o := by
  cases o with
  | none => exact h
  | some x => obtain ⟨q, e1, hq⟩ := h; exact ⟨q, e1, SqT.lst e hq⟩
theorem PlOs.lst {K : PySem.W.Frag} {H : Hp} {l : Addr} {ys zs : List V} {vs : List V} {os : List (Option (Int × Int))} (e : H l = some (.lst ys)) (h : PlOs K H vs os) : PlOs K (upd H l (.lst zs)) vs os := ⟨h.1, fun k v o e1 e' => (h.2 k v o e1 e').lst e⟩
theorem PlOs.nil {K : PySem.W.Frag} {H : Hp} : PlOs K H [] [] := ⟨rfl, fun k v o e _ => by simp at e⟩
theorem PlOs.snoc {K : PySem.W.Frag} {H : Hp} {vs : List V} {os : List (Option (Int × Int))} {v : V} {o : Option (Int × Int)} (h : PlOs K H vs os) (hx : PlO K H v o) : PlOs K H (vs ++ [v]) (os ++ [o]) := by
  refine ⟨by simp [h.1], fun i b y e e' => ?_⟩
  by_cases hi : i < vs.length
  · rw [List.getElem?_append_left hi] at e
    rw [List.getElem?_append_left (by rw [← h.1]; exact hi)] at e'
    exact h.2 i b y e e'
  · rw [List.getElem?_append_right (by omega)] at e
    rw [List.getElem?_append_right (by rw [← h.1]; omega)] at e'
    have : i - vs.length = 0 := by
      rcases Nat.eq_zero_or_pos (i - vs.length) with z | z
      · exact z
      · rw [List.getElem?_eq_none (by simp; omega)] at e; cases e
    rw [this] at e
    rw [← h.1, this] at e'
    cases e
    cases e'
    exact hx
def allTold (F : Frm) (ds : List Wd) (xs : List (Int × Int)) (i : Nat) : List (Option (Int × Int)) :=
  [some (toldBehind F ds xs i), toldKept ds xs i, toldNever F ds xs i] ++ (List.range i).map (fun j => toldWide F xs j (together (wides F ds xs j i))) ++ (List.range (i + 1)).map (fun j => toldHigh F xs i j (highs F ds xs j i).sum)
def bestOf (b : Int × Int) (os : List (Option (Int × Int))) : Int × Int := os.foldl (fun b o => match o with | none => b | some x => laterI b x) b
def raisedI (F : Frm) (ds : List Wd) (xs : List (Int × Int)) (i : Nat) : Int × Int := bestOf (xAt xs i) (allTold F ds xs i)
theorem cut_fr {α : Type} (xs : List α) (a : Nat) : cutL xs (some (a : Int)) none = xs.drop a := by
  unfold cutL HT.sIx
  have h2 : ¬ ((a : Int) < 0) := by omega
  simp only [if_neg h2, Int.toNat_natCast]
  rw [List.take_of_length_le (by simp)]
  by_cases g : a ≤ xs.length
  · rw [Nat.min_eq_left g]
  · rw [Nat.min_eq_right (by omega), List.drop_of_length_le (by omega), List.drop_of_length_le (by omega)]
theorem op_neNil {X : Cx} (hu : X.A.units < cLine) : OpR X (compareOp .NotEq) (fun x y H Q => ∃ a b xs, x = .ref a ∧ y = .ref b ∧ SqL X.K H a xs ∧ SqL X.K H b [] ∧ Q (.bl (!xs.isEmpty)) H) := by
  intro pins s σ H x y v u Q I rx ry h
  obtain ⟨a, b, xs, rfl, rfl, ha, hb, q⟩ := h
  cases rx
  cases ry
  obtain ⟨its, r, p, z⟩ := I.list ha
  obtain ⟨its2, r2, p2, z2⟩ := I.list hb
  have l1 := r.length
  have l2 := r2.length
  cases xs with
  | nil =>
    refine SeqAt.RcNeAt.lists (e := fun _ => true) p.isList p2.isList (by simp at l1 l2 ⊢; omega) hu (fun j h1 h2 => absurd h1 (by simp at l1 ⊢; omega)) _ _ _ _ ⟨.bl _, H, I, rfl, ?_⟩
    have e : its.toArray.size = 0 := by rw [List.size_toArray]; exact l1.symm
    rw [e]
    exact q
  | cons x r => exact SeqAt.RcNeAt.lists_lengths p.isList p2.isList (by simp at l1 l2 ⊢; omega) hu _ _ _ _ ⟨.bl true, H, I, rfl, q⟩
theorem PlsA.set {K : PySem.W.Frag} {H : Hp} {as : List Addr} {xs : List (Int × Int)} {a : Addr} {x : Int × Int} (h : PlsA K H as xs) (k : Nat) (hx : SqT K H a (pl x)) : PlsA K H (as.set k a) (xs.set k x) := by
  refine ⟨by simp [h.1], fun i b y e e' => ?_⟩
  rw [List.getElem?_set] at e e'
  by_cases c : k = i
  · rw [if_pos c] at e e'
    split at e
    · split at e'
      · cases e; cases e'; exact hx
      · cases e'
    · cases e
  · rw [if_neg c] at e e'
    exact h.2 i b y e e'
theorem PlsOk.set {h : Int} {xs : List (Int × Int)} {x : Int × Int} (o : PlsOk h xs) (k : Nat) (i : RowIn h x) (b : x.1 < 10 ^ 60) : PlsOk h (xs.set k x) := by
  intro y hy
  rcases List.mem_or_eq_of_mem_set hy with hy | rfl
  · exact o y hy
  · exact ⟨i, b⟩
end L2
namespace L2
open PySem PySem.Spec PyProof.Rows Tl
def Cp (K : PySem.W.Frag) (H : Hp) (a b : Addr) : Prop := ∃ (l : Int) (k : Bool) (sa fo fo' : Addr) (bs : List Addr), SqT K H a [.int l, .bl k, .ref sa, .ref fo] ∧ SqT K H b [.int l, .bl k, .ref sa, .ref fo'] ∧ SqL K H fo (bs.map V.ref) ∧ SqL K H fo' (bs.map V.ref)
theorem Cp.same {K : PySem.W.Frag} {H H' : Hp} {a b : Addr} (s : Same H H') (h : Cp K H a b) : Cp K H' a b := by
  obtain ⟨l, k, sa, fo, fo', bs, h1, h2, h3, h4⟩ := h
  exact ⟨l, k, sa, fo, fo', bs, s.tup h1, s.tup h2, s.seq h3, s.seq h4⟩
def CpA (K : PySem.W.Frag) (H : Hp) (as bs : List Addr) : Prop := as.length = bs.length ∧ ∀ (i : Nat) a b, as[i]? = some a → bs[i]? = some b → Cp K H a b
theorem CpA.same {K : PySem.W.Frag} {H H' : Hp} {as bs : List Addr} (s : Same H H') (h : CpA K H as bs) : CpA K H' as bs := ⟨h.1, fun i a b e e' => (h.2 i a b e e').same s⟩
theorem CpA.snoc {K : PySem.W.Frag} {H : Hp} {as bs : List Addr} {a b : Addr} (h : CpA K H as bs) (hx : Cp K H a b) : CpA K H (as ++ [a]) (bs ++ [b]) := by
  refine ⟨by simp [h.1], fun i c y e e' => ?_⟩
  by_cases hi : i < as.length
  · rw [List.getElem?_append_left hi] at e
    rw [List.getElem?_append_left (by rw [← h.1]; exact hi)] at e'
    exact h.2 i c y e e'
  · rw [List.getElem?_append_right (by omega)] at e
    rw [List.getElem?_append_right (by rw [← h.1]; omega)] at e'
    have : i - as.length = 0 := by
      rcases Nat.eq_zero_or_pos (i - as.length) with z | z
      · exact z
      · rw [List.getElem?_eq_none (by simp; omega)] at e; cases e
    rw [this] at e
    rw [← h.1, this] at e'
    cases e
    cases e'
    exact hx
theorem Dq.refs {K : PySem.W.Frag} {H : Hp} {n : Nat} {xs : List V} (h : ∀ x ∈ xs, sameV x) : ∀ (i : Nat) x y, xs[i]? = some x → xs[i]? = some y → Dq K H n x y := by
  intro i x y e e'
  rw [e] at e'
  cases e'
  have b : (flatV x = true ∧ flatV x = true ∧ eqV x x = true) ∨ ∃ a, x = .ref a ∧ x = .ref a := by
    rcases h x (List.mem_of_getElem? e) with f | ⟨a, rfl⟩
    · exact .inl ⟨f, f, eqV_refl f⟩
    · exact .inr ⟨a, rfl, rfl⟩
  cases n with
  | zero => exact b
  | succ n => exact .inl b
theorem Cp.dq {K : PySem.W.Frag} {H : Hp} {a b : Addr} (h : Cp K H a b) : Dq K H 2 (V.ref b) (V.ref a) := by
  obtain ⟨l, k, sa, fo, fo', bs, h1, h2, h3, h4⟩ := h
  refine .inr ⟨b, a, _, _, rfl, rfl, .inr ⟨h2, h1⟩, rfl, fun i x y e e' => ?_⟩
  match i, e, e' with
  | 0, e, e' => cases e; cases e'; exact .inl (.inl ⟨rfl, rfl, eqV_refl rfl⟩)
  | 1, e, e' => cases e; cases e'; exact .inl (.inl ⟨rfl, rfl, eqV_refl rfl⟩)
  | 2, e, e' => cases e; cases e'; exact .inl (.inr ⟨_, rfl, rfl⟩)
  | 3, e, e' => cases e; cases e'; exact .inr ⟨_, _, _, _, rfl, rfl, .inl ⟨h4, h3⟩, rfl, Dq.refs (ref_same bs)⟩
theorem CpA.dq {K : PySem.W.Frag} {H : Hp} {as bs : List Addr} (h : CpA K H as bs) {wa wb : Addr} (h1 : SqL K H wa (as.map V.ref)) (h2 : SqL K H wb (bs.map V.ref)) : Dq K H 3 (V.ref wb) (V.ref wa) := by
  refine .inr ⟨wb, wa, _, _, rfl, rfl, .inl ⟨h2, h1⟩, by simp [h.1], fun i x y e e' => ?_⟩
  rw [List.getElem?_map] at e e'
  cases eb : bs[i]? with
  | none => rw [eb] at e; cases e
  | some b =>
    cases ea : as[i]? with
    | none => rw [ea] at e'; cases e'
    | some a =>
      rw [eb] at e
      rw [ea] at e'
      cases e
      cases e'
      exact (h.2 i a b ea eb).dq
end L2
namespace L2
open PySem PySem.Spec PyProof.Rows Tl
inductive CL : List Expr → List V → Prop where
  | nil : CL [] []
  | int {i : Int} {j : Nat} {pos : Pos} {es : List Expr} {vs : List V} (h : CL es vs) : CL (.Constant (.int i) j pos :: es) (.int i :: vs)
  | str {x : Str} {j : Nat} {pos : Pos} {es : List Expr} {vs : List V} (h : CL es vs) : CL (.Constant (.str x) j pos :: es) (.str x :: vs)
def tVs (vs : List V) : TA := fun _ H Q => Q vs H
theorem pa_cl {X : Cx} : ∀ {es : List Expr} {vs : List V}, CL es vs → PA X es (tVs vs)
  | _, _, .nil => pa_nil
  | _, _, .int h => pa_cons pe_int (pa_cl h)
  | _, _, .str h => pa_cons pe_str (pa_cl h)
end L2
namespace L2
open PySem PySem.Spec PyProof.Rows Tl
end L2
namespace L2
open PySem PySem.Spec PyProof.Rows Tl
def rLen (K : PySem.W.Frag) : List V → Hp → VK → Prop := fun xs H Q => ∃ p ys, xs = [.ref p] ∧ (SqL K H p ys ∨ SqT K H p ys) ∧ Q (.int (ys.length : Nat)) H
end L2

namespace L2
open PySem PySem.Spec PyProof.Rows Tl
def kK : Str := PySem.Str.ofString "kept"
section
variable (F : Frm) (ds : List Wd) (xs : List (Int × Int)) (k : Str) (i : Nat) (j : Int)
end
end L2
namespace L2
open PySem PySem.Spec PyProof.Rows Tl
def rList (K : PySem.W.Frag) : List V → Hp → VK → Prop := fun xs H Q => ∃ p ys, xs = [.ref p] ∧ (SqL K H p ys ∨ SqT K H p ys) ∧ ∀ l, H l = none → Q (.ref l) (upd H l (.lst ys))
theorem hu100 {A : Around} {k : Nat} (hr : Room k A) : A.units + 100 < cLine := by have := hr.un; omega
end L2
namespace L2
open PySem PySem.Spec PyProof.Rows Tl
end L2

set_option maxHeartbeats 4000000
namespace L2
open PySem PySem.Spec PyProof.Rows Tl
theorem le_tr {x y z : Int × Int} (a : sooner y x = false) (b : sooner z y = false) : sooner z x = false := by
  rw [not_sooner] at a b ⊢
  omega
theorem le_anti {x y : Int × Int} (a : sooner y x = false) (b : sooner x y = false) : x = y := by
  rw [not_sooner] at a b
  obtain ⟨p, r⟩ := x
  obtain ⟨p', r'⟩ := y
  simp only at a b
  have : p = p' := by omega
  have : r = r' := by omega
  subst p r
  rfl
theorem later_ge1 (x y : Int × Int) : sooner (laterI x y) x = false := by
  unfold laterI
  cases e : sooner x y with
  | true =>
    rw [if_pos rfl]
    rw [sooner_iff] at e
    rw [not_sooner]
    omega
  | false => rw [if_neg (by decide)]; exact sooner_refl x
theorem later_ge2 (x y : Int × Int) : sooner (laterI x y) y = false := by
  unfold laterI
  cases e : sooner x y with
  | true => rw [if_pos rfl]; exact sooner_refl y
  | false => rw [if_neg (by decide)]; exact e
theorem later_le {x y z : Int × Int} (a : sooner z x = false) (b : sooner z y = false) : sooner z (laterI x y) = false := by
  unfold laterI
  cases e : sooner x y with
  | true => rw [if_pos rfl]; exact b
  | false => rw [if_neg (by decide)]; exact a
theorem best_ge : ∀ (os : List (Option (Int × Int))) (b : Int × Int), sooner (bestOf b os) b = false ∧ ∀ x, some x ∈ os → sooner (bestOf b os) x = false
  | [], b => ⟨sooner_refl b, fun x h => by cases h⟩
  | none :: r, b => by
    obtain ⟨h1, h2⟩ := best_ge r b
    refine ⟨h1, fun x h => h2 x ?_⟩
    rcases List.mem_cons.mp h with h | h
    · cases h
    · exact h
  | some y :: r, b => by
    obtain ⟨h1, h2⟩ := best_ge r (laterI b y)
    refine ⟨le_tr (later_ge1 b y) h1, fun x h => ?_⟩
    rcases List.mem_cons.mp h with h | h
    · have e : x = y := by cases h; rfl
      rw [e]
      exact le_tr (later_ge2 b y) h1
    · exact h2 x h
theorem best_le : ∀ (os : List (Option (Int × Int))) (b z : Int × Int), sooner z b = false → (∀ x, some x ∈ os → sooner z x = false) → sooner z (bestOf b os) = false
  | [], b, z, h, _ => h
  | none :: r, b, z, h, h2 => best_le r b z h fun x hx => h2 x (List.mem_cons_of_mem _ hx)
  | some y :: r, b, z, h, h2 => best_le r (laterI b y) z (later_le h (h2 y List.mem_cons_self)) fun x hx => h2 x (List.mem_cons_of_mem _ hx)
theorem sum_le {α : Type} {f g : α → Int} : ∀ (l : List α), (∀ d ∈ l, f d ≤ g d) → (l.map f).sum ≤ (l.map g).sum
  | [], _ => Int.le_refl _
  | a :: r, h => by
    have h1 := h a List.mem_cons_self
    have h2 := sum_le r fun d hd => h d (List.mem_cons_of_mem _ hd)
    rw [List.map_cons, List.map_cons, List.sum_cons, List.sum_cons]
    omega
section
variable {F : Frm} {ds : List Wd} {xs ys : List (Int × Int)}
theorem wide_grows (B : BkOk F ds xs) (C : BkOk F ds ys) (le : PlsLe xs ys) {d : Wd} (hd : d ∈ ds) : wideW F xs d ≤ wideW F ys d := by
  have wk := B.wd d hd
  rw [B.len] at wk
  have := said_grows B.fo B.po C.po le wk.s
  unfold wideW
  omega
theorem foot_grows (B : BkOk F ds xs) (C : BkOk F ds ys) (le : PlsLe xs ys) {d : Wd} (hd : d ∈ ds) : highW F xs d ≤ highW F ys d := by
  have wk := B.wd d hd
  rw [B.len] at wk
  unfold highW
  rw [high_eq, high_eq]
  refine high_grows (by simp) (fun k hk => ?_) (fun t ht => ?_)
  · rw [List.length_map, List.length_map] at hk
    have hs := wk.f (d.foot[k]) (List.getElem_mem hk)
    have := said_grows B.fo B.po C.po le hs
    simp only [List.getD_eq_getElem?_getD, List.getElem?_map, List.getElem?_eq_getElem hk, Option.map_some, Option.getD_some]
    omega
  · obtain ⟨u, _, rfl⟩ := List.mem_map.mp ht
    omega
theorem seg_mem {j i : Nat} {d : Wd} (h : d ∈ segD ds j i) : d ∈ ds := List.mem_of_mem_drop (List.mem_of_mem_take h)
theorem wides_grow (B : BkOk F ds xs) (C : BkOk F ds ys) (le : PlsLe xs ys) (j i : Nat) : together (wides F ds xs j i) ≤ together (wides F ds ys j i) := by
  have := sum_le (f := wideW F xs) (g := wideW F ys) (segD ds j i) fun d hd => wide_grows B C le (seg_mem hd)
  unfold together wides
  rw [List.length_map, List.length_map]
  omega
theorem highs_grow (B : BkOk F ds xs) (C : BkOk F ds ys) (le : PlsLe xs ys) (j i : Nat) : (highs F ds xs j i).sum ≤ (highs F ds ys j i).sum :=
  sum_le (segD ds j i) fun d hd => foot_grows B C le (seg_mem hd)
theorem all_mem {i : Nat} {x : Int × Int} : some x ∈ allTold F ds xs i ↔ (x = toldBehind F ds xs i ∨ toldKept ds xs i = some x ∨ toldNever F ds xs i = some x ∨ (∃ j, j < i ∧ toldWide F xs j (together (wides F ds xs j i)) = some x) ∨ ∃ j, j < i + 1 ∧ toldHigh F xs i j (highs F ds xs j i).sum = some x) := by
  unfold allTold
  simp only [List.mem_append, List.mem_cons, List.mem_map, List.mem_range, List.not_mem_nil, or_false, Option.some.injEq]
  constructor
  · rintro (((h | h | h) | ⟨j, h1, h2⟩) | ⟨j, h1, h2⟩)
    · exact .inl h
    · exact .inr (.inl h.symm)
    · exact .inr (.inr (.inl h.symm))
    · exact .inr (.inr (.inr (.inl ⟨j, h1, h2⟩)))
    · exact .inr (.inr (.inr (.inr ⟨j, h1, h2⟩)))
  · rintro (h | h | h | ⟨j, h1, h2⟩ | ⟨j, h1, h2⟩)
    · exact .inl (.inl (.inl h))
    · exact .inl (.inl (.inr (.inl h.symm)))
    · exact .inl (.inl (.inr (.inr h.symm)))
    · exact .inl (.inr ⟨j, h1, h2⟩)
    · exact .inr ⟨j, h1, h2⟩
theorem behind_told_grows (B : BkOk F ds xs) (C : BkOk F ds ys) (le : PlsLe xs ys) {i : Nat} (hi : i < ds.length) : sooner (toldBehind F ds ys i) (toldBehind F ds xs i) = false := by
  have wk := (B.d hi).2
  have rx := (B.x hi).1
  have ry := (C.x hi).1
  have l0 : sooner (xAt ys i) (xAt xs i) = false := le.2 i (by rw [← B.len]; exact hi)
  unfold toldBehind
  by_cases c : 0 < i
  · rw [if_pos c, if_pos c]
    have rx1 := (B.x (show i - 1 < ds.length by omega)).1
    have ry1 := (C.x (show i - 1 < ds.length by omega)).1
    have l1 : sooner (xAt ys (i - 1)) (xAt xs (i - 1)) = false := le.2 (i - 1) (by rw [← B.len]; omega)
    have g := behind_grows (f := F.f) rx1 ry1 l1 wk.l0 (Int.le_refl _) wk.l1
    have bx := behind_in (f := F.f) rx1 wk.l0 wk.l1
    have byy := behind_in (f := F.f) ry1 wk.l0 wk.l1
    have li : ∀ {a b : Int × Int}, RowIn F.h a → RowIn F.h b → RowIn F.h (laterI a b) := fun {a b} ha hb => by
      unfold laterI
      split
      · exact hb
      · exact ha
    refine first_grows (li rx bx) (li ry byy) ?_ (Int.le_refl _) wk.l1
    exact later_le (le_tr l0 (later_ge1 _ _)) (le_tr g (later_ge2 _ _))
  · rw [if_neg c, if_neg c]
    exact first_grows rx ry l0 (Int.le_refl _) wk.l1
theorem raised_grows (B : BkOk F ds xs) (C : BkOk F ds ys) (le : PlsLe xs ys) {i : Nat} (hi : i < ds.length) : sooner (raisedI F ds ys i) (raisedI F ds xs i) = false := by
  have l0 : sooner (xAt ys i) (xAt xs i) = false := le.2 i (by rw [← B.len]; exact hi)
  obtain ⟨g1, g2⟩ := best_ge (allTold F ds ys i) (xAt ys i)
  have gi : sooner (raisedI F ds ys i) (xAt ys i) = false := g1
  have gm : ∀ x, some x ∈ allTold F ds ys i → sooner (raisedI F ds ys i) x = false := g2
  have hmem : dAt ds i ∈ ds := List.mem_of_getElem? (B.d hi).1
  refine best_le _ _ _ (le_tr l0 gi) fun x hx => ?_
  rcases all_mem.mp hx with h | h | h | ⟨j, hj, h⟩ | ⟨j, hj, h⟩
  · rw [h]
    exact le_tr (behind_told_grows B C le hi) (gm _ (all_mem.mpr (.inl rfl)))
  · unfold toldKept at h
    split at h
    · cases h
    · rename_i c
      cases h
      have hi1 : i + 1 < ds.length := by omega
      refine le_tr (y := ((xAt ys (i + 1)).1, 0)) ?_ (gm _ (all_mem.mpr (.inr (.inl ?_))))
      · have l1 : sooner (xAt ys (i + 1)) (xAt xs (i + 1)) = false := le.2 (i + 1) (by rw [← B.len]; exact hi1)
        rw [not_sooner] at l1 ⊢
        simp only
        omega
      · unfold toldKept
        rw [if_neg c]
  · unfold toldNever at h
    split at h
    · cases h
    · rename_i c
      cases h
      refine gm _ (all_mem.mpr (.inr (.inr (.inl ?_))))
      unfold toldNever
      have w1 := wide_grows B C le hmem
      have w2 := foot_grows B C le hmem
      rw [if_neg (by omega)]
  · unfold toldWide at h
    split at h
    · cases h
    · rename_i c
      cases h
      have w1 := wides_grow B C le j i
      have hj2 : j < ds.length := by omega
      have l1 : sooner (xAt ys j) (xAt xs j) = false := le.2 j (by rw [← B.len]; exact hj2)
      refine le_tr (behind_grows (f := F.f) (B.x hj2).1 (C.x hj2).1 l1 (by decide) (Int.le_refl _) (by decide)) (gm _ (all_mem.mpr (.inr (.inr (.inr (.inl ⟨j, hj, ?_⟩))))))
      unfold toldWide
      rw [if_neg (by omega)]
  · unfold toldHigh at h
    split at h
    · cases h
    · rename_i c
      cases h
      have w1 := highs_grow B C le j i
      have hj2 : j < ds.length := by omega
      have l1 : sooner (xAt ys j) (xAt xs j) = false := le.2 j (by rw [← B.len]; exact hj2)
      have rx := (C.x hi).1.r1
      by_cases c2 : (xAt xs i).1 < (xAt ys i).1
      · refine le_tr ?_ gi
        rw [not_sooner]
        simp only
        omega
      · rw [not_sooner] at l0 l1
        have e1 : (xAt ys i).1 = (xAt xs i).1 := by omega
        refine gm _ (all_mem.mpr (.inr (.inr (.inr (.inr ⟨j, hj, ?_⟩)))))
        unfold toldHigh
        rw [if_neg (by omega), e1]
end
def PlsB (h : Int) (xs : List (Int × Int)) : Prop := ∀ x ∈ xs, RowIn h x ∧ x.1 < 10 ^ 60 - 900
theorem PlsB.ok {h : Int} {xs : List (Int × Int)} (o : PlsB h xs) : PlsOk h xs := fun x hx => ⟨(o x hx).1, by have := (o x hx).2; omega⟩
theorem PlsB.get {h : Int} {xs : List (Int × Int)} (o : PlsB h xs) {k : Nat} (hk : k < xs.length) : RowIn h (xs.getD k (0, 0)) ∧ (xs.getD k (0, 0)).1 < 10 ^ 60 - 900 := by
  rw [List.getD_eq_getElem?_getD, List.getElem?_eq_getElem hk]
  exact o _ (List.getElem_mem hk)
theorem PlsB.snoc {h : Int} {xs : List (Int × Int)} {x : Int × Int} (o : PlsB h xs) (i : RowIn h x) (b : x.1 < 10 ^ 60 - 900) : PlsB h (xs ++ [x]) := by
  intro y hy
  rcases List.mem_append.mp hy with hy | hy
  · exact o y hy
  · rw [List.mem_singleton.mp hy]
    exact ⟨i, b⟩
theorem PlsB.set {h : Int} {xs : List (Int × Int)} {x : Int × Int} (o : PlsB h xs) (k : Nat) (i : RowIn h x) (b : x.1 < 10 ^ 60 - 900) : PlsB h (xs.set k x) := by
  intro y hy
  rcases List.mem_or_eq_of_mem_set hy with hy | rfl
  · exact o y hy
  · exact ⟨i, b⟩
end L2

set_option maxHeartbeats 4000000
namespace L2
open PySem PySem.Spec PyProof.Rows Tl
section
variable {F : Frm} {ds : List Wd} {xs ys : List (Int × Int)} {i : Nat}
def Fixd (F : Frm) (ds : List Wd) (xs : List (Int × Int)) : Prop := ∀ i, i < ds.length → raisedI F ds xs i = xAt xs i
def Pages (m : Int) (xs : List (Int × Int)) : Prop := ∀ x ∈ xs, x.1 < m
def LowX (F : Frm) (ds : List Wd) (xs : List (Int × Int)) : Prop := ∀ X, BkOk F ds X → Fixd F ds X → PlsLe xs X
theorem xAt_set {k : Nat} {y : Int × Int} (hi : i < xs.length) : xAt (xs.set i y) k = if k = i then y else xAt xs k := by
  show (xs.set i y).getD k (0, 0) = if k = i then y else xs.getD k (0, 0)
  rw [List.getD_eq_getElem?_getD, List.getElem?_set]
  by_cases c : i = k
  · subst c
    rw [if_pos rfl, if_pos rfl, if_pos hi]
    rfl
  · rw [if_neg c, if_neg (Ne.symm c), ← List.getD_eq_getElem?_getD]
theorem xAt_mem {k : Nat} (hk : k < xs.length) : xAt xs k ∈ xs := by
  show xs.getD k (0, 0) ∈ xs
  rw [List.getD_eq_getElem?_getD, List.getElem?_eq_getElem hk]
  exact List.getElem_mem hk
theorem BkOk.set (B : BkOk F ds xs) {y : Int × Int} (r : RowIn F.h y) (b : y.1 < 10 ^ 60) : BkOk F ds (xs.set i y) := ⟨B.fo, by rw [List.length_set]; exact B.len, B.wd, B.po.set i r b, B.n⟩
theorem LowX.set (L : LowX F ds xs) (B : BkOk F ds xs) (hi : i < ds.length) : LowX F ds (xs.set i (raisedI F ds xs i)) := by
  intro X C fx
  have le := L X C fx
  refine ⟨by rw [List.length_set]; exact le.1, fun k hk => ?_⟩
  rw [List.length_set] at hk
  have e := xAt_set (k := k) (y := raisedI F ds xs i) (show i < xs.length by rw [← B.len]; exact hi)
  show sooner (xAt X k) (xAt (xs.set i (raisedI F ds xs i)) k) = false
  rw [e]
  by_cases c : k = i
  · rw [if_pos c, c, ← fx i hi]
    exact raised_grows B C le hi
  · rw [if_neg c]
    exact le.2 k hk
theorem LowX.zero (e : xs.length = ds.length) (z : ∀ x ∈ xs, x = (0, 0)) : LowX F ds xs := by
  intro X C _
  refine ⟨by rw [e, C.len], fun k hk => ?_⟩
  have h1 := z _ (xAt_mem hk)
  show sooner (xAt X k) (xAt xs k) = false
  rw [h1]
  have r := (C.x (i := k) (by omega)).1
  have p := r.p1
  have q := r.r1
  rw [not_sooner]
  simp only
  omega
def rank (h : Int) (x : Int × Int) : Int := x.1 * h + x.2
theorem sum_bound {f : Int × Int → Int} {c : Int} : ∀ (xs : List (Int × Int)), (∀ x ∈ xs, f x ≤ c) → (xs.map f).sum ≤ xs.length * c
  | [], _ => by simp
  | x :: r, h => by
    have h1 := h x List.mem_cons_self
    have h2 := sum_bound r fun y hy => h y (List.mem_cons_of_mem _ hy)
    rw [List.map_cons, List.sum_cons, List.length_cons, Int.natCast_succ, Int.add_mul]
    omega
theorem rank_small {h m : Int} {x : Int × Int} (r : RowIn h x) (p : x.1 < m) : rank h x ≤ h * m := by
  unfold rank
  have h0 : 0 ≤ h := by have := r.r1; have := r.r2; omega
  have := Int.mul_le_mul_of_nonneg_right (show x.1 + 1 ≤ m by omega) h0
  rw [Int.add_mul] at this
  have e := Int.mul_comm m h
  have a := r.r2
  omega
def segP (ds : List Wd) (j k : Nat) : List Wd := (ds.drop j).take (k - j)
theorem segP_self (k : Nat) : segP ds k k = [] := by unfold segP; simp
theorem segP_snoc {j k : Nat} (hj : j ≤ k) (hk : k < ds.length) : segD ds j k = segP ds j k ++ [dAt ds k] := by
  unfold segD segP
  have e : (ds.drop j)[k - j]? = some (dAt ds k) := by
    rw [List.getElem?_drop, show j + (k - j) = k by omega]
    show _ = some (ds.getD k wd0)
    rw [List.getD_eq_getElem?_getD, List.getElem?_eq_getElem hk]
    rfl
  rw [show k + 1 - j = (k - j) + 1 by omega, take_snoc e]
theorem segP_succ (j k : Nat) : segP ds j (k + 1) = segD ds j k := rfl
theorem wide_snoc {j k : Nat} (hj : j ≤ k) (hk : k < ds.length) : together ((segP ds j k).map (wideW F xs)) + 1 + wideW F xs (dAt ds k) = together (wides F ds xs j k) := by
  unfold together wides
  rw [segP_snoc hj hk, List.map_append, List.sum_append, List.length_append]
  simp
  omega
theorem high_snoc {j k : Nat} (hj : j ≤ k) (hk : k < ds.length) : ((segP ds j k).map (highW F xs)).sum + highW F xs (dAt ds k) = (highs F ds xs j k).sum := by
  unfold highs
  rw [segP_snoc hj hk, List.map_append, List.sum_append]
  simp
end
theorem eq_pl2 (x y : Int × Int) : eqVs (pl x) (pl y) = decide (x = y) := by
  obtain ⟨a, b⟩ := x
  obtain ⟨c, d⟩ := y
  show ((a == c) && ((b == d) && true)) = decide ((a, b) = (c, d))
  by_cases h1 : a = c
  · by_cases h2 : b = d
    · simp [h1, h2]
    · simp [h1, h2]
  · simp [h1]
theorem PlsA.dq {K : PySem.W.Frag} {H : Hp} {as bs : List Addr} {xs : List (Int × Int)} (h1 : PlsA K H as xs) (h2 : PlsA K H bs xs) : ∀ (i : Nat) x y, (as.map V.ref)[i]? = some x → (bs.map V.ref)[i]? = some y → Dq K H 1 x y := by
  intro i x y e e'
  rw [List.getElem?_map] at e e'
  cases ea : as[i]? with
  | none => rw [ea] at e; cases e
  | some a =>
    cases eb : bs[i]? with
    | none => rw [eb] at e'; cases e'
    | some b =>
      rw [ea] at e
      rw [eb] at e'
      cases e
      cases e'
      have hi : i < xs.length := by rw [← h1.1]; exact (List.getElem?_eq_some_iff.mp ea).1
      refine .inr ⟨a, b, _, _, rfl, rfl, .inr ⟨h1.2 i a xs[i] ea (List.getElem?_eq_getElem hi), h2.2 i b xs[i] eb (List.getElem?_eq_getElem hi)⟩, rfl, fun j u v eu ev => ?_⟩
      rw [eu] at ev
      cases ev
      match j, eu with
      | 0, eu => cases eu; exact .inl ⟨rfl, rfl, eqV_refl rfl⟩
      | 1, eu => cases eu; exact .inl ⟨rfl, rfl, eqV_refl rfl⟩
theorem PlsA.rep {K : PySem.W.Frag} {H : Hp} {a : Addr} {x : Int × Int} (n : Nat) (h : SqT K H a (pl x)) : PlsA K H (List.replicate n a) (List.replicate n x) := by
  refine ⟨by simp, fun i b y e e' => ?_⟩
  rw [List.getElem?_replicate] at e e'
  split at e
  · rename_i c
    rw [if_pos c] at e'
    cases e
    cases e'
    exact h
  · cases e
theorem ints_at {cs : List Int} {i : Nat} {y : V} (h : (cs.map V.int)[i]? = some y) : ∃ n, y = V.int n ∧ cs[i]? = some n := by
  rw [List.getElem?_map] at h
  cases e : cs[i]? with
  | none => rw [e] at h; cases h
  | some w => rw [e] at h; exact ⟨w, (Option.some.inj h).symm, rfl⟩
end L2

set_option maxHeartbeats 4000000
namespace L2
open PySem PySem.Spec PyProof.Rows Tl
def Itz (K : PySem.W.Frag) (a b : Addr) : It :=
  ⟨fun i H => ∃ xs ys x y, SqL K H a xs ∧ SqL K H b ys ∧ xs[i]? = some x ∧ ys[i]? = some y, fun i H x H' => ∃ p, H p = none ∧ x = .ref p ∧ ∀ xs ys u v, SqL K H a xs → SqL K H b ys → xs[i]? = some u → ys[i]? = some v → H' = upd H p (.tup [u, v]), fun i H => ∃ xs ys, SqL K H a xs ∧ SqL K H b ys ∧ (xs.length ≤ i ∨ ys.length ≤ i)⟩
theorem turn_zip {P : Program} {w : World} {K : PySem.W.Frag} {elts : List Expr} {k1} {tp : Pos} (a b z TI TO i1 i2 : Addr) (D : ZipApart z TI TO i1 i2 a b) : Turn P w K (.Tuple elts k1 tp) (Itz K a b) [z, TI, TO, i1, i2] z (fun i h => IsZip h z TI TO .none ∧ IsPair h TI (.ref i1) (.ref i2) ∧ (∃ u v, IsPair h TO u v) ∧ h.IsListIter i1 a i ∧ h.IsListIter i2 b i) where
  mem := by simp
  obj := fun i h st c hb => by
    have hb' : c = z ∨ c = TI ∨ c = TO ∨ c = i1 ∨ c = i2 := by simpa using hb
    obtain ⟨s1, s2, ⟨u, v, s3⟩, s4, s5⟩ := st
    rcases hb' with rfl | rfl | rfl | rfl | rfl
    · exact ⟨_, s1, fun v z => by cases z⟩
    · exact ⟨_, s2, fun v z => by cases z⟩
    · exact ⟨_, s3, fun v z => by cases z⟩
    · obtain ⟨o, h1, _, d⟩ := s4
      exact ⟨o, h1, fun v z => by rw [d] at z; cases z⟩
    · obtain ⟨o, h1, _, d⟩ := s5
      exact ⟨o, h1, fun v z => by rw [d] at z; cases z⟩
  keep := fun i h h' st k => by
    obtain ⟨s1, s2, ⟨u, v, s3⟩, s4, s5⟩ := st
    exact ⟨k z (by simp) _ s1, k TI (by simp) _ s2, ⟨u, v, k TO (by simp) _ s3⟩, s4.at fun o h1 => k i1 (by simp) o h1, s5.at fun o h1 => k i2 (by simp) o h1⟩
  item := by
    intro X hP hw hK hc i pins s σ H E I hf st hg
    subst hP hw hK
    obtain ⟨xs, ys, x, y, hqx, hqy, hx, hy⟩ := hg
    obtain ⟨its, rv, p, hz⟩ := I.list hqx
    obtain ⟨its2, rv2, p2, hz2⟩ := I.list hqy
    obtain ⟨u, hu, ru⟩ := rv.get hx
    obtain ⟨v, hv, rv'⟩ := rv2.get hy
    obtain ⟨st1, st2, ⟨o1, o2, st3⟩, st4, st5⟩ := st
    have fz := fun c (hm : c ∈ [z, TI, TO, i1, i2]) => hf c hm
    refine wpAny_pyNext_zip_item D st1 st2 st3 st4 st5 p.isList p2.isList (x := u) (y := v) (by simpa using hu) (by simpa using hv) fun h' hz1 hTO1 hi1 hi2 hpair hsz1 hk => ?_
    have kk : ∀ c o, c ∉ [z, TI, TO, i1, i2] → s.heap.get? c = some o → h'.get? c = some o := fun c o hb q => hk c o (fun e => hb (by simp [e])) (fun e => hb (by simp [e])) (fun e => hb (by simp [e])) (fun e => hb (by simp [e])) q
    have kTI := hk TI _ D.TIz D.TITO D.TIi1 D.TIi2 st2
    have kk2 : ∀ c o, c ∉ [z, TO, i1, i2] → s.heap.get? c = some o → h'.get? c = some o := fun c o hb q => hk c o (fun e => hb (by simp [e])) (fun e => hb (by simp [e])) (fun e => hb (by simp [e])) (fun e => hb (by simp [e])) q
    have nit : ∀ c v, H c = some v → c ∉ [z, TI, TO, i1, i2] := fun c v q m => by
      have := (hf c m).1
      rw [this] at q
      cases q
    have I1 : Inv X pins σ H { s with heap := h', toks := s.toks } := by
      refine I.step (g' := s.gens) (d' := s.drawn) (ch := [z, TI, TO, i1, i2]) (fun c hb => ?_) (fun c o _ _ hb q _ => kk c o hb q) (fun c o _ _ hb q _ => ⟨o.slots, kk c o hb q⟩) (fun _ _ _ _ n => n)
        (fun c o hb q => ⟨o, kk c o hb q⟩) (fun _ _ q => q) (fun _ _ _ q => q) (fun c ps q => ⟨#[], by rw [q]; simp⟩) (fun m hm => ?_) (fun c v q => ?_) I.bare
      · obtain ⟨f0, f1, f2, f3, f4, f5⟩ := hf c hb
        exact ⟨f3, f1, f4, f5⟩
      · obtain ⟨o, es, ep, ho, r⟩ := hm
        exact ⟨o, es, ep, kk _ o (fun m => (hf _ m).2.1 rfl) ho, r⟩
      · refine (I.hok c v q).stay (fun d o hd r => kk d o ?_ r) (fun _ r => r) fun _ _ r => r
        rcases hd with rfl | hd
        · exact nit _ _ q
        · exact nit _ _ hd
    have hTn : H s.heap.objs.size = none := I.fresh
    have zlt : z < s.heap.objs.size := Heap.lt_size st1
    have I2 : Inv X pins σ (upd H s.heap.objs.size (.tup [x, y])) { s with heap := h', toks := s.toks } := by
      refine I1.track hTn I.sz (Nat.ne_of_gt I.lt) (fun y c q => ?_) (fun p hp => ?_) ⟨by show 2 ≤ sizeLine; decide, [u, v], .cons ru (.cons rv' .nil), ⟨_, hpair, rfl, _, rfl⟩⟩
      · obtain ⟨v, q2⟩ := I.cell y c q
        exact Nat.ne_of_lt q2.lt
      · exact Nat.ne_of_lt (Heap.lt_size (I.pin p hp).1)
    refine ⟨_, rfl, wpAny_letOwnedTupleGo_zip (s := { s with heap := h', toks := s.toks }) hz1 fun h'' hz2' hs'' => ?_⟩
    obtain ⟨f0, f1, f2, f3, f4, f5⟩ := hf z (by simp)
    have I3 : Inv X pins σ (upd H s.heap.objs.size (.tup [x, y])) { s with heap := h'', toks := s.toks } := Inv.turned (s := { s with heap := h', toks := s.toks }) (h' := h'') (t' := s.toks) (it := z) I2 (fun c o hb q => (hs''.2 c hb).trans q) (by rw [upd_ne (Nat.ne_of_lt zlt)]; exact f0) f1 f3 f4 f5
    refine ⟨.ref s.heap.objs.size, _, I3, rfl, ⟨_, hTn, rfl, fun xs' ys' u' v' hx' hy' ex ey => ?_⟩, ⟨hz2', (hs''.2 TI D.TIz).trans kTI, ⟨u, v, (hs''.2 TO D.TOz).trans hTO1⟩, hi1.at fun o h1 => (hs''.2 i1 D.i1z).trans h1, hi2.at fun o h1 => (hs''.2 i2 D.i2z).trans h1⟩, fun c hb => ?_⟩
    · rw [I.list_inj hx' hqx, hx] at ex
      rw [I.list_inj hy' hqy, hy] at ey
      cases ex
      cases ey
      rfl
    · have clt : c < s.heap.objs.size := by
        have z' : c = z ∨ c = TI ∨ c = TO ∨ c = i1 ∨ c = i2 := by simpa using hb
        rcases z' with rfl | rfl | rfl | rfl | rfl
        · exact zlt
        · exact Heap.lt_size st2
        · exact Heap.lt_size st3
        · obtain ⟨o, h1, _⟩ := st4; exact Heap.lt_size h1
        · obtain ⟨o, h1, _⟩ := st5; exact Heap.lt_size h1
      rw [upd_ne (Nat.ne_of_lt clt)]
      exact (hf c hb).1
  done := by
    intro X hP hw hK hc i pins s σ H E I hf st hg
    subst hP hw hK
    obtain ⟨xs, ys, hqx, hqy, hlen⟩ := hg
    obtain ⟨its, rv, p, hz⟩ := I.list hqx
    obtain ⟨its2, rv2, p2, hz2⟩ := I.list hqy
    obtain ⟨st1, st2, ⟨o1, o2, st3⟩, st4, st5⟩ := st
    have hl := rv.length
    have hl2 := rv2.length
    have hend : its.toArray[i]? = none ∨ its2.toArray[i]? = none := by
      rcases hlen with h | h
      · exact .inl (Array.getElem?_eq_none (by rw [List.size_toArray]; omega))
      · exact .inr (Array.getElem?_eq_none (by rw [List.size_toArray]; omega))
    refine wpAny_pyNext_zip_end (I.ok.hd hc) D st1 st2 st3 st4 st5 p.isList p2.isList hend fun h' hk => ⟨rfl, ?_⟩
    have kk : ∀ c o, c ∉ [z, TI, TO, i1, i2] → s.heap.get? c = some o → h'.get? c = some o := fun c o hb q => hk c o (fun e => hb (by simp [e])) (fun e => hb (by simp [e])) (fun e => hb (by simp [e])) (fun e => hb (by simp [e])) q
    have nit : ∀ c v, H c = some v → c ∉ [z, TI, TO, i1, i2] := fun c v q m => by
      have := (hf c m).1
      rw [this] at q
      cases q
    refine I.step (t' := s.toks) (g' := s.gens) (d' := s.drawn) (ch := [z, TI, TO, i1, i2]) (fun c hb => ?_) (fun c o _ _ hb q _ => kk c o hb q) (fun c o _ _ hb q _ => ⟨o.slots, kk c o hb q⟩) (fun _ _ _ _ n => n)
      (fun c o hb q => ⟨o, kk c o hb q⟩) (fun _ _ q => q) (fun _ _ _ q => q) (fun c ps q => ⟨#[], by rw [q]; simp⟩) (fun m hm => ?_) (fun c v q => ?_) I.bare
    · obtain ⟨f0, f1, f2, f3, f4, f5⟩ := hf c hb
      exact ⟨f3, f1, f4, f5⟩
    · obtain ⟨o, es, ep, ho, r⟩ := hm
      exact ⟨o, es, ep, kk _ o (fun m => (hf _ m).2.1 rfl) ho, r⟩
    · refine (I.hok c v q).stay (fun d o hd r => kk d o ?_ r) (fun _ r => r) fun _ _ r => r
      rcases hd with rfl | hd
      · exact nit _ _ q
      · exact nit _ _ hd
  self := fun _ _ _ _ _ st h => wpAny_pyIter_zip st.1 h
section
variable {X : Cx} {elts : List Expr} {k1 : Nat} {tp : Pos}
def iZip (K : PySem.W.Frag) (tl tm : TE) : TI := fun σ H R => tl σ H fun x H1 => tm σ H1 fun y H2 => ∃ a b, x = .ref a ∧ y = .ref b ∧ (∃ xs, SqL K H2 a xs) ∧ (∃ ys, SqL K H2 b ys) ∧ R (Itz K a b) H2
theorem pi_zip {l m : Expr} {k1} {tl tm : TE} {p pos : Pos} (hg : Gl X "zip") (hm : X.mg "zip" = none) (hl : PE X l tl) (hl2 : PE X m tm) (hs : starEach [l, m] X.env = (false, eval l X.env) :: starEach [m] X.env := by rfl) (hs1 : starEach [m] X.env = (false, eval m X.env) :: starEach [] X.env := by rfl) : PI X (.Tuple elts k1 tp) (.Call (.Name "zip" p) [l, m] [] pos) (iZip X.K tl tm) := by
  intro pins s σ H R I h
  have ha : PA X [l, m] (tCons tl (tCons tm tNil)) := pa_cons hl (pa_cons hl2 pa_nil hs1) hs
  refine Call_ (ld_blt I hg hm (by decide +kernel : bootBuiltins "zip" = some (.type "zip")) (PyProof.Rows.callWith_type1 (thn (ha pos pins s σ H (fun vs H1 => match vs with | [x, y] => ∃ a b, x = .ref a ∧ y = .ref b ∧ (∃ xs, SqL X.K H1 a xs) ∧ (∃ ys, SqL X.K H1 b ys) ∧ R (Itz X.K a b) H1 | _ => False) I h) fun us s1 ⟨vs, H1, I1, r1, q1⟩ => ?_) hs (by rw [hs1]; rfl)))
  match vs, r1, q1 with
  | [x, y], r1, q1 =>
  obtain ⟨a, b, rfl, rfl, ⟨xs, hqx⟩, ⟨ys, hqy⟩, q⟩ := q1
  obtain ⟨u, v, rfl, ru, rv0⟩ := vals2 r1
  cases ru
  cases rv0
  obtain ⟨its, rv, p, hz⟩ := I1.list hqx
  obtain ⟨its2, rv2, p2, hz2⟩ := I1.list hqy
  have alt : a < s1.heap.objs.size := by obtain ⟨_, _, e, _⟩ := p; exact Heap.lt_size e
  have blt : b < s1.heap.objs.size := by obtain ⟨_, _, e, _⟩ := p2; exact Heap.lt_size e
  refine call_zip_2 p.isList p2.isList fun h' g1 g2 g3 g4 g5 hz' hk => ?_
  refine wpAny_pyIter_zip g1 ?_
  have ne : ∀ {m n : Nat} {N : Nat}, m ≠ n → N + m ≠ N + n := fun h e => h (Nat.add_left_cancel e)
  have nl : ∀ {c : Addr} (k : Nat), c < s1.heap.objs.size → c ≠ s1.heap.objs.size + k := fun k h e => absurd h (by rw [e]; exact Nat.not_lt.mpr (Nat.le_add_right _ _))
  have D : ZipApart (s1.heap.objs.size + 4) (s1.heap.objs.size + 2) (s1.heap.objs.size + 3) s1.heap.objs.size (s1.heap.objs.size + 1) a b :=
    ⟨ne (by decide), ne (by decide), ne (m := 0) (by decide), ne (by decide), ne (by decide), ne (n := 0) (by decide), ne (by decide), ne (n := 0) (by decide), ne (by decide), ne (m := 0) (by decide), nl 4 alt, nl 3 alt, nl 0 alt, nl 1 alt, nl 4 blt, nl 3 blt, nl 0 blt, nl 1 blt⟩
  refine ⟨s1.heap.objs.size + 4, [s1.heap.objs.size + 4, s1.heap.objs.size + 2, s1.heap.objs.size + 3, s1.heap.objs.size, s1.heap.objs.size + 1], _, _, H1, rfl, I1.kept (t' := s1.toks) hk, turn_zip a b _ _ _ _ _ D, ⟨g1, g2, ⟨_, _, g3⟩, g4, g5⟩, fun c hb => ?_, q⟩
  have z' : c = s1.heap.objs.size + 4 ∨ c = s1.heap.objs.size + 2 ∨ c = s1.heap.objs.size + 3 ∨ c = s1.heap.objs.size ∨ c = s1.heap.objs.size + 1 := by simpa using hb
  rcases z' with rfl | rfl | rfl | rfl | rfl
  · exact I1.fpOk (Nat.le_add_right _ _) (I1.hok.fresh (Nat.le_add_right _ _))
  · exact I1.fpOk (Nat.le_add_right _ _) (I1.hok.fresh (Nat.le_add_right _ _))
  · exact I1.fpOk (Nat.le_add_right _ _) (I1.hok.fresh (Nat.le_add_right _ _))
  · exact I1.fpOk (Nat.le_refl _) (I1.hok.fresh (Nat.le_refl _))
  · exact I1.fpOk (Nat.le_succ _) (I1.hok.fresh (Nat.le_succ _))
end
theorem for_zip {K : PySem.W.Frag} {a b : Addr} {xs ys : List V} {g : TG} {tb : TS} {D : Ends} {σ : St} {H : Hp} (Pv : Nat → St → Hp → Prop) (el : xs.length = ys.length) (h0 : Pv 0 σ H) (hl : ∀ i σ H, i ≤ xs.length → Pv i σ H → SqL K H a xs ∧ SqL K H b ys)
    (hs : ∀ i x y σ H p, xs[i]? = some x → ys[i]? = some y → Pv i σ H → H p = none → g (.ref p) σ (upd H p (.tup [x, y])) fun σ2 H2 => tb { D with nx := Pv (i + 1), ct := Pv (i + 1), bk := D.nx } σ2 H2) (hd : ∀ σ H, Pv xs.length σ H → D.nx σ H) :
    ∃ W : Nat → Nat → St → Hp → Prop, (∃ m, W 0 m σ H) ∧ ∀ i m σ H, W i m σ H →
      ((Itz K a b).stop i H ∧ D.nx σ H) ∨ ((Itz K a b).go i H ∧ ∃ N : St → Hp → Prop, (∀ σ' H', N σ' H' → ∃ m', m' < m ∧ W (i + 1) m' σ' H') ∧ ∀ x H', (Itz K a b).yld i H x H' → g x σ H' fun σ2 H2 => tb { D with nx := N, ct := N, bk := D.nx } σ2 H2) := by
  refine ⟨fun i m σ H => m = xs.length - i ∧ i ≤ xs.length ∧ Pv i σ H, ⟨xs.length, by simp, Nat.zero_le _, h0⟩, ?_⟩
  rintro i m σ H ⟨rfl, hi, p⟩
  obtain ⟨q1, q2⟩ := hl i σ H hi p
  by_cases hlt : i < xs.length
  · have hlt2 : i < ys.length := by omega
    have e1 : xs[i]? = some xs[i] := List.getElem?_eq_getElem hlt
    have e2 : ys[i]? = some ys[i] := List.getElem?_eq_getElem hlt2
    refine .inr ⟨⟨xs, ys, xs[i], ys[i], q1, q2, e1, e2⟩, Pv (i + 1), fun σ' H' p' => ⟨xs.length - (i + 1), by omega, rfl, hlt, p'⟩, fun x H' y => ?_⟩
    obtain ⟨t, ht, e, y⟩ := y
    subst e
    have e3 := y xs ys xs[i] ys[i] q1 q2 e1 e2
    subst e3
    exact hs i xs[i] ys[i] σ H t e1 e2 p ht
  · have e : i = xs.length := by omega
    subst e
    exact .inl ⟨⟨xs, ys, q1, q2, .inl (Nat.le_refl _)⟩, hd σ H p⟩
end L2

set_option maxHeartbeats 4000000
namespace PySem
abbrev IsZ2 (h : Heap) (z TI TO : Addr) (f0 f1 : Value) : Prop :=
  h.get? z = some { cls := .type "zip", dict := none, data := .fields #[f0, f1, .bool false, .ref TI, .ref TO], slots := #[] }
section
variable {prog : Program} {w : World} {A : Around} {E : Value → Shared → Prop} {s : Shared}
def ZAt (z TI TO : Addr) (i : Nat) (h : Heap) : Prop := (i = 0 ∧ IsZip h z TI TO .none) ∨ (0 < i ∧ ∃ (T : Addr) (b : Bool) (oT : Obj), IsZ2 h z TI TO (rawInt T) (.bool b) ∧ h.get? T = some oT ∧ T ∉ [z, TO] ∧ oT.cls = .type "tuple")
end
section
variable {prog : Program} {w : World} {A : Around} {R : Result → Shared → Prop}
theorem ZAt.keep {z TI TO S : Addr} {i : Nat} {h h' : Heap} {acc : Array Value} {c : Nat} (hz : ZAt z TI TO i h) (nz : S ≠ z) (hS : h.get? S = some { cls := .type "list", dict := none, data := .seq acc c, slots := #[] }) (k : ∀ b o, b ≠ S → h.get? b = some o → h'.get? b = some o) : ZAt z TI TO i h' := by
  rcases hz with ⟨i0, hz⟩ | ⟨i0, T, b, oT, hz, hT, nT, cT⟩
  · exact .inl ⟨i0, k z _ (Ne.symm nz) hz⟩
  · refine .inr ⟨i0, T, b, oT, k z _ (Ne.symm nz) hz, k T _ (fun e => ?_) hT, nT, cT⟩
    rw [e, hS] at hT
    cases hT
    simp at cT
end
namespace F
end F
section
variable {prog : Program} {w : World} {A : Around} {s : Shared} {R : Result → Shared → Prop}
end
section
variable {prog : Program} {w : World} {A : Around} {E : Value → Shared → Prop} {s : Shared}
end
end PySem

set_option maxHeartbeats 4000000
namespace L2
open PySem PySem.Spec PyProof.Rows Tl
def trkP (H : Hp) (N : Nat) : List (V × V) → Hp
  | [] => H
  | p :: r => trkP (upd H N (.tup [p.1, p.2])) (N + 1) r
theorem Inv.tups {X : Cx} {pins : List (Addr × Obj)} {σ : St} {s : Shared} : ∀ {ps : List (V × V)} {H : Hp} {N : Nat}, Inv X pins σ H s → (∀ a, N ≤ a → H a = none) → X.s₀.heap.objs.size ≤ N → X.env.locals < N → (∀ x c, X.env.cells.lookup x = some c → c < N) → (∀ p ∈ X.pn ++ pins, p.1 < N) →
    (∀ (j : Nat) p, ps[j]? = some p → ∃ u v, RelV p.1 u ∧ RelV p.2 v ∧ IsPair s.heap (N + j) u v) → Inv X pins σ (trkP H N ps) s
  | [], H, N, I, _, _, _, _, _, _ => I
  | p :: r, H, N, I, hf, h0, h1, h2, h3, ok => by
    obtain ⟨u, v, ru, rv, hp⟩ := ok 0 p rfl
    have I1 : Inv X pins σ (upd H N (.tup [p.1, p.2])) s := I.track (hf N (Nat.le_refl _)) h0 (Nat.ne_of_gt h1) (fun x c q => Nat.ne_of_lt (h2 x c q)) (fun p hp => Nat.ne_of_lt (h3 p hp)) ⟨by show 2 ≤ sizeLine; decide, [u, v], .cons ru (.cons rv .nil), ⟨_, hp, rfl, _, rfl⟩⟩
    refine Inv.tups (ps := r) (N := N + 1) I1 (fun a ha => ?_) (Nat.le_succ_of_le h0) (Nat.lt_succ_of_lt h1) (fun x c q => Nat.lt_succ_of_lt (h2 x c q)) (fun p hp => Nat.lt_succ_of_lt (h3 p hp)) (fun j q e => ?_)
    · rw [upd_ne (Nat.ne_of_gt ha)]
      exact hf a (Nat.le_of_succ_le ha)
    · have := ok (j + 1) q (by simpa using e)
      rw [show N + (j + 1) = N + 1 + j by rw [Nat.add_assoc, Nat.add_comm 1]] at this
      exact this
end L2

set_option maxHeartbeats 4000000
namespace L2
open PySem PySem.Spec PyProof.Rows Tl
structure FunV (K : PySem.W.Frag) (x qual : Str) (st : Stmt) (f : Addr) (fd : FuncData) : Prop where
  ex : ∃ (oc : Value) (od : Option Addr) (dV kV doc pm : Value) (an : Option Addr) (cdv ct : Value) (osl : Array (Option Value)), fd = PySem.W.fnOf x qual (defArgs st) (defBody st) (defScope st) dV kV doc pm an cdv ct ∧ K.lookup f = some ⟨oc, od, .func fd, osl⟩ ∧ PySem.W.codeIn K cdv qual = true
  kp : PySem.W.keepIn K (.ref f) = true
theorem FunV.ok {P : Program} {w : World} {K : PySem.W.Frag} {mg : Str → Option Value} {base : Heap} {x qual : Str} {st : Stmt} {f : Addr} {fd : FuncData} {N ps : List Str} {k : Nat} {sp : Sp} (F : FunV K x qual st f fd) (S : FnScope N ps (defScope st)) (len : ∀ vs H Q E, sp vs H Q E → vs.length = ps.length) (hbody : ∀ (cdv : Value) (A : Around) (outer : List Env) (s : Shared) (H : Hp) (vs : List V) (Q : VK) (E : XK), Room k (A.deeper (envOfC qual (defScope st) s.heap.objs.size f cdv)) → sp vs H Q E →
      ∃ t, PSs (cxOf CX0 P w K mg base N qual (defScope st) f cdv A outer s H E).nox (defBody st) t ∧ t { nx := fun _ H' => Q .non H', rt := Q } (start N vs) H) : FnOk P w K mg base CX0 (k + 1) f fd ps sp := by
  obtain ⟨oc, od, dV, kV, doc, pm, an, cdv, ct, osl, rfl, lk, hcd⟩ := F.ex
  exact fn_of lk hcd S len fun A outer s H vs Q E hr hsp => let ⟨t, h, q⟩ := hbody cdv A outer s H vs Q E hr hsp; ⟨t, h.nox, q⟩
section
variable {X : Cx} {x : Str} {st : Stmt} {ps : List Str} {f : Addr} {fd : FuncData} {dv : Value} {k : Nat} {sp : Sp} {e : Expr} {es : List Expr} {t : TA} {p pos : Pos}
end
end L2

set_option maxHeartbeats 4000000
namespace L2
open PySem PySem.Spec PyProof.Rows Tl
def segZ (zs : List (Int × Int)) (j i : Nat) : List (Int × Int) := (zs.drop j).take (i + 1 - j)
def togS (zs : List (Int × Int)) (j i : Nat) : Int := ((segZ zs j i).map (·.1)).sum + (segZ zs j i).length - 1
def sumS (zs : List (Int × Int)) (j i : Nat) : Int := ((segZ zs j i).map (·.2)).sum
theorem segZ_cons {zs : List (Int × Int)} {j i : Nat} (hj : j ≤ i) (hi : i < zs.length) : segZ zs j i = xAt zs j :: segZ zs (j + 1) i := by
  unfold segZ
  have hj2 : j < zs.length := by omega
  have e : xAt zs j = zs[j] := by
    show zs.getD j (0, 0) = _
    rw [List.getD_eq_getElem?_getD, List.getElem?_eq_getElem hj2]
    rfl
  rw [List.drop_eq_getElem_cons hj2, show i + 1 - j = (i + 1 - (j + 1)) + 1 by omega, List.take_succ_cons, e]
theorem togS_cons {zs : List (Int × Int)} {j i : Nat} (hj : j ≤ i) (hi : i < zs.length) : togS zs j i = togS zs (j + 1) i + 1 + (xAt zs j).1 := by
  unfold togS
  rw [segZ_cons hj hi, List.map_cons, List.sum_cons, List.length_cons]
  omega
theorem sumS_cons {zs : List (Int × Int)} {j i : Nat} (hj : j ≤ i) (hi : i < zs.length) : sumS zs j i = sumS zs (j + 1) i + (xAt zs j).2 := by
  unfold sumS
  rw [segZ_cons hj hi, List.map_cons, List.sum_cons]
  omega
def sizesL (F : Frm) (ds : List Wd) (xs : List (Int × Int)) : List (Int × Int) := ds.map fun d => (wideW F xs d, highW F xs d)
theorem sizes_len (F : Frm) (ds : List Wd) (xs : List (Int × Int)) : (sizesL F ds xs).length = ds.length := by unfold sizesL; rw [List.length_map]
theorem sizes_at (F : Frm) (ds : List Wd) (xs : List (Int × Int)) {k : Nat} (hk : k < ds.length) : xAt (sizesL F ds xs) k = (wideW F xs (dAt ds k), highW F xs (dAt ds k)) := by
  show (sizesL F ds xs).getD k (0, 0) = _
  have e : dAt ds k = ds[k] := by
    show ds.getD k wd0 = _
    rw [List.getD_eq_getElem?_getD, List.getElem?_eq_getElem hk]
    rfl
  rw [List.getD_eq_getElem?_getD, sizesL, List.getElem?_map, List.getElem?_eq_getElem hk, e]
  rfl
theorem togS_sizes (F : Frm) (ds : List Wd) (xs : List (Int × Int)) (j i : Nat) : togS (sizesL F ds xs) j i = together (wides F ds xs j i) := by
  unfold togS segZ together wides segD sizesL
  rw [← List.map_drop, ← List.map_take, List.map_map, List.length_map, List.length_map]
  rfl
theorem sumS_sizes (F : Frm) (ds : List Wd) (xs : List (Int × Int)) (j i : Nat) : sumS (sizesL F ds xs) j i = (highs F ds xs j i).sum := by
  unfold sumS segZ highs segD sizesL
  rw [← List.map_drop, ← List.map_take, List.map_map]
  rfl
def LeZ (zs ys : List (Int × Int)) : Prop := zs.length = ys.length ∧ ∀ k, k < zs.length → (xAt zs k).1 ≤ (xAt ys k).1 ∧ (xAt zs k).2 ≤ (xAt ys k).2
section
variable {F : Frm} {ds : List Wd} {xs ys zs : List (Int × Int)} {i j : Nat}
structure NoR (F : Frm) (ds : List Wd) (xs zs : List (Int × Int)) (i : Nat) : Prop where
  w : (xAt zs i).1 ≤ F.w
  h : (xAt zs i).2 + 1 ≤ F.h
  b : sooner (xAt xs i) (toldBehind F ds xs i) = false
  wide : ∀ j, j < i → (∀ n, j ≤ n → n ≤ i → xAt xs n = xAt xs i) → togS zs j i ≤ F.w
  high : ∀ j, j ≤ i → (∀ n, j ≤ n → n ≤ i → (xAt xs n).1 = (xAt xs i).1) → (xAt xs i).2 + 1 + sumS zs j i ≤ F.h
theorem segZ_congr {zs ys : List (Int × Int)} (e : zs.length = ys.length) (h : ∀ k, k ≤ i → xAt zs k = xAt ys k) (hi : i < zs.length) : ∀ (d j : Nat), i + 1 - j = d → segZ zs j i = segZ ys j i
  | 0, j, e => by unfold segZ; rw [e]; simp
  | d + 1, j, e2 => by
    rw [segZ_cons (zs := zs) (j := j) (by omega) hi, segZ_cons (zs := ys) (j := j) (by omega) (by rw [← e]; exact hi), h j (by omega), segZ_congr e h hi d (j + 1) (by omega)]
theorem NoR.congr {xs' zs' : List (Int × Int)} (N : NoR F ds xs zs i) (hx : ∀ k, k ≤ i → xAt xs' k = xAt xs k) (hz : ∀ k, k ≤ i → xAt zs' k = xAt zs k) (e : zs'.length = zs.length) (hi : i < zs.length) : NoR F ds xs' zs' i := by
  have tb : toldBehind F ds xs' i = toldBehind F ds xs i := by
    unfold toldBehind
    rw [hx i (Nat.le_refl _), hx (i - 1) (Nat.sub_le _ _)]
  have sg : ∀ j, segZ zs' j i = segZ zs j i := fun j => segZ_congr e hz (by rw [e]; exact hi) _ j rfl
  refine ⟨by rw [hz i (Nat.le_refl _)]; exact N.w, by rw [hz i (Nat.le_refl _)]; exact N.h, by rw [hx i (Nat.le_refl _), tb]; exact N.b, fun j hj hn => ?_, fun j hj hn => ?_⟩
  · have := N.wide j hj (fun n a b => by have := hn n a b; rw [hx n b, hx i (Nat.le_refl _)] at this; exact this)
    unfold togS at this ⊢
    rw [sg]
    exact this
  · have := N.high j hj (fun n a b => by have := hn n a b; rw [hx n b, hx i (Nat.le_refl _)] at this; exact this)
    unfold sumS at this ⊢
    rw [sg, hx i (Nat.le_refl _)]
    exact this
theorem chain_le (h : ∀ k, 0 < k → k ≤ i → sooner (xAt xs k) (xAt xs (k - 1)) = false) : ∀ (d n : Nat), n + d ≤ i → sooner (xAt xs (n + d)) (xAt xs n) = false
  | 0, n, _ => sooner_refl _
  | d + 1, n, e => le_tr (chain_le h d n (by omega)) (h (n + (d + 1)) (by omega) e)
def LowF (F : Frm) (ds : List Wd) (x0 xs : List (Int × Int)) : Prop := ∀ X, BkOk F ds X → Fixd F ds X → PlsLe x0 X → PlsLe xs X
theorem LowF.set {x0 : List (Int × Int)} {y : Int × Int} (L : LowF F ds x0 xs) (B : BkOk F ds xs) (hi : i < ds.length) (hy : some y ∈ allTold F ds xs i) : LowF F ds x0 (xs.set i y) := by
  intro X C fx l0
  have le := L X C fx l0
  refine ⟨by rw [List.length_set]; exact le.1, fun k hk => ?_⟩
  rw [List.length_set] at hk
  have e := xAt_set (k := k) (y := y) (show i < xs.length by rw [← B.len]; exact hi)
  show sooner (xAt X k) (xAt (xs.set i y) k) = false
  rw [e]
  by_cases c : k = i
  · rw [if_pos c, c]
    have g := raised_grows B C le hi
    rw [fx i hi] at g
    exact le_tr ((best_ge _ _).2 y hy) g
  · rw [if_neg c]
    exact le.2 k hk
end
theorem LeZ.trans {a b c : List (Int × Int)} (h : LeZ a b) (g : LeZ b c) : LeZ a c := ⟨h.1.trans g.1, fun k hk => by
  have h1 := h.2 k hk
  have h2 := g.2 k (by rw [← h.1]; exact hk)
  omega⟩
theorem PlsLe.trans {a b c : List (Int × Int)} (h : PlsLe a b) (g : PlsLe b c) : PlsLe a c := ⟨h.1.trans g.1, fun k hk => le_tr (h.2 k hk) (g.2 k (by rw [← h.1]; exact hk))⟩
theorem PlsLe.refl (a : List (Int × Int)) : PlsLe a a := ⟨rfl, fun k _ => sooner_refl _⟩
structure RunOk (F : Frm) (ds : List Wd) (x0 zs xs : List (Int × Int)) (np : Nat) : Prop where
  B : BkOk F ds xs
  low : LowF F ds x0 xs
  le0 : PlsLe x0 xs
  lz : LeZ zs (sizesL F ds xs)
  pg : ∀ k, k < ds.length → (xAt xs k).1 ≤ F.m + 2
  ps : (np : Int) ≤ (xs.map (rank F.h)).sum
section
variable {F : Frm} {ds : List Wd} {x0 xs zs : List (Int × Int)} {np i : Nat}
theorem RunOk.sum_le (R : RunOk F ds x0 zs xs np) : (xs.map (rank F.h)).sum ≤ 1512000 := by
  have h1 := R.B.fo.h1
  have h2 := R.B.fo.h2
  have m1 := R.B.fo.m1
  have m2 := R.B.fo.m2
  have n := R.B.n
  have b := sum_bound (f := rank F.h) (c := 3780) xs (fun x hx => by
    obtain ⟨k, hk, rfl⟩ := List.mem_iff_getElem.mp hx
    have hk2 : k < ds.length := by rw [R.B.len]; exact hk
    have p := R.pg k hk2
    have r := (R.B.x hk2).1
    have e : xAt xs k = xs[k] := by
      show xs.getD k (0, 0) = _
      rw [List.getD_eq_getElem?_getD, List.getElem?_eq_getElem hk]
      rfl
    rw [e] at p r
    have s := rank_small (m := F.m + 3) r (by omega)
    have t : F.h * (F.m + 3) ≤ 60 * 63 := Int.mul_le_mul h2 (by omega) (by omega) (by decide)
    omega)
  have l : (xs.length : Int) ≤ 400 := by rw [← R.B.len]; omega
  have t : (xs.length : Int) * 3780 ≤ 400 * 3780 := Int.mul_le_mul_of_nonneg_right l (by decide)
  omega
end
end L2
namespace L2
open PySem PySem.Spec PyProof.Rows Tl
theorem WdsA.set {K : PySem.W.Frag} {H : Hp} {as : List Addr} {ds : List Wd} {a : Addr} {d : Wd} (h : WdsA K H as ds) (k : Nat) (hx : WdAt K H a d) : WdsA K H (as.set k a) (ds.set k d) := by
  refine ⟨by simp [h.1], fun i b y e e' => ?_⟩
  rw [List.getElem?_set] at e e'
  by_cases c : k = i
  · rw [if_pos c] at e e'
    split at e
    · split at e'
      · cases e; cases e'; exact hx
      · cases e'
    · cases e
  · rw [if_neg c] at e e'
    exact h.2 i b y e e'
theorem SaysA.rep {K : PySem.W.Frag} {H : Hp} {a : Addr} {s : Say} (n : Nat) (h : SqT K H a (sayV s)) : SaysA K H (List.replicate n a) (List.replicate n s) := by
  refine ⟨by simp, fun i b y e e' => ?_⟩
  rw [List.getElem?_replicate] at e e'
  split at e
  · rename_i c
    rw [if_pos c] at e'
    cases e
    cases e'
    exact h
  · cases e
end L2

set_option maxHeartbeats 4000000
namespace L2
open PySem PySem.Spec PyProof.Rows Tl
section
variable {prog : Program} {w : World} {A : Around} {R : Result → Shared → Prop} {I : Addr} {fp wr : List Addr} {n : Nat} {P : Nat → Value → Prop} {St : Nat → Heap → Prop}
theorem maxl_rest (W : Walks prog w A.in1 I fp wr n P St) (bt : Nat → Nat → Bool) (S : Addr) (hSf : S ∉ fp) (G : Heap → Prop) (hG : ∀ h h' : Heap, G h → (∀ b o, b ∉ wr → b ≠ S → h.get? b = some o → h'.get? b = some o) → G h')
    (hc : ∀ i j vi vj (s : Shared) (Q : Value → Shared → Prop) (E : Value → Shared → Prop), G s.heap → P i vi → P j vj → Q (.bool (bt i j)) s → wpAny (model prog w) A.in1 (richCompare .Gt vi vj) Q E s) :
    ∀ (k j : Nat) (s : Shared) (v : Value) (c : Nat), n - (j + 1) = k → j + 1 ≤ n → St (j + 1) s.heap → G s.heap → P (argBest bt j) v → s.heap.get? S = some { cls := .type "list", dict := none, data := .seq #[v, v] c, slots := #[] } →
    (∀ v h' tk, P (argBest bt (n - 1)) v → (∀ b o, b ∉ wr → b ≠ S → s.heap.get? b = some o → h'.get? b = some o) → R (.ok (.ret v)) { s with heap := h', toks := tk }) → codeAny (model prog w) A (.builtin "max.loop" ⟨[.ref I, .none, .ref S], []⟩) R s := by
  have n1 : S ∉ wr := fun z => hSf (W.sub _ z)
  have nmd : (toString "max" ++ toString ".loop" : String) = "max.loop" := (by decide)
  intro k; induction k with
  | zero =>
    intro j s v c e hj hst hg hP hS hR; have hn : j + 1 = n := (by omega)
    refine codeAny_builtin F.entry_max_loop (by
      rw [Around.under_plainId F.plain_max_loop _]; exact wpAny_bind (m := seqItems? (.ref S)) (wpAny_seqItems hS rfl (wpAny_bind (m := tryCatch (pyNext (.ref I)) _) (wpAny_tryCatch (W.done s _ _ (hn ▸ hst) fun h' tk kp =>
        wpAny_bind (m := updateSeq S (fun _ => #[])) (wpAny_updateSeq (kp S _ n1 hS) rfl (wpAny_bind (wpAny_letGo (wpAny_pure (hR v _ tk (hn ▸ hP) fun b o b1 b2 e => (Heap.get?_update_other _ _ (Ne.symm b2)).trans (kp b o b1 e)))))))))))
  | succ k ih =>
    intro j s v c e hj hst hg hP hS hR; have hn : j + 1 < n := (by omega)
    refine codeAny_builtin F.entry_max_loop (by
      rw [Around.under_plainId F.plain_max_loop _]; refine wpAny_bind (m := seqItems? (.ref S)) (wpAny_seqItems hS rfl (wpAny_bind (m := tryCatch (pyNext (.ref I)) _) (wpAny_tryCatch (W.item (j + 1) s _ _ hn hst fun u h' tk hu hst' kp => ?_)))); skip
      have hS' := kp S _ n1 hS; have hg' := hG _ _ hg (fun b o b1 _ e => kp b o b1 e); skip
      refine wpAny_bind (m := tryCatch (holding [u, u] (richCompare .Gt u v >>= _)) _) (wpAny_tryCatch (wpAny_holding (wpAny_bind (hc (j + 1) (argBest bt j) u v { s with heap := h', toks := tk } _ _ hg' hu hP ?_)))); skip
      refine wpAny_bind (wpAny_holding (wpAny_truthy_bool (wpAny_bind (wpAny_letGo (wpAny_pure ?_))))); skip
      cases hb : bt (j + 1) (argBest bt j) with
      | true =>
        simp only [if_true]; refine wpAny_bind (wpAny_updateSeq hS' rfl (wpAny_bind (wpAny_letGo ?_))); skip
        rw [nmd]; refine wpAny_pure ⟨plainId_quiet F.plain_max_loop _, ih (j + 1) _ u _ (by omega) hn (W.frame _ _ _ hst' fun b bf o e => (Heap.get?_update_other _ _ (fun z : S = b => hSf (z ▸ bf))).trans e) (hG _ _ hg' fun b o _ b2 e => (Heap.get?_update_other _ _ (Ne.symm b2)).trans e) (by simp only [argBest, hb, if_true]; exact hu) (Heap.get?_update_self _ hS' rfl) fun v2 h2 tk2 p2 k2 => ?_⟩
        exact hR v2 h2 tk2 p2 fun b o b1 b2 e => k2 b o b1 b2 ((Heap.get?_update_other _ _ (Ne.symm b2)).trans (kp b o b1 e))
      | false =>
        simp only [Bool.false_eq_true, if_false]; refine wpAny_bind (wpAny_letGo ?_); skip
        rw [nmd]; refine wpAny_pure ⟨plainId_quiet F.plain_max_loop _, ih (j + 1) _ v c (by omega) hn hst' hg' (by simp only [argBest, hb, Bool.false_eq_true, if_false]; exact hP) hS' fun v2 h2 tk2 p2 k2 => ?_⟩
        exact hR v2 h2 tk2 p2 fun b o b1 b2 e => k2 b o b1 b2 (kp b o b1 e))
theorem maxl_first (W : Walks prog w A.in1 I fp wr n P St) (bt : Nat → Nat → Bool) (S : Addr) (hSf : S ∉ fp) (G : Heap → Prop) (hG : ∀ h h' : Heap, G h → (∀ b o, b ∉ wr → b ≠ S → h.get? b = some o → h'.get? b = some o) → G h')
    (hc : ∀ i j vi vj (s : Shared) (Q : Value → Shared → Prop) (E : Value → Shared → Prop), G s.heap → P i vi → P j vj → Q (.bool (bt i j)) s → wpAny (model prog w) A.in1 (richCompare .Gt vi vj) Q E s) (hn : 0 < n) {s : Shared} {c : Nat} (hst : St 0 s.heap) (hg : G s.heap)
    (hS : s.heap.get? S = some { cls := .type "list", dict := none, data := .seq #[] c, slots := #[] }) (hR : ∀ v h' tk, P (argBest bt (n - 1)) v → (∀ b o, b ∉ wr → b ≠ S → s.heap.get? b = some o → h'.get? b = some o) → R (.ok (.ret v)) { s with heap := h', toks := tk }) :
    codeAny (model prog w) A (.builtin "max.loop" ⟨[.ref I, .none, .ref S], []⟩) R s := by
  have n1 : S ∉ wr := fun z => hSf (W.sub _ z)
  have nmd : (toString "max" ++ toString ".loop" : String) = "max.loop" := (by decide)
  refine codeAny_builtin F.entry_max_loop (by
    rw [Around.under_plainId F.plain_max_loop _]; refine wpAny_bind (m := seqItems? (.ref S)) (wpAny_seqItems hS rfl (wpAny_bind (m := tryCatch (pyNext (.ref I)) _) (wpAny_tryCatch (W.item 0 s _ _ hn hst fun v h' tk hP hst' kp => ?_)))); skip
    have hS' := kp S _ n1 hS; have hg' := hG _ _ hg (fun b o b1 _ e => kp b o b1 e); refine wpAny_bind (m := updateSeq S (fun _ => #[v, v])) (wpAny_updateSeq hS' rfl ?_); rw [nmd]
    refine wpAny_pure ⟨plainId_quiet F.plain_max_loop _, maxl_rest W bt S hSf G hG hc _ 0 _ v _ rfl hn (W.frame _ _ _ hst' fun b bf o e => (Heap.get?_update_other _ _ (fun z : S = b => hSf (z ▸ bf))).trans e) (hG _ _ hg' fun b o _ b2 e => (Heap.get?_update_other _ _ (Ne.symm b2)).trans e) hP (Heap.get?_update_self _ hS' rfl) fun v2 h2 tk2 p2 k2 => ?_⟩
    exact hR v2 h2 tk2 p2 fun b o b1 b2 e => k2 b o b1 b2 ((Heap.get?_update_other _ _ (Ne.symm b2)).trans (kp b o b1 e)))
end
def Cov (ps : List (Int × Int)) (x : Int × Int) : Prop := ∃ p ∈ ps, sooner p x = false
theorem Cov.app {ps : List (Int × Int)} {x : Int × Int} (h : Cov ps x) (y : Int × Int) : Cov (ps ++ [y]) x := by
  obtain ⟨p, hp, e⟩ := h
  exact ⟨p, List.mem_append_left _ hp, e⟩
theorem Cov.last (ps : List (Int × Int)) (y : Int × Int) : Cov (ps ++ [y]) y := ⟨y, by simp, sooner_refl y⟩
def CovO (ps : List (Int × Int)) (o : Option (Int × Int)) : Prop := ∀ x, o = some x → Cov ps x
theorem CovO.app {ps : List (Int × Int)} {o : Option (Int × Int)} (h : CovO ps o) (y : Int × Int) : CovO (ps ++ [y]) o := fun x e => (h x e).app y
section
variable {F : Frm} {ds : List Wd} {xs : List (Int × Int)} {i : Nat}
def told3 (F : Frm) (ds : List Wd) (xs : List (Int × Int)) (i : Nat) : Nat → Option (Int × Int)
  | 0 => some (toldBehind F ds xs i)
  | 1 => toldKept ds xs i
  | _ => toldNever F ds xs i
structure Lat1 (F : Frm) (ds : List Wd) (xs : List (Int × Int)) (i n : Nat) (ps : List (Int × Int)) : Prop where
  und : ∀ p ∈ ps, sooner (raisedI F ds xs i) p = false
  c0 : Cov ps (xAt xs i)
  c : ∀ k, k < n → CovO ps (told3 F ds xs i k)
structure Lat2 (F : Frm) (ds : List Wd) (xs : List (Int × Int)) (i t : Nat) (ps : List (Int × Int)) : Prop where
  base : Lat1 F ds xs i 3 ps
  cw : ∀ j, i + 1 ≤ t + j → j < i → CovO ps (toldWide F xs j (together (wides F ds xs j i)))
  ch : ∀ j, i + 1 ≤ t + j → j ≤ i → CovO ps (toldHigh F xs i j (highs F ds xs j i).sum)
theorem Lat1.start : Lat1 F ds xs i 0 [xAt xs i] := by
  refine ⟨fun p hp => ?_, ⟨_, List.mem_singleton.mpr rfl, sooner_refl _⟩, fun k hk => absurd hk (Nat.not_lt_zero _)⟩
  rw [List.mem_singleton.mp hp]
  exact (best_ge _ _).1
theorem in_raised {x : Int × Int} (h : some x ∈ allTold F ds xs i) : sooner (raisedI F ds xs i) x = false := (best_ge _ _).2 x h
theorem told3_mem {k : Nat} {x : Int × Int} (h : told3 F ds xs i k = some x) : some x ∈ allTold F ds xs i := by
  rw [all_mem]
  match k, h with
  | 0, h => exact .inl (Option.some.inj h).symm
  | 1, h => exact .inr (.inl h)
  | k + 2, h => exact .inr (.inr (.inl h))
theorem Lat1.no {n : Nat} {ps : List (Int × Int)} (h : Lat1 F ds xs i n ps) (e : ∀ x, told3 F ds xs i n = some x → sooner (xAt xs i) x = false) : Lat1 F ds xs i (n + 1) ps := by
  refine ⟨h.und, h.c0, fun k hk x ex => ?_⟩
  by_cases c : k = n
  · subst c
    obtain ⟨p, hp, e0⟩ := h.c0
    exact ⟨p, hp, le_tr (e x ex) e0⟩
  · exact h.c k (by omega) x ex
theorem Lat1.yes {n : Nat} {ps : List (Int × Int)} {y : Int × Int} (h : Lat1 F ds xs i n ps) (e : told3 F ds xs i n = some y) : Lat1 F ds xs i (n + 1) (ps ++ [y]) := by
  refine ⟨fun p hp => ?_, h.c0.app y, fun k hk x ex => ?_⟩
  · rcases List.mem_append.mp hp with hp | hp
    · exact h.und p hp
    · rw [List.mem_singleton.mp hp]
      exact in_raised (told3_mem e)
  · by_cases c : k = n
    · subst c
      rw [e] at ex
      cases ex
      exact Cov.last ps _
    · exact (h.c k (by omega)).app y x ex
theorem Lat1.snoc {n : Nat} {ps : List (Int × Int)} {y : Int × Int} (h : Lat1 F ds xs i n ps) (hy : some y ∈ allTold F ds xs i) : Lat1 F ds xs i n (ps ++ [y]) := by
  refine ⟨fun p hp => ?_, h.c0.app y, fun k hk => (h.c k hk).app y⟩
  rcases List.mem_append.mp hp with hp | hp
  · exact h.und p hp
  · rw [List.mem_singleton.mp hp]
    exact in_raised hy
theorem Lat2.start {ps : List (Int × Int)} (h : Lat1 F ds xs i 3 ps) : Lat2 F ds xs i 0 ps := ⟨h, fun j a b => by omega, fun j a b => by omega⟩
end
end L2

set_option maxHeartbeats 4000000
namespace L2
open PySem PySem.Spec PyProof.Rows Tl
theorem argBest_int (f : Nat → Int) : ∀ k, argBest (fun i j => decide (f j < f i)) k ≤ k ∧ ∀ i, i ≤ k → f i ≤ f (argBest (fun i j => decide (f j < f i)) k)
  | 0 => ⟨Nat.le_refl _, fun i hi => by have : i = 0 := (by omega); subst this; exact Int.le_refl _⟩
  | k + 1 => by
    obtain ⟨h1, h2⟩ := argBest_int f k
    rw [argBest]
    by_cases e : f (argBest (fun i j => decide (f j < f i)) k) < f (k + 1)
    · rw [if_pos (decide_eq_true e)]
      refine ⟨Nat.le_refl _, fun i hi => ?_⟩
      by_cases c : i = k + 1
      · subst c; exact Int.le_refl _
      · have h3 := h2 i (by omega)
        omega
    · rw [if_neg (fun z => e (of_decide_eq_true z))]
      refine ⟨Nat.le_succ_of_le h1, fun i hi => ?_⟩
      by_cases c : i = k + 1
      · subst c; omega
      · exact h2 i (by omega)
theorem call_maxI {X : Cx} (hc : X.calm = true) : CallR X (.builtin "max") (fun xs H Q => ∃ (l : Addr) (ns : List Int), xs = [.ref l] ∧ SqL X.K H l (ns.map V.int) ∧ 0 < ns.length ∧ ∀ m, m ∈ ns → (∀ x ∈ ns, x ≤ m) → Q (.int m) H) := by
  intro pins s σ H xs us Q I r h
  obtain ⟨l, ns, rfl, hl, pos, q⟩ := h
  obtain ⟨u, rfl, ru⟩ := vals1 r
  cases ru
  obtain ⟨its, rv, p, z⟩ := I.list hl
  have hlt : l < s.heap.objs.size := by obtain ⟨_, _, e, _⟩ := p; exact Heap.lt_size e
  have len := rv.length
  rw [List.length_map] at len
  have nmd : (toString "max" ++ toString ".loop" : String) = "max.loop" := (by decide)
  have isz : its.toArray.size = ns.length := by rw [List.size_toArray]; omega
  have hv : ∀ i v, its[i]? = some v → ∃ n t, ns[i]? = some n ∧ v = Value.int n t := fun i v e => by
    have hi : i < ns.length := by have := (List.getElem?_eq_some_iff.mp e).1; omega
    have eb : (ns.map V.int)[i]? = some (V.int ns[i]) := by rw [List.getElem?_map, List.getElem?_eq_getElem hi]; rfl
    obtain ⟨w', hw, rw'⟩ := rv.get eb
    rw [e] at hw
    cases hw
    obtain ⟨t, rfl⟩ := rw'
    exact ⟨_, t, List.getElem?_eq_getElem hi, rfl⟩
  have gd : ∀ {i n}, ns[i]? = some n → ns.getD i 0 = n := fun {i n} e => by rw [List.getD_eq_getElem?_getD, e]; rfl
  refine call_function_tree F.kind_max F.plain_max F.entry_max (F.args_max1 _) (by
    refine wpAny_bind (m := Builtin.Builtins.bindParams "max" ["key", "default"] 0 ⟨[], []⟩) (wpAny_of_eq (show Builtin.Builtins.bindParams "max" ["key", "default"] 0 ⟨[], []⟩ = pure [none, none] from rfl) ?_); skip
    refine wpAny_bind (wpAny_pure (wpAny_bind (wpAny_pyIter_list p.isList (wpAny_bind (wpAny_newObj_type ?_))))); rw [nmd]
    refine wpAny_pure ⟨plainId_quiet F.plain_max_loop _, maxl_first (Walks.list (A := X.A.in1) (I.ok.hd hc) s.heap.objs.size l (Nat.ne_of_lt hlt) its.toArray) (fun i j => decide (ns.getD j 0 < ns.getD i 0)) _ ?nf (fun h => ∀ b o, s.heap.get? b = some o → h.get? b = some o) ?hG ?hc (by omega) ⟨⟨_, Heap.get?_push_of_some _ (Heap.get?_push_size _ rfl), rfl, rfl⟩, (p.isList.push _).push _⟩ (fun b o e => Heap.get?_push_of_some _ (Heap.get?_push_of_some _ e)) (Heap.get?_push_size _ rfl) fun v h' tk p0 kp => ?hr⟩
    case nf =>
      intro hm
      rcases List.mem_cons.mp hm with e | e
      · rw [Heap.size_push] at e
        exact absurd e (Nat.succ_ne_self _)
      · rw [List.mem_singleton, Heap.size_push] at e
        rw [← e] at hlt
        exact absurd hlt (Nat.not_lt.mpr (Nat.le_succ _))
    case hG =>
      intro h h' g kp b o e
      have lt := Heap.lt_size e
      refine kp b o (fun hm => ?_) (fun hm => ?_) (g b o e)
      · rw [List.mem_singleton.mp hm] at lt
        exact Nat.lt_irrefl _ lt
      · rw [hm, Heap.size_push] at lt
        exact absurd lt (Nat.not_lt.mpr (Nat.le_succ _))
    case hc =>
      intro i j vi vj s' Q' E' g hi hj hq
      obtain ⟨a, t, ea, rfl⟩ := hv i vi (by simpa using hi)
      obtain ⟨b, t', eb, rfl⟩ := hv j vj (by simpa using hj)
      rw [gd ea, gd eb] at hq
      exact gt_int hq
    case hr =>
      obtain ⟨a, t, ea, rfl⟩ := hv _ v (by simpa using p0)
      have sp := argBest_int (fun i => ns.getD i 0) (its.toArray.size - 1)
      refine ⟨.int a, H, I.kept fun b o e => ?_, ⟨t, rfl⟩, q a (List.mem_of_getElem? ea) fun x hx => ?_⟩
      · have lt := Heap.lt_size e
        refine kp b o (fun hm => ?_) (fun hm => ?_) (Heap.get?_push_of_some _ (Heap.get?_push_of_some _ e))
        · rw [List.mem_singleton.mp hm] at lt
          exact Nat.lt_irrefl _ lt
        · rw [hm, Heap.size_push] at lt
          exact absurd lt (Nat.not_lt.mpr (Nat.le_succ _))
      · obtain ⟨k, hk, rfl⟩ := List.mem_iff_getElem.mp hx
        have := sp.2 k (by omega)
        have e2 : ns.getD (argBest (fun i j => decide (ns.getD j 0 < ns.getD i 0)) (its.toArray.size - 1)) 0 = a := gd ea
        rw [e2, gd (List.getElem?_eq_getElem hk)] at this
        exact this)
end L2

set_option maxHeartbeats 4000000
namespace L2
open PySem PySem.Spec PyProof.Rows Tl
structure SpotsOk (h f : Int) (xs : List (Int × Int)) (ls : List Int) : Prop where
  len : xs.length = ls.length
  l : ∀ i, i < xs.length → 0 ≤ ls.getD i 0 ∧ ls.getD i 0 ≤ 4
  r : ∀ i, i < xs.length → RowIn h (xAt xs i)
  ff : ∀ i, i < xs.length → firstFrom f (xAt xs i) (ls.getD i 0) = xAt xs i
  bh : ∀ i, 0 < i → i < xs.length → sooner (xAt xs i) (behindI h f (xAt xs (i - 1)) (ls.getD i 0)) = false
theorem SpotsOk.nil {h f : Int} : SpotsOk h f [] [] := ⟨rfl, fun i hi => absurd hi (Nat.not_lt_zero _), fun i hi => absurd hi (Nat.not_lt_zero _), fun i hi => absurd hi (Nat.not_lt_zero _), fun i _ hi => absurd hi (Nat.not_lt_zero _)⟩
theorem getD_snoc {α : Type} (xs : List α) (x d : α) (k : Nat) : (xs ++ [x]).getD k d = if k < xs.length then xs.getD k d else if k = xs.length then x else d := by
  rw [getD_app]
  split
  · rfl
  · rename_i c
    split
    · rename_i e
      rw [e, Nat.sub_self]
      rfl
    · rename_i e
      obtain ⟨m, hm⟩ : ∃ m, k - xs.length = m + 1 := ⟨k - xs.length - 1, by omega⟩
      rw [hm]
      rfl
theorem SpotsOk.snoc {h f l : Int} {xs : List (Int × Int)} {ls : List Int} {x : Int × Int} (S : SpotsOk h f xs ls) (l0 : 0 ≤ l) (l1 : l ≤ 4) (r : RowIn h x) (ff : firstFrom f x l = x) (bh : 0 < xs.length → sooner x (behindI h f (xAt xs (xs.length - 1)) l) = false) : SpotsOk h f (xs ++ [x]) (ls ++ [l]) := by
  have ex : ∀ k, xAt (xs ++ [x]) k = if k < xs.length then xAt xs k else if k = xs.length then x else (0, 0) := fun k => getD_snoc xs x (0, 0) k
  have el : ∀ k, (ls ++ [l]).getD k 0 = if k < xs.length then ls.getD k 0 else if k = xs.length then l else 0 := fun k => by rw [getD_snoc, S.len]
  have cs : ∀ i, i < (xs ++ [x]).length → i < xs.length ∨ i = xs.length := fun i hi => by
    rw [List.length_append] at hi
    simp at hi
    omega
  refine ⟨by simp [S.len], fun i hi => ?_, fun i hi => ?_, fun i hi => ?_, fun i i0 hi => ?_⟩
  · rw [el]
    rcases cs i hi with c | c
    · rw [if_pos c]; exact S.l i c
    · rw [if_neg (by omega), if_pos c]; exact ⟨l0, l1⟩
  · rw [ex]
    rcases cs i hi with c | c
    · rw [if_pos c]; exact S.r i c
    · rw [if_neg (by omega), if_pos c]; exact r
  · rw [ex, el]
    rcases cs i hi with c | c
    · rw [if_pos c, if_pos c]; exact S.ff i c
    · rw [if_neg (by omega), if_pos c, if_neg (by omega), if_pos c]; exact ff
  · rcases cs i hi with c | c
    · have e1 : xAt (xs ++ [x]) i = xAt xs i := by rw [ex, if_pos c]
      have e2 : (ls ++ [l]).getD i 0 = ls.getD i 0 := by rw [el, if_pos c]
      have e3 : xAt (xs ++ [x]) (i - 1) = xAt xs (i - 1) := by rw [ex, if_pos (by omega)]
      rw [e1, e2, e3]
      exact S.bh i i0 c
    · have e1 : xAt (xs ++ [x]) i = x := by rw [ex, if_neg (by omega), if_pos c]
      have e2 : (ls ++ [l]).getD i 0 = l := by rw [el, if_neg (by omega), if_pos c]
      have e3 : xAt (xs ++ [x]) (i - 1) = xAt xs (i - 1) := by rw [ex, if_pos (by omega)]
      rw [e1, e2, e3, c]
      exact bh (by omega)
theorem SpotsOk.mono {h f : Int} {xs : List (Int × Int)} {ls : List Int} (S : SpotsOk h f xs ls) : ∀ k, 0 < k → k < xs.length → sooner (xAt xs k) (xAt xs (k - 1)) = false := fun k k0 hk =>
  le_tr (behind_self (f := f) (S.r (k - 1) (by omega)) (S.l k hk).1 (S.l k hk).2) (S.bh k k0 hk)
theorem SpotsOk.le {h f : Int} {xs : List (Int × Int)} {ls : List Int} (S : SpotsOk h f xs ls) {j i : Nat} (hj : j ≤ i) (hi : i < xs.length) : sooner (xAt xs i) (xAt xs j) = false := by
  have := chain_le (i := i) (xs := xs) (fun k k0 k1 => S.mono k k0 (by omega)) (i - j) j (by omega)
  rwa [show j + (i - j) = i by omega] at this
section
variable {F : Frm} {ds : List Wd} {xs : List (Int × Int)} {i j : Nat}
theorem tog_mono (hi : i < ds.length) : ∀ (d j : Nat), j + d ≤ i → together (wides F ds xs (j + d) i) ≤ together (wides F ds xs j i)
  | 0, j, _ => Int.le_refl _
  | d + 1, j, e => by
    have ih := tog_mono hi d (j + 1) (by omega)
    rw [show j + 1 + d = j + (d + 1) by omega] at ih
    refine Int.le_trans ih ?_
    rw [← togS_sizes, ← togS_sizes, togS_cons (j := j) (by omega) (by rw [sizes_len]; exact hi), sizes_at F ds xs (by omega)]
    have : 0 ≤ wideW F xs (dAt ds j) := Int.natCast_nonneg _
    simp only
    omega
end
def StsA (K : PySem.W.Frag) (H : Hp) (bs : List Addr) : Prop := ∀ b ∈ bs, ∃ xs : List Int, SqL K H b (xs.map V.int) ∧ StrOk 18 xs
theorem StsA.same {K : PySem.W.Frag} {H H' : Hp} {bs : List Addr} (s : Same H H') (h : StsA K H bs) : StsA K H' bs := fun b hb => by
  obtain ⟨xs, h1, h2⟩ := h b hb
  exact ⟨xs, s.seq h1, h2⟩
theorem dAt_snoc {ds : List Wd} {d : Wd} {k : Nat} : dAt (ds ++ [d]) k = if k < ds.length then dAt ds k else if k = ds.length then d else wd0 := getD_snoc ds d wd0 k
theorem xAt_of {xs : List (Int × Int)} {x : Int × Int} {k : Nat} (e : xs[k]? = some x) : xAt xs k = x := by
  show xs.getD k (0, 0) = x
  rw [List.getD_eq_getElem?_getD, e]
  rfl
end L2

set_option maxHeartbeats 4000000
namespace L2
open PySem PySem.Spec PyProof.Rows Tl
structure TrueAt (F : Frm) (ds : List Wd) (xs : List (Int × Int)) (k : Nat) : Prop where
  ff : firstFrom F.f (xAt xs k) (dAt ds k).lead = xAt xs k
  bh : 0 < k → sooner (xAt xs k) (behindI F.h F.f (xAt xs (k - 1)) (dAt ds k).lead) = false
  wide : ∀ j, j ≤ k → (∀ n, j ≤ n → n ≤ k → xAt xs n = xAt xs k) → together (wides F ds xs j k) ≤ F.w
  high : ∀ j, j ≤ k → (∀ n, j ≤ n → n ≤ k → (xAt xs n).1 = (xAt xs k).1) → (xAt xs k).2 + 1 + (highs F ds xs j k).sum ≤ F.h
  kept : 0 < k → (dAt ds k).kept = true → (xAt xs (k - 1)).1 = (xAt xs k).1
section
variable {F : Frm} {ds : List Wd} {xs : List (Int × Int)} {i j : Nat}
theorem highW_nonneg (h1 : 1 ≤ F.h) (d : Wd) : 0 ≤ highW F xs d := by
  unfold highW highF
  split
  · omega
  · split <;> omega
theorem hig_mono (h1 : 1 ≤ F.h) (hi : i < ds.length) : ∀ (d j : Nat), j + d ≤ i → (highs F ds xs (j + d) i).sum ≤ (highs F ds xs j i).sum
  | 0, j, _ => Int.le_refl _
  | d + 1, j, e => by
    have ih := hig_mono h1 hi d (j + 1) (by omega)
    rw [show j + 1 + d = j + (d + 1) by omega] at ih
    refine Int.le_trans ih ?_
    rw [← sumS_sizes, ← sumS_sizes, sumS_cons (j := j) (by omega) (by rw [sizes_len]; exact hi), sizes_at F ds xs (by omega)]
    have := highW_nonneg (F := F) (xs := xs) h1 (dAt ds j)
    simp only
    omega
theorem runs_wide (hi : i < ds.length) {j0 : Nat} (h0 : j0 ≤ i) (e : j0 = 0 ∨ xAt xs (j0 - 1) ≠ xAt xs j0) (h : together (wides F ds xs j0 i) ≤ F.w) : ∀ j, j ≤ i → (∀ n, j ≤ n → n ≤ i → xAt xs n = xAt xs i) → together (wides F ds xs j i) ≤ F.w := fun j hj hn => by
  have hj2 : j0 ≤ j := by
    rcases Nat.lt_or_ge j j0 with z | z
    · rcases e with e | e
      · omega
      · exact absurd ((hn (j0 - 1) (by omega) (by omega)).trans (hn j0 (by omega) h0).symm) e
    · exact z
  have := tog_mono (F := F) (ds := ds) (xs := xs) hi (j - j0) j0 (by omega)
  rw [show j0 + (j - j0) = j by omega] at this
  omega
end
theorem PlsA.take {K : PySem.W.Frag} {H : Hp} {as : List Addr} {xs : List (Int × Int)} (h : PlsA K H as xs) (n : Nat) : PlsA K H (as.take n) (xs.take n) := by
  refine ⟨by simp [h.1], fun i a x e e' => ?_⟩
  rw [List.getElem?_take] at e e'
  split at e
  · rename_i c
    rw [if_pos c] at e'
    exact h.2 i a x e e'
  · cases e
theorem PlsA.drop {K : PySem.W.Frag} {H : Hp} {as : List Addr} {xs : List (Int × Int)} (h : PlsA K H as xs) (n : Nat) : PlsA K H (as.drop n) (xs.drop n) := by
  refine ⟨by simp [h.1], fun i a x e e' => ?_⟩
  rw [List.getElem?_drop] at e e'
  exact h.2 _ a x e e'
theorem PlsA.app {K : PySem.W.Frag} {H : Hp} {as bs : List Addr} {xs ys : List (Int × Int)} (h : PlsA K H as xs) (g : PlsA K H bs ys) : PlsA K H (as ++ bs) (xs ++ ys) := by
  refine ⟨by simp [h.1, g.1], fun i a x e e' => ?_⟩
  by_cases c : i < as.length
  · rw [List.getElem?_append_left c] at e
    rw [List.getElem?_append_left (by rw [← h.1]; exact c)] at e'
    exact h.2 i a x e e'
  · rw [List.getElem?_append_right (by omega)] at e
    rw [List.getElem?_append_right (by rw [← h.1]; omega), ← h.1] at e'
    exact g.2 _ a x e e'
end L2

set_option maxHeartbeats 4000000
namespace L2
open PySem PySem.Spec PyProof.Rows Tl
section
variable {room : Int} {brk : Nat → Bool}
end
section
variable {F : Frm} {ds : List Wd} {L room : Int} {brk : Nat → Bool}
end
def er1 (H : Hp) (wa : Addr) : Hp := fun b => if b = wa then none else H b
theorem er1_same (H : Hp) (wa : Addr) : Same (er1 H wa) H := fun b o h => by
  unfold er1 at h
  split at h
  · cases h
  · exact h
theorem er1_at {H : Hp} {wa b : Addr} (n : b ≠ wa) : er1 H wa b = H b := by
  unfold er1
  rw [if_neg n]
theorem er1_mono {H H' : Hp} {wa : Addr} (s : Same H H') : Same (er1 H wa) (er1 H' wa) := fun b o h => by
  unfold er1 at h ⊢
  split at h
  · cases h
  · rename_i c
    rw [if_neg c]
    exact s b o h
theorem er1_put {H : Hp} {wa : Addr} {o : HO} : er1 (upd H wa o) wa = er1 H wa := by
  funext b
  unfold er1
  by_cases c : b = wa
  · rw [if_pos c, if_pos c]
  · rw [if_neg c, if_neg c, upd_ne c]
theorem er1_tup {K : PySem.W.Frag} {H : Hp} {wa a : Addr} {xs zs : List V} (h2 : H wa = some (.lst zs)) (h : SqT K H a xs) : SqT K (er1 H wa) a xs := by
  have ne : ∀ o, H a = some o → (∀ l, o ≠ .lst l) → er1 H wa a = some o := fun o e n => by
    rw [er1_at (fun z => by rw [z, h2] at e; cases e; exact n _ rfl)]
    exact e
  rcases h with (h | ⟨o, h⟩) | h
  · exact .inl (.inl (ne _ h (fun l z => by cases z)))
  · exact .inl (.inr ⟨o, ne _ h (fun l z => by cases z)⟩)
  · exact .inr h
end L2

set_option maxHeartbeats 4000000
namespace L2
open PySem PySem.Spec PyProof.Rows Tl
section
variable {F : Frm} {ds : List Wd} {xs : List (Int × Int)} {k : Nat}
end
theorem seg_map {α β : Type} (f : α → β) (l : List α) (j k : Nat) : ((l.map f).drop j).take (k + 1 - j) = ((l.drop j).take (k + 1 - j)).map f := by
  rw [← List.map_drop, ← List.map_take]
structure Ris (b : Int) (xs : List (Int × Int)) : Prop where
  row : ∀ k, k < xs.length → RowIn b (xAt xs k)
  pg : ∀ k, k < xs.length → (xAt xs k).1 ≤ (k : Int) + 2
  up : ∀ k, 0 < k → k < xs.length → sooner (xAt xs k) (xAt xs (k - 1)) = false
structure Szd (F : Frm) (ds : List Wd) (xs : List (Int × Int)) (n : Nat) (W T : Int) : Prop where
  w1 : 1 ≤ W
  w2 : W ≤ 62 + 63 * (n : Int)
  wide : ∀ k, k < n → ∀ j, j ≤ k → (∀ n, j ≤ n → n ≤ k → xAt xs n = xAt xs k) → together (wides F ds xs j k) ≤ W
  foot : ∀ k, k < n → ∀ s ∈ (dAt ds k).foot, ((saidL F.h F.f xs s).length : Int) ≤ W
  high : ∀ k, k < n → ∀ j, j ≤ k → (∀ n, j ≤ n → n ≤ k → (xAt xs n).1 = (xAt xs k).1) → (xAt xs k).2 + 1 + (highs F ds xs j k).sum ≤ T
  top : T = 1 ∨ ∃ k j, k < n ∧ j ≤ k ∧ T = (xAt xs k).2 + 1 + (highs F ds xs j k).sum
section
variable {F : Frm} {ds es : List Wd} {xs : List (Int × Int)} {k j : Nat} {h h' f w : Int}
theorem said_high (h1 : h ≤ h') (po : PlsOk h xs) {s : Say} (so : SayOk xs.length s) : (saidL h f xs s).length ≤ (saidL h' f xs s).length := by
  cases s with
  | text l => exact Nat.le_refl _
  | page k => exact Nat.le_refl _
  | row k =>
    have p := (po.get (show k < xs.length from so)).1.p1
    refine figs_mono _ _ ?_
    show ((xs.getD k (0, 0)).1 * h + (xs.getD k (0, 0)).2 + 1).toNat ≤ ((xs.getD k (0, 0)).1 * h' + (xs.getD k (0, 0)).2 + 1).toNat
    have := Int.mul_le_mul_of_nonneg_left h1 p
    omega
theorem high_low {ts us : List Int} (hh : h ≤ h') (e : ts.length = us.length) (hk : ∀ k, k < ts.length → ts.getD k 0 ≤ us.getD k 0) (h0 : ∀ t ∈ ts, 0 ≤ t) (no : us.any (fun t => decide (w < t)) = false) : highN w h ts ≤ highN w h' us := by
  have no2 : ts.any (fun t => decide (w < t)) = false := by
    cases c : ts.any (fun t => decide (w < t)) with
    | false => rfl
    | true => rw [any_grows e hk c] at no; cases no
  have g := fold_grows (w := w) e hk h0 (lexLe.refl (0, 0)) (Int.le_refl 0) (Int.le_refl 0) (Int.le_refl 0)
  have n1 : (numW w ts).1 ≤ (numW w us).1 := by
    rcases g with z | z
    · exact Int.le_of_lt z
    · exact Int.le_of_eq z.1
  unfold highN
  rw [no, no2, if_neg (show ¬ (false = true) by decide), if_neg (show ¬ (false = true) by decide)]
  split <;> split <;> omega
theorem num_count (w : Int) (ts : List Int) : (numW w ts).1 ≤ ts.length := by
  refine snoc_ind (P := fun ts => (numW w ts).1 ≤ (ts.length : Int)) (Int.le_refl 0) (fun l t ih => ?_) ts
  rw [numW_snoc, List.length_append]
  unfold numStep
  split
  · show (numW w l).1 ≤ _
    simp
    omega
  · show (numW w l).1 + 1 ≤ _
    simp
    omega
theorem high_count {ts : List Int} (no : ts.any (fun t => decide (w < t)) = false) : highN w h ts ≤ ts.length := by
  have := num_count w ts
  unfold highN
  rw [no, if_neg (show ¬ (false = true) by decide)]
  split <;> omega
theorem any_no {ts : List Int} (h : ∀ t ∈ ts, t ≤ w) : ts.any (fun t => decide (w < t)) = false := by
  rw [List.any_eq_false]
  intro t ht
  have := h t ht
  simp
  omega
theorem seg_sum {α : Type} {f : α → Int} : ∀ (l : List α), (∀ d ∈ l, 0 ≤ f d) → 0 ≤ (l.map f).sum
  | [], _ => Int.le_refl 0
  | a :: l, h => by
    have := seg_sum l (fun d hd => h d (List.mem_cons_of_mem _ hd))
    have := h a List.mem_cons_self
    show 0 ≤ f a + (l.map f).sum
    omega
theorem sum_take {α : Type} {f : α → Int} : ∀ (l : List α) (n : Nat), (∀ d ∈ l, 0 ≤ f d) → ((l.take n).map f).sum ≤ (l.map f).sum
  | [], n, _ => by simp
  | a :: l, 0, h => by
    have := seg_sum (f := f) (a :: l) h
    simpa using this
  | a :: l, n + 1, h => by
    have := sum_take l n (fun d hd => h d (List.mem_cons_of_mem _ hd))
    show f a + ((l.take n).map f).sum ≤ f a + (l.map f).sum
    omega
theorem sum_drop {α : Type} {f : α → Int} : ∀ (l : List α) (n : Nat), (∀ d ∈ l, 0 ≤ f d) → ((l.drop n).map f).sum ≤ (l.map f).sum
  | [], n, _ => by simp
  | a :: l, 0, h => Int.le_refl _
  | a :: l, n + 1, h => by
    have := sum_drop l n (fun d hd => h d (List.mem_cons_of_mem _ hd))
    have h0 := h a List.mem_cons_self
    show ((l.drop n).map f).sum ≤ f a + (l.map f).sum
    omega
def feetN (ds : List Wd) : Int := (ds.map fun d => (d.foot.length : Int)).sum
theorem feet_nonneg (ds : List Wd) : 0 ≤ feetN ds := seg_sum ds fun d _ => by omega
theorem szd_low {W T b : Int} (S : Szd F ds xs ds.length W T) (R : Ris b xs) (l : ds.length = xs.length) (b1 : 1 ≤ b) (hw : ∀ k, k < ds.length → ∀ s ∈ (dAt ds k).foot, ((saidL F.h F.f xs s).length : Int) ≤ F.w) : T ≤ b + feetN ds := by
  have f0 := feet_nonneg ds
  rcases S.top with z | ⟨k, j, hk, hj, z⟩
  · omega
  · have r := (R.row k (by omega)).r2
    have hm : ∀ d ∈ ds, highW F xs d ≤ (d.foot.length : Int) := fun d hd => by
      obtain ⟨i, hi, rfl⟩ := List.mem_iff_getElem.mp hd
      have e : dAt ds i = ds[i] := by
        show ds.getD i wd0 = _
        rw [List.getD_eq_getElem?_getD, List.getElem?_eq_getElem hi]
        rfl
      have h1 := hw i hi
      rw [e] at h1
      unfold highW
      rw [high_eq]
      have := high_count (w := F.w) (h := F.h) (ts := (ds[i].foot.map (saidL F.h F.f xs)).map fun t => (t.length : Int)) (any_no fun t ht => by
        obtain ⟨u, hu, rfl⟩ := List.mem_map.mp ht
        obtain ⟨s, hs, rfl⟩ := List.mem_map.mp hu
        exact h1 s hs)
      simpa using this
    have s1 : (highs F ds xs j k).sum ≤ feetN ds := by
      unfold highs segD feetN
      refine Int.le_trans (sum_le _ fun d hd => hm d (List.mem_of_mem_drop (List.mem_of_mem_take hd))) ?_
      exact Int.le_trans (sum_take (f := fun d : Wd => (d.foot.length : Int)) _ _ fun d _ => by omega) (sum_drop (f := fun d : Wd => (d.foot.length : Int)) _ _ fun d _ => by omega)
    omega
def SameS (ds es : List Wd) : Prop := ds.length = es.length ∧ ∀ k, k < ds.length → (dAt ds k).say = (dAt es k).say ∧ (dAt ds k).foot = (dAt es k).foot
theorem same_map {α : Type} {g : Wd → α} (hg : ∀ d e : Wd, d.say = e.say → d.foot = e.foot → g d = g e) (S : SameS ds es) : ds.map g = es.map g := by
  refine List.ext_getElem (by simp [S.1]) fun i h1 h2 => ?_
  rw [List.getElem_map, List.getElem_map]
  have a1 : i < ds.length := by simpa using h1
  have a2 : i < es.length := by simpa using h2
  have s := S.2 i a1
  have e1 : dAt ds i = ds[i] := by
    show ds.getD i wd0 = _
    rw [List.getD_eq_getElem?_getD, List.getElem?_eq_getElem a1]
    rfl
  have e2 : dAt es i = es[i] := by
    show es.getD i wd0 = _
    rw [List.getD_eq_getElem?_getD, List.getElem?_eq_getElem a2]
    rfl
  rw [e1, e2] at s
  exact hg _ _ s.1 s.2
theorem same_wides (S : SameS ds es) (j k : Nat) : wides F ds xs j k = wides F es xs j k := by
  unfold wides segD
  rw [← seg_map, ← seg_map, same_map (fun d e h1 _ => by unfold wideW; rw [h1]) S]
theorem same_highs (S : SameS ds es) (j k : Nat) : highs F ds xs j k = highs F es xs j k := by
  unfold highs segD
  rw [← seg_map, ← seg_map, same_map (fun d e _ h1 => by unfold highW; rw [h1]) S]
theorem ris_pls {b : Int} (R : Ris b xs) (hb : b ≤ h) (hn : xs.length ≤ 400) : PlsOk h xs := fun x hx => by
  obtain ⟨k, hk, rfl⟩ := List.mem_iff_getElem.mp hx
  have e : xAt xs k = xs[k] := xAt_of (List.getElem?_eq_getElem hk)
  have r := R.row k hk
  have p := R.pg k hk
  rw [e] at r p
  exact ⟨⟨r.p1, r.r1, Int.lt_of_lt_of_le r.r2 hb⟩, by omega⟩
theorem fit_wide {F1 : Frm} {W T : Int} (S : Szd F1 ds xs ds.length W T) (hf : F.f = F1.f) (hh : F.h ≤ F1.h) (po : PlsOk F.h xs) (wd : ∀ d ∈ ds, WdOk xs.length d) (hw : W ≤ F.w) (hk : k < ds.length) : ∀ j, j ≤ k → (∀ n, j ≤ n → n ≤ k → xAt xs n = xAt xs k) → together (wides F ds xs j k) ≤ F.w := fun j hj hn => by
  refine Int.le_trans ?_ (Int.le_trans (S.wide k hk j hj hn) hw)
  have s1 : ((segD ds j k).map (wideW F xs)).sum ≤ ((segD ds j k).map (wideW F1 xs)).sum := sum_le _ fun d hd => by
    have := said_high (f := F.f) hh po (wd d (List.mem_of_mem_drop (List.mem_of_mem_take hd))).s
    unfold wideW
    rw [← hf]
    omega
  unfold together wides
  rw [List.length_map, List.length_map]
  omega
theorem foot_low {F1 : Frm} {d : Wd} (hf : F.f = F1.f) (hh : F.h ≤ F1.h) (hw : F.w = F1.w) (po : PlsOk F.h xs) (wd : WdOk xs.length d) (no : ∀ s ∈ d.foot, ((saidL F1.h F1.f xs s).length : Int) ≤ F1.w) : highW F xs d ≤ highW F1 xs d := by
  unfold highW
  rw [high_eq, high_eq, hw]
  refine high_low hh (by simp) (fun k hk => ?_) (fun t ht => ?_) (any_no fun t ht => ?_)
  · simp only [List.length_map] at hk
    rw [List.getD_eq_getElem?_getD, List.getElem?_map, List.getElem?_map, List.getElem?_eq_getElem hk, List.getD_eq_getElem?_getD, List.getElem?_map, List.getElem?_map, List.getElem?_eq_getElem hk]
    have := said_high (f := F.f) hh po (wd.f _ (List.getElem_mem hk))
    show ((saidL F.h F.f xs d.foot[k]).length : Int) ≤ ((saidL F1.h F1.f xs d.foot[k]).length : Int)
    rw [← hf]
    omega
  · obtain ⟨u, _, rfl⟩ := List.mem_map.mp ht
    omega
  · obtain ⟨u, hu, rfl⟩ := List.mem_map.mp ht
    obtain ⟨s, hs, rfl⟩ := List.mem_map.mp hu
    exact no s hs
theorem fit_high {F2 : Frm} {W T : Int} (S : Szd F2 ds xs ds.length W T) (hf : F.f = F2.f) (hh : F.h ≤ F2.h) (hw : F.w = F2.w) (po : PlsOk F.h xs) (wd : ∀ d ∈ ds, WdOk xs.length d) (no : ∀ d ∈ ds, ∀ s ∈ d.foot, ((saidL F2.h F2.f xs s).length : Int) ≤ F2.w) (ht : T ≤ F.h) (hk : k < ds.length) : ∀ j, j ≤ k → (∀ n, j ≤ n → n ≤ k → (xAt xs n).1 = (xAt xs k).1) → (xAt xs k).2 + 1 + (highs F ds xs j k).sum ≤ F.h := fun j hj hn => by
  have s := S.high k hk j hj hn
  have s1 : (highs F ds xs j k).sum ≤ (highs F2 ds xs j k).sum := by
    unfold highs
    refine sum_le _ fun d hd => ?_
    have hm := List.mem_of_mem_drop (List.mem_of_mem_take hd)
    exact foot_low hf hh hw po (wd d hm) (no d hm)
  omega
structure RunW (F : Frm) (ds : List Wd) (xs : List (Int × Int)) (k : Nat) (r : Int) : Prop where
  ex : ∃ j, j ≤ k ∧ (∀ n, j ≤ n → n ≤ k → xAt xs n = xAt xs k) ∧ (j = 0 ∨ xAt xs (j - 1) ≠ xAt xs j) ∧ r = together (wides F ds xs j k)
structure RunH (F : Frm) (ds : List Wd) (xs : List (Int × Int)) (k : Nat) (r : Int) : Prop where
  ex : ∃ j, j ≤ k ∧ (∀ n, j ≤ n → n ≤ k → (xAt xs n).1 = (xAt xs k).1) ∧ (j = 0 ∨ (xAt xs (j - 1)).1 ≠ (xAt xs j).1) ∧ r = (highs F ds xs j k).sum
theorem runW_new (hk : k < ds.length) (h : k = 0 ∨ xAt xs (k - 1) ≠ xAt xs k) : RunW F ds xs k (wideW F xs (dAt ds k)) := by
  refine ⟨k, Nat.le_refl _, fun n n1 n2 => by rw [show n = k by omega], h, ?_⟩
  have := wide_snoc (F := F) (xs := xs) (Nat.le_refl k) hk
  rw [segP_self] at this
  rw [← this]
  show wideW F xs (dAt ds k) = together [] + 1 + wideW F xs (dAt ds k)
  have : together [] = -1 := rfl
  omega
theorem runW_on {r : Int} (R : RunW F ds xs k r) (hk : k + 1 < ds.length) (h : xAt xs k = xAt xs (k + 1)) : RunW F ds xs (k + 1) (r + 1 + wideW F xs (dAt ds (k + 1))) := by
  obtain ⟨j, hj, hn, ho, rfl⟩ := R.ex
  refine ⟨j, by omega, fun n n1 n2 => ?_, ho, ?_⟩
  · by_cases c : n = k + 1
    · rw [c]
    · rw [hn n n1 (by omega), h]
  · have := wide_snoc (F := F) (xs := xs) (show j ≤ k + 1 by omega) hk
    rw [segP_succ] at this
    rw [← this]
    rfl
theorem runH_new (hk : k < ds.length) (h : k = 0 ∨ (xAt xs (k - 1)).1 ≠ (xAt xs k).1) : RunH F ds xs k (0 + highW F xs (dAt ds k)) := by
  refine ⟨k, Nat.le_refl _, fun n n1 n2 => by rw [show n = k by omega], h, ?_⟩
  have := high_snoc (F := F) (xs := xs) (Nat.le_refl k) hk
  rw [segP_self] at this
  rw [← this]
  rfl
theorem runH_on {r : Int} (R : RunH F ds xs k r) (hk : k + 1 < ds.length) (h : (xAt xs k).1 = (xAt xs (k + 1)).1) : RunH F ds xs (k + 1) (r + highW F xs (dAt ds (k + 1))) := by
  obtain ⟨j, hj, hn, ho, rfl⟩ := R.ex
  refine ⟨j, by omega, fun n n1 n2 => ?_, ho, ?_⟩
  · by_cases c : n = k + 1
    · rw [c]
    · rw [hn n n1 (by omega), h]
  · have := high_snoc (F := F) (xs := xs) (show j ≤ k + 1 by omega) hk
    rw [segP_succ] at this
    rw [← this]
    rfl
theorem szd_zero : Szd F ds xs 0 1 1 := ⟨Int.le_refl 1, by omega, fun k hk => absurd hk (Nat.not_lt_zero _), fun k hk => absurd hk (Nat.not_lt_zero _), fun k hk => absurd hk (Nat.not_lt_zero _), .inl rfl⟩
theorem szd_step {n : Nat} {W T W' T' r r2 : Int} (S : Szd F ds xs n W T) (h1 : 1 ≤ F.h) (hn : n < ds.length) (R : RunW F ds xs n r) (R2 : RunH F ds xs n r2) (le : W ≤ W') (rl : r ≤ W') (fl : ∀ s ∈ (dAt ds n).foot, ((saidL F.h F.f xs s).length : Int) ≤ W') (wl : W' ≤ 62 + 63 * ((n + 1 : Nat) : Int))
    (et : T' = if (xAt xs n).2 + 1 + r2 > T then (xAt xs n).2 + 1 + r2 else T) : Szd F ds xs (n + 1) W' T' := by
  obtain ⟨j0, hj0, hn0, ho0, rfl⟩ := R.ex
  obtain ⟨j1, hj1, hn1, ho1, rfl⟩ := R2.ex
  have t1 : T ≤ T' := by rw [et]; split <;> omega
  have t2 : (xAt xs n).2 + 1 + (highs F ds xs j1 n).sum ≤ T' := by rw [et]; split <;> omega
  refine ⟨Int.le_trans S.w1 le, wl, fun k hk j hj hx => ?_, fun k hk s hs => ?_, fun k hk j hj hx => ?_, ?_⟩
  · by_cases c : k < n
    · exact Int.le_trans (S.wide k c j hj hx) le
    · have : k = n := by omega
      subst this
      exact runs_wide (F := ⟨W', F.h, F.f, F.m⟩) hn hj0 ho0 rl j hj hx
  · by_cases c : k < n
    · exact Int.le_trans (S.foot k c s hs) le
    · have : k = n := by omega
      subst this
      exact fl s hs
  · by_cases c : k < n
    · exact Int.le_trans (S.high k c j hj hx) t1
    · have : k = n := by omega
      subst this
      have hj2 : j1 ≤ j := by
        rcases Nat.lt_or_ge j j1 with z | z
        · rcases ho1 with e | e
          · omega
          · exact absurd ((hx (j1 - 1) (by omega) (by omega)).trans (hx j1 (by omega) hj1).symm) e
        · exact z
      have := hig_mono (F := F) (ds := ds) (xs := xs) h1 hn (j - j1) j1 (by omega)
      rw [show j1 + (j - j1) = j by omega] at this
      omega
  · rw [et]
    split
    · exact .inr ⟨n, j1, by omega, hj1, rfl⟩
    · rcases S.top with z | ⟨k, j, hk, hj, z⟩
      · exact .inl z
      · exact .inr ⟨k, j, by omega, hj, z⟩
structure Fits (F : Frm) (ds : List Wd) (xs : List (Int × Int)) : Prop where
  len : ds.length = xs.length
  wide : ∀ k, k < ds.length → ∀ j, j ≤ k → (∀ n, j ≤ n → n ≤ k → xAt xs n = xAt xs k) → together (wides F ds xs j k) ≤ F.w
  high : ∀ k, k < ds.length → ∀ j, j ≤ k → (∀ n, j ≤ n → n ≤ k → (xAt xs n).1 = (xAt xs k).1) → (xAt xs k).2 + 1 + (highs F ds xs j k).sum ≤ F.h
  pg : Pages F.m xs
  po : PlsOk F.h xs
theorem Fits.of {F1 F2 : Frm} {W1 T1 W2 T2 b : Int} (S1 : Szd F1 ds xs ds.length W1 T1) (S2 : Szd F2 ds xs ds.length W2 T2) (R : Ris b xs) (l : ds.length = xs.length) (n4 : ds.length ≤ 400) (b1 : 1 ≤ b) (wd : ∀ d ∈ ds, WdOk ds.length d)
    (f1 : F.f = F1.f) (f2 : F.f = F2.f) (h1 : F1.h = b + feetN ds) (h2 : F2.h = F1.h) (w2 : F.w = F2.w) (ww : W1 ≤ F.w) (hb : b ≤ F.h) (hm : F.h ≤ F1.h) (ht : (if T2 < F1.h then T2 else F1.h) ≤ F.h) (pg : Pages F.m xs) : Fits F ds xs := by
  have po := ris_pls (h := F.h) R hb (by omega)
  have wdx : ∀ d ∈ ds, WdOk xs.length d := fun d hd => by have := wd d hd; rwa [l] at this
  have no : ∀ k, k < ds.length → ∀ s ∈ (dAt ds k).foot, ((saidL F2.h F2.f xs s).length : Int) ≤ F2.w := fun k hk s hs => by
    have := S1.foot k hk s hs
    rw [h2, ← f2, f1, ← w2]
    omega
  have no2 : ∀ d ∈ ds, ∀ s ∈ d.foot, ((saidL F2.h F2.f xs s).length : Int) ≤ F2.w := fun d hd s hs => by
    obtain ⟨i, hi, rfl⟩ := List.mem_iff_getElem.mp hd
    have e : dAt ds i = ds[i] := by
      show ds.getD i wd0 = _
      rw [List.getD_eq_getElem?_getD, List.getElem?_eq_getElem hi]
      rfl
    exact no i hi s (by rw [e]; exact hs)
  have tl := szd_low S2 R l b1 no
  refine ⟨l, fun k hk => fit_wide S1 f1 hm po wdx ww hk, fun k hk => fit_high S2 f2 (by omega) w2 po wdx no2 ?_ hk, pg, po⟩
  split at ht <;> omega
def letOk (F : Frm) (xs : List (Int × Int)) (k : Nat) (l : Int) : Prop := ¬ (l = 4 ∧ (F.f + (xAt xs k).1) % 2 = 0) ∧ (0 < k → sooner (xAt xs k) (behindI F.h F.f (xAt xs (k - 1)) l) = false)
theorem drawn_true {es : List Wd} (Ft : Fits F es xs) (S : SameS ds es) (hk : k < ds.length) (l : letOk F xs k (dAt ds k).lead) (kp : (dAt ds k).kept = true → 0 < k → (xAt xs (k - 1)).1 = (xAt xs k).1) : TrueAt F ds xs k := by
  refine ⟨?_, l.2, fun j hj hx => ?_, fun j hj hx => ?_, fun k0 kt => kp kt k0⟩
  · unfold firstFrom
    rw [if_neg l.1]
  · rw [same_wides S]
    exact Ft.wide k (by rw [← S.1]; exact hk) j hj hx
  · rw [same_highs S]
    exact Ft.high k (by rw [← S.1]; exact hk) j hj hx
end
def PtAt (K : PySem.W.Frag) (H : Hp) (a : Addr) (d : Wd) : Prop := ∃ (sa fo : Addr) (bs : List Addr), SqT K H a [.ref sa, .ref fo] ∧ SqT K H sa (sayV d.say) ∧ SqL K H fo (bs.map V.ref) ∧ SaysA K H bs d.foot
theorem PtAt.same {K : PySem.W.Frag} {H H' : Hp} {a : Addr} {d : Wd} (s : Same H H') (h : PtAt K H a d) : PtAt K H' a d := by
  obtain ⟨sa, fo, bs, h1, h2, h3, h4⟩ := h
  exact ⟨sa, fo, bs, s.tup h1, s.tup h2, s.seq h3, h4.same s⟩
def PtsA (K : PySem.W.Frag) (H : Hp) (as : List Addr) (ds : List Wd) : Prop := as.length = ds.length ∧ ∀ (i : Nat) a d, as[i]? = some a → ds[i]? = some d → PtAt K H a d
theorem PtsA.same {K : PySem.W.Frag} {H H' : Hp} {as : List Addr} {ds : List Wd} (s : Same H H') (h : PtsA K H as ds) : PtsA K H' as ds := ⟨h.1, fun i a d e e' => (h.2 i a d e e').same s⟩
theorem PtsA.nil {K : PySem.W.Frag} {H : Hp} : PtsA K H [] [] := ⟨rfl, fun i a x e _ => by simp at e⟩
theorem PtsA.snoc {K : PySem.W.Frag} {H : Hp} {as : List Addr} {ds : List Wd} {a : Addr} {d : Wd} (h : PtsA K H as ds) (hx : PtAt K H a d) : PtsA K H (as ++ [a]) (ds ++ [d]) := by
  refine ⟨by simp [h.1], fun i b y e e' => ?_⟩
  by_cases hi : i < as.length
  · rw [List.getElem?_append_left hi] at e
    rw [List.getElem?_append_left (by rw [← h.1]; exact hi)] at e'
    exact h.2 i b y e e'
  · rw [List.getElem?_append_right (by omega)] at e
    rw [List.getElem?_append_right (by rw [← h.1]; omega), ← h.1] at e'
    cases c : i - as.length with
    | zero => rw [c] at e e'; cases e; cases e'; exact hx
    | succ n => rw [c] at e; simp at e
theorem er1_sub {H H2 : Hp} {wa : Addr} (s : Same H H2) (h : H wa = none) : Same H (er1 H2 wa) := fun b o e => by
  rw [er1_at (ne_of_none e h)]
  exact s b o e
def LysA (K : PySem.W.Frag) (H : Hp) (as : List Addr) (xss : List (List (Int × Int))) : Prop := as.length = xss.length ∧ ∀ (i : Nat) a xs, as[i]? = some a → xss[i]? = some xs → LwAt K H a xs
theorem LysA.same {K : PySem.W.Frag} {H H' : Hp} {as : List Addr} {xss : List (List (Int × Int))} (s : Same H H') (h : LysA K H as xss) : LysA K H' as xss := ⟨h.1, fun i a d e e' => (h.2 i a d e e').same s⟩
theorem ly_at {as : List Addr} {xss : List (List (Int × Int))} (e : as.length = xss.length) {i : Nat} {y : V} (h : (as.map V.ref)[i]? = some y) : ∃ b xs, y = V.ref b ∧ as[i]? = some b ∧ xss[i]? = some xs := by
  rw [List.getElem?_map] at h
  obtain ⟨b, hb, rfl⟩ := Option.map_eq_some_iff.mp h
  have hi : i < xss.length := by rw [← e]; exact (List.getElem?_eq_some_iff.mp hb).1
  exact ⟨b, xss[i], rfl, hb, List.getElem?_eq_getElem hi⟩
theorem bit_row (x y b : Int) (hb : 1 ≤ b) : 0 ≤ x % 2 * (y % b) ∧ x % 2 * (y % b) < b := by
  have m0 := Int.emod_nonneg y (show b ≠ 0 by omega)
  have m1 := Int.emod_lt_of_pos y (show 0 < b by omega)
  have : x % 2 = 0 ∨ x % 2 = 1 := by omega
  rcases this with z | z <;> rw [z]
  · rw [Int.zero_mul]; omega
  · rw [Int.one_mul]; exact ⟨m0, m1⟩
theorem next_row {r b : Int} (h0 : 0 ≤ r) (h1 : r < b) : ((r + 1) / b = 0 ∧ (r + 1) % b = r + 1 ∧ r + 1 < b) ∨ ((r + 1) / b = 1 ∧ (r + 1) % b = 0 ∧ r + 1 = b) := by
  by_cases c : r + 1 < b
  · exact .inl ⟨Int.ediv_eq_zero_of_lt (by omega) c, Int.emod_eq_of_lt (by omega) c, c⟩
  · have e : r + 1 = b := by omega
    rw [e]
    exact .inr ⟨Int.ediv_self (by omega), Int.emod_self, rfl⟩
theorem xAt_snoc' (xs : List (Int × Int)) (x : Int × Int) (k : Nat) : xAt (xs ++ [x]) k = if k < xs.length then xAt xs k else if k = xs.length then x else (0, 0) := getD_snoc xs x (0, 0) k
theorem ris_snoc {b : Int} {xs : List (Int × Int)} {x : Int × Int} (R : Ris b xs) (r : RowIn b x) (p : x.1 ≤ (xs.length : Int) + 2) (u : 0 < xs.length → sooner x (xAt xs (xs.length - 1)) = false) : Ris b (xs ++ [x]) := by
  refine ⟨fun k hk => ?_, fun k hk => ?_, fun k k0 hk => ?_⟩
  · rw [List.length_append] at hk
    simp at hk
    rw [xAt_snoc']
    by_cases c : k < xs.length
    · rw [if_pos c]; exact R.row k c
    · rw [if_neg c, if_pos (by omega)]; exact r
  · rw [List.length_append] at hk
    simp at hk
    rw [xAt_snoc']
    by_cases c : k < xs.length
    · rw [if_pos c]; exact R.pg k c
    · rw [if_neg c, if_pos (by omega)]
      have : k = xs.length := by omega
      rw [this]; exact p
  · rw [List.length_append] at hk
    simp at hk
    rw [xAt_snoc', xAt_snoc', if_pos (show k - 1 < xs.length by omega)]
    by_cases c : k < xs.length
    · rw [if_pos c]; exact R.up k k0 c
    · have : k = xs.length := by omega
      rw [if_neg c, if_pos this, this]
      exact u (by omega)
theorem ris_last {b : Int} {xs : List (Int × Int)} (R : Ris b xs) {k : Nat} (hk : k < xs.length) : (xAt xs k).1 ≤ (xAt xs (xs.length - 1)).1 := by
  have := chain_le (i := xs.length - 1) (xs := xs) (fun k k0 k1 => R.up k k0 (by omega)) (xs.length - 1 - k) k (by omega)
  rw [show k + (xs.length - 1 - k) = xs.length - 1 by omega, not_sooner] at this
  omega
def rNeNil (K : PySem.W.Frag) : R2 := fun x y H Q => ∃ a b xs, x = .ref a ∧ y = .ref b ∧ SqL K H a xs ∧ SqL K H b [] ∧ Q (.bl (!xs.isEmpty)) H
theorem op_neNil' {X : Cx} (hu : X.A.units < cLine) : OpR X (compareOp .NotEq) (rNeNil X.K) := op_neNil hu
end L2
namespace L2
open PySem PySem.Spec PyProof.Rows Tl
def WdT (K : PySem.W.Frag) (H0 H : Hp) (a : Addr) (d : Wd) : Prop := ∃ (sa fo : Addr) (bs : List Addr), SqT K H a [.int d.lead, .bl d.kept, .ref sa, .ref fo] ∧ SqT K H sa (sayV d.say) ∧ SqL K H0 fo (bs.map V.ref) ∧ SaysA K H0 bs d.foot
def WdsT (K : PySem.W.Frag) (H0 H : Hp) (as : List Addr) (ds : List Wd) : Prop := as.length = ds.length ∧ ∀ (i : Nat) a d, as[i]? = some a → ds[i]? = some d → WdT K H0 H a d
section
variable {K : PySem.W.Frag} {H0 H H' : Hp} {as : List Addr} {ds : List Wd}
theorem WdT.same {a : Addr} {d : Wd} (s : Same H H') (h : WdT K H0 H a d) : WdT K H0 H' a d := by
  obtain ⟨sa, fo, bs, h1, h2, h3, h4⟩ := h
  exact ⟨sa, fo, bs, s.tup h1, s.tup h2, h3, h4⟩
theorem WdT.lst {a l : Addr} {d : Wd} {ys zs : List V} (e : H l = some (.lst ys)) (h : WdT K H0 H a d) : WdT K H0 (upd H l (.lst zs)) a d := by
  obtain ⟨sa, fo, bs, h1, h2, h3, h4⟩ := h
  exact ⟨sa, fo, bs, SqT.lst e h1, SqT.lst e h2, h3, h4⟩
theorem WdT.at {a : Addr} {d : Wd} (s : Same H0 H) (h : WdT K H0 H a d) : WdAt K H a d := by
  obtain ⟨sa, fo, bs, h1, h2, h3, h4⟩ := h
  exact ⟨sa, fo, bs, h1, h2, s.seq h3, h4.same s⟩
theorem WdAt.t {a : Addr} {d : Wd} (s : Same H0 H) (h : WdAt K H0 a d) : WdT K H0 H a d := by
  obtain ⟨sa, fo, bs, h1, h2, h3, h4⟩ := h
  exact ⟨sa, fo, bs, s.tup h1, s.tup h2, h3, h4⟩
theorem WdsT.same (s : Same H H') (h : WdsT K H0 H as ds) : WdsT K H0 H' as ds := ⟨h.1, fun i a d e e' => (h.2 i a d e e').same s⟩
theorem WdsT.lst {l : Addr} {ys zs : List V} (e : H l = some (.lst ys)) (h : WdsT K H0 H as ds) : WdsT K H0 (upd H l (.lst zs)) as ds := ⟨h.1, fun i a d e1 e2 => (h.2 i a d e1 e2).lst e⟩
theorem WdsT.at (s : Same H0 H) (h : WdsT K H0 H as ds) : WdsA K H as ds := ⟨h.1, fun i a d e e' => (h.2 i a d e e').at s⟩
theorem WdsA.t (s : Same H0 H) (h : WdsA K H0 as ds) : WdsT K H0 H as ds := ⟨h.1, fun i a d e e' => (h.2 i a d e e').t s⟩
theorem WdsT.set {a : Addr} {d : Wd} (h : WdsT K H0 H as ds) (k : Nat) (hx : WdT K H0 H a d) : WdsT K H0 H (as.set k a) (ds.set k d) := by
  refine ⟨by simp [h.1], fun i b y e e' => ?_⟩
  rw [List.getElem?_set] at e e'
  by_cases c : k = i
  · rw [if_pos c] at e e'
    split at e
    · cases e
      split at e'
      · cases e'
        exact hx
      · cases e'
    · cases e
  · rw [if_neg c] at e e'
    exact h.2 i b y e e'
end
end L2

set_option maxHeartbeats 4000000
namespace L2
open PySem PySem.Spec PyProof.Rows Tl
theorem join_snoc (t : List Nat) : ∀ (g : List (List Nat)), g ≠ [] → joinL [32] (g ++ [t]) = joinL [32] g ++ 32 :: t
  | [], h => absurd rfl h
  | [x], _ => by show x ++ [32] ++ t = x ++ 32 :: t; simp
  | x :: y :: r, _ => by
    have ih := join_snoc t (y :: r) (by simp)
    show x ++ [32] ++ joinL [32] ((y :: r) ++ [t]) = x ++ [32] ++ joinL [32] (y :: r) ++ 32 :: t
    rw [ih]
    simp only [List.append_assoc]
theorem cut_to {α : Type} (xs : List α) (b : Nat) : cutL xs none (some (b : Int)) = xs.take b := by
  unfold cutL HT.sIx
  have h2 : ¬ ((b : Int) < 0) := by omega
  simp only [if_neg h2, Int.toNat_natCast, Nat.sub_zero, List.drop_zero]
  by_cases g : b ≤ xs.length
  · rw [Nat.min_eq_left g]
  · rw [Nat.min_eq_right (by omega), List.take_of_length_le (by omega), List.take_of_length_le (by omega)]
end L2

set_option maxHeartbeats 4000000
namespace L2
open PySem PySem.Spec PyProof.Rows Tl
def rowW (F : Frm) (ds : List Wd) (xs : List (Int × Int)) (p r : Int) : Nat → List (List Nat)
  | 0 => []
  | n + 1 => rowW F ds xs p r n ++ (if xAt xs n = (p, r) then [saidL F.h F.f xs (dAt ds n).say] else [])
def feetW (F : Frm) (ds : List Wd) (xs : List (Int × Int)) (p : Int) : Nat → List (List Nat)
  | 0 => []
  | n + 1 => feetW F ds xs p n ++ (if (xAt xs n).1 = p then fillW F.w ((dAt ds n).foot.map (saidL F.h F.f xs)) else [])
def bodyW (F : Frm) (ds : List Wd) (xs : List (Int × Int)) (p : Int) : List (List Nat) := (List.range F.h.toNat).map fun (r : Nat) => joinL [32] (rowW F ds xs p (r : Int) ds.length)
def pgR (F : Frm) (ds : List Wd) (xs : List (Int × Int)) (p : Int) : List (List Nat) := (bodyW F ds xs p).take (F.h.toNat - (feetW F ds xs p ds.length).length) ++ feetW F ds xs p ds.length
structure LsF (H0 H : Hp) (pr : Addr) (qs : List Addr) (ws : Nat → List (List Nat)) : Prop where
  top : H pr = some (.lst (qs.map V.ref))
  nd : ∀ (i j : Nat) (q : Addr), qs[i]? = some q → qs[j]? = some q → i = j
  ne : pr ∉ qs
  at' : ∀ (i : Nat) (q : Addr), qs[i]? = some q → H q = some (.lst (rowsV (ws i)))
  fr : ∀ q ∈ qs, H0 q = none
theorem LsF.same {H0 H H' : Hp} {pr : Addr} {qs : List Addr} {ws : Nat → List (List Nat)} (S : LsF H0 H pr qs ws) (s : Same H H') : LsF H0 H' pr qs ws := ⟨s _ _ S.top, S.nd, S.ne, fun i q h => s _ _ (S.at' i q h), S.fr⟩
theorem LsF.put {H0 H : Hp} {pr a : Addr} {o : HO} {qs : List Addr} {ws : Nat → List (List Nat)} (S : LsF H0 H pr qs ws) (n1 : a ≠ pr) (n2 : a ∉ qs) : LsF H0 (upd H a o) pr qs ws :=
  ⟨by rw [upd_ne n1.symm]; exact S.top, S.nd, S.ne, fun i q h => by rw [upd_ne (fun z => n2 (by rw [← z]; exact List.mem_of_getElem? h))]; exact S.at' i q h, S.fr⟩
theorem LsF.push {H0 H : Hp} {pr q : Addr} {qs : List Addr} {ws ws' : Nat → List (List Nat)} {j : Nat} {t : List Nat} (S : LsF H0 H pr qs ws) (hq : qs[j]? = some q) (e1 : ws' j = ws j ++ [t]) (e2 : ∀ i, i ≠ j → ws' i = ws i) : LsF H0 (upd H q (.lst (rowsV (ws j) ++ [V.str (tx t)]))) pr qs ws' := by
  refine ⟨?_, S.nd, S.ne, fun i q' h => ?_, S.fr⟩
  · rw [upd_ne (fun e => S.ne (by rw [e]; exact List.mem_of_getElem? hq))]
    exact S.top
  · by_cases e : i = j
    · subst e
      have e3 : q' = q := Option.some.inj (h.symm.trans hq)
      subst e3
      rw [upd_same, e1, rowsV_snoc]
    · rw [upd_ne (fun z => e (S.nd i j q (by rw [← z]; exact h) hq)), e2 i e]
      exact S.at' i q' h
section
variable {F : Frm} {ds : List Wd} {xs : List (Int × Int)}
theorem rowW_len (p r : Int) : ∀ n, (rowW F ds xs p r n).length ≤ n
  | 0 => Nat.le_refl _
  | n + 1 => by
    have := rowW_len p r n
    unfold rowW
    rw [List.length_append]
    split <;> simp <;> omega
theorem rowW_mem {p r : Int} {t : List Nat} : ∀ {n}, t ∈ rowW F ds xs p r n → ∃ k, k < n ∧ t = saidL F.h F.f xs (dAt ds k).say
  | n + 1, h => by
    unfold rowW at h
    rcases List.mem_append.mp h with h | h
    · obtain ⟨k, hk, e⟩ := rowW_mem h
      exact ⟨k, by omega, e⟩
    · split at h
      · exact ⟨n, by omega, List.mem_singleton.mp h⟩
      · cases h
theorem joinL_len {b : Nat} : ∀ (l : List (List Nat)), (∀ t ∈ l, t.length ≤ b) → (joinL [32] l).length ≤ l.length * (b + 1)
  | [], _ => by simp [joinL]
  | [a], h => by
    have := h a List.mem_cons_self
    simp [joinL]
    omega
  | a :: c :: r, h => by
    have h1 := h a List.mem_cons_self
    have h2 := joinL_len (c :: r) fun t ht => h t (List.mem_cons_of_mem _ ht)
    show (a ++ [32] ++ joinL [32] (c :: r)).length ≤ _
    rw [List.length_append, List.length_append]
    simp only [List.length_cons, List.length_nil] at h2 ⊢
    have : (r.length + 1 + 1) * (b + 1) = (r.length + 1) * (b + 1) + (b + 1) := by rw [Nat.add_mul (r.length + 1) 1, Nat.one_mul]
    omega
theorem bodyW_len (p : Int) : (bodyW F ds xs p).length = F.h.toNat := by unfold bodyW; simp
theorem pgR_len {p : Int} (h : (feetW F ds xs p ds.length).length ≤ F.h.toNat) : (pgR F ds xs p).length = F.h.toNat := by
  unfold pgR
  rw [List.length_append, List.length_take, bodyW_len]
  omega
end
end L2
namespace L2
open PySem PySem.Spec PyProof.Rows Tl
def rJoin (K : PySem.W.Frag) (x : V) (xs : List V) (H : Hp) (Q : V → Hp → Prop) : Prop := ∃ sep a ys, x = .str sep ∧ xs = [.ref a] ∧ SqL K H a (ys.map V.str) ∧ sep.length ≤ 16 ∧ (ys.map (·.length)).sum + ys.length ≤ 1048576 ∧ Q (.str (Txt.join sep ys)) H
theorem mt_join' {X : Cx} : MtR X "str.join" (rJoin X.K) := mt_join
section
variable {X : Cx} {T name id : String} {r : V → List V → Hp → (V → Hp → Prop) → Prop} {o e : Expr} {es : List Expr} {to : TE} {t : TA} {apos cpos : Pos}
theorem pe_bmK {Kk : PySem.W.Frag} (hK : X.K = Kk) (pa : PlainAttrs T) (slot : Slot T name id) (hty : typeOf (.builtin id) = pure (.type "method_descriptor")) (hm : MtR X id r) (ho : PE X o to) (ha : PA X (e :: es) t)
    (hbase : attributeBase o name X.env (eval o X.env) = eval o X.env := by rfl; skip)
    (hfew : ((backTo cpos (starEach (e :: es) X.env)).all (fun x => !x.1) && (backToKw cpos (keywordEach [] X.env)).all (fun x => x.1.isSome) && decide ((e :: es).length + ([] : List Keyword).length + (if ([] : List Keyword).isEmpty then 0 else 1) < 30)) = true := by rfl)
    (hline : (apos.endLine == cpos.line) = true := by rfl) (hs : starEach (e :: es) X.env = (false, eval e X.env) :: starEach es X.env := by rfl) (hplain : (backTo cpos (starEach es X.env)).any (·.1) = false := by rfl) : PE X (.Call (.Attribute o name apos) (e :: es) [] cpos) (tBM Kk T r to t) := by
  subst hK
  exact pe_bm pa slot hty hm ho ha hbase hfew hline hs hplain
end
theorem rowsV_eq (l : List (List Nat)) : rowsV l = (l.map tx).map V.str := by unfold rowsV; rw [List.map_map]; rfl
theorem sum_tx {b : Nat} : ∀ (l : List (List Nat)), (∀ t ∈ l, t.length ≤ b) → ((l.map tx).map (·.length)).sum + (l.map tx).length ≤ l.length * (b + 1)
  | [], _ => by simp
  | a :: r, h => by
    have h1 := h a List.mem_cons_self
    have h2 := sum_tx r fun t ht => h t (List.mem_cons_of_mem _ ht)
    simp only [List.map_cons, List.sum_cons, List.length_cons] at h2 ⊢
    rw [tx_len, Nat.add_mul r.length 1, Nat.one_mul]
    omega
end L2
namespace L2
open PySem PySem.Spec PyProof.Rows Tl
def PgsA (K : PySem.W.Frag) (H : Hp) (q : Addr) (F : Frm) (ds : List Wd) (xs : List (Int × Int)) (n : Nat) : Prop := ∃ ps rs : List Addr, ps.length = n ∧ rs.length = n ∧ SqL K H q (ps.map V.ref) ∧ ∀ (i : Nat) p r, ps[i]? = some p → rs[i]? = some r → SqT K H p [.int (F.f + (i : Int)), .ref r] ∧ SqL K H r (rowsV (pgR F ds xs (i : Int)))
theorem PgsA.same {K : PySem.W.Frag} {H H' : Hp} {q : Addr} {F : Frm} {ds : List Wd} {xs : List (Int × Int)} {n : Nat} (s : Same H H') (h : PgsA K H q F ds xs n) : PgsA K H' q F ds xs n := by
  obtain ⟨ps, rs, h1, h2, h3, h4⟩ := h
  exact ⟨ps, rs, h1, h2, s.seq h3, fun i p r a b => ⟨s.tup (h4 i p r a b).1, s.seq (h4 i p r a b).2⟩⟩
theorem PgsA.get {K : PySem.W.Frag} {H : Hp} {q : Addr} {F : Frm} {ds : List Wd} {xs : List (Int × Int)} {n i : Nat} (h : PgsA K H q F ds xs n) (hi : i < n) : ∃ (ps : List Addr) (p r : Addr), SqL K H q (ps.map V.ref) ∧ atI (ps.map V.ref) (i : Int) = some (V.ref p) ∧ SqT K H p [.int (F.f + (i : Int)), .ref r] ∧ SqL K H r (rowsV (pgR F ds xs (i : Int))) := by
  obtain ⟨ps, rs, h1, h2, h3, h4⟩ := h
  have e1 : ps[i]? = some (ps[i]'(by omega)) := List.getElem?_eq_getElem (by omega)
  have e2 : rs[i]? = some (rs[i]'(by omega)) := List.getElem?_eq_getElem (by omega)
  exact ⟨ps, _, _, h3, atI_nat (by rw [List.getElem?_map, e1]; rfl), (h4 i _ _ e1 e2).1, (h4 i _ _ e1 e2).2⟩
def nPg (xs : List (Int × Int)) : Nat := if xs = [] then 0 else ((xAt xs (xs.length - 1)).1 + 1).toNat
section
variable {F : Frm} {ds : List Wd} {xs : List (Int × Int)} {b : Int}
theorem ris_le (R : Ris b xs) {j k : Nat} (h : j ≤ k) (hk : k < xs.length) : sooner (xAt xs k) (xAt xs j) = false := by
  have := chain_le (i := k) (xs := xs) (fun n n0 n1 => R.up n n0 (by omega)) (k - j) j (by omega)
  rwa [show j + (k - j) = k by omega] at this
theorem ris_page (R : Ris b xs) {k : Nat} (hk : k < xs.length) : (xAt xs k).1.toNat < nPg xs := by
  have l := ris_last R hk
  have p := (R.row k hk).p1
  unfold nPg
  rw [if_neg (fun z => by rw [z] at hk; exact absurd hk (Nat.not_lt_zero _))]
  omega
theorem feet_sum (h1 : 1 ≤ F.h) (p : Int) : ∀ {n : Nat} (S : Int), (∀ k, k < n → (xAt xs k).1 = p → highW F xs (dAt ds k) < F.h) → (((List.range n).map fun k => if (xAt xs k).1 = p then highW F xs (dAt ds k) else 0).sum ≤ S) → ((feetW F ds xs p n).length : Int) ≤ S
  | 0, S, _, h => h
  | n + 1, S, hh, h => by
    rw [List.range_succ, List.map_append, List.sum_append] at h
    have ih := feet_sum h1 p (n := n) (S - (if (xAt xs n).1 = p then highW F xs (dAt ds n) else 0)) (fun k hk => hh k (by omega)) (by simp only [List.map_cons, List.map_nil, List.sum_cons, List.sum_nil] at h; omega)
    show ((feetW F ds xs p n ++ (if (xAt xs n).1 = p then fillW F.w ((dAt ds n).foot.map (saidL F.h F.f xs)) else [])).length : Int) ≤ S
    rw [List.length_append]
    by_cases c : (xAt xs n).1 = p
    · rw [if_pos c] at ih ⊢
      have hn := hh n (Nat.lt_succ_self _) c
      have : highW F xs (dAt ds n) = ((fillW F.w ((dAt ds n).foot.map (saidL F.h F.f xs))).length : Int) := by
        unfold highW highF at hn ⊢
        split at hn
        · omega
        · split at hn
          · omega
          · rename_i c1 c2
            rw [if_neg c1, if_neg c2]
      omega
    · rw [if_neg c] at ih ⊢
      simp
      omega
def pgS2 (F : Frm) (ds : List Wd) (xs : List (Int × Int)) (p : Int) (n : Nat) : Int := ((List.range n).map fun k => if (xAt xs k).1 = p then highW F xs (dAt ds k) else 0).sum
theorem pgS2_succ (p : Int) (n : Nat) : pgS2 F ds xs p (n + 1) = pgS2 F ds xs p n + (if (xAt xs n).1 = p then highW F xs (dAt ds n) else 0) := by
  unfold pgS2
  rw [List.range_succ, List.map_append, List.sum_append]
  simp
theorem page_sum (l : ds.length = xs.length) (R : Ris b xs) (p : Int) : ∀ n, n ≤ ds.length → (∃ K j, K < n ∧ j ≤ K ∧ (∀ i, K < i → i < n → (xAt xs i).1 ≠ p) ∧ (∀ i, j ≤ i → i ≤ K → (xAt xs i).1 = p) ∧ pgS2 F ds xs p n = (highs F ds xs j K).sum) ∨ ((∀ i, i < n → (xAt xs i).1 ≠ p) ∧ pgS2 F ds xs p n = 0)
  | 0, _ => .inr ⟨fun i hi => absurd hi (Nat.not_lt_zero _), rfl⟩
  | n + 1, hn => by
    have ih := page_sum l R p n (by omega)
    rw [pgS2_succ]
    by_cases c : (xAt xs n).1 = p
    · rw [if_pos c]
      rcases ih with ⟨K, j, hK, hj, ho, hi, e⟩ | ⟨hno, e⟩
      · have eK : K + 1 = n := by
          rcases Nat.lt_or_ge (K + 1) n with z | z
          · have a := ris_le R (show K ≤ K + 1 by omega) (by omega)
            have d := ris_le R (show K + 1 ≤ n by omega) (by omega)
            have pk := hi K hj (Nat.le_refl _)
            have ne := ho (K + 1) (by omega) z
            rw [not_sooner] at a d
            omega
          · omega
        subst eK
        refine .inl ⟨K + 1, j, by omega, by omega, fun i i1 i2 => by omega, fun i i1 i2 => ?_, ?_⟩
        · by_cases ci : i = K + 1
          · rw [ci]; exact c
          · exact hi i i1 (by omega)
        · have := high_snoc (F := F) (xs := xs) (show j ≤ K + 1 by omega) (show K + 1 < ds.length by omega)
          rw [segP_succ] at this
          rw [← this, e]
          rfl
      · refine .inl ⟨n, n, by omega, Nat.le_refl _, fun i i1 i2 => by omega, fun i i1 i2 => by rw [show i = n by omega]; exact c, ?_⟩
        have := high_snoc (F := F) (xs := xs) (Nat.le_refl n) (show n < ds.length by omega)
        rw [segP_self] at this
        rw [← this, e]
        rfl
    · rw [if_neg c, Int.add_zero]
      rcases ih with ⟨K, j, hK, hj, ho, hi, e⟩ | ⟨hno, e⟩
      · refine .inl ⟨K, j, by omega, hj, fun i i1 i2 => ?_, hi, e⟩
        by_cases ci : i = n
        · rw [ci]; exact c
        · exact ho i i1 (by omega)
      · refine .inr ⟨fun i hi => ?_, e⟩
        by_cases ci : i = n
        · rw [ci]; exact c
        · exact hno i (by omega)
theorem feet_room (B : BkOk F ds xs) (R : Ris b xs) (T : ∀ k, k < ds.length → TrueAt F ds xs k) (p : Int) : ((feetW F ds xs p ds.length).length : Int) ≤ F.h ∧ ∀ k, k < ds.length → (xAt xs k).1 = p → (xAt xs k).2 + 1 + ((feetW F ds xs p ds.length).length : Int) ≤ F.h := by
  have h1 := B.fo.h1
  have hh : ∀ k, k < ds.length → (xAt xs k).1 = p → highW F xs (dAt ds k) < F.h := fun k hk _ => by
    have a := (T k hk).high k (Nat.le_refl _) (fun n n1 n2 => by rw [show n = k by omega])
    have e := high_snoc (F := F) (xs := xs) (Nat.le_refl k) hk
    rw [segP_self] at e
    have e2 : (highs F ds xs k k).sum = highW F xs (dAt ds k) := by rw [← e]; exact Int.zero_add _
    rw [e2] at a
    have r := (B.x hk).1.r1
    omega
  rcases page_sum (F := F) B.len R p ds.length (Nat.le_refl _) with ⟨K, j, hK, hj, ho, hi, e⟩ | ⟨hno, e⟩
  · have a := (T K hK).high j hj (fun n n1 n2 => by rw [hi n n1 n2, hi K hj (Nat.le_refl _)])
    have f := feet_sum h1 p (n := ds.length) (highs F ds xs j K).sum hh (Int.le_of_eq e)
    have r := (B.x hK).1.r1
    refine ⟨by omega, fun k hk kp => ?_⟩
    have kK : k ≤ K := by
      rcases Nat.lt_or_ge K k with z | z
      · exact absurd kp (ho k z hk)
      · exact z
    have le := ris_le R kK (by rw [← B.len]; exact hK)
    rw [not_sooner] at le
    have pK := hi K hj (Nat.le_refl _)
    omega
  · have f := feet_sum h1 p (n := ds.length) 0 hh (Int.le_of_eq e)
    exact ⟨by omega, fun k hk kp => absurd kp (hno k hk)⟩
end
end L2
namespace L2
open PySem PySem.Spec PyProof.Rows Tl
def rIsi (K : PySem.W.Frag) (xs : List V) (H : Hp) (Q : V → Hp → Prop) : Prop := ∃ x T b, xs = [x, V.ty T] ∧ (T = "bool" ∨ T = "int" ∨ T = "str" ∨ T = "tuple" ∨ T = "list") ∧ isiV K T x H b ∧ Q (.bl b) H
theorem call_isi' {X : Cx} : CallR X (.builtin "isinstance") (rIsi X.K) := call_isi
end L2

set_option maxHeartbeats 4000000
namespace L2
open PySem PySem.Spec PyProof.Rows Tl
section
variable {F : Frm} {ds : List Wd} {xs : List (Int × Int)} {b : Int}
theorem row_sum (l : ds.length = xs.length) (R : Ris b xs) (p r : Int) : ∀ n, n ≤ ds.length → (∃ K j, K < n ∧ j ≤ K ∧ (∀ i, K < i → i < n → xAt xs i ≠ (p, r)) ∧ (∀ i, j ≤ i → i ≤ K → xAt xs i = (p, r)) ∧ rowW F ds xs p r n ≠ [] ∧ ((joinL [32] (rowW F ds xs p r n)).length : Int) = together (wides F ds xs j K)) ∨ ((∀ i, i < n → xAt xs i ≠ (p, r)) ∧ rowW F ds xs p r n = [])
  | 0, _ => .inr ⟨fun i hi => absurd hi (Nat.not_lt_zero _), rfl⟩
  | n + 1, hn => by
    have ih := row_sum l R p r n (by omega)
    have e1 : rowW F ds xs p r (n + 1) = rowW F ds xs p r n ++ (if xAt xs n = (p, r) then [saidL F.h F.f xs (dAt ds n).say] else []) := rfl
    rw [e1]
    by_cases c : xAt xs n = (p, r)
    · rw [if_pos c]
      rcases ih with ⟨K, j, hK, hj, ho, hi, ne, e⟩ | ⟨hno, e⟩
      · have eK : K + 1 = n := by
          rcases Nat.lt_or_ge (K + 1) n with z | z
          · have a := ris_le R (show K ≤ K + 1 by omega) (by omega)
            have d := ris_le R (show K + 1 ≤ n by omega) (by omega)
            have pk := hi K hj (Nat.le_refl _)
            have ne := ho (K + 1) (by omega) z
            rw [c, ← pk] at d
            exact absurd ((le_anti a d).symm.trans pk) ne
          · omega
        subst eK
        refine .inl ⟨K + 1, j, by omega, by omega, fun i i1 i2 => by omega, fun i i1 i2 => ?_, by simp, ?_⟩
        · by_cases ci : i = K + 1
          · rw [ci]; exact c
          · exact hi i i1 (by omega)
        · have := wide_snoc (F := F) (xs := xs) (show j ≤ K + 1 by omega) (show K + 1 < ds.length by omega)
          rw [segP_succ] at this
          rw [← this, join_snoc _ _ ne, List.length_append, List.length_cons]
          have ew : wideW F xs (dAt ds (K + 1)) = ((saidL F.h F.f xs (dAt ds (K + 1)).say).length : Int) := rfl
          have e' : ((joinL [32] (rowW F ds xs p r (K + 1))).length : Int) = together ((segD ds j K).map (wideW F xs)) := e
          omega
      · refine .inl ⟨n, n, by omega, Nat.le_refl _, fun i i1 i2 => by omega, fun i i1 i2 => by rw [show i = n by omega]; exact c, by simp, ?_⟩
        have := wide_snoc (F := F) (xs := xs) (Nat.le_refl n) (show n < ds.length by omega)
        rw [segP_self] at this
        rw [← this, e]
        show ((joinL [32] [saidL F.h F.f xs (dAt ds n).say]).length : Int) = ((0 : Int) + (0 : Nat) - 1) + 1 + ((saidL F.h F.f xs (dAt ds n).say).length : Int)
        show ((saidL F.h F.f xs (dAt ds n).say).length : Int) = _
        omega
    · rw [if_neg c, List.append_nil]
      rcases ih with ⟨K, j, hK, hj, ho, hi, ne, e⟩ | ⟨hno, e⟩
      · refine .inl ⟨K, j, by omega, hj, fun i i1 i2 => ?_, hi, ne, e⟩
        by_cases ci : i = n
        · rw [ci]; exact c
        · exact ho i i1 (by omega)
      · refine .inr ⟨fun i hi => ?_, e⟩
        by_cases ci : i = n
        · rw [ci]; exact c
        · exact hno i (by omega)
theorem row_wide (B : BkOk F ds xs) (R : Ris b xs) (T : ∀ k, k < ds.length → TrueAt F ds xs k) (p r : Int) : ((joinL [32] (rowW F ds xs p r ds.length)).length : Int) ≤ F.w := by
  rcases row_sum (F := F) B.len R p r ds.length (Nat.le_refl _) with ⟨K, j, hK, hj, ho, hi, ne, e⟩ | ⟨hno, e⟩
  · rw [e]
    exact (T K hK).wide j hj fun n n1 n2 => by rw [hi n n1 n2, hi K hj (Nat.le_refl _)]
  · rw [e]
    have := B.fo.w1
    show ((0 : Nat) : Int) ≤ F.w
    omega
theorem rowsV_app2 (a b : List (List Nat)) : rowsV a ++ rowsV b = rowsV (a ++ b) := by unfold rowsV; rw [List.map_append]
theorem rowsV_len2 (a : List (List Nat)) : (rowsV a).length = a.length := by unfold rowsV; rw [List.length_map]
end
end L2

set_option maxHeartbeats 4000000
namespace L2
open PySem PySem.Spec PyProof.Rows Tl
structure PgI (H0 H : Hp) (ps rs : List Addr) (f : Int) (ws : Nat → List (List Nat)) : Prop where
  len : ps.length = rs.length
  tup : ∀ (i : Nat) p r, ps[i]? = some p → rs[i]? = some r → H p = some (.tup [.int (f + (i : Int)), .ref r])
  at' : ∀ (i : Nat) r, rs[i]? = some r → H r = some (.lst (rowsV (ws i)))
  nd : ∀ (i j : Nat) r, rs[i]? = some r → rs[j]? = some r → i = j
  fr : ∀ r ∈ rs, H0 r = none
structure PgD (H0 H : Hp) (pa : Addr) (ps rs : List Addr) (f : Int) (ws : Nat → List (List Nat)) : Prop extends PgI H0 H ps rs f ws where
  top : H pa = some (.lst (ps.map V.ref))
  ne : pa ∉ rs
section
variable {H0 H H' : Hp} {pa a : Addr} {ps rs : List Addr} {f : Int} {ws ws' : Nat → List (List Nat)}
theorem PgI.nil : PgI H0 H [] [] f ws := ⟨rfl, fun i p r e => by simp at e, fun i r e => by simp at e, fun i j r e => by simp at e, fun r h => by cases h⟩
theorem PgI.same (S : PgI H0 H ps rs f ws) (s : Same H H') : PgI H0 H' ps rs f ws := ⟨S.len, fun i p r e1 e2 => s _ _ (S.tup i p r e1 e2), fun i r e => s _ _ (S.at' i r e), S.nd, S.fr⟩
theorem PgD.same (S : PgD H0 H pa ps rs f ws) (s : Same H H') : PgD H0 H' pa ps rs f ws := ⟨S.toPgI.same s, s _ _ S.top, S.ne⟩
theorem snoc_at {α : Type} {l : List α} {x y : α} {j : Nat} (h : (l ++ [x])[j]? = some y) : l[j]? = some y ∧ j < l.length ∨ y = x ∧ j = l.length := by
  by_cases c : j < l.length
  · rw [List.getElem?_append_left c] at h
    exact .inl ⟨h, c⟩
  · rw [List.getElem?_append_right (by omega)] at h
    cases hc : j - l.length with
    | zero => rw [hc] at h; exact .inr ⟨(Option.some.inj h).symm, by omega⟩
    | succ n => rw [hc] at h; simp at h
theorem PgI.snoc {p r : Addr} (S : PgI H0 H ps rs f ws) (s : Same H H') (hp : H' p = some (.tup [.int (f + (ps.length : Int)), .ref r])) (hr : H' r = some (.lst (rowsV (ws ps.length)))) (n1 : H r = none) (n0 : H0 r = none) : PgI H0 H' (ps ++ [p]) (rs ++ [r]) f ws := by
  have l := S.len
  have nr : ∀ (i : Nat) q, rs[i]? = some q → q ≠ r := fun i q e z => by rw [z] at e; rw [S.at' i r e] at n1; cases n1
  refine ⟨by simp [l], fun i p' r' e1 e2 => ?_, fun i r' e => ?_, fun i j q e1 e2 => ?_, fun q hq => ?_⟩
  · rcases snoc_at e1 with ⟨e1, h1⟩ | ⟨rfl, h1⟩
    · rcases snoc_at e2 with ⟨e2, h2⟩ | ⟨rfl, h2⟩
      · exact s _ _ (S.tup i p' r' e1 e2)
      · omega
    · rcases snoc_at e2 with ⟨e2, h2⟩ | ⟨rfl, h2⟩
      · omega
      · rw [h1]; exact hp
  · rcases snoc_at e with ⟨e, h1⟩ | ⟨rfl, h1⟩
    · exact s _ _ (S.at' i r' e)
    · rw [h1, ← l]; exact hr
  · rcases snoc_at e1 with ⟨k1, h1⟩ | ⟨z1, h1⟩
    · rcases snoc_at e2 with ⟨k2, h2⟩ | ⟨z2, h2⟩
      · exact S.nd i j q k1 k2
      · exact absurd z2 (nr i _ k1)
    · rcases snoc_at e2 with ⟨k2, h2⟩ | ⟨_, h2⟩
      · exact absurd z1 (nr j _ k2)
      · omega
  · rcases List.mem_append.mp hq with h | h
    · exact S.fr q h
    · rw [List.mem_singleton.mp h]; exact n0
theorem PgD.put {o : HO} {l : List V} (S : PgD H0 H pa ps rs f ws) (hl : H a = some (.lst l)) (n1 : a ≠ pa) (n2 : a ∉ rs) : PgD H0 (upd H a o) pa ps rs f ws := by
  refine ⟨⟨S.len, fun i p r e1 e2 => ?_, fun i r e => ?_, S.nd, S.fr⟩, by rw [upd_ne n1.symm]; exact S.top, S.ne⟩
  · have z := S.tup i p r e1 e2
    rw [upd_ne (fun e => by rw [e, hl] at z; cases z)]
    exact z
  · rw [upd_ne (fun e => n2 (by rw [← e]; exact List.mem_of_getElem? (by assumption)))]
    exact S.at' i r e
theorem PgD.set {r : Addr} {j : Nat} {l : List (List Nat)} (S : PgD H0 H pa ps rs f ws) (hr : rs[j]? = some r) (e1 : ws' j = l) (e2 : ∀ i, i ≠ j → ws' i = ws i) : PgD H0 (upd H r (.lst (rowsV l))) pa ps rs f ws' := by
  have hl := S.at' j r hr
  refine ⟨⟨S.len, fun i p q h1 h2 => ?_, fun i q h => ?_, S.nd, S.fr⟩, ?_, S.ne⟩
  · have z := S.tup i p q h1 h2
    rw [upd_ne (fun e => by rw [e, hl] at z; cases z)]
    exact z
  · by_cases c : i = j
    · subst c
      have : q = r := Option.some.inj (h.symm.trans hr)
      subst this
      rw [upd_same, e1]
    · rw [upd_ne (fun z => c (S.nd i j r (by rw [← z]; exact h) hr)), e2 i c]
      exact S.at' i q h
  · rw [upd_ne (fun e => S.ne (by rw [e]; exact List.mem_of_getElem? hr))]
    exact S.top
theorem PgD.congr (S : PgD H0 H pa ps rs f ws) (e : ∀ i, i < rs.length → ws' i = ws i) : PgD H0 H pa ps rs f ws' :=
  ⟨⟨S.len, S.tup, fun i r h => by rw [e i (List.getElem?_eq_some_iff.mp h).1]; exact S.at' i r h, S.nd, S.fr⟩, S.top, S.ne⟩
theorem PgD.get (S : PgD H0 H pa ps rs f ws) {i : Nat} (hi : i < ps.length) : ∃ p r, rs[i]? = some r ∧ ps[i]? = some p ∧ atI (ps.map V.ref) (i : Int) = some (V.ref p) ∧ H p = some (.tup [.int (f + (i : Int)), .ref r]) ∧ H r = some (.lst (rowsV (ws i))) := by
  have e1 : ps[i]? = some (ps[i]'hi) := List.getElem?_eq_getElem hi
  have hi2 : i < rs.length := by rw [← S.len]; exact hi
  have e2 : rs[i]? = some (rs[i]'hi2) := List.getElem?_eq_getElem hi2
  exact ⟨_, _, e2, e1, atI_nat (by rw [List.getElem?_map, e1]; rfl), S.tup i _ _ e1 e2, S.at' i _ e2⟩
theorem PgD.pgs {K : PySem.W.Frag} {F : Frm} {ds : List Wd} {xs : List (Int × Int)} (S : PgD H0 H pa ps rs F.f (fun i => pgR F ds xs (i : Int))) : PgsA K H pa F ds xs ps.length :=
  ⟨ps, rs, rfl, S.len.symm, SqL.of S.top, fun i p r e1 e2 => ⟨SqT.of (S.tup i p r e1 e2), SqL.of (S.at' i r e2)⟩⟩
theorem flat_dq {K : PySem.W.Frag} {x y : V} {n : Nat} (f1 : flatV x = true) (f2 : flatV y = true) (e : eqV x y = true) : Dq K H n x y := by
  cases n with
  | zero => exact .inl ⟨f1, f2, e⟩
  | succ n => exact .inl (.inl ⟨f1, f2, e⟩)
theorem pgd_dq {K : PySem.W.Frag} {G0 : Hp} {pb : Addr} {qs ss : List Addr} {vs : Nat → List (List Nat)} (S : PgI H0 H ps rs f ws) (T : PgI G0 H qs ss f vs) {i : Nat} {p q : Addr} (e1 : ps[i]? = some p) (e2 : qs[i]? = some q) (e : ws i = vs i) : Dq K H 2 (.ref p) (.ref q) := by
  have h1 : i < rs.length := by rw [← S.len]; exact (List.getElem?_eq_some_iff.mp e1).1
  have h2 : i < ss.length := by rw [← T.len]; exact (List.getElem?_eq_some_iff.mp e2).1
  have r1 : rs[i]? = some rs[i] := List.getElem?_eq_getElem h1
  have r2 : ss[i]? = some ss[i] := List.getElem?_eq_getElem h2
  refine .inr ⟨p, q, _, _, rfl, rfl, .inr ⟨SqT.of (S.tup i p _ e1 r1), SqT.of (T.tup i q _ e2 r2)⟩, rfl, fun j x y x1 x2 => ?_⟩
  match j, x1, x2 with
  | 0, x1, x2 => cases x1; cases x2; exact flat_dq rfl rfl (eqV_refl rfl)
  | 1, x1, x2 =>
    cases x1; cases x2
    refine .inr ⟨_, _, _, _, rfl, rfl, .inl ⟨SqL.of (S.at' i _ r1), SqL.of (T.at' i _ r2)⟩, by rw [e], fun k x y x1 x2 => ?_⟩
    rw [e, x2] at x1
    cases x1
    have : flatV x = true := by
      obtain ⟨t, _, rfl⟩ := List.mem_map.mp (List.mem_of_getElem? x2)
      rfl
    exact flat_dq this this (eqV_refl this)
  | j + 2, x1, _ => exact absurd x1 (by simp)
theorem LsF.set {pr q : Addr} {qs : List Addr} {j : Nat} {l : List (List Nat)} (S : LsF H0 H pr qs ws) (hq : qs[j]? = some q) (e1 : ws' j = l) (e2 : ∀ i, i ≠ j → ws' i = ws i) : LsF H0 (upd H q (.lst (rowsV l))) pr qs ws' := by
  refine ⟨?_, S.nd, S.ne, fun i q' h => ?_, S.fr⟩
  · rw [upd_ne (fun e => S.ne (by rw [e]; exact List.mem_of_getElem? hq))]
    exact S.top
  · by_cases e : i = j
    · subst e
      have e3 : q' = q := Option.some.inj (h.symm.trans hq)
      subst e3
      rw [upd_same, e1]
    · rw [upd_ne (fun z => e (S.nd i j q (by rw [← z]; exact h) hq)), e2 i e]
      exact S.at' i q' h
end
def bodyN (F : Frm) (ds : List Wd) (xs : List (Int × Int)) (p : Int) (n : Nat) : List (List Nat) := (List.range F.h.toNat).map fun (r : Nat) => joinL [32] (rowW F ds xs p (r : Int) n)
section
variable {F : Frm} {ds : List Wd} {xs : List (Int × Int)}
theorem bodyN_len (p : Int) (n : Nat) : (bodyN F ds xs p n).length = F.h.toNat := by unfold bodyN; simp
theorem bodyN_zero (p : Int) : bodyN F ds xs p 0 = List.replicate F.h.toNat [] := by
  unfold bodyN
  rw [List.eq_replicate_iff]
  refine ⟨by simp, fun b hb => ?_⟩
  obtain ⟨r, _, rfl⟩ := List.mem_map.mp hb
  rfl
theorem bodyN_at {p : Int} {n r : Nat} (h : r < F.h.toNat) : (bodyN F ds xs p n)[r]? = some (joinL [32] (rowW F ds xs p (r : Int) n)) := by
  unfold bodyN
  rw [List.getElem?_map, List.getElem?_range h]
  rfl
theorem bodyN_ne {p : Int} {n : Nat} (h : (xAt xs n).1 ≠ p) : bodyN F ds xs p (n + 1) = bodyN F ds xs p n := by
  unfold bodyN
  refine List.map_congr_left fun r _ => ?_
  show joinL [32] (rowW F ds xs p (r : Int) n ++ (if xAt xs n = (p, (r : Int)) then _ else [])) = _
  rw [if_neg (fun z => h (by rw [z])), List.append_nil]
theorem bodyN_set {p : Int} {n r : Nat} {t : List Nat} (h : r < F.h.toNat) (e : xAt xs n = (p, (r : Int))) (et : joinL [32] (rowW F ds xs p (r : Int) n ++ [saidL F.h F.f xs (dAt ds n).say]) = t) : bodyN F ds xs p (n + 1) = (bodyN F ds xs p n).set r t := by
  refine List.ext_getElem? fun i => ?_
  by_cases c : i < F.h.toNat
  · rw [bodyN_at c, List.getElem?_set]
    by_cases c2 : r = i
    · subst c2
      rw [if_pos rfl, if_pos (by rw [bodyN_len]; exact h)]
      show some (joinL [32] (rowW F ds xs p (r : Int) n ++ (if xAt xs n = (p, (r : Int)) then _ else []))) = _
      rw [if_pos e, et]
    · rw [if_neg c2, bodyN_at c]
      show some (joinL [32] (rowW F ds xs p (i : Int) n ++ (if xAt xs n = (p, (i : Int)) then _ else []))) = _
      rw [if_neg (fun z => c2 (by rw [e] at z; have := congrArg Prod.snd z; simp only at this; omega)), List.append_nil]
  · rw [List.getElem?_eq_none (by rw [bodyN_len]; omega), List.getElem?_eq_none (by rw [List.length_set, bodyN_len]; omega)]
def layN (h : Nat) (body feet : List (List Nat)) (j : Nat) : List (List Nat) := body.take (h - feet.length) ++ (feet.take j ++ body.drop (h - feet.length + j))
theorem layN_set {h j : Nat} {body feet : List (List Nat)} {t : List Nat} (hb : body.length = h) (hf : feet.length ≤ h) (e : feet[j]? = some t) : (layN h body feet j).set (h - feet.length + j) t = layN h body feet (j + 1) := by
  have hj := (List.getElem?_eq_some_iff.mp e).1
  unfold layN
  have l1 : (body.take (h - feet.length)).length = h - feet.length := by rw [List.length_take]; omega
  have l2 : (feet.take j).length = j := by rw [List.length_take]; omega
  rw [List.set_append_right _ _ (by omega), l1, List.set_append_right _ _ (by omega), l2, show h - feet.length + j - (h - feet.length) - j = 0 by omega, List.drop_eq_getElem_cons (show h - feet.length + j < body.length by omega), List.set_cons_zero, take_snoc e, List.append_assoc]
  rfl
theorem layN_zero {h : Nat} {body feet : List (List Nat)} : layN h body feet 0 = body := by
  unfold layN
  rw [List.take_zero, List.nil_append, Nat.add_zero, List.take_append_drop]
theorem layN_len {h j : Nat} {body feet : List (List Nat)} (hb : body.length = h) (hf : feet.length ≤ h) (hj : j ≤ feet.length) : (layN h body feet j).length = h := by
  unfold layN
  rw [List.length_append, List.length_append, List.length_take, List.length_take, List.length_drop]
  omega
theorem layN_pgR {p : Int} (hf : (feetW F ds xs p ds.length).length ≤ F.h.toNat) : layN F.h.toNat (bodyN F ds xs p ds.length) (feetW F ds xs p ds.length) (feetW F ds xs p ds.length).length = pgR F ds xs p := by
  unfold layN pgR
  rw [List.take_length, List.drop_of_length_le (by rw [bodyN_len]; omega), List.append_nil]
  rfl
theorem rows_rep (n : Nat) : (List.replicate n [V.str (PySem.Str.ofString "")]).flatten = rowsV (List.replicate n []) := by
  unfold rowsV
  rw [show (PySem.Str.ofString "") = tx [] by decide +kernel]
  induction n with
  | zero => rfl
  | succ n ih => rw [List.replicate_succ, List.flatten_cons, ih, List.replicate_succ]; rfl
theorem rows_set (l : List (List Nat)) (i : Nat) (t : List Nat) : (rowsV l).set i (V.str (tx t)) = rowsV (l.set i t) := by
  unfold rowsV
  rw [List.map_set]
theorem join_ne {g : List (List Nat)} (h : g ≠ []) (h1 : ∀ t ∈ g, 1 ≤ t.length) : joinL [32] g ≠ [] := by
  match g, h, h1 with
  | [a], _, h1 =>
    intro z
    have := h1 a List.mem_cons_self
    have : a = [] := z
    subst this
    simp at *
  | a :: b :: r, _, h1 =>
    intro z
    have e : joinL [32] (a :: b :: r) = a ++ [32] ++ joinL [32] (b :: r) := rfl
    rw [e] at z
    simp at z
end
end L2

namespace K65
open PySem PySem.Spec L2 Tl

noncomputable abbrev s_l_cell_at : Stmt := top 9
noncomputable abbrev s_l_copied : Stmt := top 26
noncomputable abbrev s_l_first : Stmt := top 11
noncomputable abbrev s_l_said_by : Stmt := top 13
noncomputable abbrev s_l_high_by : Stmt := top 14
noncomputable abbrev s_l_sizes : Stmt := top 21
noncomputable abbrev s_l_fitting : Stmt := top 22
noncomputable abbrev s_l_mixed : Stmt := top 10
noncomputable abbrev s_l_numbers : Stmt := top 17
noncomputable abbrev s_l_signs : Stmt := top 12
noncomputable abbrev s_l_some : Stmt := top 19
noncomputable abbrev s_l_parts : Stmt := top 20
noncomputable abbrev s_l_rising : Stmt := top 18
noncomputable abbrev s_l_behind_by : Stmt := top 15
noncomputable abbrev s_l_sooner : Stmt := top 16
noncomputable abbrev s_l_let : Stmt := top 23
noncomputable abbrev s_l_words : Stmt := top 24
noncomputable abbrev s_l_drawn : Stmt := top 25
noncomputable abbrev s_l_filled_by : Stmt := top 27
noncomputable abbrev s_l_due : Stmt := top 29
noncomputable abbrev s_l_is_pages : Stmt := top 28
noncomputable abbrev s_figures_of : Stmt := top 1
noncomputable abbrev s_said : Stmt := top 3
noncomputable abbrev s_foot_rows : Stmt := top 4
noncomputable abbrev s_page_rows : Stmt := top 7
noncomputable abbrev s_pages_of : Stmt := top 6
noncomputable abbrev s_law : Stmt := top 30
set_option genInjectivity false in
structure Adr where
  f_l_cell_at : Addr
  fd_l_cell_at : FuncData
  f_l_copied : Addr
  fd_l_copied : FuncData
  f_l_first : Addr
  fd_l_first : FuncData
  f_l_said_by : Addr
  fd_l_said_by : FuncData
  f_l_high_by : Addr
  fd_l_high_by : FuncData
  f_l_sizes : Addr
  fd_l_sizes : FuncData
  f_l_fitting : Addr
  fd_l_fitting : FuncData
  f_l_mixed : Addr
  fd_l_mixed : FuncData
  f_l_numbers : Addr
  fd_l_numbers : FuncData
  f_l_signs : Addr
  fd_l_signs : FuncData
  f_l_some : Addr
  fd_l_some : FuncData
  f_l_parts : Addr
  fd_l_parts : FuncData
  f_l_rising : Addr
  fd_l_rising : FuncData
  f_l_behind_by : Addr
  fd_l_behind_by : FuncData
  f_l_sooner : Addr
  fd_l_sooner : FuncData
  f_l_let : Addr
  fd_l_let : FuncData
  f_l_words : Addr
  fd_l_words : FuncData
  f_l_drawn : Addr
  fd_l_drawn : FuncData
  f_l_filled_by : Addr
  fd_l_filled_by : FuncData
  f_l_due : Addr
  fd_l_due : FuncData
  f_l_is_pages : Addr
  fd_l_is_pages : FuncData
  f_figures_of : Addr
  fd_figures_of : FuncData
  f_said : Addr
  fd_said : FuncData
  f_foot_rows : Addr
  fd_foot_rows : FuncData
  f_page_rows : Addr
  fd_page_rows : FuncData
  f_pages_of : Addr
  fd_pages_of : FuncData
  f_law : Addr
  fd_law : FuncData
structure Txt (P : Program) (w : World) (K : PySem.W.Frag) (mg : Str → Option Value) (a : Adr) : Prop where
  d_l_cell_at : DefOk K mg "_law_cell_at" s_l_cell_at ["script", "k"] a.f_l_cell_at a.fd_l_cell_at
  d_l_copied : DefOk K mg "_law_copied" s_l_copied ["words"] a.f_l_copied a.fd_l_copied
  d_l_first : DefOk K mg "_law_first" s_l_first ["cell"] a.f_l_first a.fd_l_first
  d_l_said_by : DefOk K mg "_law_said_by" s_l_said_by ["form", "saying", "places"] a.f_l_said_by a.fd_l_said_by
  d_l_high_by : DefOk K mg "_law_high_by" s_l_high_by ["form", "foot", "places"] a.f_l_high_by a.fd_l_high_by
  d_l_sizes : DefOk K mg "_law_sizes" s_l_sizes ["form", "parts", "places"] a.f_l_sizes a.fd_l_sizes
  d_l_fitting : DefOk K mg "_law_fitting" s_l_fitting ["parts", "layings", "base", "first", "number"] a.f_l_fitting a.fd_l_fitting
  d_l_mixed : DefOk K mg "_law_mixed" s_l_mixed ["cell"] a.f_l_mixed a.fd_l_mixed
  d_l_numbers : DefOk K mg "_law_numbers" s_l_numbers ["script", "most"] a.f_l_numbers a.fd_l_numbers
  d_l_signs : DefOk K mg "_law_signs" s_l_signs ["number", "size"] a.f_l_signs a.fd_l_signs
  d_l_some : DefOk K mg "_law_some" s_l_some ["number", "many", "big"] a.f_l_some a.fd_l_some
  d_l_parts : DefOk K mg "_law_parts" s_l_parts ["numbers", "big"] a.f_l_parts a.fd_l_parts
  d_l_rising : DefOk K mg "_law_rising" s_l_rising ["numbers", "base", "room"] a.f_l_rising a.fd_l_rising
  d_l_behind_by : DefOk K mg "_law_behind_by" s_l_behind_by ["form", "place", "lead"] a.f_l_behind_by a.fd_l_behind_by
  d_l_sooner : DefOk K mg "_law_sooner" s_l_sooner ["one", "other"] a.f_l_sooner a.fd_l_sooner
  d_l_let : DefOk K mg "_law_let" s_l_let ["form", "layings", "k", "lead"] a.f_l_let a.fd_l_let
  d_l_words : DefOk K mg "_law_words" s_l_words ["form", "parts", "layings", "numbers"] a.f_l_words a.fd_l_words
  d_l_drawn : DefOk K mg "_law_drawn" s_l_drawn ["script", "most", "many"] a.f_l_drawn a.fd_l_drawn
  d_l_filled_by : DefOk K mg "_law_filled_by" s_l_filled_by ["form", "foot", "places"] a.f_l_filled_by a.fd_l_filled_by
  d_l_due : DefOk K mg "_law_due" s_l_due ["book", "places"] a.f_l_due a.fd_l_due
  d_l_is_pages : DefOk K mg "_law_is_pages" s_l_is_pages ["found", "many", "high"] a.f_l_is_pages a.fd_l_is_pages
  d_figures_of : DefOk K mg "figures_of" s_figures_of ["number"] a.f_figures_of a.fd_figures_of
  d_said : DefOk K mg "said" s_said ["form", "saying", "places"] a.f_said a.fd_said
  d_foot_rows : DefOk K mg "foot_rows" s_foot_rows ["form", "foot", "places"] a.f_foot_rows a.fd_foot_rows
  d_page_rows : DefOk K mg "page_rows" s_page_rows ["book", "places", "page"] a.f_page_rows a.fd_page_rows
  d_pages_of : DefOk K mg "pages_of" s_pages_of ["book", "places"] a.f_pages_of a.fd_pages_of
  d_law : DefOk K mg "law" s_law ["script"] a.f_law a.fd_law
  z_all : mg "all" = none
  z_bool : mg "bool" = none
  z_enumerate : mg "enumerate" = none
  z_int : mg "int" = none
  z_isinstance : mg "isinstance" = none
  z_len : mg "len" = none
  z_list : mg "list" = none
  z_max : mg "max" = none
  z_min : mg "min" = none
  z_range : mg "range" = none
  z_str : mg "str" = none
  z_sum : mg "sum" = none
  z_tuple : mg "tuple" = none
  z_zip : mg "zip" = none
section
variable {P : Program} {w : World} {K : PySem.W.Frag} {mg : Str → Option Value} {base : Heap} {a : Adr}

def sp_l_cell_at (K : PySem.W.Frag) : Sp := fun vs H Q _ => ∃ (b : Addr) (ns : List Int) (k : Nat), vs = [.ref b, .int (k : Int)] ∧ SqL K H b (ns.map V.int) ∧ Q (.int (ns.getD k 0)) H
theorem sc_l_cell_at : FnScope ["script", "k"] ["script", "k"] (defScope s_l_cell_at) := ⟨rfl, rfl, rfl, by decide +kernel, rfl, by decide +kernel, by decide +kernel⟩
theorem ok_l_cell_at (T : Txt P w K mg a) : FnOk P w K mg base CX0 1 a.f_l_cell_at a.fd_l_cell_at ["script", "k"] (sp_l_cell_at K) := by
  have z_len := T.z_len
  refine T.d_l_cell_at.fn.ok sc_l_cell_at (fun vs H Q E h => ?_) (fun cdv A outer s H vs Q E hr h => ?_)
  · obtain ⟨b, ns, k, rfl, _⟩ := h
    rfl
  obtain ⟨b, ns, k, rfl, hS, q⟩ := h
  have hu := Nat.lt_of_succ_lt (hu_of hr)
  refine ⟨_, (pss_cons (ps_if (pt_cmpR op_lt (pv 1) (pe_callB call_len_seq rfl z_len PySem.boot_len (pa_cons (pv 0) pa_nil)) (nomark _)) (pss_one (ps_ret (pe_ix ix_list (pv 0) (pv 1) (fun _ _ => rfl)))) pss_nil)
      (pss_one (ps_ret pe_int))), ?_⟩
  refine ⟨_, rfl, _, rfl, _, _, rfl, .inl hS, _, _, rfl, rfl, _, rfl, ?_⟩
  refine ite2 (fun c => ?_) (fun c => ?_)
  · have hk : k < ns.length := by
      have := of_decide_eq_true c
      rw [List.length_map] at this
      omega
    refine ⟨_, rfl, _, rfl, _, _, _, _, rfl, rfl, hS, atI_nat (j := k) (v := .int (ns.getD k 0)) ?_, q⟩
    rw [List.getElem?_map, List.getElem?_eq_getElem hk, List.getD_eq_getElem?_getD, List.getElem?_eq_getElem hk]
    rfl
  · have hk : ns.length ≤ k := by
      refine Nat.le_of_not_lt fun hk => c (decide_eq_true ?_)
      rw [List.length_map]
      omega
    have e : ns.getD k 0 = 0 := by rw [List.getD_eq_getElem?_getD, List.getElem?_eq_none hk]; rfl
    rw [e] at q
    exact q
def sp_l_copied (K : PySem.W.Frag) : Sp := fun vs H Q _ => ∃ (wa : Addr) (was : List Addr) (ds : List Wd), vs = [.ref wa] ∧ SqL K H wa (was.map V.ref) ∧ WdsA K H was ds ∧ ds.length ≤ 400 ∧ ∀ wa' (was' : List Addr) H', Same H H' → SqL K H' wa' (was'.map V.ref) → WdsA K H' was' ds → CpA K H' was was' → Q (.ref wa') H'
theorem sc_l_copied : FnScope ["words"] ["words"] (defScope s_l_copied) := ⟨rfl, rfl, rfl, by decide +kernel, rfl, by decide +kernel, by decide +kernel⟩
theorem ok_l_copied (T : Txt P w K mg a) : FnOk P w K mg base CX0 1 a.f_l_copied a.fd_l_copied ["words"] (sp_l_copied K) := by
  have z_list := T.z_list
  refine T.d_l_copied.fn.ok sc_l_copied (fun vs H Q E h => ?_) (fun cdv A outer s H vs Q E hr h => ?_)
  · obtain ⟨wa, was, ds, rfl, _⟩ := h
    rfl
  obtain ⟨wa, was, ds, rfl, hw, hws, d60, q⟩ := h
  have hu := Nat.lt_of_succ_lt (hu_of hr)
  refine ⟨_, (pss_one (ps_ret (pe_lc rfl (lcok (caps := []) (js := []) (cap := trivial)) (pi_list (pv 0)) (fun _ _ _ _ => pts_nil) (fun _ _ _ _ => (pe_tup (pa_cons (pe_ix (r := rIxT K) ix_tup (pv 0) pe_int (fun _ _ => rfl)) (pa_cons (pe_ix (r := rIxT K) ix_tup (pv 0) pe_int (fun _ _ => rfl)) (pa_cons (pe_ix (r := rIxT K) ix_tup (pv 0) pe_int (fun _ _ => rfl)) (pa_cons (pe_callTy (r := rList K) call_list_of rfl z_list PyProof.Rows.boot_list (pa_cons (pe_ix (r := rIxT K) ix_tup (pv 0) pe_int (fun _ _ => rfl)) pa_nil)) pa_nil))))))))), ?_⟩
  refine ⟨_, rfl, _, rfl, ⟨_, hw⟩, lc_list (K := K) (a := wa) (xs := was.map V.ref) (fun i ys H2 => Same H H2 ∧ ∃ was' : List Addr, was'.length = i ∧ ys = was'.map V.ref ∧ WdsA K H2 was' (ds.take i) ∧ CpA K H2 (was.take i) was') ⟨Same.refl _, [], rfl, rfl, WdsA.nil, ⟨rfl, fun i a b e => by simp at e⟩⟩ (fun i ys H2 _ h2 => h2.1.seq hw) ?_ ?_ ?_⟩
  · rintro i ys H2 hi ⟨_, was', hl, rfl, _, _⟩
    rw [List.length_map, hws.1] at hi
    rw [List.length_map, hl]
    exact Nat.lt_of_lt_of_le (show i < 1000 by omega) (small (Nat.le_refl _))
  · rintro i y ys H2 hi ⟨s2, was', hl, rfl, hd, hc⟩
    obtain ⟨b, d, rfl, eb, ed⟩ := wd_at hws.1 hi
    obtain ⟨sa, fo, bs, ht, g2, g3, g4⟩ := hws.2 i b d eb ed
    refine yes_go ?_
    refine ⟨_, rfl, _, _, _, _, rfl, rfl, s2.tup ht, rfl, _, rfl, _, _, _, _, rfl, rfl, s2.tup ht, rfl, _, rfl, _, _, _, _, rfl, rfl, s2.tup ht, rfl, _, rfl, _, _, _, _, rfl, rfl, s2.tup ht, rfl, _, _, rfl, .inl (s2.seq g3), fun p1 hp1 => ?_⟩
    have s3 := same_new hp1 (.lst (bs.map V.ref))
    refine ⟨le4, fun p2 hp2 => ?_⟩
    have s4 := same_new hp2 (.tup [V.int d.lead, V.bl d.kept, V.ref sa, V.ref p1])
    have t := s2.trans (s3.trans s4)
    have ht' : SqT K (upd (upd H2 p1 (.lst (bs.map V.ref))) p2 (.tup [V.int d.lead, V.bl d.kept, V.ref sa, V.ref p1])) p2 [V.int d.lead, V.bl d.kept, V.ref sa, V.ref p1] := SqT.of upd_same
    have hp1' : SqL K (upd (upd H2 p1 (.lst (bs.map V.ref))) p2 (.tup [V.int d.lead, V.bl d.kept, V.ref sa, V.ref p1])) p1 (bs.map V.ref) := s4.seq (SqL.of upd_same)
    refine ⟨t, was' ++ [p2], by simp [hl], refs_snoc _ _, ?_, ?_⟩
    · rw [take_snoc ed]
      exact (hd.same (s3.trans s4)).snoc ⟨sa, p1, bs, ht', t.tup g2, hp1', g4.same t⟩
    · rw [take_snoc eb]
      exact (hc.same (s3.trans s4)).snoc ⟨d.lead, d.kept, sa, fo, p1, bs, t.tup ht, ht', t.seq g3, hp1'⟩
  · rintro ys H2 ⟨s2, was', hl, rfl, hd, hc⟩ p hp
    have e : (was.map V.ref).length = ds.length := by rw [List.length_map, hws.1]
    rw [e] at hl hd hc
    rw [List.take_length] at hd
    rw [← hws.1, List.take_length] at hc
    have s3 := same_new hp (.lst (was'.map V.ref))
    exact q p was' _ (s2.trans s3) (SqL.of upd_same) (hd.same s3) (hc.same s3)
theorem c9 : (PySem.Str.ofString "9") = tx [57] := by decide +kernel
theorem c0 : (PySem.Str.ofString "0") = tx [48] := by decide +kernel
theorem p60 : (10 : Int) ^ (60 : Int).toNat = 10 ^ 60 := by decide +kernel
theorem nines_in (k : Nat) (h : k ≤ 60) : valF (48 :: repL [57] k) < 10 ^ 60 := by
  have e : valF (48 :: repL [57] k) = valF (repL [57] k) := rfl
  rw [e]
  have f : ∀ c ∈ repL [57] k, 48 ≤ c ∧ c ≤ 57 := fun c hc => by rw [rep_mem _ _ _ hc]; omega
  refine Nat.lt_of_lt_of_le (val_lt _ _ rfl f) (Nat.pow_le_pow_right (by (first | decide | (show (0 : Int) < _; first | decide | omega))) ?_)
  rw [repL_len]
  simp
  omega
def sp_l_first : Sp := fun vs H Q _ => ∃ c : Int, vs = [.int c] ∧ ∀ n : Int, 0 ≤ n → n ≤ 10 ^ 60 → Q (.int n) H
theorem sc_l_first : FnScope ["cell", "kind", "rest"] ["cell"] (defScope s_l_first) := ⟨rfl, rfl, rfl, by decide +kernel, rfl, by decide +kernel, by decide +kernel⟩
theorem ok_l_first (T : Txt P w K mg a) : FnOk P w K mg base CX0 1 a.f_l_first a.fd_l_first ["cell"] sp_l_first := by
  have z_int := T.z_int
  have z_max := T.z_max
  refine T.d_l_first.fn.ok sc_l_first (fun vs H Q E h => ?_) (fun cdv A outer s H vs Q E hr h => ?_)
  · obtain ⟨c, rfl, _⟩ := h
    rfl
  obtain ⟨c, rfl, q⟩ := h
  have hu := Nat.lt_of_succ_lt (hu_of hr)
  refine ⟨_, (pss_cons (ps_set (i := 1) sc_l_first.nd rfl (Or.inl rfl) (pe_op op_mod (pv 0) pe_int))
      (pss_cons (ps_set (i := 2) sc_l_first.nd rfl (Or.inl rfl) (pe_op op_fdiv (pv 0) pe_int))
      (pss_cons (ps_if (pt_cmpR op_eq (pv 1) pe_int (nomark _)) (pss_one (ps_ret (pe_op op_mod (pv 2) pe_int))) pss_nil)
      (pss_cons (ps_if (pt_cmpR op_eq (pv 1) pe_int (nomark _)) (pss_one (ps_ret (pe_callB (call_max2 rfl) rfl z_max PyProof.Rows.boot_max (pa_cons pe_int (pa_cons (pe_op op_sub (pe_callTy call_int_text rfl z_int PyProof.Rows.boot_int (pa_cons (pe_op op_add_str pe_str (pe_op op_mul_str pe_str (pe_op op_mod (pv 2) pe_int))) pa_nil)) (pe_op op_mod (pe_op op_fdiv (pv 2) pe_int) pe_int)) pa_nil))))) pss_nil)
      (pss_cons (ps_if (pt_cmpR op_eq (pv 1) pe_int (nomark _)) (pss_one (ps_ret (pe_op op_mod (pv 2) (pe_op op_add (pe_op op_pow pe_int pe_int) pe_int)))) pss_nil)
      (pss_one (ps_ret (pe_op op_add pe_int (pe_op op_mod (pv 2) pe_int))))))))), ?_⟩
  refine ⟨_, rfl, _, _, rfl, rfl, (by (first | decide | (show (0 : Int) < _; first | decide | omega))), ?_⟩
  refine ⟨_, rfl, _, _, rfl, rfl, ⟨by decide, by decide⟩, ?_⟩
  refine ⟨_, rfl, rfl, _, rfl, ?_⟩
  refine ite2 (fun _ => ?_) (fun _ => ?_)
  · refine ⟨_, rfl, _, _, rfl, rfl, (by (first | decide | (show (0 : Int) < _; first | decide | omega))), q _ (Int.emod_nonneg _ (by (first | decide | (show (0 : Int) < _; first | decide | omega)))) ?_⟩
    have := Int.emod_lt_of_pos (c / 4) (show (0 : Int) < 3 by decide)
    exact Int.le_trans (Int.le_of_lt this) (by (first | decide | (show (0 : Int) < _; first | decide | omega)))
  refine ⟨_, rfl, rfl, _, rfl, ?_⟩
  refine ite2 (fun _ => ?_) (fun _ => ?_)
  · have b1 := Int.emod_nonneg (c / 4) (show (61 : Int) ≠ 0 by decide)
    have b2 := Int.emod_lt_of_pos (c / 4) (show (0 : Int) < 61 by decide)
    have b3 := Int.emod_nonneg (c / 4 / 61) (show (13 : Int) ≠ 0 by decide)
    obtain ⟨k, hk⟩ := Int.eq_ofNat_of_zero_le b1
    have hk2 : k ≤ 60 := by omega
    refine ⟨_, rfl, _, _, rfl, rfl, (by (first | decide | (show (0 : Int) < _; first | decide | omega))), _, _, rfl, rfl, (by rw [hk, c9]; exact mulOk_small (by omega) (by (first | decide | (show (0 : Int) < _; first | decide | omega)))), _, _, rfl, rfl, ?_, ?_⟩
    · rw [hk, c9, c0, mul_tx, tx_len, tx_len, repL_len]
      exact small (by simp; omega)
    have ei : PySem.intText? (PySem.Str.ofString "0" ++ Txt.mul (PySem.Str.ofString "9") (c / 4 % 61)) = some ((valF (48 :: repL [57] k) : Nat) : Int) := by
      rw [hk, c9, c0, mul_tx, tx_app]
      refine read_digits (l := 48 :: repL [57] k) (fun d hd => ?_) (by simp) ?_
      · rcases List.mem_cons.mp hd with rfl | hd
        · omega
        · rw [rep_mem _ _ _ hd]; omega
      · rw [List.length_cons, repL_len]
        simp
        omega
    refine ⟨_, _, rfl, ei, ?_, _, rfl, _, _, rfl, rfl, ⟨by decide, by decide⟩, _, _, rfl, rfl, (by (first | decide | (show (0 : Int) < _; first | decide | omega))), _, _, rfl, rfl, _, _, rfl, ?_⟩
    · rw [hk, c9, c0, mul_tx, tx_app, tx_len, List.length_append, repL_len]
      simp
      omega
    have nb := nines_in k hk2
    have nb2 : ((valF (48 :: repL [57] k) : Nat) : Int) ≤ 10 ^ 60 := by
      have : ((valF (48 :: repL [57] k) : Nat) : Int) ≤ ((10 ^ 60 : Nat) : Int) := Int.ofNat_le.mpr (Nat.le_of_lt nb)
      exact Int.le_trans this (by decide +kernel)
    generalize ((valF (48 :: repL [57] k) : Nat) : Int) = z at nb2 ⊢
    refine q _ ?_ ?_
    · split <;> omega
    · split <;> omega
  refine ⟨_, rfl, rfl, _, rfl, ?_⟩
  refine ite2 (fun _ => ?_) (fun _ => ?_)
  · refine ⟨_, rfl, _, _, rfl, rfl, ⟨by decide, by decide, by decide⟩, _, _, rfl, rfl, _, _, rfl, rfl, ?_, ?_⟩
    · show (0 : Int) < 10 ^ (60 : Int).toNat + 1
      rw [p60]
      decide
    · rw [p60]
      refine q _ (Int.emod_nonneg _ (by (first | decide | (show (0 : Int) < _; first | decide | omega)))) ?_
      have := Int.emod_lt_of_pos (c / 4) (show (0 : Int) < 10 ^ 60 + 1 by decide)
      omega
  · refine ⟨_, rfl, _, _, rfl, rfl, (by (first | decide | (show (0 : Int) < _; first | decide | omega))), _, _, rfl, rfl, q _ ?_ ?_⟩
    · have := Int.emod_nonneg (c / 4) (show (6 : Int) ≠ 0 by decide)
      omega
    · have := Int.emod_lt_of_pos (c / 4) (show (0 : Int) < 6 by decide)
      exact Int.le_trans (show 95 + c / 4 % 6 ≤ 101 by omega) (by (first | decide | (show (0 : Int) < _; first | decide | omega)))
def sp_l_said_by (K : PySem.W.Frag) : Sp := fun vs H Q _ => ∃ (fa sa pa : Addr) (w h f m : Int) (s : Say) (as : List Addr) (xs : List (Int × Int)), vs = [.ref fa, .ref sa, .ref pa] ∧ SqT K H fa (fm w h f m) ∧ SqT K H sa (sayV s) ∧ SqL K H pa (as.map V.ref) ∧ PlsA K H as xs ∧ FormOk w h f m ∧ SayOk xs.length s ∧ PlsOk h xs ∧ Q (.str (tx (saidL h f xs s))) H
theorem sc_l_said_by : FnScope ["form", "saying", "places", "page", "row"] ["form", "saying", "places"] (defScope s_l_said_by) := ⟨rfl, rfl, rfl, by decide +kernel, rfl, by decide +kernel, by decide +kernel⟩
theorem ok_l_said_by (T : Txt P w K mg a) : FnOk P w K mg base CX0 1 a.f_l_said_by a.fd_l_said_by ["form", "saying", "places"] (sp_l_said_by K) := by
  have z_str := T.z_str
  refine T.d_l_said_by.fn.ok sc_l_said_by (fun vs H Q E h => ?_) (fun cdv A outer s H vs Q E hr h => ?_)
  · obtain ⟨fa, sa, pa, w, h, f, m, s, as, xs, rfl, _⟩ := h
    rfl
  obtain ⟨fa, sa, pa, w, h, f, m, s, as, xs, rfl, hf, hs, hp, ha, fo, so, po, q⟩ := h
  have hu := Nat.lt_of_succ_lt (hu_of hr)
  refine ⟨_, (pss_cons (ps_if (pt_cmpR op_eq (pe_ix ix_tup (pv 1) pe_int (fun _ _ => rfl)) pe_str (nomark _)) (pss_one (ps_ret (pe_ix ix_tup (pv 1) pe_int (fun _ _ => rfl)))) pss_nil)
      (pss_cons (ps_asg (pe_ix ix_list (pv 2) (pe_ix ix_tup (pv 1) pe_int (fun _ _ => rfl)) (fun _ _ => rfl)) (pg_tup rfl (pgs_cons (pg_name (i := 3) sc_l_said_by.nd rfl (Or.inl rfl)) (pgs_cons (pg_name (i := 4) sc_l_said_by.nd rfl (Or.inl rfl)) pgs_nil))))
      (pss_cons (ps_if (pt_cmpR op_eq (pe_ix ix_tup (pv 1) pe_int (fun _ _ => rfl)) pe_str (nomark _)) (pss_one (ps_ret (pe_callTy call_str_int rfl z_str PyProof.Rows.boot_str (pa_cons (pe_op op_add (pe_ix ix_tup (pv 0) pe_int (fun _ _ => rfl)) (pv 3)) pa_nil)))) pss_nil)
      (pss_one (ps_ret (pe_callTy call_str_int rfl z_str PyProof.Rows.boot_str (pa_cons (pe_op op_add (pe_op op_add (pe_op op_mul (pv 3) (pe_ix ix_tup (pv 0) pe_int (fun _ _ => rfl))) (pv 4)) pe_int) pa_nil))))))), ?_⟩
  cases s with
  | text l =>
    refine ⟨_, rfl, _, _, _, _, rfl, rfl, hs, rfl, rfl, _, rfl, ?_⟩
    rw [decide_eq_true rfl]
    refine iteT ?_
    exact ⟨_, rfl, _, _, _, _, rfl, rfl, hs, rfl, q⟩
  | page k =>
    obtain ⟨a1, e1, h1⟩ := ha.get so
    obtain ⟨i, b⟩ := po.get so
    obtain ⟨n, en, hn⟩ := page_num fo.f1 fo.f2 i.p1 b
    refine ⟨_, rfl, _, _, _, _, rfl, rfl, hs, rfl, rfl, _, rfl, ?_⟩
    rw [ne_page]
    refine iteF ?_
    refine ⟨_, rfl, _, rfl, _, _, _, _, rfl, rfl, hs, rfl, _, _, _, _, rfl, rfl, hp, e1, _, _, rfl, h1, rfl, _, _, rfl, _, _, rfl, rfl, ?_⟩
    refine ⟨_, rfl, _, _, _, _, rfl, rfl, hs, rfl, rfl, _, rfl, ?_⟩
    rw [decide_eq_true rfl]
    refine iteT ?_
    refine ⟨_, rfl, _, _, _, _, rfl, rfl, hf, rfl, _, rfl, _, _, rfl, rfl, _, rfl, (by rw [en]; exact log_small (lt_100 hn)), ?_⟩
    simp only [saidL] at q
    rw [en] at q
    rw [en]
    exact Eq.mpr (congrArg (fun z => Q (.str z) H) (str_figs n)) q
  | row k =>
    obtain ⟨a1, e1, h1⟩ := ha.get so
    obtain ⟨i, b⟩ := po.get so
    obtain ⟨n, en, hn⟩ := row_num fo.h1 fo.h2 i.p1 b i.r1 i.r2
    refine ⟨_, rfl, _, _, _, _, rfl, rfl, hs, rfl, rfl, _, rfl, ?_⟩
    rw [ne_row]
    refine iteF ?_
    refine ⟨_, rfl, _, rfl, _, _, _, _, rfl, rfl, hs, rfl, _, _, _, _, rfl, rfl, hp, e1, _, _, rfl, h1, rfl, _, _, rfl, _, _, rfl, rfl, ?_⟩
    refine ⟨_, rfl, _, _, _, _, rfl, rfl, hs, rfl, rfl, _, rfl, ?_⟩
    rw [ne_row_page]
    refine iteF ?_
    have h1' := fo.h1
    have h2' := fo.h2
    refine ⟨_, rfl, _, rfl, _, _, _, _, rfl, rfl, hf, rfl, _, _, rfl, rfl, .inr ⟨by omega, by omega⟩, _, rfl, _, _, rfl, rfl, _, _, rfl, rfl, _, rfl, (by rw [en]; exact log_small (lt_100 hn)), ?_⟩
    simp only [saidL] at q
    rw [en] at q
    rw [en]
    exact Eq.mpr (congrArg (fun z => Q (.str z) H) (str_figs n)) q
def sp_l_high_by (K : PySem.W.Frag) : Sp := fun vs H Q _ => ∃ (fa oa pa : Addr) (w h f m : Int) (bs as : List Addr) (ss : List Say) (xs : List (Int × Int)), vs = [.ref fa, .ref oa, .ref pa] ∧ SqT K H fa (fm w h f m) ∧ SqL K H oa (bs.map V.ref) ∧ SaysA K H bs ss ∧ SqL K H pa (as.map V.ref) ∧ PlsA K H as xs ∧ FormOk w h f m ∧ (∀ s ∈ ss, SayOk xs.length s) ∧ PlsOk h xs ∧ ss.length ≤ 60 ∧ Q (.int (highN w h ((ss.map (saidL h f xs)).map fun t => (t.length : Int)))) H
theorem sc_l_high_by : FnScope ["form", "foot", "places", "rows", "used", "saying", "size"] ["form", "foot", "places"] (defScope s_l_high_by) := ⟨rfl, rfl, rfl, by decide +kernel, rfl, by decide +kernel, by decide +kernel⟩
theorem ok_l_high_by (T : Txt P w K mg a) : FnOk P w K mg base CX0 2 a.f_l_high_by a.fd_l_high_by ["form", "foot", "places"] (sp_l_high_by K) := by
  have g_l_said_by := ok_l_said_by (P := P) (w := w) (base := base) T
  have d_l_said_by := T.d_l_said_by
  have z_len := T.z_len
  have z_min := T.z_min
  refine T.d_l_high_by.fn.ok sc_l_high_by (fun vs H Q E h => ?_) (fun cdv A outer s H vs Q E hr h => ?_)
  · obtain ⟨fa, oa, pa, w, h, f, m, bs, as, ss, xs, rfl, _⟩ := h
    rfl
  obtain ⟨fa, oa, pa, w, h, f, m, bs, as, ss, xs, rfl, hf, ho, hb, hp, ha, fo, so, po, s60, q⟩ := h
  have hu := Nat.lt_of_succ_lt (hu_of hr)
  refine ⟨_, (pss_cons (ps_set (i := 3) sc_l_high_by.nd rfl (Or.inl rfl) pe_int)
      (pss_cons (ps_set (i := 4) sc_l_high_by.nd rfl (Or.inl rfl) pe_int)
      (pss_cons (ps_for PassesOwn.never rfl (pi_list (pv 1)) (pg_name (i := 5) sc_l_high_by.nd rfl (Or.inl rfl)) (pss_cons (ps_set (i := 6) sc_l_high_by.nd rfl (Or.inl rfl) (pe_callB call_len_str rfl z_len PySem.boot_len (pa_cons (pe_callD d_l_said_by g_l_said_by (hr.mono (by decide)) rfl (pa_cons (pv 0) (pa_cons (pv 5) (pa_cons (pv 2) pa_nil)))) pa_nil)))
      (pss_cons (ps_if (pt_cmpR op_gt (pv 6) (pe_ix ix_tup (pv 0) pe_int (fun _ _ => rfl)) (nomark _)) (pss_one (ps_ret (pe_ix ix_tup (pv 0) pe_int (fun _ _ => rfl)))) pss_nil)
      (pss_one (ps_if (PW.pt (pw_and (pt_cmpR op_gt (pv 3) pe_int (nomark _)) (pw_and1 (pt_cmpR op_le (pe_op op_add (pe_op op_add (pv 4) pe_int) (pv 6)) (pe_ix ix_tup (pv 0) pe_int (fun _ _ => rfl)) (nomark _))))) (pss_one (ps_set (i := 4) sc_l_high_by.nd rfl (Or.inl rfl) (pe_op op_add (pe_op op_add (pv 4) pe_int) (pv 6)))) (pss_cons (ps_set (i := 3) sc_l_high_by.nd rfl (Or.inl rfl) (pe_op op_add (pv 3) pe_int))
      (pss_one (ps_set (i := 4) sc_l_high_by.nd rfl (Or.inl rfl) (pv 6)))))))))
      (pss_one (ps_ret (pe_callB (call_min2 rfl) rfl z_min PyProof.Rows.boot_min (pa_cons (pv 3) (pa_cons (pe_ix ix_tup (pv 0) pe_int (fun _ _ => rfl)) pa_nil)))))))), ?_⟩
  have hts : ∀ s ∈ ss, (saidL h f xs s).length ≤ 62 := fun s hs => (said_len fo po (so s hs)).2.1
  refine ⟨_, rfl, _, rfl, ⟨_, ho⟩, for_list (K := K) (a := oa) (xs := bs.map V.ref) (fun i σ H2 => H2 = H ∧ (((ss.take i).map (saidL h f xs)).map fun t => (t.length : Int)).any (fun t => decide (w < t)) = false ∧ ∃ v1 v2 : Option V, σ = [some (.ref fa), some (.ref oa), some (.ref pa), some (.int (numW w (((ss.take i).map (saidL h f xs)).map fun t => (t.length : Int))).1), some (.int (numW w (((ss.take i).map (saidL h f xs)).map fun t => (t.length : Int))).2), v1, v2])
    ⟨rfl, rfl, none, none, rfl⟩ (fun i σ H2 _ h2 => by rw [h2.1]; exact ho) ?_ ?_⟩
  · rintro i y σ H2 hi ⟨rfl, hw, v1, v2, rfl⟩
    obtain ⟨b, s, rfl, eb, es⟩ := foot_at hb.1 hi
    have hs := List.mem_of_getElem? es
    have tl := hts s hs
    refine ⟨_, rfl, _, rfl, _, rfl, _, _, _, _, _, _, _, _, _, _, rfl, hf, hb.2 i b s eb es, hp, ha, fo, so s hs, po, _, rfl, (by rw [tx_len]; exact small2 (by omega)), ?_⟩
    rw [tx_len]
    refine ⟨_, rfl, _, rfl, _, _, _, _, rfl, rfl, hf, rfl, _, _, rfl, rfl, _, rfl, ?_⟩
    refine ite2 (fun c => ?_) (fun c => ?_)
    · refine ⟨_, rfl, _, _, _, _, rfl, rfl, hf, rfl, ?_⟩
      have c1 : w < ((saidL h f xs s).length : Int) := of_decide_eq_true c
      have ew : (((ss.map (saidL h f xs)).map fun t => (t.length : Int)).any fun t => decide (w < t)) = true := by
        rw [List.map_map]
        exact List.any_eq_true.mpr ⟨_, List.mem_map.mpr ⟨s, hs, rfl⟩, decide_eq_true c1⟩
      unfold highN at q
      rw [if_pos ew] at q
      exact q
    · have c1 : ¬ w < ((saidL h f xs s).length : Int) := fun z => c (decide_eq_true z)
      have e1 : ((ss.take (i + 1)).map (saidL h f xs)).map (fun t => (t.length : Int)) = ((ss.take i).map (saidL h f xs)).map (fun t => (t.length : Int)) ++ [((saidL h f xs s).length : Int)] := by
        rw [take_snoc es, List.map_append, List.map_append]
        rfl
      rw [e1, numW_snoc, List.any_append, hw]
      generalize numW w (((ss.take i).map (saidL h f xs)).map fun t => (t.length : Int)) = z
      generalize ((saidL h f xs s).length : Int) = t at c1
      refine ⟨_, rfl, _, _, rfl, rfl, _, rfl, ?_⟩
      by_cases k2 : 0 < z.1 ∧ z.2 + 1 + t ≤ w
      · refine andG (fun c2 => absurd (decide_eq_true k2.1) c2) (fun c2 => ?_)
        refine ⟨_, rfl, _, _, rfl, rfl, _, rfl, _, _, rfl, rfl, _, rfl, _, _, _, _, rfl, rfl, hf, rfl, _, _, rfl, rfl, _, rfl, ?_⟩
        rw [decide_eq_true k2.2]
        refine iteT ?_
        refine ⟨_, rfl, _, _, rfl, rfl, _, rfl, _, _, rfl, rfl, ?_⟩
        refine ⟨rfl, by simp [c1], some (.ref b), some (.int t), ?_⟩
        rw [numStep, if_pos k2]
        rfl
      refine andN ?_ (fun c2 hb => ?_)
      · refine ⟨_, rfl, _, _, rfl, rfl, ?_⟩
        refine ⟨_, rfl, ?_⟩
        refine ⟨rfl, by simp [c1], some (.ref b), some (.int t), ?_⟩
        rw [numStep, if_neg k2]
        rfl
      · refine ⟨_, rfl, _, _, rfl, rfl, _, rfl, _, _, rfl, rfl, _, rfl, _, _, _, _, rfl, rfl, hf, rfl, _, _, rfl, rfl, _, rfl, ?_⟩
        exact ite2 (fun c3 => absurd ⟨of_decide_eq_true c2, of_decide_eq_true c3⟩ k2) (fun _ => hb)
  · rintro σ H2 ⟨rfl, hw, v1, v2, rfl⟩
    rw [List.length_map, hb.1, List.take_length] at hw ⊢
    refine ⟨_, rfl, _, rfl, _, _, _, _, rfl, rfl, hf, rfl, _, _, rfl, ?_⟩
    unfold highN at q
    rw [hw] at q
    rw [if_neg Bool.false_ne_true] at q
    exact q
def sp_l_sizes (K : PySem.W.Frag) : Sp := fun vs H Q _ => ∃ (fa pa la : Addr) (F : Frm) (pas : List Addr) (ds : List Wd) (xs : List (Int × Int)), vs = [.ref fa, .ref pa, .ref la] ∧ SqT K H fa (fm F.w F.h F.f F.m) ∧ SqL K H pa (pas.map V.ref) ∧ PtsA K H pas ds ∧ LwAt K H la xs ∧ BkOk F ds xs ∧ ∀ q W T H', Same H H' → SqT K H' q [.int W, .int T] → Szd F ds xs ds.length W T → Q (.ref q) H'
theorem sc_l_sizes : FnScope ["form", "parts", "places", "wide", "high", "row_wide", "feet", "k", "part", "size"] ["form", "parts", "places"] (defScope s_l_sizes) := ⟨rfl, rfl, rfl, by decide +kernel, rfl, by decide +kernel, by decide +kernel⟩
theorem ok_l_sizes (T : Txt P w K mg a) : FnOk P w K mg base CX0 3 a.f_l_sizes a.fd_l_sizes ["form", "parts", "places"] (sp_l_sizes K) := by
  have g_l_high_by := ok_l_high_by (P := P) (w := w) (base := base) T
  have d_l_high_by := T.d_l_high_by
  have g_l_said_by := ok_l_said_by (P := P) (w := w) (base := base) T
  have d_l_said_by := T.d_l_said_by
  have z_enumerate := T.z_enumerate
  have z_len := T.z_len
  have z_max := T.z_max
  refine T.d_l_sizes.fn.ok sc_l_sizes (fun vs H Q E h => ?_) (fun cdv A outer s H vs Q E hr h => ?_)
  · obtain ⟨fa, pa, la, F, pas, ds, xs, rfl, _⟩ := h
    rfl
  obtain ⟨fa, pa, la, F, pas, ds, xs, rfl, hf, hp_, hps, hl, B, q⟩ := h
  have hu := Nat.lt_of_succ_lt (hu_of hr)
  refine ⟨_, (pss_cons (ps_set (i := 3) sc_l_sizes.nd rfl (Or.inl rfl) pe_int)
      (pss_cons (ps_set (i := 4) sc_l_sizes.nd rfl (Or.inl rfl) pe_int)
      (pss_cons (ps_set (i := 5) sc_l_sizes.nd rfl (Or.inl rfl) pe_int)
      (pss_cons (ps_set (i := 6) sc_l_sizes.nd rfl (Or.inl rfl) pe_int)
      (pss_cons (ps_for PassesOwn.never rfl (pi_enum rfl z_enumerate (pv 1)) (pg_tup rfl (pgs_cons (pg_name (i := 7) sc_l_sizes.nd rfl (Or.inl rfl)) (pgs_cons (pg_name (i := 8) sc_l_sizes.nd rfl (Or.inl rfl)) pgs_nil))) (pss_cons (ps_set (i := 9) sc_l_sizes.nd rfl (Or.inl rfl) (pe_callB call_len_str rfl z_len PySem.boot_len (pa_cons (pe_callD d_l_said_by g_l_said_by (hr.mono (by decide)) rfl (pa_cons (pv 0) (pa_cons (pe_ix ix_tup (pv 8) pe_int (fun _ _ => rfl)) (pa_cons (pv 2) pa_nil)))) pa_nil)))
      (pss_cons (ps_if (PW.pt (pw_and (pt_cmpR op_gt (pv 7) pe_int (nomark _)) (pw_and1 (pt_cmpR (op_eqT hu) (pe_ix ix_list (pv 2) (pe_op op_sub (pv 7) pe_int) (fun _ _ => rfl)) (pe_ix ix_list (pv 2) (pv 7) (fun _ _ => rfl)) (nomark _))))) (pss_one (ps_set (i := 5) sc_l_sizes.nd rfl (Or.inl rfl) (pe_op op_add (pe_op op_add (pv 5) pe_int) (pv 9)))) (pss_one (ps_set (i := 5) sc_l_sizes.nd rfl (Or.inl rfl) (pv 9))))
      (pss_cons (ps_if (PW.pt (pw_or (pt_cmpR op_eq (pv 7) pe_int (nomark _)) (pw_or1 (pt_cmpR op_ne (pe_ix ix_tup (pe_ix ix_list (pv 2) (pe_op op_sub (pv 7) pe_int) (fun _ _ => rfl)) pe_int (fun _ _ => rfl)) (pe_ix ix_tup (pe_ix ix_list (pv 2) (pv 7) (fun _ _ => rfl)) pe_int (fun _ _ => rfl)) (nomark _))))) (pss_one (ps_set (i := 6) sc_l_sizes.nd rfl (Or.inl rfl) pe_int)) pss_nil)
      (pss_cons (ps_set (i := 6) sc_l_sizes.nd rfl (Or.inl rfl) (pe_op op_add (pv 6) (pe_callD d_l_high_by g_l_high_by (hr.mono (by decide)) rfl (pa_cons (pv 0) (pa_cons (pe_ix ix_tup (pv 8) pe_int (fun _ _ => rfl)) (pa_cons (pv 2) pa_nil))))))
      (pss_cons (ps_set (i := 4) sc_l_sizes.nd rfl (Or.inl rfl) (pe_callB (call_max2 rfl) rfl z_max PyProof.Rows.boot_max (pa_cons (pv 4) (pa_cons (pe_op op_add (pe_op op_add (pe_ix ix_tup (pe_ix ix_list (pv 2) (pv 7) (fun _ _ => rfl)) pe_int (fun _ _ => rfl)) pe_int) (pv 6)) pa_nil))))
      (pss_one (ps_set (i := 3) sc_l_sizes.nd rfl (Or.inl rfl) (pe_callB (call_maxI rfl) rfl z_max PyProof.Rows.boot_max (pa_cons (pe_op op_cat (pe_lst (pa_cons (pv 3) (pa_cons (pv 5) pa_nil))) (pe_lc rfl (lcok (caps := ["form", "places"]) (js := [0, 2]) (cap := ⟨⟨rfl, .inl rfl, rfl, .inl rfl⟩, ⟨⟨rfl, .inl rfl, rfl, .inl rfl⟩, trivial⟩⟩)) (pi_list (pe_ix ix_tup (pv 8) pe_int (fun _ _ => rfl))) (fun _ _ _ _ => pts_nil) (fun _ _ _ _ => (pe_callB call_len_str rfl z_len PySem.boot_len (pa_cons (pe_callD d_l_said_by g_l_said_by (hr.mono (by decide)) rfl (pa_cons (pv 1) (pa_cons (pv 0) (pa_cons (pv 2) pa_nil)))) pa_nil))))) pa_nil))))))))))
      (pss_one (ps_ret (pe_tup (pa_cons (pv 3) (pa_cons (pv 4) pa_nil)))))))))), ?_⟩
  obtain ⟨las, hla, hls⟩ := hl
  have n400 := B.n
  have el : (pas.map V.ref).length = ds.length := by rw [List.length_map, hps.1]
  have wdx : ∀ d ∈ ds, WdOk xs.length d := fun d hd => by have := B.wd d hd; rwa [B.len] at this
  have h1 := B.fo.h1
  refine ⟨_, rfl, pa, rfl, ⟨_, hp_⟩, for_enum (K := K) (a := pa) (xs := pas.map V.ref) (fun i σ H2 => Same H H2 ∧ ∃ (W T rw ft : Int) (v7 v8 v9 : Option V), σ = [some (.ref fa), some (.ref pa), some (.ref la), some (.int W), some (.int T), some (.int rw), some (.int ft), v7, v8, v9] ∧ Szd F ds xs i W T ∧ (0 < i → RunW F ds xs (i - 1) rw ∧ RunH F ds xs (i - 1) ft) ∧ rw ≤ 63 * (i : Int)) ?_ ?_ ?_ ?_⟩
  · exact ⟨Same.refl _, 1, 1, 0, 0, none, none, none, rfl, szd_zero, fun z => absurd z (Nat.lt_irrefl _), by decide⟩
  · rintro i σ H2 _ ⟨s2, _⟩
    exact s2.seq hp_
  rotate_left
  · rintro σ H2 ⟨s2, W, T, rw, ft, v7, v8, v9, rfl, S, _, _⟩
    rw [el] at S
    refine ⟨_, rfl, _, rfl, le2, fun p3 hp3 => ?_⟩
    exact q p3 W T _ (s2.trans (same_new hp3 _)) (SqT.of upd_same) S
  rintro i x σ H2 p hx ⟨s2, W, T, rw, ft, v7, v8, v9, rfl, S, RR, rl⟩ hp
  obtain ⟨b, d, rfl, eb, ed⟩ := wd_at hps.1 hx
  have hid : i < ds.length := (List.getElem?_eq_some_iff.mp ed).1
  have hix : i < xs.length := by rw [← B.len]; exact hid
  have edd : dAt ds i = d := by
    show ds.getD i wd0 = d
    rw [List.getD_eq_getElem?_getD, ed]
    rfl
  have wo := wdx d (List.mem_of_getElem? ed)
  have n40 := wo.n
  obtain ⟨sy, fo, bs, g1, g2, g3, g4⟩ := hps.2 i b d eb ed
  obtain ⟨zo, ez, hz⟩ := LwAt.get (a := la) hls hix
  have s3 := same_new hp (.tup [.int (i : Int), .ref b])
  refine ⟨p, _, rfl, SqT.of upd_same, rfl, _, _, rfl, _, _, rfl, rfl, ?_⟩
  generalize upd H2 p (.tup [.int (i : Int), .ref b]) = H3 at s3 ⊢
  dsimp only [gName]
  have t3 := s2.trans s3
  have sl := said_len B.fo B.po wo.s
  refine ⟨_, rfl, _, rfl, _, _, _, _, rfl, rfl, t3.tup g1, rfl, _, rfl, fa, sy, la, F.w, F.h, F.f, F.m, d.say, las, xs, rfl, t3.tup hf, t3.tup g2, t3.seq hla, hls.same t3, B.fo, wo.s, B.po, _, rfl, (by rw [tx_len]; exact small (by omega)), ?_⟩
  rw [tx_len, show ((saidL F.h F.f xs d.say).length : Int) = wideW F xs d from rfl]
  dsimp only [gName]
  have w62 : wideW F xs d ≤ 62 := by unfold wideW; omega
  refine cut_seq (fun σ' H' => H' = H3 ∧ ∃ rw' : Int, σ' = [some (.ref fa), some (.ref pa), some (.ref la), some (.int W), some (.int T), some (.int rw'), some (.int ft), some (.int (i : Int)), some (.ref b), some (.int (wideW F xs d))] ∧ RunW F ds xs i rw' ∧ rw' ≤ 63 * ((i : Int) + 1)) ?_ (fun key => ?_)
  rotate_left
  · refine ⟨_, rfl, _, _, rfl, rfl, _, rfl, ?_⟩
    by_cases c : 0 < i
    rotate_left
    · refine andG (fun _ => ?_) (fun z => absurd (of_decide_eq_true z) (by omega))
      have R := runW_new (F := F) (xs := xs) hid (.inl (by omega))
      rw [edd] at R
      exact ⟨_, rfl, key _ _ ⟨rfl, _, rfl, R, by omega⟩⟩
    refine andG (fun z => absurd (decide_eq_true (by omega)) z) (fun _ => ?_)
    obtain ⟨yo, ey, hy⟩ := LwAt.get (a := la) hls (show i - 1 < xs.length by omega)
    refine ⟨_, rfl, _, rfl, _, _, rfl, rfl, _, _, _, _, rfl, rfl, t3.seq hla, (by rw [show (i : Int) - 1 = ((i - 1 : Nat) : Int) by omega]; exact ey), _, rfl, _, rfl, _, _, _, _, rfl, rfl, t3.seq hla, ez, _, _, _, _, rfl, rfl, t3.tup hy, t3.tup hz, rfl, rfl, _, rfl, ?_⟩
    rw [if_neg (by decide), eq_pl2]
    by_cases e : xAt xs (i - 1) = xAt xs i
    · rw [decide_eq_true e]
      refine iteT ?_
      refine ⟨_, rfl, _, _, rfl, rfl, _, rfl, _, _, rfl, rfl, ?_⟩
      have R := runW_on (k := i - 1) (RR c).1 (by omega) (by rw [show i - 1 + 1 = i by omega]; exact e)
      rw [show i - 1 + 1 = i by omega, edd] at R
      exact key _ _ ⟨rfl, _, rfl, R, by omega⟩
    · rw [decide_eq_false e]
      refine iteF ?_
      have R := runW_new (F := F) (xs := xs) hid (.inr e)
      rw [edd] at R
      exact ⟨_, rfl, key _ _ ⟨rfl, _, rfl, R, by omega⟩⟩
  rintro σ' H3' ⟨rfl, rw', rfl, R1, rl'⟩
  refine cut_seq (fun σ' H' => H' = H3' ∧ ∃ ft' : Int, σ' = [some (.ref fa), some (.ref pa), some (.ref la), some (.int W), some (.int T), some (.int rw'), some (.int ft'), some (.int (i : Int)), some (.ref b), some (.int (wideW F xs d))] ∧ RunH F ds xs i (ft' + highW F xs d)) ?_ (fun key => ?_)
  rotate_left
  · refine ⟨_, rfl, rfl, _, rfl, ?_⟩
    by_cases c : 0 < i
    rotate_left
    · refine orG (fun _ => ?_) (fun z => absurd (int_eq.mpr (by omega)) z)
      have R := runH_new (F := F) (xs := xs) hid (.inl (by omega))
      rw [edd] at R
      exact key _ _ ⟨rfl, 0, rfl, R⟩
    refine orG (fun z => absurd (int_eq.mp z) (by omega)) (fun _ => ?_)
    obtain ⟨yo, ey, hy⟩ := LwAt.get (a := la) hls (show i - 1 < xs.length by omega)
    refine ⟨_, rfl, _, rfl, _, _, rfl, rfl, _, _, _, _, rfl, rfl, t3.seq hla, (by rw [show (i : Int) - 1 = ((i - 1 : Nat) : Int) by omega]; exact ey), _, _, _, _, rfl, rfl, t3.tup hy, rfl, _, rfl, _, rfl, _, _, _, _, rfl, rfl, t3.seq hla, ez, _, _, _, _, rfl, rfl, t3.tup hz, rfl, rfl, _, rfl, ?_⟩
    by_cases e : (xAt xs (i - 1)).1 = (xAt xs i).1
    · rw [decide_eq_true (show V.int (xAt xs (i - 1)).1 = V.int (xAt xs i).1 by rw [e])]
      refine iteF ?_
      have R := runH_on (k := i - 1) (RR c).2 (by omega) (by rw [show i - 1 + 1 = i by omega]; exact e)
      rw [show i - 1 + 1 = i by omega, edd] at R
      exact key _ _ ⟨rfl, ft, rfl, R⟩
    · rw [decide_eq_false (show ¬ V.int (xAt xs (i - 1)).1 = V.int (xAt xs i).1 from fun z => e (V.int.inj z))]
      refine iteT ?_
      have R := runH_new (F := F) (xs := xs) hid (.inr e)
      rw [edd] at R
      exact key _ _ ⟨rfl, 0, rfl, R⟩
  rintro σ' H4 ⟨rfl, ft', rfl, R2⟩
  refine ⟨_, rfl, _, rfl, _, rfl, _, _, _, _, rfl, rfl, t3.tup g1, rfl, _, rfl, fa, fo, la, F.w, F.h, F.f, F.m, bs, las, d.foot, xs, rfl, t3.tup hf, t3.seq g3, g4.same t3, t3.seq hla, hls.same t3, B.fo, wo.f, B.po, (by omega), _, _, rfl, rfl, ?_⟩
  rw [← high_eq, show highF F.w F.h (d.foot.map (saidL F.h F.f xs)) = highW F xs d from rfl]
  dsimp only [gName]
  refine ⟨_, rfl, _, rfl, _, rfl, _, _, _, _, rfl, rfl, t3.seq hla, ez, _, _, _, _, rfl, rfl, t3.tup hz, rfl, _, _, rfl, rfl, _, rfl, _, _, rfl, rfl, _, _, rfl, ?_⟩
  dsimp only [gName]
  refine ⟨_, rfl, _, rfl, le2, fun p1 hp1 => ?_⟩
  have s5 := same_new hp1 (.lst [V.int W, V.int rw'])
  have h5 : (upd H4 p1 (.lst [V.int W, V.int rw'])) p1 = some (.lst [V.int W, V.int rw']) := upd_same
  generalize upd H4 p1 (.lst [V.int W, V.int rw']) = H5 at s5 h5 ⊢
  have t5 := t3.trans s5
  refine ⟨_, rfl, _, _, _, _, rfl, rfl, t5.tup g1, rfl, fo, rfl, ⟨_, t5.seq g3⟩, lc_list (K := K) (a := fo) (xs := bs.map V.ref) (fun j ys H6 => H6 = H5 ∧ ys = ((d.foot.take j).map fun s => ((saidL F.h F.f xs s).length : Int)).map V.int) ⟨rfl, rfl⟩ (fun j ys H6 _ g => by rw [g.1]; exact t5.seq g3) ?_ ?_ ?_⟩
  · rintro j ys H6 hj ⟨_, rfl⟩
    rw [List.length_map, List.length_map, List.length_take]
    exact Nat.lt_of_lt_of_le (show _ < 1000 by omega) (small (Nat.le_refl _))
  · rintro j y ys H6 hj ⟨rfl, rfl⟩
    obtain ⟨bo, s, rfl, eb2, es⟩ := foot_at g4.1 hj
    have so := wo.f s (List.mem_of_getElem? es)
    have sl2 := said_len B.fo B.po so
    refine yes_go ?_
    refine ⟨_, rfl, _, rfl, _, rfl, fa, bo, la, F.w, F.h, F.f, F.m, s, las, xs, rfl, t5.tup hf, t5.tup (g4.2 j bo s eb2 es), t5.seq hla, hls.same t5, B.fo, so, B.po, _, rfl, (by rw [tx_len]; exact small (by omega)), rfl, ?_⟩
    rw [tx_len, take_snoc es, List.map_append, List.map_append]
    rfl
  rintro ys H6 ⟨rfl, rfl⟩ p2 hp2
  rw [List.length_map, g4.1, List.take_length]
  have s7 := same_new hp2 (.lst ((d.foot.map fun s => ((saidL F.h F.f xs s).length : Int)).map V.int))
  have h7 : (upd H6 p2 (.lst ((d.foot.map fun s => ((saidL F.h F.f xs s).length : Int)).map V.int))) p2 = some (.lst ((d.foot.map fun s => ((saidL F.h F.f xs s).length : Int)).map V.int)) := upd_same
  generalize upd H6 p2 (.lst ((d.foot.map fun s => ((saidL F.h F.f xs s).length : Int)).map V.int)) = H7 at s7 h7 ⊢
  refine ⟨_, _, _, _, rfl, rfl, s7 _ _ h5, h7, small (by rw [List.length_map, List.length_map]; simp; omega), fun p4 hp4 => ?_⟩
  have s8 := same_new hp4 (.lst ([V.int W, V.int rw'] ++ (d.foot.map fun s => ((saidL F.h F.f xs s).length : Int)).map V.int))
  refine ⟨p4, W :: rw' :: (d.foot.map fun s => ((saidL F.h F.f xs s).length : Int)), rfl, SqL.of upd_same, Nat.succ_pos _, fun mx hm hx => ?_⟩
  have f62 : ∀ s ∈ d.foot, ((saidL F.h F.f xs s).length : Int) ≤ 62 := fun s hs => by have := said_len B.fo B.po (wo.f s hs); omega
  have w2 := S.w2
  refine ⟨t5.trans (s7.trans s8), mx, _, rw', _, _, _, _, rfl, szd_step S h1 hid R1 R2 (hx W List.mem_cons_self) (hx rw' (List.mem_cons_of_mem _ List.mem_cons_self)) (fun s hs => ?_) ?_ rfl, fun _ => ⟨R1, R2⟩, by omega⟩
  · rw [edd] at hs
    exact hx _ (List.mem_cons_of_mem _ (List.mem_cons_of_mem _ (List.mem_map.mpr ⟨s, hs, rfl⟩)))
  · rcases List.mem_cons.mp hm with rfl | hm
    · omega
    · rcases List.mem_cons.mp hm with rfl | hm
      · omega
      · obtain ⟨s, hs, rfl⟩ := List.mem_map.mp hm
        have := f62 s hs
        omega
def sp_l_fitting (K : PySem.W.Frag) : Sp := fun vs H Q _ => ∃ (pa ly : Addr) (pas las : List Addr) (ds : List Wd) (xss : List (List (Int × Int))) (b f num : Int), vs = [.ref pa, .ref ly, .int b, .int f, .int num] ∧ SqL K H pa (pas.map V.ref) ∧ PtsA K H pas ds ∧ SqL K H ly (las.map V.ref) ∧ LysA K H las xss ∧ 0 < xss.length ∧ xss.length ≤ 2 ∧ (∀ xs ∈ xss, Ris b xs ∧ xs.length = ds.length) ∧ 1 ≤ b ∧ b ≤ 6 ∧ feetN ds ≤ 40 ∧ ds.length ≤ 40 ∧ (∀ d ∈ ds, WdOk ds.length d) ∧ 0 ≤ f ∧ f ≤ 10 ^ 60 ∧ ∀ q (F : Frm) H', Same H H' → SqT K H' q (fm F.w F.h F.f F.m) → FormOk F.w F.h F.f F.m → F.f = f → b ≤ F.h → (∀ xs ∈ xss, Fits F ds xs) → Q (.ref q) H'
theorem sc_l_fitting : FnScope ["parts", "layings", "base", "first", "number", "most", "wide", "high", "pages"] ["parts", "layings", "base", "first", "number"] (defScope s_l_fitting) := ⟨rfl, rfl, rfl, by decide +kernel, rfl, by decide +kernel, by decide +kernel⟩
theorem ok_l_fitting (T : Txt P w K mg a) : FnOk P w K mg base CX0 4 a.f_l_fitting a.fd_l_fitting ["parts", "layings", "base", "first", "number"] (sp_l_fitting K) := by
  have g_l_sizes := ok_l_sizes (P := P) (w := w) (base := base) T
  have d_l_sizes := T.d_l_sizes
  have z_len := T.z_len
  have z_max := T.z_max
  have z_min := T.z_min
  have z_sum := T.z_sum
  refine T.d_l_fitting.fn.ok sc_l_fitting (fun vs H Q E h => ?_) (fun cdv A outer s H vs Q E hr h => ?_)
  · obtain ⟨pa, ly, pas, las, ds, xss, b, f, num, rfl, _⟩ := h
    rfl
  obtain ⟨pa, ly, pas, las, ds, xss, b, f, num, rfl, hp_, hps, hly, hls, x0, x2, hr_, b1, b6, f40, d40, wd, f0, f60, q⟩ := h
  have hu := Nat.lt_of_succ_lt (hu_of hr)
  refine ⟨_, (pss_cons (ps_set (i := 5) sc_l_fitting.nd rfl (Or.inr rfl) (pe_op op_add (pv 2) (pe_callB (call_sum rfl) rfl z_sum PyProof.Rows.boot_sum (pa_cons (pe_lc rfl (lcok (caps := []) (js := []) (cap := trivial)) (pi_list (pv 0)) (fun _ _ _ _ => pts_nil) (fun _ _ _ _ => (pe_callB (r := rLen K) call_len_seq rfl z_len PySem.boot_len (pa_cons (pe_ix (r := rIxT K) ix_tup (pv 0) pe_int (fun _ _ => rfl)) pa_nil)))) pa_nil))))
      (pss_cons (ps_set (i := 6) sc_l_fitting.nd rfl (Or.inr rfl) (pe_callB (call_maxI rfl) rfl z_max PyProof.Rows.boot_max (pa_cons (pe_lc rfl (lcok (caps := ["parts", "first", "most"]) (js := [0, 3, 5]) (cap := ⟨⟨rfl, .inl rfl, rfl, .inl rfl⟩, ⟨⟨rfl, .inl rfl, rfl, .inl rfl⟩, ⟨⟨rfl, .inl rfl, rfl, .inl rfl⟩, trivial⟩⟩⟩)) (pi_list (pv 1)) (fun _ _ _ _ => pts_nil) (fun _ _ _ _ => (pe_ix (r := rIxT K) ix_tup (pe_callD d_l_sizes g_l_sizes (hr.mono (by decide)) rfl (pa_cons (pe_tup (pa_cons pe_int (pa_cons (pv 3) (pa_cons (pv 2) (pa_cons pe_int pa_nil))))) (pa_cons (pv 1) (pa_cons (pv 0) pa_nil)))) pe_int (fun _ _ => rfl)))) pa_nil)))
      (pss_cons (ps_set (i := 6) sc_l_fitting.nd rfl (Or.inr rfl) (pe_op op_add (pv 6) (pe_op op_mul (pe_op op_mod (pv 4) pe_int) (pe_op op_mod (pe_op op_fdiv (pv 4) pe_int) pe_int))))
      (pss_cons (ps_set (i := 7) sc_l_fitting.nd rfl (Or.inl rfl) (pe_callB (call_maxI rfl) rfl z_max PyProof.Rows.boot_max (pa_cons (pe_op op_cat (pe_lst (pa_cons (pv 2) pa_nil)) (pe_lc rfl (lcok (caps := ["parts", "first", "most", "wide"]) (js := [0, 3, 5, 6]) (cap := ⟨⟨rfl, .inl rfl, rfl, .inl rfl⟩, ⟨⟨rfl, .inl rfl, rfl, .inl rfl⟩, ⟨⟨rfl, .inl rfl, rfl, .inl rfl⟩, ⟨⟨rfl, .inl rfl, rfl, .inl rfl⟩, trivial⟩⟩⟩⟩)) (pi_list (pv 1)) (fun _ _ _ _ => pts_nil) (fun _ _ _ _ => (pe_ix (r := rIxT K) ix_tup (pe_callD d_l_sizes g_l_sizes (hr.mono (by decide)) rfl (pa_cons (pe_tup (pa_cons (pv 4) (pa_cons (pv 3) (pa_cons (pv 2) (pa_cons pe_int pa_nil))))) (pa_cons (pv 1) (pa_cons (pv 0) pa_nil)))) pe_int (fun _ _ => rfl))))) pa_nil)))
      (pss_cons (ps_set (i := 7) sc_l_fitting.nd rfl (Or.inl rfl) (pe_callB (call_min2 rfl) rfl z_min PyProof.Rows.boot_min (pa_cons (pv 5) (pa_cons (pe_op op_add (pv 7) (pe_op op_mod (pe_op op_fdiv (pv 4) pe_int) pe_int)) pa_nil))))
      (pss_cons (ps_set (i := 8) sc_l_fitting.nd rfl (Or.inl rfl) (pe_callB (call_maxI rfl) rfl z_max PyProof.Rows.boot_max (pa_cons (pe_op op_cat (pe_lst (pa_cons pe_int pa_nil)) (pe_lc rfl (lcok (caps := []) (js := []) (cap := trivial)) (pi_list (pv 1)) (fun _ _ _ _ => (pts_one (pt_cmpR (r := rNeNil K) (op_neNil' hu) (pv 0) (pe_lst pa_nil) (nomark _)))) (fun _ _ _ _ => (pe_ix (r := rIxT K) ix_tup (pe_ix (r := rIxL K) ix_list (pv 0) (pe_un un_neg pe_int) (fun _ _ => rfl)) pe_int (fun _ _ => rfl))))) pa_nil)))
      (pss_one (ps_ret (pe_tup (pa_cons (pv 6) (pa_cons (pv 7) (pa_cons (pv 3) (pa_cons (pe_op op_add (pe_op op_add (pv 8) pe_int) (pe_op op_mod (pe_op op_fdiv (pv 4) pe_int) pe_int)) pa_nil))))))))))))), ?_⟩
  have fn0 := feet_nonneg ds
  have elp : (pas.map V.ref).length = ds.length := by rw [List.length_map, hps.1]
  have ell : (las.map V.ref).length = xss.length := by rw [List.length_map, hls.1]
  have mk : ∀ w : Int, 1 ≤ w → w ≤ 4000 → ∀ xs ∈ xss, BkOk ⟨w, b + feetN ds, f, 60⟩ ds xs := fun w w1 w2 xs hx => by
    obtain ⟨R, l⟩ := hr_ xs hx
    exact ⟨⟨w1, w2, by show 1 ≤ b + feetN ds; omega, by show b + feetN ds ≤ 60; omega, f0, f60, by show (1 : Int) ≤ 60; decide, by show (60 : Int) ≤ 60; decide⟩, l.symm, wd, ris_pls R (by show b ≤ b + feetN ds; omega) (by omega), by omega⟩
  refine ⟨_, rfl, _, rfl, _, rfl, ⟨_, hp_⟩, lc_list (K := K) (a := pa) (xs := pas.map V.ref) (fun i ys H2 => H2 = H ∧ ys = ((ds.take i).map fun d => (d.foot.length : Int)).map V.int) ⟨rfl, rfl⟩ (fun i ys H2 _ g => by rw [g.1]; exact hp_) ?_ ?_ ?_⟩
  · rintro i ys H2 hi ⟨_, rfl⟩
    rw [List.length_map, List.length_map, List.length_take]
    exact Nat.lt_of_lt_of_le (show _ < 1000 by omega) (small (Nat.le_refl _))
  · rintro i y ys H2 hi ⟨rfl, rfl⟩
    obtain ⟨bo, d, rfl, eb, ed⟩ := wd_at hps.1 hi
    obtain ⟨sy, fo, bs, g1, g2, g3, g4⟩ := hps.2 i bo d eb ed
    refine yes_go ?_
    refine ⟨_, rfl, _, _, _, _, rfl, rfl, g1, rfl, _, _, rfl, .inl g3, rfl, ?_⟩
    rw [List.length_map, g4.1, take_snoc ed, List.map_append, List.map_append]
    rfl
  rintro ys HA ⟨rfl, rfl⟩ p0 hp0
  rw [elp, List.take_length]
  have sB := same_new hp0 (.lst ((ds.map fun d => (d.foot.length : Int)).map V.int))
  refine ⟨p0, _, rfl, SqL.of upd_same, _, _, rfl, rfl, ?_⟩
  rw [show (ds.map fun d => (d.foot.length : Int)).sum = feetN ds from rfl]
  generalize upd HA p0 (.lst ((ds.map fun d => (d.foot.length : Int)).map V.int)) = HB at sB ⊢
  dsimp only [gName]
  have T0 := sB
  have b1k := mk 200 (by decide) (by decide)
  refine ⟨_, rfl, ly, rfl, ⟨_, T0.seq hly⟩, lc_list (K := K) (a := ly) (xs := las.map V.ref) (fun i ys H2 => Same HB H2 ∧ ∃ ws : List Int, ws.length = i ∧ ys = ws.map V.int ∧ ∀ k xs, k < i → xss[k]? = some xs → ∃ T, Szd ⟨200, b + feetN ds, f, 60⟩ ds xs ds.length (ws.getD k 0) T) ⟨Same.refl _, [], rfl, rfl, fun k xs hk => absurd hk (Nat.not_lt_zero _)⟩ (fun i ys H2 _ g => (T0.trans g.1).seq hly) ?_ ?_ ?_⟩
  · rintro i ys H2 hi ⟨_, ws, wl, rfl, _⟩
    rw [List.length_map, wl]
    exact Nat.lt_of_lt_of_le (show i < 1000 by rw [ell] at hi; omega) (small (Nat.le_refl _))
  · rintro i y ys H2 hi ⟨s2, ws, wl, rfl, hw⟩
    obtain ⟨lo, xs, rfl, eb, ex⟩ := ly_at hls.1 hi
    have t2 := T0.trans s2
    have xm := List.mem_of_getElem? ex
    refine yes_go ?_
    refine ⟨_, rfl, _, rfl, le4, fun p1 hp1 => ?_⟩
    have s3 := same_new hp1 (.tup [V.int 200, V.int (b + feetN ds), V.int f, V.int 60])
    have h3 : SqT K (upd H2 p1 (.tup [V.int 200, V.int (b + feetN ds), V.int f, V.int 60])) p1 (fm 200 (b + feetN ds) f 60) := SqT.of upd_same
    generalize upd H2 p1 (.tup [V.int 200, V.int (b + feetN ds), V.int f, V.int 60]) = H3 at s3 h3 ⊢
    have t3 := t2.trans s3
    refine ⟨_, rfl, _, rfl, p1, pa, lo, ⟨200, b + feetN ds, f, 60⟩, pas, ds, xs, rfl, h3, t3.seq hp_, hps.same t3, (hls.2 i lo xs eb ex).same t3, b1k xs xm, fun q4 W T H4 s4 hq4 S => ?_⟩
    refine ⟨_, _, _, _, rfl, rfl, hq4, rfl, s2.trans (s3.trans s4), ws ++ [W], by simp [wl], by rw [List.map_append]; rfl, fun k ys2 hk e => ?_⟩
    rw [getD_snoc, wl]
    by_cases c : k < i
    · rw [if_pos c]; exact hw k ys2 c e
    · have : k = i := by omega
      rw [if_neg c, if_pos this]
      rw [this, ex] at e
      cases e
      exact ⟨_, S⟩
  rintro ys HC ⟨sc, ws, wl, rfl, hw⟩ p hp
  rw [ell] at wl hw
  have hwm : ∀ xs ∈ xss, ∃ w, w ∈ ws ∧ ∃ T, Szd ⟨200, b + feetN ds, f, 60⟩ ds xs ds.length w T := fun xs hx => by
    obtain ⟨k, hk, ek⟩ := List.mem_iff_getElem.mp hx
    have e2 : xss[k]? = some xs := by rw [List.getElem?_eq_getElem hk, ek]
    obtain ⟨T, S⟩ := hw k xs hk e2
    refine ⟨ws.getD k 0, ?_, T, S⟩
    rw [List.getD_eq_getElem?_getD, List.getElem?_eq_getElem (by omega)]
    exact List.getElem_mem _
  have hmw : ∀ w ∈ ws, ∃ xs, xs ∈ xss ∧ ∃ T, Szd ⟨200, b + feetN ds, f, 60⟩ ds xs ds.length w T := fun w hw2 => by
    obtain ⟨k, hk, ek⟩ := List.mem_iff_getElem.mp hw2
    have hk2 : k < xss.length := by omega
    obtain ⟨T, S⟩ := hw k _ hk2 (List.getElem?_eq_getElem hk2)
    refine ⟨xss[k], List.getElem_mem hk2, T, ?_⟩
    rw [List.getD_eq_getElem?_getD, List.getElem?_eq_getElem hk, ek] at S
    exact S
  clear hw
  have sD := same_new hp (.lst (ws.map V.int))
  refine ⟨p, ws, rfl, SqL.of upd_same, by omega, fun mx hm hx => ?_⟩
  generalize upd HC p (.lst (ws.map V.int)) = HD at sD ⊢
  dsimp only [gName]
  have m1 : 1 ≤ mx ∧ mx ≤ 3000 := by
    obtain ⟨xs, hxs, T, S⟩ := hmw mx hm
    have := S.w1
    have := S.w2
    omega
  have bb := bit_row num (num / 2) 6 (by decide)
  refine ⟨_, rfl, _, rfl, _, _, rfl, rfl, (by (first | decide | (show (0 : Int) < _; first | decide | omega))), _, rfl, _, _, rfl, rfl, ⟨by decide, by decide⟩, _, _, rfl, rfl, (by (first | decide | (show (0 : Int) < _; first | decide | omega))), _, _, rfl, rfl, .inl ⟨by omega, by omega⟩, _, _, rfl, rfl, ?_⟩
  dsimp only [gName]
  generalize num % 2 * (num / 2 % 6) = ex6 at bb ⊢
  have ww : ∀ xs ∈ xss, ∃ W T, W ≤ mx + ex6 ∧ Szd ⟨200, b + feetN ds, f, 60⟩ ds xs ds.length W T := fun xs hxs => by
    obtain ⟨w, hw, T, S⟩ := hwm xs hxs
    exact ⟨w, T, by have := hx w hw; omega, S⟩
  have wb : 1 ≤ mx + ex6 ∧ mx + ex6 ≤ 4000 := by omega
  generalize mx + ex6 = wi at ww wb ⊢
  have sE := T0.trans (sc.trans sD)
  clear hwm hmw hm hx hp sc sD T0
  refine ⟨_, rfl, le1, fun p2 hp2 => ?_⟩
  have sF := same_new hp2 (.lst [V.int b])
  have hF : (upd HD p2 (.lst [V.int b])) p2 = some (.lst [V.int b]) := upd_same
  generalize upd HD p2 (.lst [V.int b]) = HB' at sF hF ⊢
  have T0 := sE.trans sF
  have b2k := mk wi wb.1 wb.2
  refine ⟨_, rfl, ly, rfl, ⟨_, T0.seq hly⟩, lc_list (K := K) (a := ly) (xs := las.map V.ref) (fun i ys H2 => Same HB' H2 ∧ ∃ ts : List Int, ts.length = i ∧ ys = ts.map V.int ∧ ∀ k xs, k < i → xss[k]? = some xs → ∃ W, Szd ⟨wi, b + feetN ds, f, 60⟩ ds xs ds.length W (ts.getD k 0)) ⟨Same.refl _, [], rfl, rfl, fun k xs hk => absurd hk (Nat.not_lt_zero _)⟩ (fun i ys H2 _ g => (T0.trans g.1).seq hly) ?_ ?_ ?_⟩
  · rintro i ys H2 hi ⟨_, ts, wl, rfl, _⟩
    rw [List.length_map, wl]
    exact Nat.lt_of_lt_of_le (show i < 1000 by rw [ell] at hi; omega) (small (Nat.le_refl _))
  · rintro i y ys H2 hi ⟨s2, ts, wl, rfl, hw⟩
    obtain ⟨lo, xs, rfl, eb, ex⟩ := ly_at hls.1 hi
    have t2 := T0.trans s2
    have xm := List.mem_of_getElem? ex
    refine yes_go ?_
    refine ⟨_, rfl, _, rfl, _, rfl, le4, fun p1 hp1 => ?_⟩
    have s3 := same_new hp1 (.tup [V.int wi, V.int (b + feetN ds), V.int f, V.int 60])
    have h3 : SqT K (upd H2 p1 (.tup [V.int wi, V.int (b + feetN ds), V.int f, V.int 60])) p1 (fm wi (b + feetN ds) f 60) := SqT.of upd_same
    generalize upd H2 p1 (.tup [V.int wi, V.int (b + feetN ds), V.int f, V.int 60]) = H3 at s3 h3 ⊢
    have t3 := t2.trans s3
    refine ⟨_, rfl, _, rfl, p1, pa, lo, ⟨wi, b + feetN ds, f, 60⟩, pas, ds, xs, rfl, h3, t3.seq hp_, hps.same t3, (hls.2 i lo xs eb ex).same t3, b2k xs xm, fun q4 W T H4 s4 hq4 S => ?_⟩
    refine ⟨_, _, _, _, rfl, rfl, hq4, rfl, s2.trans (s3.trans s4), ts ++ [T], by simp [wl], by rw [List.map_append]; rfl, fun k ys2 hk e => ?_⟩
    rw [getD_snoc, wl]
    by_cases c : k < i
    · rw [if_pos c]; exact hw k ys2 c e
    · have : k = i := by omega
      rw [if_neg c, if_pos this]
      rw [this, ex] at e
      cases e
      exact ⟨_, S⟩
  rintro ys HC ⟨sc, ts, wl, rfl, hw⟩ p hp
  rw [ell] at wl hw
  have htm : ∀ xs ∈ xss, ∃ w, w ∈ ts ∧ ∃ W, Szd ⟨wi, b + feetN ds, f, 60⟩ ds xs ds.length W w := fun xs hx => by
    obtain ⟨k, hk, ek⟩ := List.mem_iff_getElem.mp hx
    have e2 : xss[k]? = some xs := by rw [List.getElem?_eq_getElem hk, ek]
    obtain ⟨T, S⟩ := hw k xs hk e2
    refine ⟨ts.getD k 0, ?_, T, S⟩
    rw [List.getD_eq_getElem?_getD, List.getElem?_eq_getElem (by omega)]
    exact List.getElem_mem _
  have hmt : ∀ w ∈ ts, ∃ xs, xs ∈ xss ∧ ∃ W, Szd ⟨wi, b + feetN ds, f, 60⟩ ds xs ds.length W w := fun w hw2 => by
    obtain ⟨k, hk, ek⟩ := List.mem_iff_getElem.mp hw2
    have hk2 : k < xss.length := by omega
    obtain ⟨T, S⟩ := hw k _ hk2 (List.getElem?_eq_getElem hk2)
    refine ⟨xss[k], List.getElem_mem hk2, T, ?_⟩
    rw [List.getD_eq_getElem?_getD, List.getElem?_eq_getElem hk, ek] at S
    exact S
  clear hw
  have sG := same_new hp (.lst (ts.map V.int))
  have hG : (upd HC p (.lst (ts.map V.int))) p = some (.lst (ts.map V.int)) := upd_same
  generalize upd HC p (.lst (ts.map V.int)) = HG at sG hG ⊢
  refine ⟨_, _, _, _, rfl, rfl, (sc.trans sG) _ _ hF, hG, small (by rw [List.length_map, wl]; simp; omega), fun p4 hp4 => ?_⟩
  have sI := same_new hp4 (.lst ([V.int b] ++ ts.map V.int))
  refine ⟨p4, b :: ts, rfl, SqL.of upd_same, Nat.succ_pos _, fun th hm hx => ?_⟩
  generalize upd HG p4 (.lst ([V.int b] ++ ts.map V.int)) = HI at sI ⊢
  dsimp only [gName]
  have tb := hx b List.mem_cons_self
  have tt : ∀ xs ∈ xss, ∃ W T, T ≤ th ∧ Szd ⟨wi, b + feetN ds, f, 60⟩ ds xs ds.length W T := fun xs hxs => by
    obtain ⟨t, ht, W, S⟩ := htm xs hxs
    exact ⟨W, t, hx t (List.mem_cons_of_mem _ ht), S⟩
  have sJ := T0.trans (sc.trans (sG.trans sI))
  clear htm hmt hm hx hp sc sG sI T0 hG hF
  refine ⟨_, rfl, _, rfl, _, rfl, _, _, rfl, rfl, ⟨by decide, by decide⟩, _, _, rfl, rfl, (by (first | decide | (show (0 : Int) < _; first | decide | omega))), _, _, rfl, rfl, _, _, rfl, ?_⟩
  dsimp only [gName]
  have hq : b ≤ (if th + num / 12 % 2 < b + feetN ds then th + num / 12 % 2 else b + feetN ds) ∧ (if th + num / 12 % 2 < b + feetN ds then th + num / 12 % 2 else b + feetN ds) ≤ b + feetN ds ∧ ∀ T, T ≤ th → (if T < b + feetN ds then T else b + feetN ds) ≤ (if th + num / 12 % 2 < b + feetN ds then th + num / 12 % 2 else b + feetN ds) := by
    refine ⟨by split <;> omega, by split <;> omega, fun T hT => ?_⟩
    split <;> split <;> omega
  generalize (if th + num / 12 % 2 < b + feetN ds then th + num / 12 % 2 else b + feetN ds) = hi_ at hq ⊢
  refine ⟨le1, fun p5 hp5 => ?_⟩
  have sK := same_new hp5 (.lst [V.int 0])
  have hK : (upd HI p5 (.lst [V.int 0])) p5 = some (.lst [V.int 0]) := upd_same
  generalize upd HI p5 (.lst [V.int 0]) = HK at sK hK ⊢
  have T0 := sJ.trans sK
  refine ⟨_, rfl, ly, rfl, ⟨_, T0.seq hly⟩, lc_list (K := K) (a := ly) (xs := las.map V.ref) (fun i ys H2 => Same HK H2 ∧ ∃ gs : List Int, gs.length ≤ i ∧ ys = gs.map V.int ∧ (∀ k xs, k < i → xss[k]? = some xs → xs ≠ [] → (xAt xs (xs.length - 1)).1 ∈ gs) ∧ ∀ g ∈ gs, 0 ≤ g ∧ g ≤ 41) ⟨Same.refl _, [], Nat.le_refl _, rfl, (fun k xs hk => absurd hk (Nat.not_lt_zero _)), fun g hg => (by cases hg)⟩ (fun i ys H2 _ g => (T0.trans g.1).seq hly) ?_ ?_ ?_⟩
  · rintro i ys H2 hi ⟨_, gs, gl, rfl, _, _⟩
    rw [List.length_map]
    exact Nat.lt_of_lt_of_le (show gs.length < 1000 by rw [ell] at hi; omega) (small (Nat.le_refl _))
  · rintro i y ys H2 hi ⟨s2, gs, gl, rfl, hg, gb⟩
    obtain ⟨lo, xs, rfl, eb, ex⟩ := ly_at hls.1 hi
    have t2 := T0.trans s2
    have xm := List.mem_of_getElem? ex
    obtain ⟨R, xl⟩ := hr_ xs xm
    obtain ⟨as, hla, hps2⟩ := hls.2 i lo xs eb ex
    refine ⟨_, rfl, Nat.zero_le _, fun p6 hp6 => ?_⟩
    have s6 := same_new hp6 (.lst [])
    refine ⟨lo, p6, as.map V.ref, rfl, rfl, (t2.trans s6).seq hla, SqL.of upd_same, _, rfl, ?_⟩
    generalize upd H2 p6 (.lst []) = H6 at s6 ⊢
    have t6 := t2.trans s6
    rcases list_snoc xs with rfl | ⟨rs, x, rfl⟩
    · have : as = [] := by
        have := hps2.1
        exact List.length_eq_zero_iff.mp this
      subst this
      refine iteF ?_
      refine ⟨s2.trans s6, gs, by omega, rfl, fun k ys2 hk e ne => ?_, gb⟩
      by_cases c : k < i
      · exact hg k ys2 c e ne
      · have : k = i := by omega
        rw [this, ex] at e
        cases e
        exact absurd rfl ne
    · rcases list_snoc as with rfl | ⟨bs, a', rfl⟩
      · have := hps2.1
        simp at this
      have bl : bs.length = rs.length := by
        have := hps2.1
        simp at this
        exact this
      have ha' : SqT K HA a' (pl x) := hps2.2 bs.length a' x (by simp) (by rw [bl]; simp)
      have ne : (!((bs ++ [a']).map V.ref).isEmpty) = true := by simp
      rw [ne]
      refine iteT ?_
      refine ⟨_, rfl, _, rfl, _, _, _, _, rfl, rfl, t6.seq hla, (by rw [List.map_append]; exact at_last _ _), _, _, _, _, rfl, rfl, t6.tup ha', rfl, s2.trans s6, gs ++ [x.1], by simp; omega, by rw [List.map_append]; rfl, fun k ys2 hk e ne => ?_, fun g hg2 => ?_⟩
      · by_cases c : k < i
        · exact List.mem_append_left _ (hg k ys2 c e ne)
        · have : k = i := by omega
          rw [this, ex] at e
          cases e
          refine List.mem_append_right _ ?_
          rw [xAt_snoc', List.length_append]
          simp
      · rcases List.mem_append.mp hg2 with hg2 | hg2
        · exact gb g hg2
        · rw [List.mem_singleton.mp hg2]
          have p1 := (R.row rs.length (by simp)).p1
          have p2 := R.pg rs.length (by simp)
          rw [xAt_snoc', if_neg (Nat.lt_irrefl _), if_pos rfl] at p1 p2
          simp at xl
          exact ⟨p1, by omega⟩
  rintro ys HC ⟨sc, gs, gl, rfl, hg, gb⟩ p hp
  rw [ell] at gl hg
  have sG := same_new hp (.lst (gs.map V.int))
  have hG : (upd HC p (.lst (gs.map V.int))) p = some (.lst (gs.map V.int)) := upd_same
  generalize upd HC p (.lst (gs.map V.int)) = HG at sG hG ⊢
  refine ⟨_, _, _, _, rfl, rfl, (sc.trans sG) _ _ hK, hG, small (by rw [List.length_map]; simp; omega), fun p7 hp7 => ?_⟩
  have sL := same_new hp7 (.lst ([V.int 0] ++ gs.map V.int))
  refine ⟨p7, 0 :: gs, rfl, SqL.of upd_same, Nat.succ_pos _, fun pm hm hx => ?_⟩
  generalize upd HG p7 (.lst ([V.int 0] ++ gs.map V.int)) = HL_ at sL ⊢
  dsimp only [gName]
  have p0' := hx 0 List.mem_cons_self
  have p41 : pm ≤ 41 := by
    rcases List.mem_cons.mp hm with rfl | hm
    · decide
    · exact (gb pm hm).2
  refine ⟨_, rfl, _, rfl, _, rfl, _, rfl, _, _, rfl, rfl, _, rfl, _, _, rfl, rfl, ⟨by decide, by decide⟩, _, _, rfl, rfl, (by (first | decide | (show (0 : Int) < _; first | decide | omega))), _, _, rfl, rfl, le4, fun p8 hp8 => ?_⟩
  have sM := same_new hp8 (.tup [V.int wi, V.int hi_, V.int f, V.int (pm + 1 + num / 24 % 4)])
  have fo : FormOk wi hi_ f (pm + 1 + num / 24 % 4) := ⟨wb.1, wb.2, by omega, by omega, f0, f60, by omega, by omega⟩
  refine q p8 ⟨wi, hi_, f, pm + 1 + num / 24 % 4⟩ _ (T0.trans (sc.trans (sG.trans (sL.trans sM)))) (SqT.of upd_same) fo rfl hq.1 (fun xs hxs => ?_)
  obtain ⟨R, xl⟩ := hr_ xs hxs
  obtain ⟨W1, T1, w1, S1⟩ := ww xs hxs
  obtain ⟨W2, T2, t2, S2⟩ := tt xs hxs
  refine Fits.of (F := ⟨wi, hi_, f, pm + 1 + num / 24 % 4⟩) S1 S2 R xl.symm (by omega) b1 wd rfl rfl rfl rfl rfl w1 hq.1 hq.2.1 (hq.2.2 T2 t2) (fun x hx2 => ?_)
  obtain ⟨k, hk, rfl⟩ := List.mem_iff_getElem.mp hx2
  have e := xAt_of (List.getElem?_eq_getElem hk)
  have l := ris_last R hk
  rw [e] at l
  obtain ⟨j, hj, ej⟩ := List.mem_iff_getElem.mp hxs
  have g := hx _ (List.mem_cons_of_mem _ (hg j xs hj (by rw [List.getElem?_eq_getElem hj, ej]) (fun z => by rw [z] at hk; exact absurd hk (Nat.not_lt_zero _))))
  show xs[k].1 < pm + 1 + num / 24 % 4
  omega
def mixed (c : Int) : Int := (c + 1) * 1357913579135791357 % 2305843009213693951
def sp_l_mixed : Sp := fun vs H Q _ => ∃ c : Int, vs = [.int c] ∧ Q (.int (mixed c)) H
theorem sc_l_mixed : FnScope ["cell"] ["cell"] (defScope s_l_mixed) := ⟨rfl, rfl, rfl, by decide +kernel, rfl, by decide +kernel, by decide +kernel⟩
theorem ok_l_mixed (T : Txt P w K mg a) : FnOk P w K mg base CX0 1 a.f_l_mixed a.fd_l_mixed ["cell"] sp_l_mixed := by
  refine T.d_l_mixed.fn.ok sc_l_mixed (fun vs H Q E h => ?_) (fun cdv A outer s H vs Q E hr h => ?_)
  · obtain ⟨c, rfl, _⟩ := h
    rfl
  obtain ⟨c, rfl, q⟩ := h
  have hu := Nat.lt_of_succ_lt (hu_of hr)
  refine ⟨_, (pss_one (ps_ret (pe_op op_mod (pe_op op_mul (pe_op op_add (pv 0) pe_int) pe_int) pe_int))), ?_⟩
  exact ⟨_, rfl, _, _, rfl, rfl, _, _, rfl, rfl, .inr ⟨by decide, by decide⟩, _, _, rfl, rfl, (by (first | decide | (show (0 : Int) < _; first | decide | omega))), q⟩
def sp_l_numbers (K : PySem.W.Frag) : Sp := fun vs H Q _ => ∃ (sa : Addr) (ns : List Int) (mo : Nat), vs = [.ref sa, .int (mo : Int)] ∧ SqL K H sa (ns.map V.int) ∧ mo ≤ 40 ∧ ∀ q (zs : List Int) H', Same H H' → H' q = some (.lst (zs.map V.int)) → zs.length ≤ 40 → Q (.ref q) H'
theorem sc_l_numbers : FnScope ["script", "most", "cells", "first", "many", "found", "k"] ["script", "most"] (defScope s_l_numbers) := ⟨rfl, rfl, rfl, by decide +kernel, rfl, by decide +kernel, by decide +kernel⟩
theorem ok_l_numbers (T : Txt P w K mg a) : FnOk P w K mg base CX0 2 a.f_l_numbers a.fd_l_numbers ["script", "most"] (sp_l_numbers K) := by
  have g_l_cell_at := ok_l_cell_at (P := P) (w := w) (base := base) T
  have d_l_cell_at := T.d_l_cell_at
  have g_l_mixed := ok_l_mixed (P := P) (w := w) (base := base) T
  have d_l_mixed := T.d_l_mixed
  have z_len := T.z_len
  have z_max := T.z_max
  have z_range := T.z_range
  refine T.d_l_numbers.fn.ok sc_l_numbers (fun vs H Q E h => ?_) (fun cdv A outer s H vs Q E hr h => ?_)
  · obtain ⟨sa, ns, mo, rfl, _⟩ := h
    rfl
  obtain ⟨sa, ns, mo, rfl, hS, m40, q⟩ := h
  have hu := Nat.lt_of_succ_lt (hu_of hr)
  refine ⟨_, (pss_cons (ps_set (i := 2) sc_l_numbers.nd rfl (Or.inl rfl) (pe_slice sl_list (pv 0) (po_some pe_int) (po_some (pe_op op_add (pv 1) pe_int))))
      (pss_cons (ps_set (i := 3) sc_l_numbers.nd rfl (Or.inl rfl) (pe_callD d_l_cell_at g_l_cell_at (hr.mono (by decide)) rfl (pa_cons (pv 0) (pa_cons pe_int pa_nil))))
      (pss_cons (ps_set (i := 4) sc_l_numbers.nd rfl (Or.inl rfl) (pe_callB (call_max2 rfl) rfl z_max PyProof.Rows.boot_max (pa_cons (pe_callB call_len_seq rfl z_len PySem.boot_len (pa_cons (pv 2) pa_nil)) (pa_cons (pe_op op_mod (pe_callD d_l_mixed g_l_mixed (hr.mono (by decide)) rfl (pa_cons (pv 3) pa_nil)) pe_int) pa_nil))))
      (pss_cons (ps_set (i := 5) sc_l_numbers.nd rfl (Or.inl rfl) (pe_lst pa_nil))
      (pss_cons (ps_for PassesOwn.never rfl (pi_range1 rfl z_range (pa_cons (pv 4) pa_nil)) (pg_name (i := 6) sc_l_numbers.nd rfl (Or.inl rfl)) (pss_one (ps_if (pt_cmpR op_lt (pv 6) (pe_callB call_len_seq rfl z_len PySem.boot_len (pa_cons (pv 2) pa_nil)) (nomark _)) (pss_one (ps_expr (pe_bm PySem.F.plainAttrs_list PySem.F.slot_list_append PySem.F.type_list_append mt_append (pv 5) (pa_cons (pe_callD d_l_mixed g_l_mixed (hr.mono (by decide)) rfl (pa_cons (pe_ix ix_list (pv 2) (pv 6) (fun _ _ => rfl)) pa_nil)) pa_nil)))) (pss_one (ps_expr (pe_bm PySem.F.plainAttrs_list PySem.F.slot_list_append PySem.F.type_list_append mt_append (pv 5) (pa_cons (pe_callD d_l_mixed g_l_mixed (hr.mono (by decide)) rfl (pa_cons (pe_op op_add (pe_op op_mul (pe_op op_mod (pv 3) pe_int) (pe_op op_add (pe_op op_add (pe_op op_mul (pv 6) (pv 6)) (pv 6)) pe_int)) (pv 6)) pa_nil)) pa_nil)))))))
      (pss_one (ps_ret (pv 5)))))))), ?_⟩
  refine ⟨_, rfl, _, rfl, _, rfl, _, _, rfl, rfl, _, rfl, _, _, rfl, hS, fun p1 hp1 => ?_⟩
  have c1 : cutV (ns.map V.int) (some 2) (some ((mo : Int) + 2)) = ((ns.drop 2).take mo).map V.int := by
    have := cut_nat ns 2 (mo + 2)
    rw [Nat.add_sub_cancel] at this
    rw [cutV_map, show (mo : Int) + 2 = ((mo + 2 : Nat) : Int) by omega]
    exact congrArg (List.map V.int) this
  have s1 := same_new hp1 (.lst (cutV (ns.map V.int) (some 2) (some ((mo : Int) + 2))))
  have h1 : (upd H p1 (.lst (cutV (ns.map V.int) (some 2) (some ((mo : Int) + 2))))) p1 = some (.lst (((ns.drop 2).take mo).map V.int)) := by rw [upd_same, c1]
  generalize upd H p1 (.lst (cutV (ns.map V.int) (some 2) (some ((mo : Int) + 2)))) = H1 at s1 h1 ⊢
  dsimp only [gName]
  have cl : ((ns.drop 2).take mo).length ≤ 40 := by rw [List.length_take]; omega
  generalize (ns.drop 2).take mo = cs at h1 cl
  refine ⟨_, rfl, sa, ns, (0 : Nat), rfl, s1.seq hS, ?_⟩
  dsimp only [gName]
  generalize ns.getD 0 0 = fi
  refine ⟨_, rfl, _, _, rfl, .inl (SqL.of h1), _, rfl, _, rfl, _, _, rfl, rfl, (by (first | decide | (show (0 : Int) < _; first | decide | omega))), _, _, rfl, ?_⟩
  dsimp only [gName]
  have m0 := Int.emod_nonneg (mixed fi) (show (25 : Int) ≠ 0 by decide)
  have m1 := Int.emod_lt_of_pos (mixed fi) (show (0 : Int) < 25 by decide)
  generalize mixed fi % 25 = mi at m0 m1 ⊢
  rw [List.length_map]
  have e0 : 0 ≤ (if mi > (cs.length : Int) then mi else (cs.length : Int)) ∧ (if mi > (cs.length : Int) then mi else (cs.length : Int)) ≤ 40 := by split <;> omega
  generalize (if mi > (cs.length : Int) then mi else (cs.length : Int)) = ma at e0 ⊢
  refine ⟨Nat.zero_le _, fun r hr => ?_⟩
  have s2 := same_new hr (.lst [])
  have hr2 : (upd H1 r (.lst [])) r = some (.lst []) := upd_same
  generalize upd H1 r (.lst []) = H2 at s2 hr2 ⊢
  dsimp only [gName]
  refine ⟨_, rfl, _, rfl, (by omega), (by omega), for_range (fun i σ H3 => Same H1 H3 ∧ ∃ (zs : List Int) (v : Option V), σ = [some (.ref sa), some (.int (mo : Int)), some (.ref p1), some (.int fi), some (.int ma), some (.ref r), v] ∧ zs.length = i ∧ H3 r = some (.lst (zs.map V.int))) ⟨s2, [], none, rfl, rfl, hr2⟩ ?_ ?_⟩
  · rintro i σ H3 hi ⟨s3, zs, v, rfl, zl, h3⟩
    have hi : i < 40 := by simp at hi; omega
    have fin : ∀ y : Int, (zs.map V.int).length < sizeLine ∧ (Same H1 (upd H3 r (.lst (zs.map V.int ++ [V.int y]))) ∧ ∃ (zs' : List Int) (v' : Option V), [some (V.ref sa), some (V.int (mo : Int)), some (V.ref p1), some (V.int fi), some (V.int ma), some (V.ref r), some (V.int (0 + (i : Int)))] = [some (.ref sa), some (.int (mo : Int)), some (.ref p1), some (.int fi), some (.int ma), some (.ref r), v'] ∧ zs'.length = i + 1 ∧ (upd H3 r (.lst (zs.map V.int ++ [V.int y]))) r = some (.lst (zs'.map V.int))) := fun y =>
      ⟨by rw [List.length_map, zl]; exact Nat.lt_of_lt_of_le (show i < 1000 by omega) (small (Nat.le_refl _)), s3.put hr, zs ++ [y], _, rfl, by simp [zl], by rw [upd_same, map_snoc]⟩
    refine ⟨_, rfl, _, rfl, _, _, rfl, .inl (SqL.of (s3 _ _ h1)), _, _, rfl, rfl, _, rfl, ?_⟩
    rw [List.length_map]
    refine ite2 (fun c => ?_) (fun c => ?_)
    · have c' : i < cs.length := by have := of_decide_eq_true c; omega
      obtain ⟨y, hy⟩ : ∃ y, atI (cs.map V.int) (0 + (i : Int)) = some (V.int y) := ⟨cs[i], by rw [Int.zero_add]; exact atI_nat (by rw [List.getElem?_map, List.getElem?_eq_getElem c']; rfl)⟩
      exact ⟨_, rfl, .inl ⟨rfl, _, SqL.of h3⟩, _, rfl, _, rfl, _, _, _, _, rfl, rfl, SqL.of (s3 _ _ h1), hy, _, rfl, _, _, _, rfl, rfl, h3, fin _⟩
    · have f0 := Int.emod_nonneg fi (show (1000003 : Int) ≠ 0 by decide)
      have f1 := Int.emod_lt_of_pos fi (show (0 : Int) < 1000003 by decide)
      exact ⟨_, rfl, .inl ⟨rfl, _, SqL.of h3⟩, _, rfl, _, _, rfl, rfl, (by (first | decide | (show (0 : Int) < _; first | decide | omega))), _, rfl, _, rfl, _, _, rfl, rfl, .inl ⟨by omega, by omega⟩, _, rfl, _, _, rfl, rfl, _, _, rfl, rfl, _, _, rfl, rfl, .inl ⟨by omega, by omega⟩, _, rfl, _, _, rfl, rfl, _, rfl, _, _, _, rfl, rfl, h3, fin _⟩
  · rintro σ H3 ⟨s3, zs, v, rfl, zl, h3⟩
    exact ⟨_, rfl, q r zs H3 (s1.trans s3) h3 (by omega)⟩
theorem csome : (PySem.Str.ofString "!\"#$&'()*+,-./0123456789:;<=>?@ABCDEFGHIJKLMNOPQRSTUVWXYZ[\\]^_") ++ (PySem.Str.ofString "`abcdefghijklmnopqrstuvwxyz{|}~") = tx sgns := by decide +kernel
theorem lsome : (PySem.Str.ofString "!\"#$&'()*+,-./0123456789:;<=>?@ABCDEFGHIJKLMNOPQRSTUVWXYZ[\\]^_").length + (PySem.Str.ofString "`abcdefghijklmnopqrstuvwxyz{|}~").length ≤ 1000 := by decide +kernel
theorem ce : (PySem.Str.ofString "") = tx [] := by decide +kernel
theorem at_sgn (k : Int) : ∃ c, atI (tx sgns).cps.toList (k % 93) = some c ∧ 33 ≤ c ∧ c < 127 := by
  have b1 := Int.emod_nonneg k (show (93 : Int) ≠ 0 by decide)
  have b2 := Int.emod_lt_of_pos k (show (0 : Int) < 93 by decide)
  obtain ⟨d, hd⟩ := Int.eq_ofNat_of_zero_le b1
  rw [hd]
  have hd2 : d < 93 := by omega
  have hl : d < sgns.length := hd2
  refine ⟨sgns.getD d 0, ?_, sgn_in d hd2⟩
  refine atI_nat ?_
  show (sgns.toArray.toList)[d]? = _
  rw [List.getD_eq_getElem?_getD, List.getElem?_eq_getElem hl]
  rfl
def sp_l_signs : Sp := fun vs H Q _ => ∃ n size : Int, vs = [.int n, .int size] ∧ 1 ≤ size ∧ size ≤ 60 ∧ ∀ (l : List Nat) (H' : Hp), Same H H' → 1 ≤ l.length → l.length ≤ 60 → (∀ c ∈ l, 33 ≤ c ∧ c < 127) → Q (.str (tx l)) H'
theorem sc_l_signs : FnScope ["number", "size", "some", "step"] ["number", "size"] (defScope s_l_signs) := ⟨rfl, rfl, rfl, by decide +kernel, rfl, by decide +kernel, by decide +kernel⟩
theorem ok_l_signs (T : Txt P w K mg a) : FnOk P w K mg base CX0 1 a.f_l_signs a.fd_l_signs ["number", "size"] sp_l_signs := by
  have z_range := T.z_range
  refine T.d_l_signs.fn.ok sc_l_signs (fun vs H Q E h => ?_) (fun cdv A outer s H vs Q E hr h => ?_)
  · obtain ⟨n, size, rfl, _⟩ := h
    rfl
  obtain ⟨n, size, rfl, z1, z2, q⟩ := h
  have hu := Nat.lt_of_succ_lt (hu_of hr)
  refine ⟨_, (pss_cons (ps_set (i := 2) sc_l_signs.nd rfl (Or.inr rfl) pe_str)
      (pss_cons (ps_set (i := 2) sc_l_signs.nd rfl (Or.inr rfl) (pe_op op_add_str (pv 2) pe_str))
      (pss_cons (ps_set (i := 3) sc_l_signs.nd rfl (Or.inr rfl) (pe_op op_add pe_int (pe_op op_mod (pe_op op_fdiv (pv 0) pe_int) pe_int)))
      (pss_one (ps_ret (pe_bm PySem.F.plainAttrs_str PySem.F.slot_str_join PySem.F.type_str_join mt_join pe_str (pa_cons (pe_lc rfl (lcok (caps := ["number", "some", "step"]) (js := [0, 2, 3]) (cap := ⟨⟨rfl, .inl rfl, rfl, .inl rfl⟩, ⟨⟨rfl, .inl rfl, rfl, .inl rfl⟩, ⟨⟨rfl, .inl rfl, rfl, .inl rfl⟩, trivial⟩⟩⟩)) (pi_range1 rfl z_range (pa_cons (pv 1) pa_nil)) (fun _ _ _ _ => pts_nil) (fun _ _ _ _ => (pe_ix ix_str (pv 2) (pe_op op_mod (pe_op op_add (pv 1) (pe_op op_mul (pv 0) (pv 3))) pe_int) (fun _ _ => rfl)))) pa_nil))))))), ?_⟩
  refine ⟨_, rfl, _, _, rfl, rfl, small lsome, ?_⟩
  rw [csome]
  refine ⟨_, rfl, _, _, rfl, rfl, ⟨by decide, by decide⟩, _, _, rfl, rfl, (by (first | decide | (show (0 : Int) < _; first | decide | omega))), _, _, rfl, rfl, ?_⟩
  have b1 := Int.emod_nonneg (n / 93) (show (92 : Int) ≠ 0 by decide)
  have b2 := Int.emod_lt_of_pos (n / 93) (show (0 : Int) < 92 by decide)
  obtain ⟨k, hk⟩ := Int.eq_ofNat_of_zero_le (show 0 ≤ size by omega)
  subst hk
  refine ⟨rfl, _, rfl, _, rfl, (by omega), (by omega), lc_range (fun i ys H' => H' = H ∧ ∃ cs : List Nat, cs.length = i ∧ (∀ d ∈ cs, 33 ≤ d ∧ d < 127) ∧ ys = cs.map fun d => V.str (tx [d])) ⟨rfl, [], rfl, by simp, rfl⟩ ?_ ?_ ?_⟩
  · rintro i ys H' hi ⟨_, cs, hl, _, rfl⟩
    rw [List.length_map, hl]
    exact Nat.lt_of_lt_of_le (show i < 1000 by simp at hi; omega) (small (Nat.le_refl _))
  · rintro i ys H' hi ⟨rfl, cs, hl, hd, rfl⟩
    refine yes_go ?_
    have hi' : i < 60 := by simp at hi; omega
    obtain ⟨c, ec, hc⟩ := at_sgn (n + (0 + (i : Int)) * (1 + n / 93 % 92))
    refine ⟨_, rfl, _, rfl, _, rfl, _, rfl, _, _, rfl, rfl, .inl ⟨by omega, by omega⟩, _, _, rfl, rfl, _, _, rfl, rfl, (by (first | decide | (show (0 : Int) < _; first | decide | omega))), _, _, _, rfl, rfl, small (by rw [tx_len]; decide), ec, rfl, cs ++ [c], by simp [hl], ?_, by simp⟩
    intro e he
    rcases List.mem_append.mp he with he | he
    · exact hd e he
    · rw [List.mem_singleton.mp he]; exact hc
  · rintro ys H' ⟨rfl, cs, hl, hd, rfl⟩ p hp
    have hl' : cs.length = k := by rw [hl]; simp
    have g1 : Same H' (upd H' p (.lst (cs.map fun d => V.str (tx [d])))) := same_new hp _
    refine ⟨_, p, cs.map (fun d => tx [d]), rfl, rfl, SqL.of (by rw [upd_same, List.map_map]; rfl), by decide, by rw [sum_one, List.length_map]; omega, ?_⟩
    have ej : Txt.join (PySem.Str.ofString "") (cs.map fun d => tx [d]) = tx cs := by
      have := join_tx [] (cs.map fun d => [d])
      rw [List.map_map, join_one] at this
      rw [ce]
      exact this
    rw [ej]
    exact q _ _ g1 (by omega) (by omega) hd
def sp_l_some (K : PySem.W.Frag) : Sp := fun vs H Q _ => ∃ (n : Int) (many : Nat) (big : Bool), vs = [.int n, .int (many : Int), .bl big] ∧ 1 ≤ many ∧ ∀ q s H', Same H H' → SqT K H' q (sayV s) → SayOk many s → Q (.ref q) H'
theorem sc_l_some : FnScope ["number", "many", "big", "kind", "size"] ["number", "many", "big"] (defScope s_l_some) := ⟨rfl, rfl, rfl, by decide +kernel, rfl, by decide +kernel, by decide +kernel⟩
theorem ok_l_some (T : Txt P w K mg a) : FnOk P w K mg base CX0 2 a.f_l_some a.fd_l_some ["number", "many", "big"] (sp_l_some K) := by
  have g_l_signs := ok_l_signs (P := P) (w := w) (base := base) T
  have d_l_signs := T.d_l_signs
  refine T.d_l_some.fn.ok sc_l_some (fun vs H Q E h => ?_) (fun cdv A outer s H vs Q E hr h => ?_)
  · obtain ⟨n, many, big, rfl, _⟩ := h
    rfl
  obtain ⟨n, many, big, rfl, m1, q⟩ := h
  have hu := Nat.lt_of_succ_lt (hu_of hr)
  refine ⟨_, (pss_cons (ps_set (i := 3) sc_l_some.nd rfl (Or.inl rfl) (pe_op op_mod (pv 0) pe_int))
      (pss_cons (ps_set (i := 0) sc_l_some.nd rfl (Or.inl rfl) (pe_op op_fdiv (pv 0) pe_int))
      (pss_cons (ps_if (pt_cmpR op_eq (pv 3) pe_int (nomark _)) (pss_one (ps_ret (pe_tup (pa_cons pe_str (pa_cons (pe_op op_mod (pv 0) (pv 1)) pa_nil))))) pss_nil)
      (pss_cons (ps_if (pt_cmpR op_eq (pv 3) pe_int (nomark _)) (pss_one (ps_ret (pe_tup (pa_cons pe_str (pa_cons (pe_op op_mod (pv 0) (pv 1)) pa_nil))))) pss_nil)
      (pss_cons (ps_set (i := 4) sc_l_some.nd rfl (Or.inl rfl) (pe_op op_add pe_int (pe_op op_mod (pv 0) pe_int)))
      (pss_cons (ps_if (PW.pt (pw_and (pt_val (pv 2) (fun _ => rfl)) (pw_and1 (pt_cmpR op_eq (pe_op op_mod (pe_op op_fdiv (pv 0) pe_int) pe_int) pe_int (nomark _))))) (pss_one (ps_set (i := 4) sc_l_some.nd rfl (Or.inl rfl) (pe_op op_add pe_int (pe_op op_mod (pe_op op_fdiv (pv 0) pe_int) pe_int)))) pss_nil)
      (pss_one (ps_ret (pe_tup (pa_cons pe_str (pa_cons (pe_callD d_l_signs g_l_signs (hr.mono (by decide)) rfl (pa_cons (pe_op op_fdiv (pv 0) pe_int) (pa_cons (pv 4) pa_nil))) pa_nil))))))))))), ?_⟩
  have mp : (0 : Int) < (many : Int) := by omega
  refine ⟨_, rfl, _, _, rfl, rfl, (by (first | decide | (show (0 : Int) < _; first | decide | omega))), ?_⟩
  dsimp only [gName]
  refine ⟨_, rfl, _, _, rfl, rfl, ⟨by decide, by decide⟩, ?_⟩
  dsimp only [gName]
  generalize n / 4 = n4
  have pick : ∃ z : Nat, n4 % (many : Int) = (z : Int) ∧ z < many := by
    have a0 := Int.emod_nonneg n4 (show (many : Int) ≠ 0 by omega)
    have a1 := Int.emod_lt_of_pos n4 mp
    exact ⟨(n4 % (many : Int)).toNat, by omega, by omega⟩
  obtain ⟨z, ez, hz⟩ := pick
  refine ⟨_, rfl, rfl, _, rfl, ?_⟩
  refine ite2 (fun c => ?_) (fun c => ?_)
  · refine ⟨_, rfl, _, rfl, _, _, rfl, rfl, mp, le2, fun p hp => ?_⟩
    exact q p (.page z) _ (same_new hp _) (SqT.of (by rw [upd_same]; show some (HO.tup [V.str (PySem.Str.ofString "page"), V.int (n4 % (many : Int))]) = _; rw [ez]; rfl)) hz
  dsimp only [tNext]
  refine ⟨_, rfl, rfl, _, rfl, ?_⟩
  refine ite2 (fun c => ?_) (fun c => ?_)
  · refine ⟨_, rfl, _, rfl, _, _, rfl, rfl, mp, le2, fun p hp => ?_⟩
    exact q p (.row z) _ (same_new hp _) (SqT.of (by rw [upd_same]; show some (HO.tup [V.str (PySem.Str.ofString "row"), V.int (n4 % (many : Int))]) = _; rw [ez]; rfl)) hz
  dsimp only [tNext]
  refine ⟨_, rfl, _, _, rfl, rfl, (by (first | decide | (show (0 : Int) < _; first | decide | omega))), _, _, rfl, rfl, ?_⟩
  dsimp only [gName]
  refine cut_seq (fun σ' H' => H' = H ∧ ∃ sz : Int, σ' = [some (.int n4), some (.int (many : Int)), some (.bl big), some (.int (n % 4)), some (.int sz)] ∧ 1 ≤ sz ∧ sz ≤ 60) ?_ (fun key => ?_)
  rotate_left
  · have stay := key [some (V.int n4), some (V.int (many : Int)), some (V.bl big), some (V.int (n % 4)), some (V.int (1 + n4 % 12))] H ⟨rfl, _, rfl, by omega, by omega⟩
    refine ⟨_, rfl, _, rfl, ?_⟩
    cases big with
    | false => exact andG (fun _ => stay) (fun z => absurd z (by decide))
    | true =>
      refine andG (fun z => absurd rfl z) (fun _ => ?_)
      refine ⟨_, rfl, _, _, rfl, rfl, ⟨by decide, by decide⟩, _, _, rfl, rfl, (by (first | decide | (show (0 : Int) < _; first | decide | omega))), rfl, _, rfl, ?_⟩
      refine ite2 (fun c => ?_) (fun c => stay)
      refine ⟨_, rfl, _, _, rfl, rfl, ⟨by decide, by decide⟩, _, _, rfl, rfl, (by (first | decide | (show (0 : Int) < _; first | decide | omega))), _, _, rfl, rfl, ?_⟩
      exact key _ _ ⟨rfl, _, rfl, by omega, by omega⟩
  rintro σ' H' ⟨rfl, sz, rfl, z1, z2⟩
  refine ⟨_, rfl, _, _, rfl, rfl, ⟨by decide, by decide⟩, _, rfl, _, sz, rfl, z1, z2, fun l H2 s2 l1 l2 l3 => ?_⟩
  refine ⟨le2, fun p hp => ?_⟩
  exact q p (.text l) _ (s2.trans (same_new hp _)) (SqT.of upd_same) ⟨l1, l2, l3⟩
theorem feet_snoc (ds : List Wd) (d : Wd) : feetN (ds ++ [d]) = feetN ds + (d.foot.length : Int) := by
  unfold feetN
  rw [List.map_append, List.sum_append]
  simp
theorem pick8 (n : Int) : ∃ c : Nat, atI [V.int 0, V.int 0, V.int 0, V.int 0, V.int 0, V.int 1, V.int 2, V.int 4] (n % 8) = some (V.int (c : Int)) ∧ c ≤ 4 := by
  have h : n % 8 = 0 ∨ n % 8 = 1 ∨ n % 8 = 2 ∨ n % 8 = 3 ∨ n % 8 = 4 ∨ n % 8 = 5 ∨ n % 8 = 6 ∨ n % 8 = 7 := by omega
  rcases h with h | h | h | h | h | h | h | h <;> rw [h]
  · exact ⟨0, rfl, by decide⟩
  · exact ⟨0, rfl, by decide⟩
  · exact ⟨0, rfl, by decide⟩
  · exact ⟨0, rfl, by decide⟩
  · exact ⟨0, rfl, by decide⟩
  · exact ⟨1, rfl, by decide⟩
  · exact ⟨2, rfl, by decide⟩
  · exact ⟨4, rfl, by decide⟩
def sp_l_parts (K : PySem.W.Frag) : Sp := fun vs H Q _ => ∃ (na : Addr) (zs : List Int) (big : Bool), vs = [.ref na, .bl big] ∧ SqL K H na (zs.map V.int) ∧ zs.length ≤ 40 ∧ ∀ q (as : List Addr) (ds : List Wd) H', Same H H' → H' q = some (.lst (as.map V.ref)) → PtsA K H' as ds → ds.length = zs.length → (∀ d ∈ ds, WdOk ds.length d) → feetN ds ≤ 40 → Q (.ref q) H'
theorem sc_l_parts : FnScope ["numbers", "big", "left", "parts", "number", "many", "own", "foot"] ["numbers", "big"] (defScope s_l_parts) := ⟨rfl, rfl, rfl, by decide +kernel, rfl, by decide +kernel, by decide +kernel⟩
theorem ok_l_parts (T : Txt P w K mg a) : FnOk P w K mg base CX0 3 a.f_l_parts a.fd_l_parts ["numbers", "big"] (sp_l_parts K) := by
  have g_l_mixed := ok_l_mixed (P := P) (w := w) (base := base) T
  have d_l_mixed := T.d_l_mixed
  have g_l_some := ok_l_some (P := P) (w := w) (base := base) T
  have d_l_some := T.d_l_some
  have z_len := T.z_len
  have z_min := T.z_min
  have z_range := T.z_range
  refine T.d_l_parts.fn.ok sc_l_parts (fun vs H Q E h => ?_) (fun cdv A outer s H vs Q E hr h => ?_)
  · obtain ⟨na, zs, big, rfl, _⟩ := h
    rfl
  obtain ⟨na, zs, big, rfl, hn, z40, q⟩ := h
  have hu := Nat.lt_of_succ_lt (hu_of hr)
  refine ⟨_, (pss_cons (ps_set (i := 2) sc_l_parts.nd rfl (Or.inl rfl) pe_int)
      (pss_cons (ps_set (i := 3) sc_l_parts.nd rfl (Or.inl rfl) (pe_lst pa_nil))
      (pss_cons (ps_for PassesOwn.never rfl (pi_list (pv 0)) (pg_name (i := 4) sc_l_parts.nd rfl (Or.inr rfl)) (pss_cons (ps_set (i := 4) sc_l_parts.nd rfl (Or.inr rfl) (pe_op op_fdiv (pv 4) pe_int))
      (pss_cons (ps_set (i := 5) sc_l_parts.nd rfl (Or.inl rfl) (pe_callB (call_min2 rfl) rfl z_min PyProof.Rows.boot_min (pa_cons (pv 2) (pa_cons (pe_ix ix_list (pe_lst (pa_cl (CL.int (CL.int (CL.int (CL.int (CL.int (CL.int (CL.int (CL.int CL.nil)))))))))) (pe_op op_mod (pv 4) pe_int) (fun _ _ => rfl)) pa_nil))))
      (pss_cons (ps_set (i := 2) sc_l_parts.nd rfl (Or.inl rfl) (pe_op op_sub (pv 2) (pv 5)))
      (pss_cons (ps_set (i := 6) sc_l_parts.nd rfl (Or.inl rfl) (pe_callD d_l_some g_l_some (hr.mono (by decide)) rfl (pa_cons (pe_op op_fdiv (pv 4) pe_int) (pa_cons (pe_callB call_len_seq rfl z_len PySem.boot_len (pa_cons (pv 0) pa_nil)) (pa_cons (pv 1) pa_nil)))))
      (pss_cons (ps_lc (k := 7) rfl (lcok (caps := ["numbers", "big", "number"]) (js := [0, 1, 4]) (cap := ⟨⟨rfl, .inl rfl, rfl, .inl rfl⟩, ⟨⟨rfl, .inl rfl, rfl, .inl rfl⟩, ⟨⟨rfl, .inl rfl, rfl, .inl rfl⟩, trivial⟩⟩⟩)) (pi_range1 rfl z_range (pa_cons (pv 5) pa_nil)) (fun _ _ _ _ => pts_nil) (fun _ _ _ _ => (pe_callD d_l_some g_l_some (hr.mono (by decide)) rfl (pa_cons (pe_callD d_l_mixed g_l_mixed (hr.mono (by decide)) rfl (pa_cons (pe_op op_mul (pv 3) (pe_op op_add (pe_op op_add (pe_op op_mul (pv 0) (pv 0)) (pe_op op_mul pe_int (pv 0))) pe_int)) pa_nil)) (pa_cons (pe_callB (r := rLen K) call_len_seq rfl z_len PySem.boot_len (pa_cons (pv 1) pa_nil)) (pa_cons (pv 2) pa_nil))))) sc_l_parts.nd rfl rfl)
      (pss_one (ps_expr (pe_bm PySem.F.plainAttrs_list PySem.F.slot_list_append PySem.F.type_list_append mt_append (pv 3) (pa_cons (pe_tup (pa_cons (pv 6) (pa_cons (pv 7) pa_nil))) pa_nil))))))))))
      (pss_one (ps_ret (pv 3)))))), ?_⟩
  have ez : (zs.map V.int).length = zs.length := List.length_map _
  refine ⟨Nat.zero_le _, fun r hr => ?_⟩
  have s1 := same_new hr (.lst [])
  have hr1 : (upd H r (.lst [])) r = some (.lst []) := upd_same
  generalize upd H r (.lst []) = H1 at s1 hr1 ⊢
  dsimp only [gName]
  refine ⟨_, rfl, _, rfl, ⟨_, s1.seq hn⟩, for_list (K := K) (a := na) (xs := zs.map V.int) (fun i σ H2 => Same H H2 ∧ ∃ (as : List Addr) (ds : List Wd) (left : Int) (v1 v2 v3 v4 : Option V), σ = [some (.ref na), some (.bl big), some (.int left), some (.ref r), v1, v2, v3, v4] ∧ H2 r = some (.lst (as.map V.ref)) ∧ PtsA K (er1 H2 r) as ds ∧ ds.length = i ∧ (∀ d ∈ ds, WdOk zs.length d) ∧ 0 ≤ left ∧ left + feetN ds ≤ 40) ⟨s1, [], [], 40, none, none, none, none, rfl, hr1, PtsA.nil, rfl, (fun d hd => (by cases hd)), (by decide), (by decide)⟩ (fun i σ H2 _ h2 => h2.1.seq hn) ?_ ?_⟩
  rotate_left
  · rintro σ H2 ⟨s2, as, ds, left, v1, v2, v3, v4, rfl, hr2, pa, dl, wd, l0, l1⟩
    rw [ez] at dl
    exact ⟨_, rfl, q r as ds H2 s2 hr2 (pa.same (er1_same H2 r)) dl (by rw [dl]; exact wd) (by omega)⟩
  rintro i y σ H2 hi ⟨s2, as, ds, left, v1, v2, v3, v4, rfl, hr2, pa, dl, wd, l0, l1⟩
  obtain ⟨c, rfl, ec⟩ := ints_at hi
  have hiz : i < zs.length := (List.getElem?_eq_some_iff.mp ec).1
  refine ⟨_, rfl, _, _, rfl, rfl, ⟨by decide, by decide⟩, ?_⟩
  dsimp only [gName]
  have n0 : True := trivial
  generalize c / 82944 = nu
  refine ⟨_, rfl, small (by decide), fun p2 hp2 => ?_⟩
  have s3 := same_new hp2 (.lst [V.int 0, V.int 0, V.int 0, V.int 0, V.int 0, V.int 1, V.int 2, V.int 4])
  have h3 : (upd H2 p2 (.lst [V.int 0, V.int 0, V.int 0, V.int 0, V.int 0, V.int 1, V.int 2, V.int 4])) p2 = some (.lst [V.int 0, V.int 0, V.int 0, V.int 0, V.int 0, V.int 1, V.int 2, V.int 4]) := upd_same
  generalize upd H2 p2 (.lst [V.int 0, V.int 0, V.int 0, V.int 0, V.int 0, V.int 1, V.int 2, V.int 4]) = H3 at s3 h3 ⊢
  obtain ⟨c8, e8, l8⟩ := pick8 nu
  refine ⟨_, rfl, _, _, rfl, rfl, (by (first | decide | (show (0 : Int) < _; first | decide | omega))), _, _, _, _, rfl, rfl, SqL.of h3, e8, _, _, rfl, ?_⟩
  dsimp only [gName]
  have mb : 0 ≤ (if (c8 : Int) < left then (c8 : Int) else left) ∧ (if (c8 : Int) < left then (c8 : Int) else left) ≤ 4 ∧ (if (c8 : Int) < left then (c8 : Int) else left) ≤ left := by split <;> omega
  generalize (if (c8 : Int) < left then (c8 : Int) else left) = my at mb ⊢
  obtain ⟨mm, rfl⟩ := Int.eq_ofNat_of_zero_le mb.1
  refine ⟨_, rfl, _, rfl, _, _, rfl, rfl, ?_⟩
  dsimp only [gName]
  have t3 := s2.trans s3
  refine ⟨_, rfl, _, _, rfl, rfl, ⟨by decide, by decide⟩, _, rfl, _, _, rfl, .inl (t3.seq hn), _, rfl, nu / 8, zs.length, big, (by rw [ez]; rfl), (by omega), fun so sy H4 s4 hso sok => ?_⟩
  dsimp only [gName]
  have t4 := t3.trans s4
  have hr4 := (s3.trans s4) _ _ hr2
  refine ⟨_, rfl, _, rfl, (by omega), (by omega), ?_⟩
  refine lc_range (fun k ys H5 => Same H4 H5 ∧ ∃ (bs : List Addr) (ss : List Say), ss.length = k ∧ ys = bs.map V.ref ∧ SaysA K H5 bs ss ∧ ∀ s ∈ ss, SayOk zs.length s) ⟨Same.refl _, [], [], rfl, rfl, SaysA.nil, fun s hs => (by cases hs)⟩ ?_ ?_ ?_
  · rintro k ys H5 hk ⟨_, bs, ss, sl, rfl, hb, _⟩
    rw [List.length_map, hb.1, sl]
    exact Nat.lt_of_lt_of_le (show k < 1000 by simp at hk; omega) (small (Nat.le_refl _))
  · rintro k ys H5 hk ⟨s5, bs, ss, sl, rfl, hb, so5⟩
    have hk : k < 4 := by simp at hk; omega
    have kk : (0 + (k : Int)) * (0 + (k : Int)) ≤ 16 := by
      have : k = 0 ∨ k = 1 ∨ k = 2 ∨ k = 3 := by omega
      rcases this with rfl | rfl | rfl | rfl <;> decide
    have kk0 : 0 ≤ (0 + (k : Int)) * (0 + (k : Int)) := Int.mul_nonneg (by omega) (by omega)
    refine yes_go ?_
    refine ⟨_, rfl, _, rfl, _, rfl, _, _, rfl, rfl, .inl ⟨by omega, by omega⟩, _, rfl, _, _, rfl, rfl, .inl ⟨by decide, by decide⟩, _, _, rfl, rfl, _, _, rfl, rfl, _, _, rfl, rfl, .inr ⟨by omega, by omega⟩, _, rfl, _, rfl, _, _, rfl, .inl ((t4.trans s5).seq hn), _, rfl, mixed (nu * ((0 + (k : Int)) * (0 + (k : Int)) + 3 * (0 + (k : Int)) + 3)), zs.length, big, (by rw [ez]; rfl), (by omega), fun q6 s6' H6 s6 hq6 ok6 => ?_⟩
    refine ⟨s5.trans s6, bs ++ [q6], ss ++ [s6'], by simp [sl], refs_snoc _ _, (hb.same s6).app (SaysA.one hq6), fun s hs => ?_⟩
    rcases List.mem_append.mp hs with hs | hs
    · exact so5 s hs
    · rw [List.mem_singleton.mp hs]; exact ok6
  rintro ys H5 ⟨s5, bs, ss, sl, rfl, hb, so5⟩ fo hfo
  simp only [Int.toNat_natCast] at sl
  have s6 := same_new hfo (.lst (bs.map V.ref))
  have hf6 : (upd H5 fo (.lst (bs.map V.ref))) fo = some (.lst (bs.map V.ref)) := upd_same
  have nfo : fo ≠ r := fun z => by rw [z] at hfo; rw [s5 _ _ hr4] at hfo; cases hfo
  generalize upd H5 fo (.lst (bs.map V.ref)) = H6 at s6 hf6 ⊢
  dsimp only [gName]
  have t6 := t4.trans (s5.trans s6)
  have hr6 := (s5.trans s6) _ _ hr4
  refine ⟨_, rfl, .inl ⟨rfl, _, SqL.of hr6⟩, _, rfl, _, rfl, le2, fun p3 hp3 => ?_⟩
  have s7 := same_new hp3 (.tup [V.ref so, V.ref fo])
  have h7 : SqT K (upd H6 p3 (.tup [V.ref so, V.ref fo])) p3 [V.ref so, V.ref fo] := SqT.of upd_same
  generalize upd H6 p3 (.tup [V.ref so, V.ref fo]) = H7 at s7 h7 ⊢
  have hr7 := s7 _ _ hr6
  have u7 := s3.trans (s4.trans (s5.trans (s6.trans s7)))
  refine ⟨_, _, _, rfl, rfl, hr7, ?_, ?_⟩
  · rw [List.length_map, pa.1, dl]
    exact Nat.lt_of_lt_of_le (show i < 1000 by omega) (small (Nat.le_refl _))
  refine ⟨(t6.trans s7).put hr, as ++ [p3], ds ++ [⟨0, false, sy, ss⟩], _, _, _, _, _, rfl, by rw [upd_same, refs_snoc], ?_, by simp [dl], fun d hd => ?_, by omega, ?_⟩
  · rw [er1_put]
    exact (pa.same (er1_mono u7)).snoc ⟨so, fo, bs, er1_tup hr7 h7, er1_tup hr7 ((s5.trans (s6.trans s7)).tup hso), SqL.of (by rw [er1_at nfo]; exact s7 _ _ hf6), ⟨hb.1, fun j b s e1 e2 => er1_tup hr7 ((s6.trans s7).tup (hb.2 j b s e1 e2))⟩⟩
  · rcases List.mem_append.mp hd with hd | hd
    · exact wd d hd
    · rw [List.mem_singleton.mp hd]
      exact ⟨by show (0 : Int) ≤ 0; decide, by show (0 : Int) ≤ 4; decide, sok, so5, by show ss.length ≤ 40; omega⟩
  · rw [feet_snoc]
    show left - (mm : Int) + (feetN ds + (ss.length : Int)) ≤ 40
    omega
def sp_l_rising (K : PySem.W.Frag) : Sp := fun vs H Q _ => ∃ (na : Addr) (zs : List Int) (b ro : Int), vs = [.ref na, .int b, .int ro] ∧ SqL K H na (zs.map V.int) ∧ 1 ≤ b ∧ b ≤ 6 ∧ zs.length ≤ 40 ∧ ∀ q (as : List Addr) (xs : List (Int × Int)) H', Same H H' → H q = none → H' q = some (.lst (as.map V.ref)) → PlsA K H' as xs → xs.length = zs.length → Ris b xs → Q (.ref q) H'
theorem sc_l_rising : FnScope ["numbers", "base", "room", "found", "page", "row", "count", "k", "number", "old", "step", "far"] ["numbers", "base", "room"] (defScope s_l_rising) := ⟨rfl, rfl, rfl, by decide +kernel, rfl, by decide +kernel, by decide +kernel⟩
theorem ok_l_rising (T : Txt P w K mg a) : FnOk P w K mg base CX0 1 a.f_l_rising a.fd_l_rising ["numbers", "base", "room"] (sp_l_rising K) := by
  have z_enumerate := T.z_enumerate
  have z_int := T.z_int
  refine T.d_l_rising.fn.ok sc_l_rising (fun vs H Q E h => ?_) (fun cdv A outer s H vs Q E hr h => ?_)
  · obtain ⟨na, zs, b, ro, rfl, _⟩ := h
    rfl
  obtain ⟨na, zs, b, ro, rfl, hn, b1, b6, z40, q⟩ := h
  have hu := Nat.lt_of_succ_lt (hu_of hr)
  refine ⟨_, (pss_cons (ps_set (i := 3) sc_l_rising.nd rfl (Or.inl rfl) (pe_lst pa_nil))
      (pss_cons (ps_set (i := 4) sc_l_rising.nd rfl (Or.inl rfl) pe_int)
      (pss_cons (ps_set (i := 5) sc_l_rising.nd rfl (Or.inl rfl) pe_int)
      (pss_cons (ps_set (i := 6) sc_l_rising.nd rfl (Or.inl rfl) pe_int)
      (pss_cons (ps_for PassesOwn.never rfl (pi_enum rfl z_enumerate (pv 0)) (pg_tup rfl (pgs_cons (pg_name (i := 7) sc_l_rising.nd rfl (Or.inl rfl)) (pgs_cons (pg_name (i := 8) sc_l_rising.nd rfl (Or.inl rfl)) pgs_nil))) (pss_cons (ps_set (i := 9) sc_l_rising.nd rfl (Or.inl rfl) (pe_tup (pa_cons (pv 4) (pa_cons (pv 5) pa_nil))))
      (pss_cons (ps_set (i := 10) sc_l_rising.nd rfl (Or.inl rfl) (pe_op op_mod (pv 8) pe_int))
      (pss_cons (ps_set (i := 11) sc_l_rising.nd rfl (Or.inl rfl) (pe_op op_fdiv (pv 8) pe_int))
      (pss_cons (ps_if (pt_cmpR op_eq (pv 7) pe_int (nomark _)) (pss_cons (ps_set (i := 4) sc_l_rising.nd rfl (Or.inl rfl) (pe_op op_mod (pv 11) pe_int))
      (pss_one (ps_set (i := 5) sc_l_rising.nd rfl (Or.inl rfl) (pe_op op_mul (pe_op op_mod (pe_op op_fdiv (pv 11) pe_int) pe_int) (pe_op op_mod (pe_op op_fdiv (pv 11) pe_int) (pv 1)))))) (pss_one (ps_if (pt_cmpR op_gt (pv 10) pe_int (nomark _)) (pss_cons (ps_set (i := 4) sc_l_rising.nd rfl (Or.inl rfl) (pe_op op_add (pe_op op_add (pv 4) pe_int) (pe_callTy call_int1 rfl z_int PyProof.Rows.boot_int (pa_cons (pe_and (pe_cmpR op_eq (pv 10) pe_int (nomark _)) (pe_one (pe_cmpR op_le (pv 4) (pv 7) (nomark _)))) pa_nil))))
      (pss_one (ps_set (i := 5) sc_l_rising.nd rfl (Or.inl rfl) (pe_op op_mul (pe_op op_mod (pv 11) pe_int) (pe_op op_mod (pe_op op_fdiv (pv 11) pe_int) (pv 1)))))) (pss_one (ps_if (PW.pt (pw_or (pt_cmpR op_gt (pv 10) pe_int (nomark _)) (pw_or1 (pt_cmpR op_ge (pv 6) (pv 2) (nomark _))))) (pss_cons (ps_set (i := 4) sc_l_rising.nd rfl (Or.inl rfl) (pe_op op_add (pv 4) (pe_op op_fdiv (pe_op op_add (pv 5) pe_int) (pv 1))))
      (pss_one (ps_set (i := 5) sc_l_rising.nd rfl (Or.inl rfl) (pe_op op_mod (pe_op op_add (pv 5) pe_int) (pv 1))))) pss_nil)))))
      (pss_cons (ps_if (PW.pt (pw_or (pt_cmpR (op_neT hu) (pe_tup (pa_cons (pv 4) (pa_cons (pv 5) pa_nil))) (pv 9) (nomark _)) (pw_or1 (pt_cmpR op_eq (pv 7) pe_int (nomark _))))) (pss_one (ps_set (i := 6) sc_l_rising.nd rfl (Or.inl rfl) pe_int)) pss_nil)
      (pss_cons (ps_set (i := 6) sc_l_rising.nd rfl (Or.inl rfl) (pe_op op_add (pv 6) pe_int))
      (pss_one (ps_expr (pe_bm PySem.F.plainAttrs_list PySem.F.slot_list_append PySem.F.type_list_append mt_append (pv 3) (pa_cons (pe_tup (pa_cons (pv 4) (pa_cons (pv 5) pa_nil))) pa_nil)))))))))))
      (pss_one (ps_ret (pv 3)))))))), ?_⟩
  have ez : (zs.map V.int).length = zs.length := List.length_map _
  refine ⟨Nat.zero_le _, fun r hr => ?_⟩
  have s1 := same_new hr (.lst [])
  have hr1 : (upd H r (.lst [])) r = some (.lst []) := upd_same
  generalize upd H r (.lst []) = H1 at s1 hr1 ⊢
  dsimp only [gName]
  refine ⟨_, rfl, na, rfl, ⟨_, s1.seq hn⟩, for_enum (K := K) (a := na) (xs := zs.map V.int) (fun i σ H2 => Same H H2 ∧ ∃ (as : List Addr) (xs : List (Int × Int)) (page row cnt : Int) (v7 v8 v9 v10 v11 : Option V), σ = [some (.ref na), some (.int b), some (.int ro), some (.ref r), some (.int page), some (.int row), some (.int cnt), v7, v8, v9, v10, v11] ∧ H2 r = some (.lst (as.map V.ref)) ∧ PlsA K H2 as xs ∧ xs.length = i ∧ Ris b xs ∧ (0 < i → xAt xs (i - 1) = (page, row)) ∧ 0 ≤ page ∧ 0 ≤ row ∧ row < b ∧ page ≤ (i : Int) + 1) ?_ ?_ ?_ ?_⟩
  · exact ⟨s1, [], [], 0, 0, 0, none, none, none, none, none, rfl, hr1, PlsA.nil, rfl, ⟨fun k hk => absurd hk (Nat.not_lt_zero _), fun k hk => absurd hk (Nat.not_lt_zero _), fun k _ hk => absurd hk (Nat.not_lt_zero _)⟩, fun z => absurd z (Nat.lt_irrefl _), by decide, by decide, by omega, by decide⟩
  · rintro i σ H2 _ ⟨s2, _⟩
    exact s2.seq hn
  rotate_left
  · rintro σ H2 ⟨s2, as, xs, page, row, cnt, v7, v8, v9, v10, v11, rfl, hr2, pa, xl, R, _, _, _, _, _⟩
    exact ⟨_, rfl, q r as xs H2 s2 hr hr2 pa (by rw [xl, ez]) R⟩
  rintro i x σ H2 p hx ⟨s2, as, xs, page, row, cnt, v7, v8, v9, v10, v11, rfl, hr2, pa, xl, R, lp, p0, r0, rb, pi_⟩ hp
  obtain ⟨c, rfl, ec⟩ := ints_at hx
  have hiz : i < zs.length := (List.getElem?_eq_some_iff.mp ec).1
  have s3 := same_new hp (.tup [.int (i : Int), .int c])
  refine ⟨p, _, rfl, SqT.of upd_same, rfl, _, _, rfl, _, _, rfl, rfl, ?_⟩
  generalize upd H2 p (.tup [.int (i : Int), .int c]) = H3 at s3 ⊢
  dsimp only [gName]
  refine ⟨_, rfl, _, rfl, le2, fun p2 hp2 => ?_⟩
  have s4 := same_new hp2 (.tup [V.int page, V.int row])
  have h4 : SqT K (upd H3 p2 (.tup [V.int page, V.int row])) p2 [V.int page, V.int row] := SqT.of upd_same
  generalize upd H3 p2 (.tup [V.int page, V.int row]) = H4 at s4 h4 ⊢
  dsimp only [gName]
  refine ⟨_, rfl, _, _, rfl, rfl, (by (first | decide | (show (0 : Int) < _; first | decide | omega))), ?_⟩
  dsimp only [gName]
  refine ⟨_, rfl, _, _, rfl, rfl, ⟨by decide, by decide⟩, ?_⟩
  dsimp only [gName]
  generalize c / 8 = far
  generalize c % 8 = stp
  refine cut_seq (fun σ' H' => H' = H4 ∧ ∃ pg' rw' : Int, σ' = [some (.ref na), some (.int b), some (.int ro), some (.ref r), some (.int pg'), some (.int rw'), some (.int cnt), some (.int (i : Int)), some (.int c), some (.ref p2), some (.int stp), some (.int far)] ∧ 0 ≤ pg' ∧ 0 ≤ rw' ∧ rw' < b ∧ pg' ≤ (i : Int) + 2 ∧ (0 < i → sooner (pg', rw') (page, row) = false)) ?_ (fun key => ?_)
  rotate_left
  · refine ⟨_, rfl, rfl, _, rfl, ?_⟩
    refine ite2 (fun c0 => ?_) (fun c0 => ?_)
    · have i0 : i = 0 := by have := int_eq.mp c0; omega
      refine ⟨_, rfl, _, _, rfl, rfl, (by (first | decide | (show (0 : Int) < _; first | decide | omega))), ?_⟩
      refine ⟨_, rfl, _, _, rfl, rfl, ⟨by decide, by decide⟩, _, _, rfl, rfl, (by (first | decide | (show (0 : Int) < _; first | decide | omega))), _, rfl, _, _, rfl, rfl, ⟨by decide, by decide⟩, _, rfl, _, _, rfl, rfl, (by omega), _, _, rfl, rfl, .inl ⟨by omega, by omega⟩, ?_⟩
      have bb := bit_row (far / 3) (far / 6) b b1
      exact key _ _ ⟨rfl, _, _, rfl, by omega, bb.1, bb.2, by omega, fun z => absurd z (by omega)⟩
    · refine ⟨_, rfl, _, _, rfl, rfl, _, rfl, ?_⟩
      refine ite2 (fun c4 => ?_) (fun c4 => ?_)
      · have bb := bit_row far (far / 2) b b1
        have ge : ∀ e : Int, 0 ≤ e → sooner (page + 1 + e, far % 2 * (far / 2 % b)) (page, row) = false := fun e e0 => by
          rw [not_sooner]
          show ¬ (page + 1 + e < page ∨ page + 1 + e = page ∧ _)
          omega
        refine ⟨_, rfl, _, _, rfl, rfl, _, rfl, rfl, _, rfl, ?_⟩
        refine ite2 (fun c7 => ?_) (fun c7 => ?_)
        · refine ⟨_, rfl, _, rfl, _, _, rfl, rfl, .inr ⟨_, rfl, _, _, rfl, rfl, ?_⟩⟩
          refine ⟨_, rfl, _, _, rfl, rfl, (by (first | decide | (show (0 : Int) < _; first | decide | omega))), _, rfl, _, _, rfl, rfl, ⟨by decide, by decide⟩, _, rfl, _, _, rfl, rfl, (by omega), _, _, rfl, rfl, .inl ⟨by omega, by omega⟩, ?_⟩
          have ee : 0 ≤ (if decide (page ≤ (i : Int)) = true then (1 : Int) else 0) ∧ page + (if decide (page ≤ (i : Int)) = true then (1 : Int) else 0) ≤ (i : Int) + 1 := by
            by_cases z : page ≤ (i : Int)
            · rw [decide_eq_true z, if_pos rfl]; omega
            · rw [decide_eq_false z, if_neg (by decide)]; omega
          exact key _ _ ⟨rfl, _, _, rfl, by omega, bb.1, bb.2, by omega, fun _ => ge _ ee.1⟩
        · refine .inr ⟨_, rfl, _, _, rfl, rfl, ?_⟩
          refine ⟨_, rfl, _, _, rfl, rfl, (by (first | decide | (show (0 : Int) < _; first | decide | omega))), _, rfl, _, _, rfl, rfl, ⟨by decide, by decide⟩, _, rfl, _, _, rfl, rfl, (by omega), _, _, rfl, rfl, .inl ⟨by omega, by omega⟩, ?_⟩
          have e7 : (if false = true then (1 : Int) else 0) = 0 := rfl
          exact key _ _ ⟨rfl, _, _, rfl, by omega, bb.1, bb.2, by omega, fun _ => ge _ (by omega)⟩
      · refine ⟨_, rfl, _, _, rfl, rfl, _, rfl, ?_⟩
        refine orG (fun _ => ?_) (fun _ => ?_)
        · refine ⟨_, rfl, _, rfl, _, _, rfl, rfl, _, rfl, _, _, rfl, rfl, ⟨by omega, by omega⟩, _, _, rfl, rfl, ?_⟩
          refine ⟨_, rfl, _, _, rfl, rfl, _, rfl, _, _, rfl, rfl, (by omega), ?_⟩
          have nr := next_row r0 rb
          refine key _ _ ⟨rfl, _, _, rfl, by omega, by omega, by omega, by omega, fun _ => ?_⟩
          rw [not_sooner]
          show ¬ (page + (row + 1) / b < page ∨ page + (row + 1) / b = page ∧ (row + 1) % b < row)
          omega
        · refine ⟨_, rfl, _, rfl, _, _, rfl, rfl, _, rfl, ?_⟩
          refine ite2 (fun _ => ?_) (fun _ => ?_)
          · refine ⟨_, rfl, _, rfl, _, _, rfl, rfl, _, rfl, _, _, rfl, rfl, ⟨by omega, by omega⟩, _, _, rfl, rfl, ?_⟩
            refine ⟨_, rfl, _, _, rfl, rfl, _, rfl, _, _, rfl, rfl, (by omega), ?_⟩
            have nr := next_row r0 rb
            refine key _ _ ⟨rfl, _, _, rfl, by omega, by omega, by omega, by omega, fun _ => ?_⟩
            rw [not_sooner]
            show ¬ (page + (row + 1) / b < page ∨ page + (row + 1) / b = page ∧ (row + 1) % b < row)
            omega
          · exact key _ _ ⟨rfl, page, row, rfl, p0, r0, rb, by omega, fun _ => sooner_refl _⟩
  rintro σ' H4' ⟨rfl, pg', rw', rfl, g0, g1, g2, g3, g4⟩
  refine cut_seq (fun σ' H' => Same H4' H' ∧ ∃ cn : Int, σ' = [some (.ref na), some (.int b), some (.int ro), some (.ref r), some (.int pg'), some (.int rw'), some (.int cn), some (.int (i : Int)), some (.int c), some (.ref p2), some (.int stp), some (.int far)]) ?_ (fun key => ?_)
  rotate_left
  · refine ⟨_, rfl, _, rfl, le2, fun p4 hp4 => ?_⟩
    have s5 := same_new hp4 (.tup [V.int pg', V.int rw'])
    refine ⟨_, rfl, _, _, _, _, rfl, rfl, SqT.of upd_same, s5.tup h4, rfl, rfl, _, rfl, ?_⟩
    refine orG (fun _ => key _ _ ⟨s5, 0, rfl⟩) (fun _ => ?_)
    refine ⟨_, rfl, rfl, _, rfl, ?_⟩
    refine ite2 (fun _ => key _ _ ⟨s5, 0, rfl⟩) (fun _ => key _ _ ⟨s5, cnt, rfl⟩)
  rintro σ' H5 ⟨s5, cn, rfl⟩
  refine ⟨_, rfl, _, _, rfl, rfl, ?_⟩
  dsimp only [gName]
  have t5 := s3.trans (s4.trans s5)
  have hr5 := t5 _ _ hr2
  refine ⟨_, rfl, .inl ⟨rfl, _, SqL.of hr5⟩, _, rfl, _, rfl, le2, fun p3 hp3 => ?_⟩
  have s6 := same_new hp3 (.tup [V.int pg', V.int rw'])
  have h6 : SqT K (upd H5 p3 (.tup [V.int pg', V.int rw'])) p3 (pl (pg', rw')) := SqT.of upd_same
  generalize upd H5 p3 (.tup [V.int pg', V.int rw']) = H6 at s6 h6 ⊢
  have hr6 := s6 _ _ hr5
  refine ⟨_, _, _, rfl, rfl, hr6, ?_, ?_⟩
  · rw [List.length_map, pa.1, xl]
    exact Nat.lt_of_lt_of_le (show i < 1000 by omega) (small (Nat.le_refl _))
  refine ⟨(s2.trans (t5.trans s6)).put hr, as ++ [p3], xs ++ [(pg', rw')], pg', rw', _, _, _, _, _, _, rfl, by rw [upd_same, refs_snoc], ((pa.same (t5.trans s6)).snoc h6).lst hr6, by simp [xl], ris_snoc R ⟨g0, g1, g2⟩ (by rw [xl]; exact g3) (fun z => ?_), fun _ => ?_, g0, g1, g2, by omega⟩
  · rw [xl] at z ⊢
    rw [lp z]
    exact g4 z
  · rw [xAt_snoc', Nat.add_sub_cancel, if_neg (by omega), if_pos xl.symm]
def sp_l_behind_by (K : PySem.W.Frag) : Sp := fun vs H Q _ => ∃ (fa a : Addr) (w h f m l : Int) (x : Int × Int), vs = [.ref fa, .ref a, .int l] ∧ SqT K H fa (fm w h f m) ∧ SqT K H a (pl x) ∧ 1 ≤ h ∧ h ≤ 60 ∧ ∀ q H', Same H H' → SqT K H' q (pl (behindBy h f x l)) → Q (.ref q) H'
theorem sc_l_behind_by : FnScope ["form", "place", "lead", "page", "row", "high", "count"] ["form", "place", "lead"] (defScope s_l_behind_by) := ⟨rfl, rfl, rfl, by decide +kernel, rfl, by decide +kernel, by decide +kernel⟩
theorem ok_l_behind_by (T : Txt P w K mg a) : FnOk P w K mg base CX0 1 a.f_l_behind_by a.fd_l_behind_by ["form", "place", "lead"] (sp_l_behind_by K) := by
  refine T.d_l_behind_by.fn.ok sc_l_behind_by (fun vs H Q E h => ?_) (fun cdv A outer s H vs Q E hr h => ?_)
  · obtain ⟨fa, a, w, h, f, m, k, x, rfl, _⟩ := h
    rfl
  obtain ⟨fa, a, w, h, f, m, l, x, rfl, hf, hx, h1, h2, q⟩ := h
  have hu := Nat.lt_of_succ_lt (hu_of hr)
  refine ⟨_, (pss_cons (ps_asg (pv 1) (pg_tup rfl (pgs_cons (pg_name (i := 3) sc_l_behind_by.nd rfl (Or.inl rfl)) (pgs_cons (pg_name (i := 4) sc_l_behind_by.nd rfl (Or.inl rfl)) pgs_nil))))
      (pss_cons (ps_set (i := 5) sc_l_behind_by.nd rfl (Or.inl rfl) (pe_ix ix_tup (pv 0) pe_int (fun _ _ => rfl)))
      (pss_cons (ps_if (pt_cmpR op_lt (pv 2) pe_int (nomark _)) (pss_cons (ps_set (i := 6) sc_l_behind_by.nd rfl (Or.inl rfl) (pe_op op_add (pe_op op_add (pe_op op_mul (pv 3) (pv 5)) (pv 4)) (pv 2)))
      (pss_one (ps_ret (pe_tup (pa_cons (pe_op op_fdiv (pv 6) (pv 5)) (pa_cons (pe_op op_mod (pv 6) (pv 5)) pa_nil)))))) pss_nil)
      (pss_cons (ps_if (PW.pt (pw_and (pt_cmpR op_eq (pv 2) pe_int (nomark _)) (pw_and1 (pt_cmpR op_lt (pe_op op_add (pv 4) pe_int) (pv 5) (nomark _))))) (pss_one (ps_ret (pe_tup (pa_cons (pv 3) (pa_cons (pe_op op_add (pv 4) pe_int) pa_nil))))) pss_nil)
      (pss_cons (ps_if (PW.pt (pw_and (pt_cmpR op_eq (pv 2) pe_int (nomark _)) (pw_and1 (pt_cmpR op_eq (pe_op op_mod (pe_op op_add (pe_ix ix_tup (pv 0) pe_int (fun _ _ => rfl)) (pv 3)) pe_int) pe_int (nomark _))))) (pss_one (ps_ret (pe_tup (pa_cons (pe_op op_add (pv 3) pe_int) (pa_cons pe_int pa_nil))))) pss_nil)
      (pss_one (ps_ret (pe_tup (pa_cons (pe_op op_add (pv 3) pe_int) (pa_cons pe_int pa_nil)))))))))), ?_⟩
  refine ⟨_, rfl, _, _, rfl, hx, rfl, _, _, rfl, _, _, rfl, rfl, ?_⟩
  refine ⟨_, rfl, _, _, _, _, rfl, rfl, hf, rfl, ?_⟩
  refine ⟨_, rfl, _, _, rfl, rfl, _, rfl, ?_⟩
  refine ite2 (fun c => ?_) (fun c => ?_)
  · have c1 : l < 2 := of_decide_eq_true c
    refine ⟨_, rfl, _, rfl, _, _, rfl, rfl, .inr ⟨by omega, by omega⟩, _, rfl, _, _, rfl, rfl, _, rfl, _, _, rfl, rfl, ?_⟩
    refine ⟨_, rfl, _, rfl, _, _, rfl, rfl, ⟨by omega, by omega⟩, _, rfl, _, rfl, _, _, rfl, rfl, (show 0 < h by omega), le2, fun p1 hp1 => q _ _ (same_new hp1 _) ?_⟩
    rw [behindBy, if_pos c1]
    exact SqT.of upd_same
  have n1 : ¬ l < 2 := fun z => c (decide_eq_true z)
  refine ⟨_, rfl, rfl, _, rfl, ?_⟩
  by_cases k2 : l = 2 ∧ x.2 + 2 < h
  · refine andG (fun c2 => absurd (int_eq.mpr k2.1) c2) (fun c2 => ?_)
    refine ⟨_, rfl, _, _, rfl, rfl, _, rfl, _, _, rfl, rfl, _, rfl, ?_⟩
    rw [decide_eq_true k2.2]
    refine iteT ?_
    refine ⟨_, rfl, _, rfl, _, _, rfl, rfl, le2, fun p1 hp1 => q _ _ (same_new hp1 _) ?_⟩
    rw [behindBy, if_neg n1, if_pos k2]
    exact SqT.of upd_same
  refine andN ?_ (fun c2 hb => ?_)
  · refine ⟨_, rfl, rfl, _, rfl, ?_⟩
    by_cases k3 : l = 4 ∧ (f + x.1) % 2 = 1
    · refine andG (fun c3 => absurd (int_eq.mpr k3.1) c3) (fun c3 => ?_)
      refine ⟨_, rfl, _, _, _, _, rfl, rfl, hf, rfl, _, rfl, _, _, rfl, rfl, _, _, rfl, rfl, (by (first | decide | (show (0 : Int) < _; first | decide | omega))), rfl, _, rfl, ?_⟩
      refine ite2 (fun _ => ?_) (fun c4 => absurd (int_eq.mpr k3.2) c4)
      refine ⟨_, rfl, _, _, rfl, rfl, le2, fun p1 hp1 => q _ _ (same_new hp1 _) ?_⟩
      rw [behindBy, if_neg n1, if_neg k2, if_pos k3]
      exact SqT.of upd_same
    refine andN ?_ (fun c3 hb => ?_)
    · refine ⟨_, rfl, _, _, rfl, rfl, le2, fun p1 hp1 => q _ _ (same_new hp1 _) ?_⟩
      rw [behindBy, if_neg n1, if_neg k2, if_neg k3]
      exact SqT.of upd_same
    · refine ⟨_, rfl, _, _, _, _, rfl, rfl, hf, rfl, _, rfl, _, _, rfl, rfl, _, _, rfl, rfl, (by (first | decide | (show (0 : Int) < _; first | decide | omega))), rfl, _, rfl, ?_⟩
      exact ite2 (fun c4 => absurd ⟨int_eq.mp c3, int_eq.mp c4⟩ k3) (fun _ => hb)
  · refine ⟨_, rfl, _, _, rfl, rfl, _, rfl, _, _, rfl, rfl, _, rfl, ?_⟩
    exact ite2 (fun c3 => absurd ⟨int_eq.mp c2, of_decide_eq_true c3⟩ k2) (fun _ => hb)
def sp_l_sooner (K : PySem.W.Frag) : Sp := fun vs H Q _ => ∃ (a b : Addr) (x y : Int × Int), vs = [.ref a, .ref b] ∧ SqT K H a (pl x) ∧ SqT K H b (pl y) ∧ Q (.bl (sooner x y)) H
theorem sc_l_sooner : FnScope ["one", "other"] ["one", "other"] (defScope s_l_sooner) := ⟨rfl, rfl, rfl, by decide +kernel, rfl, by decide +kernel, by decide +kernel⟩
theorem ok_l_sooner (T : Txt P w K mg a) : FnOk P w K mg base CX0 1 a.f_l_sooner a.fd_l_sooner ["one", "other"] (sp_l_sooner K) := by
  refine T.d_l_sooner.fn.ok sc_l_sooner (fun vs H Q E h => ?_) (fun cdv A outer s H vs Q E hr h => ?_)
  · obtain ⟨a, b, x, y, rfl, _⟩ := h
    rfl
  obtain ⟨a, b, x, y, rfl, hx, hy, q⟩ := h
  have hu := Nat.lt_of_succ_lt (hu_of hr)
  refine ⟨_, (pss_one (ps_ret (pe_or (pe_cmpR op_lt (pe_ix ix_tup (pv 0) pe_int (fun _ _ => rfl)) (pe_ix ix_tup (pv 1) pe_int (fun _ _ => rfl)) (nomark _)) (pe_one (pe_and (pe_cmpR op_eq (pe_ix ix_tup (pv 0) pe_int (fun _ _ => rfl)) (pe_ix ix_tup (pv 1) pe_int (fun _ _ => rfl)) (nomark _)) (pe_one (pe_cmpR op_lt (pe_ix ix_tup (pv 0) pe_int (fun _ _ => rfl)) (pe_ix ix_tup (pv 1) pe_int (fun _ _ => rfl)) (nomark _)))))))), ?_⟩
  refine ⟨_, rfl, _, _, _, _, rfl, rfl, hx, rfl, _, rfl, _, _, _, _, rfl, rfl, hy, rfl, _, _, rfl, rfl, _, rfl, ?_⟩
  refine ite2 (fun c => ?_) (fun c => ?_)
  · have : sooner x y = true := sooner_iff.mpr (.inl (of_decide_eq_true c))
    rw [this] at q
    exact q
  have c0 : ¬ x.1 < y.1 := fun z => c (decide_eq_true z)
  refine ⟨_, rfl, _, _, _, _, rfl, rfl, hx, rfl, _, rfl, _, _, _, _, rfl, rfl, hy, rfl, rfl, _, rfl, ?_⟩
  refine ite2 (fun c1 => ?_) (fun c1 => ?_)
  · refine ⟨_, rfl, _, _, _, _, rfl, rfl, hx, rfl, _, rfl, _, _, _, _, rfl, rfl, hy, rfl, _, _, rfl, rfl, ?_⟩
    have c2 : x.1 = y.1 := int_eq.mp c1
    have : sooner x y = decide (x.2 < y.2) := by
      rw [sooner, decide_eq_false c0, decide_eq_true c2]
      rfl
    rw [this] at q
    exact q
  · have c2 : x.1 ≠ y.1 := int_ne.mp c1
    have : sooner x y = false := by
      rw [sooner, decide_eq_false c0, decide_eq_false c2]
      rfl
    rw [this] at q
    exact q
def sp_l_let (K : PySem.W.Frag) : Sp := fun vs H Q _ => ∃ (fa ly : Addr) (las : List Addr) (F : Frm) (xss : List (List (Int × Int))) (k : Nat) (l : Int), vs = [.ref fa, .ref ly, .int (k : Int), .int l] ∧ SqT K H fa (fm F.w F.h F.f F.m) ∧ SqL K H ly (las.map V.ref) ∧ LysA K H las xss ∧ 0 ≤ l ∧ l < 5 ∧ 1 ≤ F.h ∧ F.h ≤ 60 ∧ (∀ xs ∈ xss, k < xs.length ∧ PlsOk F.h xs) ∧ ∀ b H', Same H H' → (b = true ↔ ∀ xs ∈ xss, letOk F xs k l) → Q (.bl b) H'
theorem sc_l_let : FnScope ["form", "layings", "k", "lead", "places"] ["form", "layings", "k", "lead"] (defScope s_l_let) := ⟨rfl, rfl, rfl, by decide +kernel, rfl, by decide +kernel, by decide +kernel⟩
theorem ok_l_let (T : Txt P w K mg a) : FnOk P w K mg base CX0 2 a.f_l_let a.fd_l_let ["form", "layings", "k", "lead"] (sp_l_let K) := by
  have g_l_behind_by := ok_l_behind_by (P := P) (w := w) (base := base) T
  have d_l_behind_by := T.d_l_behind_by
  have g_l_sooner := ok_l_sooner (P := P) (w := w) (base := base) T
  have d_l_sooner := T.d_l_sooner
  refine T.d_l_let.fn.ok sc_l_let (fun vs H Q E h => ?_) (fun cdv A outer s H vs Q E hr h => ?_)
  · obtain ⟨fa, ly, las, F, xss, k, l, rfl, _⟩ := h
    rfl
  obtain ⟨fa, ly, las, F, xss, k, l, rfl, hf, hly, hls, l0, l5, h1, h60, hx_, q⟩ := h
  have hu := Nat.lt_of_succ_lt (hu_of hr)
  refine ⟨_, (pss_cons (ps_for PassesOwn.never rfl (pi_list (pv 1)) (pg_name (i := 4) sc_l_let.nd rfl (Or.inl rfl)) (pss_cons (ps_if (PW.pt (pw_and (pt_cmpR op_eq (pv 3) pe_int (nomark _)) (pw_and1 (pt_cmpR op_eq (pe_op op_mod (pe_op op_add (pe_ix ix_tup (pv 0) pe_int (fun _ _ => rfl)) (pe_ix ix_tup (pe_ix ix_list (pv 4) (pv 2) (fun _ _ => rfl)) pe_int (fun _ _ => rfl))) pe_int) pe_int (nomark _))))) (pss_one (ps_ret pe_bl)) pss_nil)
      (pss_one (ps_if (PW.pt (pw_and (pt_cmpR op_gt (pv 2) pe_int (nomark _)) (pw_and1 (pt_val (pe_callD d_l_sooner g_l_sooner (hr.mono (by decide)) rfl (pa_cons (pe_ix ix_list (pv 4) (pv 2) (fun _ _ => rfl)) (pa_cons (pe_callD d_l_behind_by g_l_behind_by (hr.mono (by decide)) rfl (pa_cons (pv 0) (pa_cons (pe_ix ix_list (pv 4) (pe_op op_sub (pv 2) pe_int) (fun _ _ => rfl)) (pa_cons (pv 3) pa_nil)))) pa_nil))) (fun _ => rfl))))) (pss_one (ps_ret pe_bl)) pss_nil))))
      (pss_one (ps_ret pe_bl))), ?_⟩
  have ell : (las.map V.ref).length = xss.length := by rw [List.length_map, hls.1]
  refine ⟨_, rfl, _, rfl, ⟨_, hly⟩, for_list (K := K) (a := ly) (xs := las.map V.ref) (fun i σ H2 => Same H H2 ∧ (∃ v : Option V, σ = [some (.ref fa), some (.ref ly), some (.int (k : Int)), some (.int l), v]) ∧ ∀ j xs, j < i → xss[j]? = some xs → letOk F xs k l) ⟨Same.refl _, ⟨none, rfl⟩, fun j xs hj => absurd hj (Nat.not_lt_zero _)⟩ (fun i σ H2 _ g => g.1.seq hly) ?_ ?_⟩
  rotate_left
  · rintro σ H2 ⟨s2, _, ho⟩
    refine q true H2 s2 ⟨fun _ xs hx => ?_, fun _ => rfl⟩
    obtain ⟨j, hj, ej⟩ := List.mem_iff_getElem.mp hx
    exact ho j xs (by rw [ell]; exact hj) (by rw [List.getElem?_eq_getElem hj, ej])
  rintro i y σ H2 hi ⟨s2, ⟨v, rfl⟩, ho⟩
  obtain ⟨lo, xs, rfl, eb, ex⟩ := ly_at hls.1 hi
  have xm := List.mem_of_getElem? ex
  obtain ⟨hk, po⟩ := hx_ xs xm
  obtain ⟨as, hla, hps⟩ := hls.2 i lo xs eb ex
  obtain ⟨zo, ez, hz⟩ := LwAt.get (a := lo) hps hk
  have no : ∀ H', Same H H' → ¬ letOk F xs k l → _ := fun H' s n => q false H' s ⟨fun z => absurd z (by decide), fun z => absurd (z xs xm) n⟩
  dsimp only [gName]
  refine cut_seq (fun σ' H' => H' = H2 ∧ σ' = [some (.ref fa), some (.ref ly), some (.int (k : Int)), some (.int l), some (.ref lo)] ∧ ¬ (l = 4 ∧ (F.f + (xAt xs k).1) % 2 = 0)) ?_ (fun key => ?_)
  rotate_left
  · refine ⟨_, rfl, rfl, _, rfl, ?_⟩
    by_cases l4 : l = 4
    rotate_left
    · exact andG (fun _ => key _ _ ⟨rfl, rfl, fun z => l4 z.1⟩) (fun z => absurd (int_eq.mp z) l4)
    refine andG (fun z => absurd (int_eq.mpr l4) z) (fun _ => ?_)
    refine ⟨_, rfl, _, _, _, _, rfl, rfl, s2.tup hf, rfl, _, rfl, _, rfl, _, _, _, _, rfl, rfl, s2.seq hla, ez, _, _, _, _, rfl, rfl, s2.tup hz, rfl, _, _, rfl, rfl, _, _, rfl, rfl, (by (first | decide | (show (0 : Int) < _; first | decide | omega))), rfl, _, rfl, ?_⟩
    by_cases od : (F.f + (xAt xs k).1) % 2 = 0
    · rw [decide_eq_true (show V.int ((F.f + (xAt xs k).1) % 2) = V.int 0 by rw [od])]
      refine iteT ?_
      exact no _ s2 fun z => z.1 ⟨l4, od⟩
    · rw [decide_eq_false (show ¬ V.int ((F.f + (xAt xs k).1) % 2) = V.int 0 from fun z => od (V.int.inj z))]
      refine iteF ?_
      exact key _ _ ⟨rfl, rfl, fun z => od z.2⟩
  rintro σ' H2' ⟨rfl, rfl, ok1⟩
  have fin : ∀ H', Same H2' H' → letOk F xs k l → Same H H' ∧ (∃ v : Option V, [some (V.ref fa), some (V.ref ly), some (V.int (k : Int)), some (V.int l), some (V.ref lo)] = [some (.ref fa), some (.ref ly), some (.int (k : Int)), some (.int l), v]) ∧ ∀ j xs, j < i + 1 → xss[j]? = some xs → letOk F xs k l := fun H' s' o => ⟨s2.trans s', ⟨_, rfl⟩, fun j ys hj e => by
    by_cases c : j < i
    · exact ho j ys c e
    · have : j = i := by omega
      rw [this, ex] at e
      cases e
      exact o⟩
  refine ⟨_, rfl, _, _, rfl, rfl, _, rfl, ?_⟩
  by_cases k0 : 0 < k
  rotate_left
  · exact andG (fun _ => fin _ (Same.refl _) ⟨ok1, fun z => absurd z k0⟩) (fun z => absurd (of_decide_eq_true z) (by omega))
  refine andG (fun z => absurd (decide_eq_true (by omega)) z) (fun _ => ?_)
  obtain ⟨yo, ey, hy⟩ := LwAt.get (a := lo) hps (show k - 1 < xs.length by omega)
  have ry := (po.get (show k - 1 < xs.length by omega)).1
  refine ⟨_, rfl, _, rfl, _, _, _, _, rfl, rfl, s2.seq hla, ez, _, rfl, _, rfl, _, rfl, _, _, rfl, rfl, _, _, _, _, rfl, rfl, s2.seq hla, (by rw [show (k : Int) - 1 = ((k - 1 : Nat) : Int) by omega]; exact ey), _, rfl, fa, yo, F.w, F.h, F.f, F.m, l, xAt xs (k - 1), rfl, s2.tup hf, s2.tup hy, h1, h60, fun q2 H3 s3 h3 => ?_⟩
  rw [behind_by ⟨ry.r1, ry.r2⟩ ⟨l0, l5⟩] at h3
  refine ⟨zo, q2, xAt xs k, _, rfl, (s2.trans s3).tup hz, h3, _, rfl, ?_⟩
  cases e : sooner (xAt xs k) (behindI F.h F.f (xAt xs (k - 1)) l) with
  | true =>
    refine iteT ?_
    exact no _ (s2.trans s3) fun z => absurd ((z.2 k0).symm.trans e) (by decide)
  | false =>
    refine iteF ?_
    exact fin _ s3 ⟨ok1, fun _ => e⟩
theorem let_zero {F : Frm} {b : Int} {xs : List (Int × Int)} {k : Nat} (R : Ris b xs) (hk : k < xs.length) : letOk F xs k 0 := by
  refine ⟨fun z => absurd z.1 (by decide), fun k0 => ?_⟩
  unfold behindI
  rw [if_pos rfl]
  exact R.up k k0 hk
def sp_l_words (K : PySem.W.Frag) : Sp := fun vs H Q _ => ∃ (fa pa ly na : Addr) (F : Frm) (pas las : List Addr) (ds : List Wd) (xss : List (List (Int × Int))) (zs : List Int) (b : Int), vs = [.ref fa, .ref pa, .ref ly, .ref na] ∧ SqT K H fa (fm F.w F.h F.f F.m) ∧ SqL K H pa (pas.map V.ref) ∧ PtsA K H pas ds ∧ SqL K H ly (las.map V.ref) ∧ LysA K H las xss ∧ xss.length ≤ 2 ∧ SqL K H na (zs.map V.int) ∧ zs.length = ds.length ∧ ds.length ≤ 40 ∧ (∀ d ∈ ds, WdOk ds.length d) ∧ 1 ≤ F.h ∧ F.h ≤ 60 ∧ (∀ xs ∈ xss, xs.length = ds.length ∧ PlsOk F.h xs ∧ Ris b xs) ∧ ∀ q (was : List Addr) (es : List Wd) H', Same H H' → H' q = some (.lst (was.map V.ref)) → WdsA K H' was es → SameS es ds → (∀ d ∈ es, WdOk es.length d) → (∀ k, k < es.length → ∀ xs ∈ xss, letOk F xs k (dAt es k).lead ∧ ((dAt es k).kept = true → 0 < k → (xAt xs (k - 1)).1 = (xAt xs k).1)) → Q (.ref q) H'
theorem sc_l_words : FnScope ["form", "parts", "layings", "numbers", "words", "k", "part", "choices", "number", "apart", "kept"] ["form", "parts", "layings", "numbers"] (defScope s_l_words) := ⟨rfl, rfl, rfl, by decide +kernel, rfl, by decide +kernel, by decide +kernel⟩
theorem ok_l_words (T : Txt P w K mg a) : FnOk P w K mg base CX0 3 a.f_l_words a.fd_l_words ["form", "parts", "layings", "numbers"] (sp_l_words K) := by
  have g_l_let := ok_l_let (P := P) (w := w) (base := base) T
  have d_l_let := T.d_l_let
  have z_enumerate := T.z_enumerate
  have z_len := T.z_len
  have z_range := T.z_range
  refine T.d_l_words.fn.ok sc_l_words (fun vs H Q E h => ?_) (fun cdv A outer s H vs Q E hr h => ?_)
  · obtain ⟨fa, pa, ly, na, F, pas, las, ds, xss, zs, b, rfl, _⟩ := h
    rfl
  obtain ⟨fa, pa, ly, na, F, pas, las, ds, xss, zs, b, rfl, hf, hp_, hps, hly, hls, x2, hn, zl, d40, wd, h1, h60, hx_, q⟩ := h
  have hu := Nat.lt_of_succ_lt (hu_of hr)
  refine ⟨_, (pss_cons (ps_set (i := 4) sc_l_words.nd rfl (Or.inl rfl) (pe_lst pa_nil))
      (pss_cons (ps_for PassesOwn.never rfl (pi_enum rfl z_enumerate (pv 1)) (pg_tup rfl (pgs_cons (pg_name (i := 5) sc_l_words.nd rfl (Or.inr rfl)) (pgs_cons (pg_name (i := 6) sc_l_words.nd rfl (Or.inl rfl)) pgs_nil))) (pss_cons (ps_lc (k := 7) rfl (lcok (caps := ["form", "layings", "k"]) (js := [0, 2, 5]) (cap := ⟨⟨rfl, .inl rfl, rfl, .inl rfl⟩, ⟨⟨rfl, .inl rfl, rfl, .inl rfl⟩, ⟨⟨rfl, .inl rfl, rfl, .inl rfl⟩, trivial⟩⟩⟩)) (pi_range1 rfl z_range (pa_cons pe_int pa_nil)) (fun _ _ _ _ => (pts_one (pt_val (pe_callD d_l_let g_l_let (hr.mono (by decide)) rfl (pa_cons (pv 1) (pa_cons (pv 2) (pa_cons (pv 3) (pa_cons (pv 0) pa_nil))))) (fun _ => rfl)))) (fun _ _ _ _ => (pv 0)) sc_l_words.nd rfl rfl)
      (pss_cons (ps_set (i := 8) sc_l_words.nd rfl (Or.inl rfl) (pe_op op_fdivB (pe_ix ix_list (pv 3) (pv 5) (fun _ _ => rfl)) (pe_op op_pow pe_int pe_int)))
      (pss_cons (ps_lc (k := 9) rfl (lcok (caps := ["k"]) (js := [5]) (cap := ⟨⟨rfl, .inl rfl, rfl, .inl rfl⟩, trivial⟩)) (pi_list (pv 2)) (fun _ _ _ _ => (pts_one (PW.pt (pw_and (pt_cmpR op_gt (pv 1) pe_int (nomark _)) (pw_and1 (pt_cmpR op_ne (pe_ix (r := rIxT K) ix_tup (pe_ix (r := rIxL K) ix_list (pv 0) (pe_op op_sub (pv 1) pe_int) (fun _ _ => rfl)) pe_int (fun _ _ => rfl)) (pe_ix (r := rIxT K) ix_tup (pe_ix (r := rIxL K) ix_list (pv 0) (pv 1) (fun _ _ => rfl)) pe_int (fun _ _ => rfl)) (nomark _))))))) (fun _ _ _ _ => (pv 0)) sc_l_words.nd rfl rfl)
      (pss_cons (ps_set (i := 10) sc_l_words.nd rfl (Or.inl rfl) (pe_and (pe_cmpR (op_eqNil hu) (pv 9) (pe_lst pa_nil) (nomark _)) (pe_one (pe_cmpR op_eq (pe_op op_mod (pe_op op_fdiv (pv 8) pe_int) pe_int) pe_int (nomark _)))))
      (pss_one (ps_expr (pe_bm PySem.F.plainAttrs_list PySem.F.slot_list_append PySem.F.type_list_append mt_append (pv 4) (pa_cons (pe_tup (pa_cons (pe_ix ix_list (pv 7) (pe_op op_mod (pv 8) (pe_callB call_len_seq rfl z_len PySem.boot_len (pa_cons (pv 7) pa_nil))) (fun _ _ => rfl)) (pa_cons (pv 10) (pa_cons (pe_ix ix_tup (pv 6) pe_int (fun _ _ => rfl)) (pa_cons (pe_ix ix_tup (pv 6) pe_int (fun _ _ => rfl)) pa_nil))))) pa_nil)))))))))
      (pss_one (ps_ret (pv 4))))), ?_⟩
  have elp : (pas.map V.ref).length = ds.length := by rw [List.length_map, hps.1]
  have ell : (las.map V.ref).length = xss.length := by rw [List.length_map, hls.1]
  refine ⟨Nat.zero_le _, fun r hr => ?_⟩
  have s1 := same_new hr (.lst [])
  have hr1 : (upd H r (.lst [])) r = some (.lst []) := upd_same
  generalize upd H r (.lst []) = H1 at s1 hr1 ⊢
  dsimp only [gName]
  refine ⟨_, rfl, pa, rfl, ⟨_, s1.seq hp_⟩, for_enum (K := K) (a := pa) (xs := pas.map V.ref) (fun i σ H2 => Same H H2 ∧ ∃ (was : List Addr) (es : List Wd) (v5 v6 v7 v8 v9 v10 : Option V), σ = [some (.ref fa), some (.ref pa), some (.ref ly), some (.ref na), some (.ref r), v5, v6, v7, v8, v9, v10] ∧ H2 r = some (.lst (was.map V.ref)) ∧ WdsA K (er1 H2 r) was es ∧ es.length = i ∧ (∀ k, k < i → (dAt es k).say = (dAt ds k).say ∧ (dAt es k).foot = (dAt ds k).foot) ∧ (∀ d ∈ es, WdOk ds.length d) ∧ ∀ k, k < i → ∀ xs ∈ xss, letOk F xs k (dAt es k).lead ∧ ((dAt es k).kept = true → 0 < k → (xAt xs (k - 1)).1 = (xAt xs k).1)) ?_ ?_ ?_ ?_⟩
  · exact ⟨s1, [], [], none, none, none, none, none, none, rfl, hr1, WdsA.nil, rfl, fun k hk => absurd hk (Nat.not_lt_zero _), fun d hd => (by cases hd), fun k hk => absurd hk (Nat.not_lt_zero _)⟩
  · rintro i σ H2 _ ⟨s2, _⟩
    exact s2.seq hp_
  rotate_left
  · rintro σ H2 ⟨s2, was, es, v5, v6, v7, v8, v9, v10, rfl, hr2, wa, wl, sm, wo, lt⟩
    rw [elp] at wl sm lt
    exact ⟨_, rfl, q r was es H2 s2 hr2 (wa.same (er1_same H2 r)) ⟨wl, fun k hk => sm k (by omega)⟩ (by rw [wl]; exact wo) (fun k hk => lt k (by omega))⟩
  rintro i x σ H2 p hx ⟨s2, was, es, v5, v6, v7, v8, v9, v10, rfl, hr2, wa, wl, sm, wo, lt⟩ hp
  obtain ⟨pb, d, rfl, eb, ed⟩ := wd_at hps.1 hx
  have hid : i < ds.length := (List.getElem?_eq_some_iff.mp ed).1
  have edd : dAt ds i = d := by
    show ds.getD i wd0 = d
    rw [List.getD_eq_getElem?_getD, ed]
    rfl
  have wdd := wd d (List.mem_of_getElem? ed)
  obtain ⟨sy, fo, bs, g1, g2, g3, g4⟩ := hps.2 i pb d eb ed
  have hk_ : ∀ xs ∈ xss, i < xs.length := fun xs hxm => by rw [(hx_ xs hxm).1]; exact hid
  have s3 := same_new hp (.tup [.int (i : Int), .ref pb])
  refine ⟨p, _, rfl, SqT.of upd_same, rfl, _, _, rfl, _, _, rfl, rfl, ?_⟩
  generalize upd H2 p (.tup [.int (i : Int), .ref pb]) = H3 at s3 ⊢
  dsimp only [gName]
  have t3 := s2.trans s3
  refine ⟨_, rfl, (by omega), (by omega), ?_⟩
  refine lc_range (fun j ys H4 => Same H3 H4 ∧ ∃ cs : List Int, cs.length ≤ j ∧ ys = cs.map V.int ∧ (∀ c ∈ cs, 0 ≤ c ∧ c ≤ 4 ∧ ∀ xs ∈ xss, letOk F xs i c) ∧ (0 < j → 0 < cs.length)) ⟨Same.refl _, [], Nat.le_refl _, rfl, fun c hc => (by cases hc), fun z => absurd z (Nat.lt_irrefl _)⟩ ?_ ?_ ?_
  · rintro j ys H4 hj ⟨_, cs, cl, rfl, _, _⟩
    rw [List.length_map]
    exact Nat.lt_of_lt_of_le (show cs.length < 1000 by simp at hj; omega) (small (Nat.le_refl _))
  · rintro j ys H4 hj ⟨s4, cs, cl, rfl, co, cn⟩
    have hj : j < 5 := by simp at hj; omega
    have t4 := t3.trans s4
    refine ⟨_, rfl, _, rfl, _, rfl, _, rfl, fa, ly, las, F, xss, i, 0 + (j : Int), rfl, t4.tup hf, t4.seq hly, hls.same t4, by omega, by omega, h1, h60, fun xs hxm => ⟨hk_ xs hxm, (hx_ xs hxm).2.1⟩, fun b' H5 s5 hb => ?_⟩
    cases b' with
    | true =>
      refine ⟨_, rfl, ?_⟩
      refine iteT ?_
      refine ⟨_, rfl, s4.trans s5, cs ++ [0 + (j : Int)], by simp; omega, by rw [List.map_append]; rfl, fun c hc => ?_, fun _ => by simp⟩
      rcases List.mem_append.mp hc with hc | hc
      · exact co c hc
      · rw [List.mem_singleton.mp hc]
        exact ⟨by omega, by omega, hb.mp rfl⟩
    | false =>
      refine ⟨_, rfl, ?_⟩
      refine iteF ?_
      refine ⟨s4.trans s5, cs, by omega, rfl, co, fun _ => ?_⟩
      by_cases j0 : 0 < j
      · exact cn j0
      · have : j = 0 := by omega
        subst this
        exact absurd (hb.mpr fun xs hxm => let_zero (hx_ xs hxm).2.2 (hk_ xs hxm)) (by decide)
  rintro ys H4 ⟨s4, cs, cl, rfl, co, cn⟩ ch hch
  have cpos : 0 < cs.length := cn (by decide)
  have cl5 : cs.length ≤ 5 := cl
  have s5 := same_new hch (.lst (cs.map V.int))
  have h5 : (upd H4 ch (.lst (cs.map V.int))) ch = some (.lst (cs.map V.int)) := upd_same
  generalize upd H4 ch (.lst (cs.map V.int)) = H5 at s5 h5 ⊢
  dsimp only [gName]
  have t5 := t3.trans (s4.trans s5)
  obtain ⟨nz, ez⟩ : ∃ nz, atI (zs.map V.int) (i : Int) = some (V.int nz) := ⟨zs[i]'(by omega), atI_nat (by rw [List.getElem?_map, List.getElem?_eq_getElem (by omega)]; rfl)⟩
  refine ⟨_, rfl, _, rfl, _, _, _, _, rfl, rfl, t5.seq hn, ez, _, _, rfl, rfl, ⟨by decide, by decide, by decide⟩, _, _, rfl, rfl, ⟨by decide +kernel, by decide +kernel⟩, ?_⟩
  dsimp only [gName]
  generalize nz / 10 ^ (13 : Int).toNat = nu
  refine ⟨_, rfl, _, rfl, ⟨_, t5.seq hly⟩, lc_list (K := K) (a := ly) (xs := las.map V.ref) (fun j ys H6 => H6 = H5 ∧ ys.length ≤ j ∧ (ys = [] → ∀ j' xs, j' < j → xss[j']? = some xs → 0 < i → (xAt xs (i - 1)).1 = (xAt xs i).1)) ⟨rfl, Nat.le_refl _, fun _ j' xs hj' => absurd hj' (Nat.not_lt_zero _)⟩ (fun j ys H6 _ g => by rw [g.1]; exact t5.seq hly) ?_ ?_ ?_⟩
  · rintro j ys H6 hj ⟨_, yl, _⟩
    exact Nat.lt_of_lt_of_le (show ys.length < 1000 by rw [ell] at hj; omega) (small (Nat.le_refl _))
  · rintro j y ys H6 hj ⟨rfl, yl, ya⟩
    obtain ⟨lo, xs, rfl, eb2, ex⟩ := ly_at hls.1 hj
    have xm := List.mem_of_getElem? ex
    obtain ⟨as, hla, hps2⟩ := hls.2 j lo xs eb2 ex
    obtain ⟨zo, ezo, hz⟩ := LwAt.get (a := lo) hps2 (hk_ xs xm)
    have no : ((0 < i → (xAt xs (i - 1)).1 = (xAt xs i).1)) → H6 = H6 ∧ ys.length ≤ j + 1 ∧ (ys = [] → ∀ j' xs, j' < j + 1 → xss[j']? = some xs → 0 < i → (xAt xs (i - 1)).1 = (xAt xs i).1) := fun o => ⟨rfl, by omega, fun e j' ys2 hj' e2 => by
      by_cases c : j' < j
      · exact ya e j' ys2 c e2
      · have : j' = j := by omega
        rw [this, ex] at e2
        cases e2
        exact o⟩
    refine ⟨_, rfl, _, _, rfl, rfl, _, rfl, ?_⟩
    by_cases i0 : 0 < i
    rotate_left
    · refine andG (fun _ => ?_) (fun z => absurd (of_decide_eq_true z) (by omega))
      exact no fun z => absurd z i0
    refine andG (fun z => absurd (decide_eq_true (by omega)) z) (fun _ => ?_)
    obtain ⟨yo, ey, hy⟩ := LwAt.get (a := lo) hps2 (show i - 1 < xs.length by have := hk_ xs xm; omega)
    refine ⟨_, rfl, _, rfl, _, _, rfl, rfl, _, _, _, _, rfl, rfl, t5.seq hla, (by rw [show (i : Int) - 1 = ((i - 1 : Nat) : Int) by omega]; exact ey), _, _, _, _, rfl, rfl, t5.tup hy, rfl, _, rfl, _, rfl, _, _, _, _, rfl, rfl, t5.seq hla, ezo, _, _, _, _, rfl, rfl, t5.tup hz, rfl, rfl, _, rfl, ?_⟩
    by_cases e : (xAt xs (i - 1)).1 = (xAt xs i).1
    · rw [decide_eq_true (show V.int (xAt xs (i - 1)).1 = V.int (xAt xs i).1 by rw [e])]
      refine iteF ?_
      exact no fun _ => e
    · rw [decide_eq_false (show ¬ V.int (xAt xs (i - 1)).1 = V.int (xAt xs i).1 from fun z => e (V.int.inj z))]
      refine iteT ?_
      exact ⟨_, rfl, rfl, by simp; omega, fun z => absurd z (by simp)⟩
  rintro ys H6 ⟨rfl, yl, ya⟩ ap hap
  rw [ell] at ya yl
  have s7 := same_new hap (.lst ys)
  have h7 : (upd H6 ap (.lst ys)) ap = some (.lst ys) := upd_same
  generalize upd H6 ap (.lst ys) = H7 at s7 h7 ⊢
  dsimp only [gName]
  refine cut_seq (fun σ' H' => Same H7 H' ∧ ∃ kp : Bool, σ' = [some (.ref fa), some (.ref pa), some (.ref ly), some (.ref na), some (.ref r), some (.int (i : Int)), some (.ref pb), some (.ref ch), some (.int nu), some (.ref ap), some (.bl kp)] ∧ (kp = true → ys = [])) ?_ (fun key => ?_)
  rotate_left
  · refine ⟨_, rfl, Nat.zero_le _, fun p2 hp2 => ?_⟩
    have s8 := same_new hp2 (.lst [])
    refine ⟨ap, p2, ys, rfl, rfl, SqL.of (s8 _ _ h7), SqL.of upd_same, _, rfl, ?_⟩
    cases e : ys.isEmpty with
    | false =>
      refine iteF ?_
      exact key _ _ ⟨s8, false, rfl, fun z => absurd z (by decide)⟩
    | true =>
      refine iteT ?_
      have ye : ys = [] := List.isEmpty_iff.mp e
      exact ⟨_, rfl, _, _, rfl, rfl, ⟨by decide, by decide⟩, _, _, rfl, rfl, (by (first | decide | (show (0 : Int) < _; first | decide | omega))), rfl, key _ _ ⟨s8, _, rfl, fun _ => ye⟩⟩
  rintro σ' H8 ⟨s8, kp, rfl, ke⟩
  have t8 := t5.trans (s7.trans s8)
  have h8 := (s7.trans s8) _ _ h5
  have u8 := s3.trans (s4.trans (s5.trans (s7.trans s8)))
  have hr8 := u8 _ _ hr2
  have clI : (0 : Int) < (cs.length : Int) := by omega
  obtain ⟨ld, el_, ldm⟩ : ∃ ld, atI (cs.map V.int) (nu % (cs.length : Int)) = some (V.int ld) ∧ ld ∈ cs := by
    have a0 := Int.emod_nonneg nu (show (cs.length : Int) ≠ 0 by omega)
    have a1 := Int.emod_lt_of_pos nu clI
    obtain ⟨z, ez2⟩ := Int.eq_ofNat_of_zero_le a0
    have hz : z < cs.length := by omega
    exact ⟨cs[z], by rw [ez2]; exact atI_nat (by rw [List.getElem?_map, List.getElem?_eq_getElem hz]; rfl), List.getElem_mem hz⟩
  obtain ⟨ld0, ld4, ldo⟩ := co ld ldm
  have ecs : ((cs.map V.int).length : Int) = (cs.length : Int) := by rw [List.length_map]
  refine ⟨_, rfl, .inl ⟨rfl, _, SqL.of hr8⟩, _, rfl, _, rfl, _, rfl, _, _, rfl, .inl (SqL.of h8), _, _, rfl, rfl, (by rw [ecs]; exact clI), _, _, _, _, rfl, rfl, SqL.of h8, (by rw [ecs]; exact el_), _, rfl, _, rfl, _, _, _, _, rfl, rfl, t8.tup g1, rfl, _, rfl, _, _, _, _, rfl, rfl, t8.tup g1, rfl, le4, fun p3 hp3 => ?_⟩
  have s9 := same_new hp3 (.tup [V.int ld, V.bl kp, V.ref sy, V.ref fo])
  have h9 : SqT K (upd H8 p3 (.tup [V.int ld, V.bl kp, V.ref sy, V.ref fo])) p3 [V.int ld, V.bl kp, V.ref sy, V.ref fo] := SqT.of upd_same
  generalize upd H8 p3 (.tup [V.int ld, V.bl kp, V.ref sy, V.ref fo]) = H9 at s9 h9 ⊢
  have hr9 := s9 _ _ hr8
  have e9 := er1_sub (t8.trans s9) hr
  refine ⟨_, _, _, rfl, rfl, hr9, ?_, ?_⟩
  · rw [List.length_map, wa.1, wl]
    exact Nat.lt_of_lt_of_le (show i < 1000 by omega) (small (Nat.le_refl _))
  refine ⟨(t8.trans s9).put hr, was ++ [p3], es ++ [⟨ld, kp, d.say, d.foot⟩], _, _, _, _, _, _, rfl, by rw [upd_same, refs_snoc], ?_, by simp [wl], fun k hk => ?_, fun e he => ?_, fun k hk xs hxm => ?_⟩
  · rw [er1_put]
    exact (wa.same (er1_mono (u8.trans s9))).snoc ⟨sy, fo, bs, er1_tup hr9 h9, e9.tup g2, e9.seq g3, g4.same e9⟩
  · rw [dAt_snoc, wl]
    by_cases c : k < i
    · rw [if_pos c]; exact sm k c
    · have : k = i := by omega
      rw [if_neg c, if_pos this, this, edd]
      exact ⟨rfl, rfl⟩
  · rcases List.mem_append.mp he with he | he
    · exact wo e he
    · rw [List.mem_singleton.mp he]
      exact ⟨ld0, ld4, wdd.s, wdd.f, wdd.n⟩
  · rw [dAt_snoc, wl]
    by_cases c : k < i
    · rw [if_pos c]; exact lt k c xs hxm
    · have : k = i := by omega
      rw [if_neg c, if_pos this, this]
      refine ⟨ldo xs hxm, fun kt i0 => ?_⟩
      obtain ⟨j, hj, ej⟩ := List.mem_iff_getElem.mp hxm
      exact ya (ke kt) j xs hj (by rw [List.getElem?_eq_getElem hj, ej]) i0
def sp_l_drawn (K : PySem.W.Frag) : Sp := fun vs H Q _ => ∃ (sa : Addr) (ns : List Int) (mo my : Nat), vs = [.ref sa, .int (mo : Int), .int (my : Int)] ∧ SqL K H sa (ns.map V.int) ∧ mo ≤ 40 ∧ (my = 1 ∨ my = 2) ∧ ∀ q bq ly (las : List Addr) (F : Frm) (es : List Wd) (xss : List (List (Int × Int))) (b : Int) H', Same H H' → SqT K H' q [.ref bq, .ref ly] → BkAt K H' bq F.w F.h F.f F.m es → SqL K H' ly (las.map V.ref) → LysA K H' las xss → xss.length = my → es.length ≤ 40 → (∀ xs ∈ xss, BkOk F es xs ∧ Pages F.m xs ∧ Ris b xs ∧ ∀ k, k < es.length → TrueAt F es xs k) → Q (.ref q) H'
theorem sc_l_drawn : FnScope ["script", "most", "many", "numbers", "first", "number", "base", "room", "layings", "parts", "form"] ["script", "most", "many"] (defScope s_l_drawn) := ⟨rfl, rfl, rfl, by decide +kernel, rfl, by decide +kernel, by decide +kernel⟩
theorem ok_l_drawn (T : Txt P w K mg a) : FnOk P w K mg base CX0 5 a.f_l_drawn a.fd_l_drawn ["script", "most", "many"] (sp_l_drawn K) := by
  have g_l_cell_at := ok_l_cell_at (P := P) (w := w) (base := base) T
  have d_l_cell_at := T.d_l_cell_at
  have g_l_first := ok_l_first (P := P) (w := w) (base := base) T
  have d_l_first := T.d_l_first
  have g_l_fitting := ok_l_fitting (P := P) (w := w) (base := base) T
  have d_l_fitting := T.d_l_fitting
  have g_l_mixed := ok_l_mixed (P := P) (w := w) (base := base) T
  have d_l_mixed := T.d_l_mixed
  have g_l_numbers := ok_l_numbers (P := P) (w := w) (base := base) T
  have d_l_numbers := T.d_l_numbers
  have g_l_parts := ok_l_parts (P := P) (w := w) (base := base) T
  have d_l_parts := T.d_l_parts
  have g_l_rising := ok_l_rising (P := P) (w := w) (base := base) T
  have d_l_rising := T.d_l_rising
  have g_l_words := ok_l_words (P := P) (w := w) (base := base) T
  have d_l_words := T.d_l_words
  refine T.d_l_drawn.fn.ok sc_l_drawn (fun vs H Q E h => ?_) (fun cdv A outer s H vs Q E hr h => ?_)
  · obtain ⟨sa, ns, mo, my, rfl, _⟩ := h
    rfl
  obtain ⟨sa, ns, mo, my, rfl, hS, m40, my2, q⟩ := h
  have hu := Nat.lt_of_succ_lt (hu_of hr)
  refine ⟨_, (pss_cons (ps_set (i := 3) sc_l_drawn.nd rfl (Or.inl rfl) (pe_callD d_l_numbers g_l_numbers (hr.mono (by decide)) rfl (pa_cons (pv 0) (pa_cons (pv 1) pa_nil))))
      (pss_cons (ps_set (i := 4) sc_l_drawn.nd rfl (Or.inl rfl) (pe_callD d_l_first g_l_first (hr.mono (by decide)) rfl (pa_cons (pe_callD d_l_cell_at g_l_cell_at (hr.mono (by decide)) rfl (pa_cons (pv 0) (pa_cons pe_int pa_nil))) pa_nil)))
      (pss_cons (ps_set (i := 5) sc_l_drawn.nd rfl (Or.inl rfl) (pe_callD d_l_mixed g_l_mixed (hr.mono (by decide)) rfl (pa_cons (pe_op op_add (pe_callD d_l_cell_at g_l_cell_at (hr.mono (by decide)) rfl (pa_cons (pv 0) (pa_cons pe_int pa_nil))) pe_int) pa_nil)))
      (pss_cons (ps_set (i := 6) sc_l_drawn.nd rfl (Or.inl rfl) (pe_op op_add pe_int (pe_op op_mod (pv 5) pe_int)))
      (pss_cons (ps_set (i := 7) sc_l_drawn.nd rfl (Or.inl rfl) (pe_ifExp (pt_cmpR op_ge (pv 4) (pe_op op_pow pe_int pe_int) (nomark _)) pe_int pe_int))
      (pss_cons (ps_set (i := 8) sc_l_drawn.nd rfl (Or.inl rfl) (pe_lst (pa_cons (pe_callD d_l_rising g_l_rising (hr.mono (by decide)) rfl (pa_cons (pv 3) (pa_cons (pv 6) (pa_cons (pv 7) pa_nil)))) pa_nil)))
      (pss_cons (ps_if (pt_cmpR op_eq (pv 2) pe_int (nomark _)) (pss_one (ps_expr (pe_bm PySem.F.plainAttrs_list PySem.F.slot_list_append PySem.F.type_list_append mt_append (pv 8) (pa_cons (pe_callD d_l_rising g_l_rising (hr.mono (by decide)) rfl (pa_cons (pe_lc rfl (lcok (caps := []) (js := []) (cap := trivial)) (pi_list (pv 3)) (fun _ _ _ _ => pts_nil) (fun _ _ _ _ => (pe_op op_fdiv (pv 0) pe_int))) (pa_cons (pv 6) (pa_cons (pv 7) pa_nil)))) pa_nil)))) pss_nil)
      (pss_cons (ps_set (i := 9) sc_l_drawn.nd rfl (Or.inl rfl) (pe_callD d_l_parts g_l_parts (hr.mono (by decide)) rfl (pa_cons (pv 3) (pa_cons (pe_cmpR op_eq (pv 7) pe_int (nomark _)) pa_nil))))
      (pss_cons (ps_set (i := 10) sc_l_drawn.nd rfl (Or.inl rfl) (pe_callD d_l_fitting g_l_fitting (hr.mono (by decide)) rfl (pa_cons (pv 9) (pa_cons (pv 8) (pa_cons (pv 6) (pa_cons (pv 4) (pa_cons (pe_op op_fdiv (pv 5) pe_int) pa_nil)))))))
      (pss_one (ps_ret (pe_tup (pa_cons (pe_tup (pa_cons (pv 10) (pa_cons (pe_callD d_l_words g_l_words (hr.mono (by decide)) rfl (pa_cons (pv 10) (pa_cons (pv 9) (pa_cons (pv 8) (pa_cons (pv 3) pa_nil))))) pa_nil))) (pa_cons (pv 8) pa_nil)))))))))))))), ?_⟩
  refine ⟨_, rfl, _, rfl, sa, ns, mo, rfl, hS, m40, fun na zs H1 s1 hna z40 => ?_⟩
  dsimp only [gName]
  refine ⟨_, rfl, sa, ns, (1 : Nat), rfl, s1.seq hS, _, rfl, fun f f0 f60 => ?_⟩
  dsimp only [gName]
  refine ⟨_, rfl, sa, ns, (0 : Nat), rfl, s1.seq hS, _, _, rfl, rfl, _, rfl, ?_⟩
  dsimp only [gName]
  generalize mixed (ns.getD 0 0 + 7) = nu
  refine ⟨_, rfl, _, _, rfl, rfl, (by (first | decide | (show (0 : Int) < _; first | decide | omega))), _, _, rfl, rfl, ?_⟩
  dsimp only [gName]
  have bb : 1 ≤ 1 + nu % 6 ∧ 1 + nu % 6 ≤ 6 := by omega
  generalize 1 + nu % 6 = b at bb ⊢
  refine cut_seq (fun σ' H' => H' = H1 ∧ ∃ ro : Int, σ' = [some (.ref sa), some (.int (mo : Int)), some (.int (my : Int)), some (.ref na), some (.int f), some (.int nu), some (.int b), some (.int ro), none, none, none]) ?_ (fun key => ?_)
  rotate_left
  · refine ⟨_, rfl, _, _, rfl, rfl, ⟨by decide, by decide, by decide⟩, _, _, rfl, rfl, _, rfl, ?_⟩
    refine ite2 (fun _ => ?_) (fun _ => ?_)
    · exact key _ _ ⟨rfl, 3, rfl⟩
    · exact key _ _ ⟨rfl, 10, rfl⟩
  rintro σ' H1' ⟨rfl, ro, rfl⟩
  refine ⟨_, rfl, _, rfl, _, rfl, na, zs, b, ro, rfl, SqL.of hna, bb.1, bb.2, z40, fun l1 as1 xs1 H2 s2 _ hl1 pl1 xl1 R1 => ?_⟩
  refine ⟨le1, fun ly hly => ?_⟩
  have s3 := same_new hly (.lst [V.ref l1])
  have h3 : (upd H2 ly (.lst [V.ref l1])) ly = some (.lst [V.ref l1]) := upd_same
  have n3 : l1 ≠ ly := ne_of_none hl1 hly
  generalize upd H2 ly (.lst [V.ref l1]) = H3 at s3 h3 ⊢
  dsimp only [gName]
  refine cut_seq (fun σ' H' => Same H2 H' ∧ σ' = [some (.ref sa), some (.int (mo : Int)), some (.int (my : Int)), some (.ref na), some (.int f), some (.int nu), some (.int b), some (.int ro), some (.ref ly), none, none] ∧ ∃ (las : List Addr) (xss : List (List (Int × Int))), H' ly = some (.lst (las.map V.ref)) ∧ LysA K H' las xss ∧ xss.length = my ∧ ∀ xs ∈ xss, Ris b xs ∧ xs.length = zs.length) ?_ (fun key => ?_)
  rotate_left
  · have one : LysA K H3 [l1] [xs1] := by
      refine ⟨rfl, fun i a xs e1 e2 => ?_⟩
      cases i with
      | zero => cases e1; cases e2; exact ⟨as1, SqL.of (s3 _ _ hl1), pl1.same s3⟩
      | succ i => simp at e1
    refine ⟨_, rfl, rfl, _, rfl, ?_⟩
    rcases my2 with rfl | rfl
    · refine ite2 (fun z => absurd (int_eq.mp z) (by decide)) (fun _ => ?_)
      refine key _ _ ⟨s3, rfl, [l1], [xs1], h3, one, rfl, fun xs hx => ?_⟩
      rw [List.mem_singleton.mp hx]
      exact ⟨R1, xl1⟩
    · refine ite2 (fun _ => ?_) (fun z => absurd (int_eq.mpr rfl) z)
      have t3 := s2.trans s3
      refine ⟨_, rfl, .inl ⟨rfl, _, SqL.of h3⟩, _, rfl, _, rfl, ⟨_, SqL.of (t3 _ _ hna)⟩, lc_list (K := K) (a := na) (xs := zs.map V.int) (fun i ys H4 => H4 = H3 ∧ ∃ ws : List Int, ws.length = i ∧ ys = ws.map V.int) ⟨rfl, [], rfl, rfl⟩ (fun i ys H4 _ g => by rw [g.1]; exact SqL.of (t3 _ _ hna)) ?_ ?_ ?_⟩
      · rintro i ys H4 hi ⟨_, ws, wl, rfl⟩
        rw [List.length_map] at hi ⊢
        exact Nat.lt_of_lt_of_le (show ws.length < 1000 by omega) (small (Nat.le_refl _))
      · rintro i y ys H4 hi ⟨rfl, ws, wl, rfl⟩
        obtain ⟨c, rfl, _⟩ := ints_at hi
        refine yes_go ?_
        exact ⟨_, rfl, _, _, rfl, rfl, ⟨by decide, by decide⟩, rfl, ws ++ [c / 288], by simp [wl], by rw [List.map_append]; rfl⟩
      rintro ys H4 ⟨rfl, ws, wl, rfl⟩ p4 hp4
      rw [List.length_map] at wl
      have s5 := same_new hp4 (.lst (ws.map V.int))
      have h5 : (upd H4 p4 (.lst (ws.map V.int))) p4 = some (.lst (ws.map V.int)) := upd_same
      generalize upd H4 p4 (.lst (ws.map V.int)) = H5 at s5 h5 ⊢
      refine ⟨_, rfl, _, rfl, p4, ws, b, ro, rfl, SqL.of h5, bb.1, bb.2, by omega, fun l2 as2 xs2 H6 s6 nl2 hl2 pl2 xl2 R2 => ?_⟩
      have h6 := (s5.trans s6) _ _ h3
      refine ⟨_, _, _, rfl, rfl, h6, Nat.lt_of_lt_of_le (show 1 < 1000 by decide) (small (Nat.le_refl _)), ?_⟩
      have n6 : l2 ≠ ly := fun z => by rw [z, s5 _ _ h3] at nl2; cases nl2
      have t6 := s3.trans (s5.trans s6)
      have two : LysA K (upd H6 ly (.lst ([V.ref l1] ++ [V.ref l2]))) [l1, l2] [xs1, xs2] := by
        refine ⟨rfl, fun i a xs e1 e2 => ?_⟩
        match i, e1, e2 with
        | 0, e1, e2 => cases e1; cases e2; exact ⟨as1, SqL.of (by rw [upd_ne n3]; exact t6 _ _ hl1), (pl1.same t6).lst h6⟩
        | 1, e1, e2 => cases e1; cases e2; exact ⟨as2, SqL.of (by rw [upd_ne n6]; exact hl2), pl2.lst h6⟩
        | i + 2, e1, _ => exact absurd e1 (by simp)
      refine key _ _ ⟨t6.put hly, rfl, [l1, l2], [xs1, xs2], by rw [upd_same]; rfl, two, rfl, fun xs hx => ?_⟩
      rcases List.mem_cons.mp hx with rfl | hx
      · exact ⟨R1, xl1⟩
      · rw [List.mem_singleton.mp hx]
        exact ⟨R2, by omega⟩
  rintro σ' H4 ⟨s4, rfl, las, xss, hly4, hls, xm, hx⟩
  have t4 := s2.trans s4
  have x12 : 0 < xss.length ∧ xss.length ≤ 2 := by rcases my2 with z | z <;> omega
  refine ⟨_, rfl, _, rfl, rfl, na, zs, _, rfl, SqL.of (t4 _ _ hna), z40, fun pq pas ds H5 s5 hpq hps dl wd f40 => ?_⟩
  dsimp only [gName]
  have hly5 := s5 _ _ hly4
  refine ⟨_, rfl, _, rfl, _, rfl, _, rfl, _, rfl, _, _, rfl, rfl, ⟨by decide, by decide⟩, pq, ly, pas, las, ds, xss, b, f, nu / 6, rfl, SqL.of hpq, hps, SqL.of hly5, hls.same s5, x12.1, x12.2, (fun xs h => ⟨(hx xs h).1, (hx xs h).2.trans dl.symm⟩), bb.1, bb.2, f40, by omega, wd, f0, f60, fun fq F H6 s6 hfq fo ff hb ft => ?_⟩
  dsimp only [gName]
  refine ⟨_, rfl, _, rfl, _, rfl, _, rfl, _, rfl, fq, pq, ly, na, F, pas, las, ds, xss, zs, b, rfl, hfq, SqL.of (s6 _ _ hpq), hps.same s6, SqL.of (s6 _ _ hly5), (hls.same s5).same s6, x12.2, SqL.of ((t4.trans (s5.trans s6)) _ _ hna), dl.symm, by omega, wd, fo.h1, fo.h2, (fun xs h => ⟨(ft xs h).len.symm, (ft xs h).po, (hx xs h).1⟩), fun wq was es H7 s7 hwq hws sm wo lt => ?_⟩
  refine ⟨le2, fun p2 hp2 => ?_⟩
  have s8 := same_new hp2 (.tup [V.ref fq, V.ref wq])
  have h8 : SqT K (upd H7 p2 (.tup [V.ref fq, V.ref wq])) p2 [V.ref fq, V.ref wq] := SqT.of upd_same
  generalize upd H7 p2 (.tup [V.ref fq, V.ref wq]) = H8 at s8 h8 ⊢
  refine ⟨_, rfl, le2, fun p3 hp3 => ?_⟩
  have s9 := same_new hp3 (.tup [V.ref p2, V.ref ly])
  have k7 := s7.trans (s8.trans s9)
  have e40 : es.length ≤ 40 := by rw [sm.1]; omega
  refine q p3 p2 ly las F es xss b _ (s1.trans (t4.trans (s5.trans (s6.trans k7)))) (SqT.of upd_same) ⟨fq, wq, was, s9.tup h8, k7.tup hfq, SqL.of ((s8.trans s9) _ _ hwq), hws.same (s8.trans s9)⟩ (SqL.of ((s6.trans k7) _ _ hly5)) (hls.same (s5.trans (s6.trans k7))) xm e40 (fun xs h => ⟨⟨fo, sm.1.trans (ft xs h).len, wo, (ft xs h).po, by omega⟩, (ft xs h).pg, (hx xs h).1, fun k hk => drawn_true (ft xs h) sm hk (lt k hk xs h).1 (lt k hk xs h).2⟩)
def sp_l_filled_by (K : PySem.W.Frag) : Sp := fun vs H Q _ => ∃ (fa oa pa : Addr) (w h f m : Int) (bs as : List Addr) (ss : List Say) (xs : List (Int × Int)), vs = [.ref fa, .ref oa, .ref pa] ∧ SqT K H fa (fm w h f m) ∧ SqL K H oa (bs.map V.ref) ∧ SaysA K H bs ss ∧ SqL K H pa (as.map V.ref) ∧ PlsA K H as xs ∧ FormOk w h f m ∧ (∀ s ∈ ss, SayOk xs.length s) ∧ PlsOk h xs ∧ ss.length ≤ 60 ∧ ∀ q H', Same H H' → H q = none → H' q = some (.lst (rowsV (fillW w (ss.map (saidL h f xs))))) → Q (.ref q) H'
theorem sc_l_filled_by : FnScope ["form", "foot", "places", "rows", "saying", "text"] ["form", "foot", "places"] (defScope s_l_filled_by) := ⟨rfl, rfl, rfl, by decide +kernel, rfl, by decide +kernel, by decide +kernel⟩
theorem ok_l_filled_by (T : Txt P w K mg a) : FnOk P w K mg base CX0 2 a.f_l_filled_by a.fd_l_filled_by ["form", "foot", "places"] (sp_l_filled_by K) := by
  have g_l_said_by := ok_l_said_by (P := P) (w := w) (base := base) T
  have d_l_said_by := T.d_l_said_by
  have z_len := T.z_len
  refine T.d_l_filled_by.fn.ok sc_l_filled_by (fun vs H Q E h => ?_) (fun cdv A outer s H vs Q E hr h => ?_)
  · obtain ⟨fa, oa, pa, w, h, f, m, bs, as, ss, xs, rfl, _⟩ := h
    rfl
  obtain ⟨fa, oa, pa, w, h, f, m, bs, as, ss, xs, rfl, hf, ho, hb, hp, ha, fo, so, po, s60, q⟩ := h
  have hu := Nat.lt_of_succ_lt (hu_of hr)
  refine ⟨_, (pss_cons (ps_set (i := 3) sc_l_filled_by.nd rfl (Or.inl rfl) (pe_lst pa_nil))
      (pss_cons (ps_for PassesOwn.never rfl (pi_list (pv 1)) (pg_name (i := 4) sc_l_filled_by.nd rfl (Or.inl rfl)) (pss_cons (ps_set (i := 5) sc_l_filled_by.nd rfl (Or.inl rfl) (pe_callD d_l_said_by g_l_said_by (hr.mono (by decide)) rfl (pa_cons (pv 0) (pa_cons (pv 4) (pa_cons (pv 2) pa_nil)))))
      (pss_one (ps_if (PW.pt (pw_and (pt_cmpR (op_neL hu) (pv 3) (pe_lst pa_nil) (nomark _)) (pw_and1 (pt_cmpR op_le (pe_op op_add (pe_op op_add (pe_callB call_len_str rfl z_len PySem.boot_len (pa_cons (pe_ix ix_list (pv 3) (pe_un un_neg pe_int) (fun _ _ => rfl)) pa_nil)) pe_int) (pe_callB call_len_str rfl z_len PySem.boot_len (pa_cons (pv 5) pa_nil))) (pe_ix ix_tup (pv 0) pe_int (fun _ _ => rfl)) (nomark _))))) (pss_one (ps_asg (pe_op op_add_str (pe_op op_add_str (pe_ix ix_list (pv 3) (pe_un un_neg pe_int) (fun _ _ => rfl)) pe_str) (pv 5)) (pg_sub (pv 3) (pe_un un_neg pe_int) set_list))) (pss_one (ps_expr (pe_bm PySem.F.plainAttrs_list PySem.F.slot_list_append PySem.F.type_list_append mt_append (pv 3) (pa_cons (pv 5) pa_nil))))))))
      (pss_one (ps_ret (pv 3))))), ?_⟩
  refine ⟨Nat.zero_le _, fun r hr => ?_⟩
  have s0 := same_new hr (.lst [])
  have sl : ∀ s ∈ ss, (saidL h f xs s).length ≤ 62 := fun s hs => (said_len fo po (so s hs)).2.1
  refine ⟨_, rfl, _, rfl, ⟨_, s0.seq ho⟩, for_list (K := K) (a := oa) (xs := bs.map V.ref) (fun i σ H2 => (∃ v1 v2 : Option V, σ = [some (.ref fa), some (.ref oa), some (.ref pa), some (.ref r), v1, v2]) ∧ Same H H2 ∧ H2 r = some (.lst (rowsV (fillW w ((ss.take i).map (saidL h f xs))))))
    ⟨⟨none, none, rfl⟩, s0, upd_same⟩ (fun i σ H2 _ h2 => h2.2.1.seq ho) ?_ ?_⟩
  · rintro i y σ H2 hi ⟨⟨v1, v2, rfl⟩, s2, h2⟩
    obtain ⟨b, s, rfl, eb, es⟩ := foot_at hb.1 hi
    have hs := List.mem_of_getElem? es
    have is : i < ss.length := (List.getElem?_eq_some_iff.mp es).1
    have hts : ∀ t ∈ (ss.take i).map (saidL h f xs), t.length ≤ 62 := fun t ht => by
      obtain ⟨u, hu, rfl⟩ := List.mem_map.mp ht
      exact sl u (List.mem_of_mem_take hu)
    obtain ⟨fs1, fs2⟩ := fill_small fo.w2 _ hts
    rw [List.length_map, List.length_take] at fs2
    rw [take_snoc es, List.map_append, List.map_singleton, fillW_snoc]
    have tl := sl s hs
    generalize fillW w ((ss.take i).map (saidL h f xs)) = rows at h2 fs1 fs2
    refine ⟨_, rfl, _, rfl, _, rfl, _, _, _, _, _, _, _, _, _, _, rfl, s2.tup hf, s2.tup (hb.2 i b s eb es), s2.seq hp, ha.same s2, fo, so s hs, po, ?_⟩
    generalize saidL h f xs s = t at tl
    dsimp only [gName]
    refine ⟨_, rfl, Nat.zero_le _, fun p2 hp2 => ?_⟩
    have s3 := same_new hp2 (.lst [])
    have h3 := s3 _ _ h2
    refine ⟨_, _, _, _, rfl, rfl, SqL.of h3, SqL.of upd_same, flat_rows _, rfl, _, rfl, ?_⟩
    rw [if_pos rfl, rows_nil]
    rcases list_snoc rows with e | ⟨rs, l, e⟩
    · have e : rows = [] ∧ fillStep w rows t = rows ++ [t] := ⟨e, by rw [e]; rfl⟩
      rw [e.1]
      refine iteF (iteF ?_)
      rw [← e.1]
      replace e := e.2
      refine ⟨_, rfl, .inl ⟨rfl, _, SqL.of h3⟩, _, rfl, _, _, _, rfl, rfl, h3, ?_, ?_⟩
      · unfold rowsV
        rw [List.length_map]
        exact Nat.lt_of_lt_of_le (show _ < 1000 by omega) (small (Nat.le_refl _))
      · refine ⟨⟨_, _, rfl⟩, (s2.trans s3).put hr, ?_⟩
        rw [upd_same, e, rowsV_snoc]
    · have ne : (!rows.isEmpty) = true := by rw [e]; simp
      rw [ne]
      refine iteT ?_
      have ll := fs1 l (by rw [e]; simp)
      have h4 := h3
      rw [e, rowsV_snoc] at h4
      refine ⟨_, rfl, _, rfl, _, _, _, _, rfl, rfl, SqL.of h4, at_last _ _, _, rfl, (by rw [tx_len]; exact small2 (by omega)), _, _, rfl, rfl, _, rfl, _, rfl, (by rw [tx_len]; exact small2 (by omega)), _, _, rfl, rfl, _, rfl, _, _, _, _, rfl, rfl, s3.tup (s2.tup hf), rfl, _, _, rfl, rfl, _, rfl, ?_⟩
      rw [tx_len, tx_len]
      refine ite2 (fun c => ?_) (fun c => ?_)
      · have c1 : (l.length : Int) + 1 + t.length ≤ w := of_decide_eq_true c
        have w2 := fo.w2
        rw [e, fillStep_snoc, if_pos c1]
        refine ⟨_, rfl, _, rfl, _, _, _, _, rfl, rfl, SqL.of h4, at_last _ _, _, _, rfl, rfl, (by rw [tx_len, cbl, tx_len]; exact small2 (by simp; omega)), _, rfl, _, _, rfl, rfl, ?_, _, rfl, _, rfl, _, _, _, _, rfl, rfl, h4, ix_last _ (by simp), ?_⟩
        · rw [cbl, tx_app, tx_len, tx_len]
          exact small2 (by simp; omega)
        · rw [set_last, cbl, tx_app, tx_app]
          refine ⟨⟨_, _, rfl⟩, (s2.trans s3).put hr, ?_⟩
          rw [upd_same, rowsV_snoc, List.append_assoc]
          rfl
      · have c1 : ¬ (l.length : Int) + 1 + t.length ≤ w := fun z => c (decide_eq_true z)
        have e : fillStep w rows t = rows ++ [t] := by rw [e, fillStep_snoc, if_neg c1]
        refine ⟨_, rfl, .inl ⟨rfl, _, SqL.of h3⟩, _, rfl, _, _, _, rfl, rfl, h3, ?_, ?_⟩
        · unfold rowsV
          rw [List.length_map]
          exact Nat.lt_of_lt_of_le (show _ < 1000 by omega) (small (Nat.le_refl _))
        · refine ⟨⟨_, _, rfl⟩, (s2.trans s3).put hr, ?_⟩
          rw [upd_same, e, rowsV_snoc]
  · rintro σ H2 ⟨⟨v1, v2, rfl⟩, s2, h2⟩
    rw [List.length_map, hb.1, List.take_length] at h2
    exact ⟨_, rfl, q _ _ s2 hr h2⟩
def sp_l_due (K : PySem.W.Frag) : Sp := fun vs H Q _ => ∃ (ba la : Addr) (F : Frm) (ds : List Wd) (xs : List (Int × Int)), vs = [.ref ba, .ref la] ∧ BkAt K H ba F.w F.h F.f F.m ds ∧ LwAt K H la xs ∧ BkOk F ds xs ∧ ds.length ≤ 40 ∧ (∀ p : Int, ((feetW F ds xs p ds.length).length : Int) ≤ F.h) ∧ (∀ k, k < xs.length → (xAt xs k).1 ≤ 60) ∧ (∀ k, k < xs.length → (xAt xs k).1.toNat < nPg xs) ∧ ∀ q (ps rs : List Addr) H', Same H H' → H q = none → PgD H H' q ps rs F.f (fun i => pgR F ds xs (i : Int)) → ps.length = nPg xs → Q (.ref q) H'
theorem sc_l_due : FnScope ["book", "places", "form", "words", "many", "pages", "feet", "k", "word", "page", "row", "rows", "text"] ["book", "places"] (defScope s_l_due) := ⟨rfl, rfl, rfl, by decide +kernel, rfl, by decide +kernel, by decide +kernel⟩
theorem ok_l_due (T : Txt P w K mg a) : FnOk P w K mg base CX0 3 a.f_l_due a.fd_l_due ["book", "places"] (sp_l_due K) := by
  have g_l_filled_by := ok_l_filled_by (P := P) (w := w) (base := base) T
  have d_l_filled_by := T.d_l_filled_by
  have g_l_said_by := ok_l_said_by (P := P) (w := w) (base := base) T
  have d_l_said_by := T.d_l_said_by
  have z_enumerate := T.z_enumerate
  have z_len := T.z_len
  have z_range := T.z_range
  refine T.d_l_due.fn.ok sc_l_due (fun vs H Q E h => ?_) (fun cdv A outer s H vs Q E hr h => ?_)
  · obtain ⟨ba, la, F, ds, xs, rfl, _⟩ := h
    rfl
  obtain ⟨ba, la, F, ds, xs, rfl, hbk, hl, B, d40, fl, p60, pn, q⟩ := h
  have hu := Nat.lt_of_succ_lt (hu_of hr)
  refine ⟨_, (pss_cons (ps_asg (pv 0) (pg_tup rfl (pgs_cons (pg_name (i := 2) sc_l_due.nd rfl (Or.inr rfl)) (pgs_cons (pg_name (i := 3) sc_l_due.nd rfl (Or.inl rfl)) pgs_nil))))
      (pss_cons (ps_set (i := 4) sc_l_due.nd rfl (Or.inl rfl) pe_int)
      (pss_cons (ps_if (pt_cmpR (op_neNil hu) (pv 1) (pe_lst pa_nil) (nomark _)) (pss_one (ps_set (i := 4) sc_l_due.nd rfl (Or.inl rfl) (pe_op op_add (pe_ix ix_tup (pe_ix ix_list (pv 1) (pe_un un_neg pe_int) (fun _ _ => rfl)) pe_int (fun _ _ => rfl)) pe_int))) pss_nil)
      (pss_cons (ps_lc (k := 5) rfl (lcok (caps := ["form"]) (js := [2]) (cap := ⟨⟨rfl, .inl rfl, rfl, .inl rfl⟩, trivial⟩)) (pi_range1 rfl z_range (pa_cons (pv 4) pa_nil)) (fun _ _ _ _ => pts_nil) (fun _ _ _ _ => (pe_tup (pa_cons (pe_op op_add (pe_ix (r := rIxT K) ix_tup (pv 1) pe_int (fun _ _ => rfl)) (pv 0)) (pa_cons (pe_op op_rep (pe_lst (pa_cons pe_str pa_nil)) (pe_ix (r := rIxT K) ix_tup (pv 1) pe_int (fun _ _ => rfl))) pa_nil)))) sc_l_due.nd rfl rfl)
      (pss_cons (ps_lc (k := 6) rfl (lcok (caps := []) (js := []) (cap := trivial)) (pi_range1 rfl z_range (pa_cons (pv 4) pa_nil)) (fun _ _ _ _ => pts_nil) (fun _ _ _ _ => (pe_lst pa_nil)) sc_l_due.nd rfl rfl)
      (pss_cons (ps_for PassesOwn.never rfl (pi_enum rfl z_enumerate (pv 3)) (pg_tup rfl (pgs_cons (pg_name (i := 7) sc_l_due.nd rfl (Or.inl rfl)) (pgs_cons (pg_name (i := 8) sc_l_due.nd rfl (Or.inl rfl)) pgs_nil))) (pss_cons (ps_asg (pe_ix ix_list (pv 1) (pv 7) (fun _ _ => rfl)) (pg_tup rfl (pgs_cons (pg_name (i := 9) sc_l_due.nd rfl (Or.inl rfl)) (pgs_cons (pg_name (i := 10) sc_l_due.nd rfl (Or.inl rfl)) pgs_nil))))
      (pss_cons (ps_set (i := 11) sc_l_due.nd rfl (Or.inl rfl) (pe_ix ix_tup (pe_ix ix_list (pv 5) (pv 9) (fun _ _ => rfl)) pe_int (fun _ _ => rfl)))
      (pss_cons (ps_set (i := 12) sc_l_due.nd rfl (Or.inl rfl) (pe_callD d_l_said_by g_l_said_by (hr.mono (by decide)) rfl (pa_cons (pv 2) (pa_cons (pe_ix ix_tup (pv 8) pe_int (fun _ _ => rfl)) (pa_cons (pv 1) pa_nil)))))
      (pss_cons (ps_if (pt_cmpR op_ne (pe_ix ix_list (pv 11) (pv 10) (fun _ _ => rfl)) pe_str (nomark _)) (pss_one (ps_set (i := 12) sc_l_due.nd rfl (Or.inl rfl) (pe_op op_add_str (pe_op op_add_str (pe_ix ix_list (pv 11) (pv 10) (fun _ _ => rfl)) pe_str) (pv 12)))) pss_nil)
      (pss_cons (ps_asg (pv 12) (pg_sub (pv 11) (pv 10) set_list))
      (pss_one (ps_expr (pe_bm PySem.F.plainAttrs_list PySem.F.slot_list_extend PySem.F.type_list_extend mt_extend (pe_ix ix_list (pv 6) (pv 9) (fun _ _ => rfl)) (pa_cons (pe_callD d_l_filled_by g_l_filled_by (hr.mono (by decide)) rfl (pa_cons (pv 2) (pa_cons (pe_ix ix_tup (pv 8) pe_int (fun _ _ => rfl)) (pa_cons (pv 1) pa_nil)))) pa_nil))))))))))
      (pss_cons (ps_for PassesOwn.never rfl (pi_range1 rfl z_range (pa_cons (pv 4) pa_nil)) (pg_name (i := 9) sc_l_due.nd rfl (Or.inl rfl)) (pss_cons (ps_set (i := 11) sc_l_due.nd rfl (Or.inl rfl) (pe_ix ix_tup (pe_ix ix_list (pv 5) (pv 9) (fun _ _ => rfl)) pe_int (fun _ _ => rfl)))
      (pss_one (ps_for PassesOwn.never rfl (pi_enum rfl z_enumerate (pe_ix ix_list (pv 6) (pv 9) (fun _ _ => rfl))) (pg_tup rfl (pgs_cons (pg_name (i := 7) sc_l_due.nd rfl (Or.inl rfl)) (pgs_cons (pg_name (i := 12) sc_l_due.nd rfl (Or.inl rfl)) pgs_nil))) (pss_one (ps_asg (pv 12) (pg_sub (pv 11) (pe_op op_add (pe_op op_sub (pe_ix ix_tup (pv 2) pe_int (fun _ _ => rfl)) (pe_callB call_len_seq rfl z_len PySem.boot_len (pa_cons (pe_ix ix_list (pv 6) (pv 9) (fun _ _ => rfl)) pa_nil))) (pv 7)) set_list)))))))
      (pss_one (ps_ret (pv 5)))))))))), ?_⟩
  obtain ⟨fa, wo, was, hb, hf, hw, hws⟩ := hbk
  have hl0 := hl
  obtain ⟨las, hla, hls⟩ := hl
  have fo := B.fo
  have h1 := fo.h1
  have h60 := fo.h2
  have wdx : ∀ d ∈ ds, WdOk xs.length d := fun d hd => by have := B.wd d hd; rwa [B.len] at this
  have elw : (was.map V.ref).length = ds.length := by rw [List.length_map, hws.1]
  refine ⟨_, rfl, ba, _, rfl, hb, rfl, _, _, rfl, _, _, rfl, rfl, ?_⟩
  dsimp only [gName]
  refine cut_seq (fun σ' H' => H' = H ∧ σ' = [some (.ref ba), some (.ref la), some (.ref fa), some (.ref wo), some (.int 0), none, none, none, none, none, none, none, none]) ?_ (fun key => key _ _ ⟨rfl, rfl⟩)
  rintro σ' H' ⟨eH, rfl⟩
  rw [eH]
  clear eH
  refine cut_seq (fun σ' H2 => Same H H2 ∧ σ' = [some (.ref ba), some (.ref la), some (.ref fa), some (.ref wo), some (.int (nPg xs : Int)), none, none, none, none, none, none, none, none]) ?_ (fun key => ?_)
  rotate_left
  · refine ⟨_, rfl, Nat.zero_le _, fun p1 hp1 => ?_⟩
    have s1 := same_new hp1 (.lst [])
    refine ⟨la, p1, las.map V.ref, rfl, rfl, s1.seq hla, SqL.of upd_same, _, rfl, ?_⟩
    generalize upd H p1 (.lst []) = H1 at s1 ⊢
    by_cases x0 : xs.length = 0
    · have xe : xs = [] := List.length_eq_zero_iff.mp x0
      have le : las = [] := List.length_eq_zero_iff.mp (by rw [hls.1]; exact x0)
      rw [le]
      refine iteF ?_
      refine key _ _ ⟨s1, ?_⟩
      have : nPg xs = 0 := by unfold nPg; rw [if_pos xe]
      rw [this]
      rfl
    have lne : (!(las.map V.ref).isEmpty) = true := by
      cases las with
      | nil => exact absurd (show xs.length = 0 from hls.1.symm) x0
      | cons a l => rfl
    rw [lne]
    refine iteT ?_
    have hkl : xs.length - 1 < xs.length := by omega
    have hlk : las.length - 1 < las.length := by rw [hls.1]; exact hkl
    have atl : atI (las.map V.ref) (-1) = some (V.ref las[las.length - 1]) := by
      unfold atI
      rw [List.length_map, ix_last las.length (by omega)]
      show (las.map V.ref)[las.length - 1]? = _
      rw [List.getElem?_map, List.getElem?_eq_getElem hlk]
      rfl
    have hz : SqT K H las[las.length - 1] (pl (xAt xs (xs.length - 1))) := by
      have := hls.2 (las.length - 1) _ (xs[xs.length - 1]) (List.getElem?_eq_getElem hlk) (by rw [hls.1]; exact List.getElem?_eq_getElem hkl)
      rwa [← xAt_of (List.getElem?_eq_getElem hkl)] at this
    have rx := (B.x (show xs.length - 1 < ds.length by rw [B.len]; exact hkl)).1.p1
    have en : (nPg xs : Int) = (xAt xs (xs.length - 1)).1 + 1 := by
      unfold nPg
      rw [if_neg (fun z => x0 (by rw [z]; rfl))]
      omega
    refine ⟨_, rfl, _, rfl, _, _, _, _, rfl, rfl, s1.seq hla, atl, _, _, _, _, rfl, rfl, s1.tup hz, rfl, _, _, rfl, rfl, ?_⟩
    exact key _ _ ⟨s1, by rw [en]; rfl⟩
  rintro σ' H1 ⟨s1, rfl⟩
  have n61 : nPg xs ≤ 61 := by
    unfold nPg
    by_cases c : xs = []
    · rw [if_pos c]; omega
    · have hkl : xs.length - 1 < xs.length := by
        have : xs.length ≠ 0 := fun z => c (List.length_eq_zero_iff.mp z)
        omega
      have := p60 _ hkl
      rw [if_neg c]
      omega
  generalize nPg xs = n at n61 pn q ⊢
  refine ⟨_, rfl, _, rfl, (by omega), (by omega), ?_⟩
  refine lc_range (fun i ys H2 => Same H H2 ∧ ∃ ps rs : List Addr, ps.length = i ∧ ys = ps.map V.ref ∧ PgI H H2 ps rs F.f (fun i => bodyN F ds xs (i : Int) 0)) ⟨s1, [], [], rfl, rfl, PgI.nil⟩ ?_ ?_ ?_
  · rintro i ys H2 hi ⟨_, ps, rs, pl_, rfl, _⟩
    rw [List.length_map, pl_]
    exact Nat.lt_of_lt_of_le (show i < 1000 by omega) (small (Nat.le_refl _))
  · rintro i ys H2 hi ⟨s2, ps, rs, pl_, rfl, hps⟩
    refine yes_go ?_
    refine ⟨_, rfl, _, _, _, _, rfl, rfl, s2.tup hf, rfl, _, rfl, _, _, rfl, rfl, le1, fun p1 hp1 => ?_⟩
    have s3 := same_new hp1 (.lst [V.str (PySem.Str.ofString "")])
    have h3 : (upd H2 p1 (.lst [V.str (PySem.Str.ofString "")])) p1 = some (.lst [V.str (PySem.Str.ofString "")]) := upd_same
    generalize upd H2 p1 (.lst [V.str (PySem.Str.ofString "")]) = H3 at s3 h3 ⊢
    refine ⟨_, rfl, _, _, _, _, rfl, rfl, (s2.trans s3).tup hf, rfl, _, _, _, rfl, rfl, h3, (by omega), (by omega), (by rw [List.length_singleton]; exact small (by omega)), fun p2 hp2 => ?_⟩
    rw [rows_rep]
    have s4 := same_new hp2 (.lst (rowsV (List.replicate F.h.toNat [])))
    have h4 : (upd H3 p2 (.lst (rowsV (List.replicate F.h.toNat [])))) p2 = some (.lst (rowsV (List.replicate F.h.toNat []))) := upd_same
    generalize upd H3 p2 (.lst (rowsV (List.replicate F.h.toNat []))) = H4 at s4 h4 ⊢
    refine ⟨le2, fun p3 hp3 => ?_⟩
    have s5 := same_new hp3 (.tup [V.int (F.f + (0 + (i : Int))), V.ref p2])
    have h5 : (upd H4 p3 (.tup [V.int (F.f + (0 + (i : Int))), V.ref p2])) p3 = some (.tup [V.int (F.f + (ps.length : Int)), V.ref p2]) := by rw [upd_same, Int.zero_add, pl_]
    have k5 := s5 _ _ h4
    rw [← bodyN_zero (F := F) (ds := ds) (xs := xs) (ps.length : Int)] at k5
    have t5 := s3.trans (s4.trans s5)
    exact ⟨s2.trans t5, ps ++ [p3], rs ++ [p2], by simp [pl_], refs_snoc _ _, hps.snoc t5 h5 k5 (s3.free hp2) ((s2.trans s3).free hp2)⟩
  rintro ys H2 ⟨s2, ps, rs, pl_, rfl, hps⟩ pa hpa
  have s3 := same_new hpa (.lst (ps.map V.ref))
  have hpa0 : H pa = none := s2.free hpa
  have D0 : PgD H (upd H2 pa (.lst (ps.map V.ref))) pa ps rs F.f (fun i => bodyN F ds xs (i : Int) 0) := ⟨hps.same s3, upd_same, fun z => by
    obtain ⟨i, hi, e⟩ := List.mem_iff_getElem.mp z
    have := hps.at' i pa (by rw [List.getElem?_eq_getElem hi, e])
    rw [hpa] at this
    cases this⟩
  generalize upd H2 pa (.lst (ps.map V.ref)) = H3 at s3 D0 ⊢
  dsimp only [gName]
  have t3 := s2.trans s3
  refine ⟨_, rfl, _, rfl, (by omega), (by omega), ?_⟩
  refine lc_range (fun i ys H4 => Same H3 H4 ∧ ∃ qs : List Addr, qs.length = i ∧ ys = qs.map V.ref ∧ (∀ (i j : Nat) (q : Addr), qs[i]? = some q → qs[j]? = some q → i = j) ∧ ∀ q ∈ qs, H4 q = some (.lst []) ∧ H3 q = none) ⟨Same.refl _, [], rfl, rfl, (fun i j q h => by simp at h), fun q hq => (by cases hq)⟩ ?_ ?_ ?_
  · rintro i ys H4 hi ⟨_, qs, ql, rfl, _⟩
    rw [List.length_map, ql]
    exact Nat.lt_of_lt_of_le (show i < 1000 by omega) (small (Nat.le_refl _))
  · rintro i ys H4 hi ⟨s4, qs, ql, rfl, nd, at_⟩
    refine yes_go ?_
    refine ⟨Nat.zero_le _, fun p1 hp1 => ?_⟩
    have s5 := same_new hp1 (.lst [])
    have np : ∀ q ∈ qs, q ≠ p1 := fun q hq e => by rw [e] at hq; rw [(at_ p1 hq).1] at hp1; cases hp1
    refine ⟨s4.trans s5, qs ++ [p1], by simp [ql], refs_snoc _ _, fun a b q ha hb2 => ?_, fun q hq => ?_⟩
    · rcases snoc_at ha with ⟨k1, z1⟩ | ⟨k1, z1⟩
      · rcases snoc_at hb2 with ⟨k2, z2⟩ | ⟨k2, z2⟩
        · exact nd a b q k1 k2
        · exact absurd k2 (np q (List.mem_of_getElem? k1))
      · rcases snoc_at hb2 with ⟨k2, z2⟩ | ⟨k2, z2⟩
        · exact absurd k1 (np q (List.mem_of_getElem? k2))
        · omega
    · rcases List.mem_append.mp hq with hq | hq
      · exact ⟨s5 _ _ (at_ q hq).1, (at_ q hq).2⟩
      · rw [List.mem_singleton.mp hq]
        exact ⟨upd_same, s4.free hp1⟩
  rintro ys H4 ⟨s4, qs, ql, rfl, nd, at_⟩ fe hfe
  have s5 := same_new hfe (.lst (qs.map V.ref))
  have h5 : (upd H4 fe (.lst (qs.map V.ref))) fe = some (.lst (qs.map V.ref)) := upd_same
  have nfq : fe ∉ qs := fun h => by rw [(at_ fe h).1] at hfe; cases hfe
  have hfe3 : H3 fe = none := s4.free hfe
  generalize upd H4 fe (.lst (qs.map V.ref)) = H5 at s5 h5 ⊢
  dsimp only [gName]
  have t5 := t3.trans (s4.trans s5)
  have L0 : LsF H H5 fe qs (fun p => feetW F ds xs (p : Int) 0) := ⟨h5, nd, nfq, fun i q h => s5 _ _ (at_ q (List.mem_of_getElem? h)).1, fun q h => t3.free (at_ q h).2⟩
  have D1 := D0.same (s4.trans s5)
  have nqr : ∀ q ∈ qs, q ∉ rs ∧ q ≠ pa := fun q hq => by
    refine ⟨fun z => ?_, fun e => ?_⟩
    · obtain ⟨i, hi, e⟩ := List.mem_iff_getElem.mp z
      have := D0.at' i q (by rw [List.getElem?_eq_getElem hi, e])
      rw [(at_ q hq).2] at this
      cases this
    · have := D0.top
      rw [← e, (at_ q hq).2] at this
      cases this
  have nfr : fe ∉ rs ∧ fe ≠ pa := by
    refine ⟨fun z => ?_, fun e => ?_⟩
    · obtain ⟨i, hi, e⟩ := List.mem_iff_getElem.mp z
      have := D0.at' i fe (by rw [List.getElem?_eq_getElem hi, e])
      rw [hfe3] at this
      cases this
    · have := D0.top
      rw [← e, hfe3] at this
      cases this
  have rl : rs.length = n := by rw [← D0.len]; omega
  have fbound : ∀ p : Int, ∀ m, (feetW F ds xs p m).length ≤ 40 * m ∨ ds.length < m := fun p m => by
    induction m with
    | zero => exact .inl (Nat.zero_le _)
    | succ m ih =>
      rcases Nat.lt_or_ge m ds.length with z | z
      · refine .inl ?_
        have ih := ih.resolve_right (by omega)
        show (feetW F ds xs p m ++ (if (xAt xs m).1 = p then fillW F.w ((dAt ds m).foot.map (saidL F.h F.f xs)) else [])).length ≤ _
        rw [List.length_append]
        have wk := (B.d z).2
        have := wk.n
        have fsm := (fill_small (w := F.w) fo.w2 ((dAt ds m).foot.map (saidL F.h F.f xs)) (fun t ht => by
          obtain ⟨s, hs, rfl⟩ := List.mem_map.mp ht
          exact (said_len fo B.po (wk.f s hs)).2.1)).2
        rw [List.length_map] at fsm
        split
        · omega
        · simp; omega
      · exact .inr (by omega)
  refine ⟨_, rfl, wo, rfl, ⟨_, t5.seq hw⟩, for_enum (K := K) (a := wo) (xs := was.map V.ref) (fun i σ H6 => Same H H6 ∧ ∃ v7 v8 v9 v10 v11 v12 : Option V, σ = [some (.ref ba), some (.ref la), some (.ref fa), some (.ref wo), some (.int (n : Int)), some (.ref pa), some (.ref fe), v7, v8, v9, v10, v11, v12] ∧ PgD H H6 pa ps rs F.f (fun p => bodyN F ds xs (p : Int) i) ∧ LsF H H6 fe qs (fun p => feetW F ds xs (p : Int) i)) ⟨t5, none, none, none, none, none, none, rfl, D1, L0⟩ (fun i σ H6 _ g => g.1.seq hw) ?_ ?_⟩
  · rintro i x σ H6 pp hx ⟨s6, v7, v8, v9, v10, v11, v12, rfl, D, L⟩ hpp
    obtain ⟨wb, d, rfl, eb, ed⟩ := wd_at hws.1 hx
    have hid : i < ds.length := (List.getElem?_eq_some_iff.mp ed).1
    have hix : i < xs.length := by rw [← B.len]; exact hid
    have edd : dAt ds i = d := by
      show ds.getD i wd0 = d
      rw [List.getD_eq_getElem?_getD, ed]
      rfl
    have wk := wdx d (List.mem_of_getElem? ed)
    have n40 := wk.n
    obtain ⟨sy, fo', bs, g1, g2, g3, g4⟩ := hws.2 i wb d eb ed
    obtain ⟨zo, ez, hz⟩ := LwAt.get (a := la) hls hix
    have s7 := same_new hpp (.tup [.int (i : Int), .ref wb])
    refine ⟨pp, _, rfl, SqT.of upd_same, rfl, _, _, rfl, _, _, rfl, rfl, ?_⟩
    replace D := D.same s7
    replace L := L.same s7
    generalize upd H6 pp (.tup [.int (i : Int), .ref wb]) = H7 at s7 D L ⊢
    dsimp only [gName]
    have t7 := s6.trans s7
    have rx := (B.x hid).1
    have pni := pn i hix
    obtain ⟨p, ep⟩ := Int.eq_ofNat_of_zero_le rx.p1
    obtain ⟨r, er⟩ := Int.eq_ofNat_of_zero_le rx.r1
    have rh : r < F.h.toNat := by have := rx.r2; omega
    have pn' : p < ps.length := by rw [ep] at pni; omega
    have exi : xAt xs i = ((p : Int), (r : Int)) := Prod.ext ep er
    rw [exi] at hz
    obtain ⟨pi, ri, er1, ep1, eat, hpi, hri⟩ := D.get pn'
    refine ⟨_, rfl, _, rfl, _, _, _, _, rfl, rfl, t7.seq hla, ez, zo, _, rfl, t7.tup hz, rfl, _, _, rfl, _, _, rfl, rfl, ?_⟩
    dsimp only [gName]
    refine ⟨_, rfl, _, rfl, _, _, _, _, rfl, rfl, SqL.of D.top, eat, _, _, _, _, rfl, rfl, SqT.of hpi, rfl, ?_⟩
    dsimp only [gName]
    refine ⟨_, rfl, _, rfl, _, _, _, _, rfl, rfl, t7.tup g1, rfl, _, rfl, fa, sy, la, F.w, F.h, F.f, F.m, d.say, las, xs, rfl, t7.tup hf, t7.tup g2, t7.seq hla, hls.same t7, fo, wk.s, B.po, ?_⟩
    dsimp only [gName]
    have sl := said_len fo B.po wk.s
    have rmem : ∀ t ∈ rowW F ds xs (p : Int) (r : Int) i, 1 ≤ t.length ∧ t.length ≤ 62 := fun t ht => by
      obtain ⟨k, hk, rfl⟩ := rowW_mem ht
      have := said_len fo B.po (by have := (B.d (show k < ds.length by omega)).2.s; exact this)
      exact ⟨this.1, this.2.1⟩
    have rlen := rowW_len (F := F) (ds := ds) (xs := xs) (p : Int) (r : Int) i
    have jl := joinL_len _ (fun t ht => (rmem t ht).2)
    have rm : (rowW F ds xs (p : Int) (r : Int) i).length * (62 + 1) ≤ 40 * 63 := Nat.mul_le_mul (by omega) (Nat.le_refl _)
    have atr : atI (rowsV (bodyN F ds xs (p : Int) i)) (r : Int) = some (V.str (tx (joinL [32] (rowW F ds xs (p : Int) (r : Int) i)))) := atI_nat (by unfold rowsV; rw [List.getElem?_map, bodyN_at rh]; rfl)
    refine cut_seq (fun σ' H' => H' = H7 ∧ σ' = [some (.ref ba), some (.ref la), some (.ref fa), some (.ref wo), some (.int (n : Int)), some (.ref pa), some (.ref fe), some (.int (i : Int)), some (.ref wb), some (.int (p : Int)), some (.int (r : Int)), some (.ref ri), some (.str (tx (joinL [32] (rowW F ds xs (p : Int) (r : Int) i ++ [saidL F.h F.f xs d.say]))))]) ?_ (fun key => ?_)
    rotate_left
    · refine ⟨_, rfl, _, rfl, _, _, _, _, rfl, rfl, SqL.of hri, atr, rfl, _, rfl, ?_⟩
      by_cases c : rowW F ds xs (p : Int) (r : Int) i = []
      · rw [c]
        rw [show decide (V.str (tx (joinL [32] [])) = V.str (PySem.Str.ofString "")) = true from decide_eq_true (by rw [ce]; rfl)]
        refine iteF ?_
        exact key _ _ ⟨rfl, by rw [c]; rfl⟩
      · have jn := join_ne c (fun t ht => (rmem t ht).1)
        rw [decide_eq_false (show ¬ V.str (tx (joinL [32] (rowW F ds xs (p : Int) (r : Int) i))) = V.str (PySem.Str.ofString "") from fun z => jn (by rw [ce] at z; exact tx_inj (V.str.inj z)))]
        refine iteT ?_
        refine ⟨_, rfl, _, rfl, _, _, _, _, rfl, rfl, SqL.of hri, atr, _, _, rfl, rfl, (by rw [tx_len, cbl, tx_len]; exact small2 (by simp; omega)), _, rfl, _, _, rfl, rfl, ?_, ?_⟩
        · rw [cbl, tx_app, tx_len, tx_len]
          exact small2 (by simp; omega)
        refine key _ _ ⟨rfl, ?_⟩
        rw [cbl, tx_app, tx_app, join_snoc _ _ c, List.append_assoc]
        rfl
    rintro σ' H' ⟨rfl, rfl⟩
    have ixr : ixN (rowsV (bodyN F ds xs (p : Int) i)).length (r : Int) = some r := by
      unfold rowsV ixN
      rw [List.length_map, bodyN_len, if_pos (by omega), if_pos (by omega)]
      rfl
    refine ⟨_, rfl, _, rfl, _, rfl, _, _, _, _, rfl, rfl, hri, ixr, ?_⟩
    rw [rows_set, ← bodyN_set rh exi (by rw [edd])]
    have nrf : ri ≠ fe ∧ ri ∉ qs := ⟨fun e => nfr.1 (by rw [← e]; exact List.mem_of_getElem? er1), fun z => (nqr ri z).1 (List.mem_of_getElem? er1)⟩
    have D8 : PgD H (upd H' ri (.lst (rowsV (bodyN F ds xs (p : Int) (i + 1))))) pa ps rs F.f (fun p => bodyN F ds xs (p : Int) (i + 1)) := D.set er1 rfl (fun k hk => bodyN_ne (by rw [exi]; show (p : Int) ≠ (k : Int); omega))
    have L8 : LsF H (upd H' ri (.lst (rowsV (bodyN F ds xs (p : Int) (i + 1))))) fe qs (fun p => feetW F ds xs (p : Int) i) := L.put nrf.1 nrf.2
    have t8 : Same H (upd H' ri (.lst (rowsV (bodyN F ds xs (p : Int) (i + 1))))) := t7.put (D.fr ri (List.mem_of_getElem? er1))
    generalize upd H' ri (.lst (rowsV (bodyN F ds xs (p : Int) (i + 1)))) = H8 at D8 L8 t8 ⊢
    have pq : p < qs.length := by omega
    have qp : qs[p]? = some qs[p] := List.getElem?_eq_getElem pq
    have atq : atI (qs.map V.ref) (p : Int) = some (V.ref qs[p]) := atI_nat (by rw [List.getElem?_map, qp]; rfl)
    have hqp := L8.at' p _ qp
    refine ⟨_, rfl, _, rfl, _, _, _, _, rfl, rfl, SqL.of L8.top, atq, .inl ⟨rfl, _, SqL.of hqp⟩, _, rfl, _, rfl, _, _, _, _, rfl, rfl, t8.tup g1, rfl, _, rfl, fa, fo', la, F.w, F.h, F.f, F.m, bs, las, d.foot, xs, rfl, t8.tup hf, t8.seq g3, g4.same t8, t8.seq hla, hls.same t8, fo, wk.f, B.po, (by omega), fun q9 H9 s9 n9 h9 => ?_⟩
    have fsm := (fill_small (w := F.w) fo.w2 (d.foot.map (saidL F.h F.f xs)) (fun t ht => by
      obtain ⟨s, hs, rfl⟩ := List.mem_map.mp ht
      exact (said_len fo B.po (wk.f s hs)).2.1)).2
    rw [List.length_map] at fsm
    have fb := (fbound (p : Int) i).resolve_right (by omega)
    refine ⟨_, _, _, _, rfl, rfl, s9 _ _ hqp, h9, ?_, ?_⟩
    · rw [rowsV_len2, rowsV_len2]
      exact small2 (by omega)
    rw [rowsV_app2]
    have ef : feetW F ds xs (p : Int) (i + 1) = feetW F ds xs (p : Int) i ++ fillW F.w (d.foot.map (saidL F.h F.f xs)) := by
      show feetW F ds xs (p : Int) i ++ (if (xAt xs i).1 = (p : Int) then fillW F.w ((dAt ds i).foot.map (saidL F.h F.f xs)) else []) = _
      rw [if_pos ep, edd]
    rw [← ef]
    have D9 := D8.same s9
    have L9 := L8.same s9
    have nq := nqr _ (List.getElem_mem pq)
    refine ⟨(t8.trans s9).put (L.fr _ (List.getElem_mem pq)), _, _, _, _, _, _, rfl, D9.put (s9 _ _ hqp) nq.2 nq.1, ?_⟩
    refine L9.set qp rfl fun k hk => ?_
    show feetW F ds xs (k : Int) i ++ (if (xAt xs i).1 = (k : Int) then _ else []) = _
    rw [if_neg (by rw [ep]; omega), List.append_nil]
  rintro σ H6 ⟨s6, v7, v8, v9, v10, v11, v12, rfl, D, L⟩
  rw [elw] at D L
  have fl' : ∀ p : Int, (feetW F ds xs p ds.length).length ≤ F.h.toNat := fun p => by have := fl p; omega
  refine ⟨_, rfl, _, rfl, (by omega), (by omega), for_range (fun i σ H7 => Same H H7 ∧ ∃ v7 v9 v11 v12 : Option V, σ = [some (.ref ba), some (.ref la), some (.ref fa), some (.ref wo), some (.int (n : Int)), some (.ref pa), some (.ref fe), v7, v8, v9, v10, v11, v12] ∧ PgD H H7 pa ps rs F.f (fun p => if p < i then pgR F ds xs (p : Int) else bodyN F ds xs (p : Int) ds.length) ∧ LsF H H7 fe qs (fun p => feetW F ds xs (p : Int) ds.length)) ⟨s6, v7, v9, v11, v12, rfl, D.congr (fun i _ => if_neg (Nat.not_lt_zero _)), L⟩ ?_ ?_⟩
  rotate_left
  · rintro σ H7 ⟨s7, v7, v9, v11, v12, rfl, D, L⟩
    refine ⟨_, rfl, q pa ps rs H7 s7 hpa0 (D.congr fun i hi => ?_) (by omega)⟩
    rw [if_pos (by omega)]
  rintro i σ H7 hi ⟨s7, v7, v9, v11, v12, rfl, D, L⟩
  have e0 : (0 : Int) + (i : Int) = (i : Int) := Int.zero_add _
  rw [e0]
  have hin : i < n := by omega
  obtain ⟨pi, ri, er1, ep1, eat, hpi, hri⟩ := D.get (show i < ps.length by omega)
  have qp : qs[i]? = some (qs[i]'(by omega)) := List.getElem?_eq_getElem (by omega)
  generalize qs[i]'(by omega) = qi at qp
  have atq : atI (qs.map V.ref) (i : Int) = some (V.ref qi) := atI_nat (by rw [List.getElem?_map, qp]; rfl)
  have hqp := L.at' i _ qp
  have nrf : ri ≠ fe ∧ ri ∉ qs := ⟨fun e => nfr.1 (by rw [← e]; exact List.mem_of_getElem? er1), fun z => (nqr ri z).1 (List.mem_of_getElem? er1)⟩
  have fli := fl' (i : Int)
  refine ⟨_, rfl, _, rfl, _, _, _, _, rfl, rfl, SqL.of D.top, eat, _, _, _, _, rfl, rfl, SqT.of hpi, rfl, ?_⟩
  dsimp only [gName]
  refine ⟨_, rfl, _, rfl, _, _, _, _, rfl, rfl, SqL.of L.top, atq, qi, rfl, ⟨_, SqL.of hqp⟩, for_enum (K := K) (a := qi) (xs := rowsV (feetW F ds xs (i : Int) ds.length)) (fun j σ H8 => Same H H8 ∧ ∃ v7 v12 : Option V, σ = [some (.ref ba), some (.ref la), some (.ref fa), some (.ref wo), some (.int (n : Int)), some (.ref pa), some (.ref fe), v7, v8, some (.int (i : Int)), v10, some (.ref ri), v12] ∧ PgD H H8 pa ps rs F.f (fun p => if p < i then pgR F ds xs (p : Int) else if p = i then layN F.h.toNat (bodyN F ds xs (p : Int) ds.length) (feetW F ds xs (p : Int) ds.length) j else bodyN F ds xs (p : Int) ds.length) ∧ LsF H H8 fe qs (fun p => feetW F ds xs (p : Int) ds.length)) ⟨s7, v7, v12, rfl, D.congr (fun k _ => ?_), L⟩ (fun j σ H8 _ g => SqL.of (g.2.choose_spec.choose_spec.2.2.at' i qi qp)) ?_ ?_⟩
  · by_cases c : k < i
    · rw [if_pos c, if_pos c]
    · rw [if_neg c, if_neg c]
      by_cases c2 : k = i
      · rw [if_pos c2, layN_zero]
      · rw [if_neg c2]
  · rintro j x σ H8 pp hx ⟨s8, v7, v12, rfl, D, L⟩ hpp
    obtain ⟨t, rfl, et⟩ := rows_at hx
    have hj : j < (feetW F ds xs (i : Int) ds.length).length := (List.getElem?_eq_some_iff.mp et).1
    have s9 := same_new hpp (.tup [.int (j : Int), .str (tx t)])
    refine ⟨pp, _, rfl, SqT.of upd_same, rfl, _, _, rfl, _, _, rfl, rfl, ?_⟩
    replace D := D.same s9
    replace L := L.same s9
    generalize upd H8 pp (.tup [.int (j : Int), .str (tx t)]) = H9 at s9 D L ⊢
    dsimp only [gName]
    have t9 := s8.trans s9
    have hri9 := D.at' i ri er1
    have hqi9 := L.at' i qi qp
    have hri9' : H9 ri = some (.lst (rowsV (layN F.h.toNat (bodyN F ds xs (i : Int) ds.length) (feetW F ds xs (i : Int) ds.length) j))) := by
      rw [hri9]
      show some (HO.lst (rowsV (if i < i then _ else if i = i then _ else _))) = _
      rw [if_neg (Nat.lt_irrefl _), if_pos rfl]
    refine ⟨_, rfl, _, rfl, _, rfl, _, _, _, _, rfl, rfl, t9.tup hf, rfl, _, rfl, _, rfl, _, _, _, _, rfl, rfl, SqL.of L.top, atq, _, _, rfl, .inl (SqL.of hqi9), _, _, rfl, rfl, _, rfl, _, _, rfl, rfl, ri, _, F.h - ((rowsV (feetW F ds xs (i : Int) ds.length)).length : Int) + (j : Int), F.h.toNat - (feetW F ds xs (i : Int) ds.length).length + j, rfl, rfl, hri9', ?_, ?_⟩
    · rw [rowsV_len2, rowsV_len2, layN_len (bodyN_len _ _) fli (by omega)]
      unfold ixN
      rw [if_pos (by omega), if_pos (by omega)]
      congr 1
      omega
    rw [rows_set, layN_set (bodyN_len _ _) fli et]
    refine ⟨t9.put (D.fr ri (List.mem_of_getElem? er1)), _, _, rfl, D.set er1 ?_ (fun k hk => ?_), L.put nrf.1 nrf.2⟩
    · rw [if_neg (Nat.lt_irrefl _), if_pos rfl]
    · rw [if_neg hk, if_neg hk]
  · rintro σ H8 ⟨s8, v7, v12, rfl, D, L⟩
    rw [rowsV_len2] at D
    refine ⟨s8, _, _, _, _, rfl, D.congr (fun k _ => ?_), L⟩
    by_cases c : k < i
    · rw [if_pos c, if_pos (by omega)]
    · rw [if_neg c]
      by_cases c2 : k = i
      · subst c2
        rw [if_pos (by omega), if_pos rfl, layN_pgR fli]
      · rw [if_neg c2, if_neg (by omega)]
def sp_l_is_pages (K : PySem.W.Frag) : Sp := fun vs H Q _ => ∃ (q0 : Addr) (F : Frm) (ds : List Wd) (xs : List (Int × Int)) (n : Nat), vs = [.ref q0, .int (n : Int), .int F.h] ∧ PgsA K H q0 F ds xs n ∧ 1 ≤ F.h ∧ F.h ≤ 60 ∧ (∀ p : Int, ((feetW F ds xs p ds.length).length : Int) ≤ F.h) ∧ ∀ H', Same H H' → Q (.bl true) H'
theorem sc_l_is_pages : FnScope ["found", "many", "high", "page"] ["found", "many", "high"] (defScope s_l_is_pages) := ⟨rfl, rfl, rfl, by decide +kernel, rfl, by decide +kernel, by decide +kernel⟩
theorem ok_l_is_pages (T : Txt P w K mg a) : FnOk P w K mg base CX0 1 a.f_l_is_pages a.fd_l_is_pages ["found", "many", "high"] (sp_l_is_pages K) := by
  have z_all := T.z_all
  have z_bool := T.z_bool
  have z_int := T.z_int
  have z_isinstance := T.z_isinstance
  have z_len := T.z_len
  have z_list := T.z_list
  have z_str := T.z_str
  have z_tuple := T.z_tuple
  refine T.d_l_is_pages.fn.ok sc_l_is_pages (fun vs H Q E h => ?_) (fun cdv A outer s H vs Q E hr h => ?_)
  · obtain ⟨q0, F, ds, xs, n, rfl, _⟩ := h
    rfl
  obtain ⟨q0, F, ds, xs, n, rfl, hq, h1, h60, fl, q⟩ := h
  have hu := Nat.lt_of_succ_lt (hu_of hr)
  refine ⟨_, (pss_cons (ps_if (PW.pt (pw_or (pt_not (pt_val (pe_callB call_isi rfl z_isinstance PyProof.Rows.boot_isinstance (pa_cons (pv 0) (pa_cons (pe_bltn (v := .ty "list") rfl z_list PyProof.Rows.boot_list rfl) pa_nil))) (fun _ => rfl))) (pw_or1 (pt_cmpR op_ne (pe_callB call_len_seq rfl z_len PySem.boot_len (pa_cons (pv 0) pa_nil)) (pv 1) (nomark _))))) (pss_one (ps_ret pe_bl)) pss_nil)
      (pss_cons (ps_for PassesOwn.never rfl (pi_list (pv 0)) (pg_name (i := 3) sc_l_is_pages.nd rfl (Or.inl rfl)) (pss_cons (ps_if (PW.pt (pw_or (pt_not (pt_val (pe_callB call_isi rfl z_isinstance PyProof.Rows.boot_isinstance (pa_cons (pv 3) (pa_cons (pe_bltn (v := .ty "tuple") rfl z_tuple PyProof.Rows.boot_tuple rfl) pa_nil))) (fun _ => rfl))) (pw_or (pt_cmpR op_ne (pe_callB call_len_seq rfl z_len PySem.boot_len (pa_cons (pv 3) pa_nil)) pe_int (nomark _)) (pw_or (pt_not (pt_val (pe_callB call_isi rfl z_isinstance PyProof.Rows.boot_isinstance (pa_cons (pe_ix ix_tup (pv 3) pe_int (fun _ _ => rfl)) (pa_cons (pe_bltn (v := .ty "list") rfl z_list PyProof.Rows.boot_list rfl) pa_nil))) (fun _ => rfl))) (pw_or1 (pt_cmpR op_ne (pe_callB call_len_seq rfl z_len PySem.boot_len (pa_cons (pe_ix ix_tup (pv 3) pe_int (fun _ _ => rfl)) pa_nil)) (pv 2) (nomark _))))))) (pss_one (ps_ret pe_bl)) pss_nil)
      (pss_cons (ps_if (PW.pt (pw_or (pt_not (pt_val (pe_callB call_isi rfl z_isinstance PyProof.Rows.boot_isinstance (pa_cons (pe_ix ix_tup (pv 3) pe_int (fun _ _ => rfl)) (pa_cons (pe_bltn (v := .ty "int") rfl z_int PyProof.Rows.boot_int rfl) pa_nil))) (fun _ => rfl))) (pw_or1 (pt_val (pe_callB call_isi rfl z_isinstance PyProof.Rows.boot_isinstance (pa_cons (pe_ix ix_tup (pv 3) pe_int (fun _ _ => rfl)) (pa_cons (pe_bltn (v := .ty "bool") rfl z_bool PyProof.Rows.boot_bool rfl) pa_nil))) (fun _ => rfl))))) (pss_one (ps_ret pe_bl)) pss_nil)
      (pss_one (ps_if (pt_not (pt_val (pe_callB (call_all rfl) rfl z_all PyProof.Rows.boot_all (pa_cons (pe_lc rfl (lcok (caps := []) (js := []) (cap := trivial)) (pi_list (pe_ix ix_tup (pv 3) pe_int (fun _ _ => rfl))) (fun _ _ _ _ => pts_nil) (fun _ _ _ _ => (pe_callB (r := rIsi K) call_isi' rfl z_isinstance PyProof.Rows.boot_isinstance (pa_cons (pv 0) (pa_cons (pe_bltn (v := .ty "str") rfl z_str PyProof.Rows.boot_str rfl) pa_nil))))) pa_nil)) (fun _ => rfl))) (pss_one (ps_ret pe_bl)) pss_nil)))))
      (pss_one (ps_ret pe_bl)))), ?_⟩
  obtain ⟨ps, rs, pl_, rl, h3, h4⟩ := hq
  have el : (ps.map V.ref).length = n := by rw [List.length_map, pl_]
  refine ⟨_, rfl, _, "list", true, rfl, (by decide), .inl ⟨⟨_, h3⟩, rfl⟩, _, rfl, ?_⟩
  refine iteF ?_
  refine ⟨_, rfl, _, _, rfl, .inl h3, _, rfl, rfl, _, rfl, ?_⟩
  rw [el, decide_eq_true rfl]
  refine iteF ?_
  dsimp only [tNext]
  refine ⟨_, rfl, _, rfl, ⟨_, h3⟩, for_list (K := K) (a := q0) (xs := ps.map V.ref) (fun i σ H2 => Same H H2 ∧ ∃ v : Option V, σ = [some (.ref q0), some (.int (n : Int)), some (.int F.h), v]) ⟨Same.refl _, none, rfl⟩ (fun i σ H2 _ g => g.1.seq h3) ?_ ?_⟩
  rotate_left
  · rintro σ H2 ⟨s2, v, rfl⟩
    exact q _ s2
  rintro i y σ H2 hi ⟨s2, v, rfl⟩
  obtain ⟨p, ep, rfl⟩ : ∃ p, ps[i]? = some p ∧ V.ref p = y := by
    rw [List.getElem?_map] at hi
    exact Option.map_eq_some_iff.mp hi
  have hin : i < n := by rw [← pl_]; exact (List.getElem?_eq_some_iff.mp ep).1
  obtain ⟨g1, g2⟩ := h4 i p (rs[i]'(by omega)) ep (List.getElem?_eq_getElem (by omega))
  generalize rs[i]'(by omega) = r at g1 g2
  have fli := fl (i : Int)
  have rlen : ((rowsV (pgR F ds xs (i : Int))).length : Int) = F.h := by
    unfold rowsV
    rw [List.length_map, pgR_len (by omega)]
    omega
  refine ⟨_, rfl, _, "tuple", true, rfl, (by decide), .inr ⟨⟨_, s2.tup g1⟩, rfl⟩, _, rfl, ?_⟩
  refine iteF ?_
  refine ⟨_, rfl, _, _, rfl, .inr (s2.tup g1), rfl, _, rfl, ?_⟩
  refine iteF ?_
  refine ⟨_, rfl, _, _, _, _, rfl, rfl, s2.tup g1, rfl, _, "list", true, rfl, (by decide), .inl ⟨⟨_, s2.seq g2⟩, rfl⟩, _, rfl, ?_⟩
  refine iteF ?_
  refine ⟨_, rfl, _, _, _, _, rfl, rfl, s2.tup g1, rfl, _, _, rfl, .inl (s2.seq g2), _, rfl, rfl, _, rfl, ?_⟩
  rw [rlen, decide_eq_true rfl]
  refine iteF ?_
  dsimp only [tNext]
  refine ⟨_, rfl, _, _, _, _, rfl, rfl, s2.tup g1, rfl, _, "int", true, rfl, (by decide), rfl, _, rfl, ?_⟩
  refine iteF ?_
  refine ⟨_, rfl, _, _, _, _, rfl, rfl, s2.tup g1, rfl, _, "bool", false, rfl, (by decide), rfl, _, rfl, ?_⟩
  refine iteF ?_
  dsimp only [tNext]
  refine ⟨_, rfl, _, _, _, _, rfl, rfl, s2.tup g1, rfl, r, rfl, ⟨_, s2.seq g2⟩, lc_list (K := K) (a := r) (xs := rowsV (pgR F ds xs (i : Int))) (fun j ys H3 => H3 = H2 ∧ ys = (List.replicate j true).map V.bl) ⟨rfl, rfl⟩ (fun j ys H3 _ g => by rw [g.1]; exact s2.seq g2) ?_ ?_ ?_⟩
  · rintro j ys H3 hj ⟨_, rfl⟩
    rw [List.length_map, List.length_replicate]
    exact Nat.lt_of_lt_of_le (show j < 1000 by omega) (small (Nat.le_refl _))
  · rintro j y ys H3 hj ⟨rfl, rfl⟩
    obtain ⟨t, rfl, _⟩ := rows_at hj
    refine yes_go ?_
    refine ⟨_, rfl, _, "str", true, rfl, (by decide), rfl, rfl, ?_⟩
    rw [List.replicate_succ', List.map_append]
    rfl
  rintro ys H3 ⟨rfl, rfl⟩ p3 hp3
  refine ⟨p3, _, rfl, SqL.of upd_same, _, rfl, ?_⟩
  have all : (List.replicate (rowsV (pgR F ds xs (i : Int))).length true).all id = true := by
    rw [List.all_eq_true]
    intro x hx
    rw [List.eq_of_mem_replicate hx]
    rfl
  rw [all]
  refine iteF ?_
  exact ⟨s2.trans (same_new hp3 _), _, rfl⟩
def sp_figures_of : Sp := fun vs H Q _ => ∃ n : Nat, vs = [.int (n : Int)] ∧ n < 10 ^ 100 ∧ Q (.str (tx (figs n))) H
theorem sc_figures_of : FnScope ["number"] ["number"] (defScope s_figures_of) := ⟨rfl, rfl, rfl, by decide +kernel, rfl, by decide +kernel, by decide +kernel⟩
theorem ok_figures_of (T : Txt P w K mg a) : FnOk P w K mg base CX0 1 a.f_figures_of a.fd_figures_of ["number"] sp_figures_of := by
  have z_str := T.z_str
  refine T.d_figures_of.fn.ok sc_figures_of (fun vs H Q E h => ?_) (fun cdv A outer s H vs Q E hr h => ?_)
  · obtain ⟨n, rfl, _⟩ := h
    rfl
  obtain ⟨n, rfl, hn, q⟩ := h
  have hu := Nat.lt_of_succ_lt (hu_of hr)
  refine ⟨_, (pss_one (ps_ret (pe_callTy call_str_int rfl z_str PyProof.Rows.boot_str (pa_cons (pv 0) pa_nil)))), ?_⟩
  refine ⟨_, rfl, _, rfl, log_small hn, ?_⟩
  exact Eq.mpr (congrArg (fun z => Q (.str z) H) (str_figs n)) q
def sp_said (K : PySem.W.Frag) : Sp := fun vs H Q _ => ∃ (fa sa pa : Addr) (w h f m : Int) (s : Say) (as : List Addr) (xs : List (Int × Int)), vs = [.ref fa, .ref sa, .ref pa] ∧ SqT K H fa (fm w h f m) ∧ SqT K H sa (sayV s) ∧ SqL K H pa (as.map V.ref) ∧ PlsA K H as xs ∧ FormOk w h f m ∧ SayOk xs.length s ∧ PlsOk h xs ∧ Q (.str (tx (saidL h f xs s))) H
theorem sc_said : FnScope ["form", "saying", "places", "place"] ["form", "saying", "places"] (defScope s_said) := ⟨rfl, rfl, rfl, by decide +kernel, rfl, by decide +kernel, by decide +kernel⟩
theorem ok_said (T : Txt P w K mg a) : FnOk P w K mg base CX0 2 a.f_said a.fd_said ["form", "saying", "places"] (sp_said K) := by
  have g_figures_of := ok_figures_of (P := P) (w := w) (base := base) T
  have d_figures_of := T.d_figures_of
  refine T.d_said.fn.ok sc_said (fun vs H Q E h => ?_) (fun cdv A outer s H vs Q E hr h => ?_)
  · obtain ⟨fa, sa, pa, w, h, f, m, s, as, xs, rfl, _⟩ := h
    rfl
  obtain ⟨fa, sa, pa, w, h, f, m, s, as, xs, rfl, hf, hs, hp, ha, fo, so, po, q⟩ := h
  have hu := Nat.lt_of_succ_lt (hu_of hr)
  refine ⟨_, (pss_cons (ps_if (pt_cmpR op_eq (pe_ix ix_tup (pv 1) pe_int (fun _ _ => rfl)) pe_str (nomark _)) (pss_one (ps_ret (pe_ix ix_tup (pv 1) pe_int (fun _ _ => rfl)))) pss_nil)
      (pss_cons (ps_set (i := 3) sc_said.nd rfl (Or.inl rfl) (pe_ix ix_list (pv 2) (pe_ix ix_tup (pv 1) pe_int (fun _ _ => rfl)) (fun _ _ => rfl)))
      (pss_cons (ps_if (pt_cmpR op_eq (pe_ix ix_tup (pv 1) pe_int (fun _ _ => rfl)) pe_str (nomark _)) (pss_one (ps_ret (pe_callD d_figures_of g_figures_of (hr.mono (by decide)) rfl (pa_cons (pe_op op_add (pe_ix ix_tup (pv 0) pe_int (fun _ _ => rfl)) (pe_ix ix_tup (pv 3) pe_int (fun _ _ => rfl))) pa_nil)))) pss_nil)
      (pss_one (ps_ret (pe_callD d_figures_of g_figures_of (hr.mono (by decide)) rfl (pa_cons (pe_op op_add (pe_op op_add (pe_op op_mul (pe_ix ix_tup (pv 3) pe_int (fun _ _ => rfl)) (pe_ix ix_tup (pv 0) pe_int (fun _ _ => rfl))) (pe_ix ix_tup (pv 3) pe_int (fun _ _ => rfl))) pe_int) pa_nil))))))), ?_⟩
  cases s with
  | text l =>
    refine ⟨_, rfl, _, _, _, _, rfl, rfl, hs, rfl, rfl, _, rfl, ?_⟩
    rw [decide_eq_true rfl]
    refine iteT ?_
    exact ⟨_, rfl, _, _, _, _, rfl, rfl, hs, rfl, q⟩
  | page k =>
    obtain ⟨a1, e1, h1⟩ := ha.get so
    obtain ⟨i, b⟩ := po.get so
    obtain ⟨n, en, hn⟩ := page_num fo.f1 fo.f2 i.p1 b
    refine ⟨_, rfl, _, _, _, _, rfl, rfl, hs, rfl, rfl, _, rfl, ?_⟩
    rw [ne_page]
    refine iteF ?_
    refine ⟨_, rfl, _, rfl, _, _, _, _, rfl, rfl, hs, rfl, _, _, _, _, rfl, rfl, hp, e1, ?_⟩
    refine ⟨_, rfl, _, _, _, _, rfl, rfl, hs, rfl, rfl, _, rfl, ?_⟩
    rw [decide_eq_true rfl]
    refine iteT ?_
    refine ⟨_, rfl, _, _, _, _, rfl, rfl, hf, rfl, _, rfl, _, _, _, _, rfl, rfl, h1, rfl, _, _, rfl, rfl, n, congrArg (fun z => [V.int z]) en, lt_100 hn, ?_⟩
    simp only [saidL] at q
    rw [en] at q
    exact q
  | row k =>
    obtain ⟨a1, e1, h1⟩ := ha.get so
    obtain ⟨i, b⟩ := po.get so
    obtain ⟨n, en, hn⟩ := row_num fo.h1 fo.h2 i.p1 b i.r1 i.r2
    refine ⟨_, rfl, _, _, _, _, rfl, rfl, hs, rfl, rfl, _, rfl, ?_⟩
    rw [ne_row]
    refine iteF ?_
    refine ⟨_, rfl, _, rfl, _, _, _, _, rfl, rfl, hs, rfl, _, _, _, _, rfl, rfl, hp, e1, ?_⟩
    refine ⟨_, rfl, _, _, _, _, rfl, rfl, hs, rfl, rfl, _, rfl, ?_⟩
    rw [ne_row_page]
    refine iteF ?_
    have h1' := fo.h1
    have h2' := fo.h2
    refine ⟨_, rfl, _, _, _, _, rfl, rfl, h1, rfl, _, rfl, _, _, _, _, rfl, rfl, hf, rfl, _, _, rfl, rfl, .inr ⟨by omega, by omega⟩, _, rfl, _, _, _, _, rfl, rfl, h1, rfl, _, _, rfl, rfl, _, _, rfl, rfl, n, congrArg (fun z => [V.int z]) en, lt_100 hn, ?_⟩
    simp only [saidL] at q
    rw [en] at q
    exact q
def sp_foot_rows (K : PySem.W.Frag) : Sp := fun vs H Q _ => ∃ (fa oa pa : Addr) (w h f m : Int) (bs as : List Addr) (ss : List Say) (xs : List (Int × Int)), vs = [.ref fa, .ref oa, .ref pa] ∧ SqT K H fa (fm w h f m) ∧ SqL K H oa (bs.map V.ref) ∧ SaysA K H bs ss ∧ SqL K H pa (as.map V.ref) ∧ PlsA K H as xs ∧ FormOk w h f m ∧ (∀ s ∈ ss, SayOk xs.length s) ∧ PlsOk h xs ∧ ss.length ≤ 60 ∧ ∀ q H', Same H H' → H q = none → H' q = some (.lst (rowsV (fillW w (ss.map (saidL h f xs))))) → Q (.ref q) H'
theorem sc_foot_rows : FnScope ["form", "foot", "places", "rows", "saying", "text"] ["form", "foot", "places"] (defScope s_foot_rows) := ⟨rfl, rfl, rfl, by decide +kernel, rfl, by decide +kernel, by decide +kernel⟩
theorem ok_foot_rows (T : Txt P w K mg a) : FnOk P w K mg base CX0 3 a.f_foot_rows a.fd_foot_rows ["form", "foot", "places"] (sp_foot_rows K) := by
  have g_said := ok_said (P := P) (w := w) (base := base) T
  have d_said := T.d_said
  have z_len := T.z_len
  refine T.d_foot_rows.fn.ok sc_foot_rows (fun vs H Q E h => ?_) (fun cdv A outer s H vs Q E hr h => ?_)
  · obtain ⟨fa, oa, pa, w, h, f, m, bs, as, ss, xs, rfl, _⟩ := h
    rfl
  obtain ⟨fa, oa, pa, w, h, f, m, bs, as, ss, xs, rfl, hf, ho, hb, hp, ha, fo, so, po, s60, q⟩ := h
  have hu := Nat.lt_of_succ_lt (hu_of hr)
  refine ⟨_, (pss_cons (ps_set (i := 3) sc_foot_rows.nd rfl (Or.inl rfl) (pe_lst pa_nil))
      (pss_cons (ps_for PassesOwn.never rfl (pi_list (pv 1)) (pg_name (i := 4) sc_foot_rows.nd rfl (Or.inl rfl)) (pss_cons (ps_set (i := 5) sc_foot_rows.nd rfl (Or.inl rfl) (pe_callD d_said g_said (hr.mono (by decide)) rfl (pa_cons (pv 0) (pa_cons (pv 4) (pa_cons (pv 2) pa_nil)))))
      (pss_one (ps_if (PW.pt (pw_and (pt_cmpR (op_neL hu) (pv 3) (pe_lst pa_nil) (nomark _)) (pw_and1 (pt_cmpR op_le (pe_op op_add (pe_op op_add (pe_callB call_len_str rfl z_len PySem.boot_len (pa_cons (pe_ix ix_list (pv 3) (pe_un un_neg pe_int) (fun _ _ => rfl)) pa_nil)) pe_int) (pe_callB call_len_str rfl z_len PySem.boot_len (pa_cons (pv 5) pa_nil))) (pe_ix ix_tup (pv 0) pe_int (fun _ _ => rfl)) (nomark _))))) (pss_one (ps_asg (pe_op op_add_str (pe_op op_add_str (pe_ix ix_list (pv 3) (pe_un un_neg pe_int) (fun _ _ => rfl)) pe_str) (pv 5)) (pg_sub (pv 3) (pe_un un_neg pe_int) set_list))) (pss_one (ps_expr (pe_bm PySem.F.plainAttrs_list PySem.F.slot_list_append PySem.F.type_list_append mt_append (pv 3) (pa_cons (pv 5) pa_nil))))))))
      (pss_one (ps_ret (pv 3))))), ?_⟩
  refine ⟨Nat.zero_le _, fun r hr => ?_⟩
  have s0 := same_new hr (.lst [])
  have sl : ∀ s ∈ ss, (saidL h f xs s).length ≤ 62 := fun s hs => (said_len fo po (so s hs)).2.1
  refine ⟨_, rfl, _, rfl, ⟨_, s0.seq ho⟩, for_list (K := K) (a := oa) (xs := bs.map V.ref) (fun i σ H2 => (∃ v1 v2 : Option V, σ = [some (.ref fa), some (.ref oa), some (.ref pa), some (.ref r), v1, v2]) ∧ Same H H2 ∧ H2 r = some (.lst (rowsV (fillW w ((ss.take i).map (saidL h f xs))))))
    ⟨⟨none, none, rfl⟩, s0, upd_same⟩ (fun i σ H2 _ h2 => h2.2.1.seq ho) ?_ ?_⟩
  · rintro i y σ H2 hi ⟨⟨v1, v2, rfl⟩, s2, h2⟩
    obtain ⟨b, s, rfl, eb, es⟩ := foot_at hb.1 hi
    have hs := List.mem_of_getElem? es
    have is : i < ss.length := (List.getElem?_eq_some_iff.mp es).1
    have hts : ∀ t ∈ (ss.take i).map (saidL h f xs), t.length ≤ 62 := fun t ht => by
      obtain ⟨u, hu, rfl⟩ := List.mem_map.mp ht
      exact sl u (List.mem_of_mem_take hu)
    obtain ⟨fs1, fs2⟩ := fill_small fo.w2 _ hts
    rw [List.length_map, List.length_take] at fs2
    rw [take_snoc es, List.map_append, List.map_singleton, fillW_snoc]
    have tl := sl s hs
    generalize fillW w ((ss.take i).map (saidL h f xs)) = rows at h2 fs1 fs2
    refine ⟨_, rfl, _, rfl, _, rfl, _, _, _, _, _, _, _, _, _, _, rfl, s2.tup hf, s2.tup (hb.2 i b s eb es), s2.seq hp, ha.same s2, fo, so s hs, po, ?_⟩
    generalize saidL h f xs s = t at tl
    dsimp only [gName]
    refine ⟨_, rfl, Nat.zero_le _, fun p2 hp2 => ?_⟩
    have s3 := same_new hp2 (.lst [])
    have h3 := s3 _ _ h2
    refine ⟨_, _, _, _, rfl, rfl, SqL.of h3, SqL.of upd_same, flat_rows _, rfl, _, rfl, ?_⟩
    rw [if_pos rfl, rows_nil]
    rcases list_snoc rows with e | ⟨rs, l, e⟩
    · have e : rows = [] ∧ fillStep w rows t = rows ++ [t] := ⟨e, by rw [e]; rfl⟩
      rw [e.1]
      refine iteF (iteF ?_)
      rw [← e.1]
      replace e := e.2
      refine ⟨_, rfl, .inl ⟨rfl, _, SqL.of h3⟩, _, rfl, _, _, _, rfl, rfl, h3, ?_, ?_⟩
      · unfold rowsV
        rw [List.length_map]
        exact Nat.lt_of_lt_of_le (show _ < 1000 by omega) (small (Nat.le_refl _))
      · refine ⟨⟨_, _, rfl⟩, (s2.trans s3).put hr, ?_⟩
        rw [upd_same, e, rowsV_snoc]
    · have ne : (!rows.isEmpty) = true := by rw [e]; simp
      rw [ne]
      refine iteT ?_
      have ll := fs1 l (by rw [e]; simp)
      have h4 := h3
      rw [e, rowsV_snoc] at h4
      refine ⟨_, rfl, _, rfl, _, _, _, _, rfl, rfl, SqL.of h4, at_last _ _, _, rfl, (by rw [tx_len]; exact small2 (by omega)), _, _, rfl, rfl, _, rfl, _, rfl, (by rw [tx_len]; exact small2 (by omega)), _, _, rfl, rfl, _, rfl, _, _, _, _, rfl, rfl, s3.tup (s2.tup hf), rfl, _, _, rfl, rfl, _, rfl, ?_⟩
      rw [tx_len, tx_len]
      refine ite2 (fun c => ?_) (fun c => ?_)
      · have c1 : (l.length : Int) + 1 + t.length ≤ w := of_decide_eq_true c
        have w2 := fo.w2
        rw [e, fillStep_snoc, if_pos c1]
        refine ⟨_, rfl, _, rfl, _, _, _, _, rfl, rfl, SqL.of h4, at_last _ _, _, _, rfl, rfl, (by rw [tx_len, cbl, tx_len]; exact small2 (by simp; omega)), _, rfl, _, _, rfl, rfl, ?_, _, rfl, _, rfl, _, _, _, _, rfl, rfl, h4, ix_last _ (by simp), ?_⟩
        · rw [cbl, tx_app, tx_len, tx_len]
          exact small2 (by simp; omega)
        · rw [set_last, cbl, tx_app, tx_app]
          refine ⟨⟨_, _, rfl⟩, (s2.trans s3).put hr, ?_⟩
          rw [upd_same, rowsV_snoc, List.append_assoc]
          rfl
      · have c1 : ¬ (l.length : Int) + 1 + t.length ≤ w := fun z => c (decide_eq_true z)
        have e : fillStep w rows t = rows ++ [t] := by rw [e, fillStep_snoc, if_neg c1]
        refine ⟨_, rfl, .inl ⟨rfl, _, SqL.of h3⟩, _, rfl, _, _, _, rfl, rfl, h3, ?_, ?_⟩
        · unfold rowsV
          rw [List.length_map]
          exact Nat.lt_of_lt_of_le (show _ < 1000 by omega) (small (Nat.le_refl _))
        · refine ⟨⟨_, _, rfl⟩, (s2.trans s3).put hr, ?_⟩
          rw [upd_same, e, rowsV_snoc]
  · rintro σ H2 ⟨⟨v1, v2, rfl⟩, s2, h2⟩
    rw [List.length_map, hb.1, List.take_length] at h2
    exact ⟨_, rfl, q _ _ s2 hr h2⟩
def sp_page_rows (K : PySem.W.Frag) : Sp := fun vs H Q _ => ∃ (ba la : Addr) (F : Frm) (ds : List Wd) (xs : List (Int × Int)) (p : Nat), vs = [.ref ba, .ref la, .int (p : Int)] ∧ BkAt K H ba F.w F.h F.f F.m ds ∧ LwAt K H la xs ∧ BkOk F ds xs ∧ ds.length ≤ 40 ∧ (feetW F ds xs (p : Int) ds.length).length ≤ F.h.toNat ∧ ∀ q H', Same H H' → H q = none → H' q = some (.lst (rowsV (pgR F ds xs (p : Int)))) → Q (.ref q) H'
theorem sc_page_rows : FnScope ["book", "places", "page", "form", "texts", "feet", "word", "place", "rows"] ["book", "places", "page"] (defScope s_page_rows) := ⟨rfl, rfl, rfl, by decide +kernel, rfl, by decide +kernel, by decide +kernel⟩
theorem ok_page_rows (T : Txt P w K mg a) : FnOk P w K mg base CX0 4 a.f_page_rows a.fd_page_rows ["book", "places", "page"] (sp_page_rows K) := by
  have g_foot_rows := ok_foot_rows (P := P) (w := w) (base := base) T
  have d_foot_rows := T.d_foot_rows
  have g_said := ok_said (P := P) (w := w) (base := base) T
  have d_said := T.d_said
  have z_len := T.z_len
  have z_range := T.z_range
  have z_zip := T.z_zip
  refine T.d_page_rows.fn.ok sc_page_rows (fun vs H Q E h => ?_) (fun cdv A outer s H vs Q E hr h => ?_)
  · obtain ⟨ba, la, F, ds, xs, p, rfl, _⟩ := h
    rfl
  obtain ⟨ba, la, F, ds, xs, p, rfl, hbk, hl, B, d40, fl, q⟩ := h
  have hu := Nat.lt_of_succ_lt (hu_of hr)
  refine ⟨_, (pss_cons (ps_set (i := 3) sc_page_rows.nd rfl (Or.inl rfl) (pe_ix ix_tup (pv 0) pe_int (fun _ _ => rfl)))
      (pss_cons (ps_lc (k := 4) rfl (lcok (caps := []) (js := []) (cap := trivial)) (pi_range1 rfl z_range (pa_cons (pe_ix ix_tup (pv 3) pe_int (fun _ _ => rfl)) pa_nil)) (fun _ _ _ _ => pts_nil) (fun _ _ _ _ => (pe_lst pa_nil)) sc_page_rows.nd rfl rfl)
      (pss_cons (ps_set (i := 5) sc_page_rows.nd rfl (Or.inl rfl) (pe_lst pa_nil))
      (pss_cons (ps_for PassesOwn.never rfl (pi_zip rfl z_zip (pe_ix ix_tup (pv 0) pe_int (fun _ _ => rfl)) (pv 1)) (pg_tup rfl (pgs_cons (pg_name (i := 6) sc_page_rows.nd rfl (Or.inl rfl)) (pgs_cons (pg_name (i := 7) sc_page_rows.nd rfl (Or.inl rfl)) pgs_nil))) (pss_one (ps_if (pt_cmpR op_eq (pe_ix ix_tup (pv 7) pe_int (fun _ _ => rfl)) (pv 2) (nomark _)) (pss_cons (ps_expr (pe_bm PySem.F.plainAttrs_list PySem.F.slot_list_append PySem.F.type_list_append mt_append (pe_ix ix_list (pv 4) (pe_ix ix_tup (pv 7) pe_int (fun _ _ => rfl)) (fun _ _ => rfl)) (pa_cons (pe_callD d_said g_said (hr.mono (by decide)) rfl (pa_cons (pv 3) (pa_cons (pe_ix ix_tup (pv 6) pe_int (fun _ _ => rfl)) (pa_cons (pv 1) pa_nil)))) pa_nil)))
      (pss_one (ps_expr (pe_bm PySem.F.plainAttrs_list PySem.F.slot_list_extend PySem.F.type_list_extend mt_extend (pv 5) (pa_cons (pe_callD d_foot_rows g_foot_rows (hr.mono (by decide)) rfl (pa_cons (pv 3) (pa_cons (pe_ix ix_tup (pv 6) pe_int (fun _ _ => rfl)) (pa_cons (pv 1) pa_nil)))) pa_nil))))) pss_nil)))
      (pss_cons (ps_lc (k := 8) rfl (lcok (caps := []) (js := []) (cap := trivial)) (pi_list (pv 4)) (fun _ _ _ _ => pts_nil) (fun _ _ _ _ => (pe_bmK (Kk := K) (r := rJoin K) rfl PySem.F.plainAttrs_str PySem.F.slot_str_join PySem.F.type_str_join mt_join' pe_str (pa_cons (pv 0) pa_nil))) sc_page_rows.nd rfl rfl)
      (pss_one (ps_ret (pe_op op_cat (pe_slice sl_list (pv 8) po_none (po_some (pe_op op_sub (pe_callB call_len_seq rfl z_len PySem.boot_len (pa_cons (pv 8) pa_nil)) (pe_callB call_len_seq rfl z_len PySem.boot_len (pa_cons (pv 5) pa_nil))))) (pv 5))))))))), ?_⟩
  obtain ⟨fa, wo, was, hb, hf, hw, hws⟩ := hbk
  obtain ⟨las, hla, hls⟩ := hl
  have fo := B.fo
  have h1 := fo.h1
  have h60 := fo.h2
  have wdx : ∀ d ∈ ds, WdOk xs.length d := fun d hd => by have := B.wd d hd; rwa [B.len] at this
  have elw : (was.map V.ref).length = ds.length := by rw [List.length_map, hws.1]
  have ell : (las.map V.ref).length = ds.length := by rw [List.length_map, hls.1, B.len]
  refine ⟨_, rfl, _, _, _, _, rfl, rfl, hb, rfl, ?_⟩
  dsimp only [gName]
  refine ⟨_, rfl, _, _, _, _, rfl, rfl, hf, rfl, _, rfl, (by omega), (by omega), ?_⟩
  refine lc_range (fun i ys H2 => Same H H2 ∧ ∃ qs : List Addr, qs.length = i ∧ ys = qs.map V.ref ∧ (∀ (i j : Nat) (q : Addr), qs[i]? = some q → qs[j]? = some q → i = j) ∧ ∀ q ∈ qs, H2 q = some (.lst []) ∧ H q = none) ⟨Same.refl _, [], rfl, rfl, (fun i j q h => by simp at h), fun q hq => (by cases hq)⟩ ?_ ?_ ?_
  · rintro i ys H2 hi ⟨_, qs, ql, rfl, _⟩
    rw [List.length_map, ql]
    exact Nat.lt_of_lt_of_le (show i < 1000 by omega) (small (Nat.le_refl _))
  · rintro i ys H2 hi ⟨s2, qs, ql, rfl, nd, at_⟩
    refine yes_go ?_
    refine ⟨Nat.zero_le _, fun p1 hp1 => ?_⟩
    have s3 := same_new hp1 (.lst [])
    have np : ∀ q ∈ qs, q ≠ p1 := fun q hq e => by rw [e] at hq; rw [(at_ p1 hq).1] at hp1; cases hp1
    refine ⟨s2.trans s3, qs ++ [p1], by simp [ql], refs_snoc _ _, fun a b q ha hb2 => ?_, fun q hq => ?_⟩
    · by_cases ca : a < qs.length
      · rw [List.getElem?_append_left ca] at ha
        by_cases cb : b < qs.length
        · rw [List.getElem?_append_left cb] at hb2
          exact nd a b q ha hb2
        · rw [List.getElem?_append_right (by omega)] at hb2
          have : q = p1 := by
            cases hc : b - qs.length with
            | zero => rw [hc] at hb2; exact (Option.some.inj hb2).symm
            | succ n => rw [hc] at hb2; simp at hb2
          exact absurd this (np q (List.mem_of_getElem? ha))
      · rw [List.getElem?_append_right (by omega)] at ha
        have ea : q = p1 ∧ a = qs.length := by
          cases hc : a - qs.length with
          | zero => rw [hc] at ha; exact ⟨(Option.some.inj ha).symm, by omega⟩
          | succ n => rw [hc] at ha; simp at ha
        by_cases cb : b < qs.length
        · rw [List.getElem?_append_left cb] at hb2
          exact absurd ea.1 (np q (List.mem_of_getElem? hb2))
        · rw [List.getElem?_append_right (by omega)] at hb2
          cases hc : b - qs.length with
          | zero => omega
          | succ n => rw [hc] at hb2; simp at hb2
    · rcases List.mem_append.mp hq with hq | hq
      · exact ⟨s3 _ _ (at_ q hq).1, (at_ q hq).2⟩
      · rw [List.mem_singleton.mp hq]
        exact ⟨upd_same, s2.free hp1⟩
  rintro ys H2 ⟨s2, qs, ql, rfl, nd, at_⟩ pr hpr
  have s3 := same_new hpr (.lst (qs.map V.ref))
  have h3 : (upd H2 pr (.lst (qs.map V.ref))) pr = some (.lst (qs.map V.ref)) := upd_same
  have npr : pr ∉ qs := fun h => by rw [(at_ pr h).1] at hpr; cases hpr
  have hpr0 : H pr = none := s2.free hpr
  generalize upd H2 pr (.lst (qs.map V.ref)) = H3 at s3 h3 ⊢
  dsimp only [gName]
  have L0 : LsF H H3 pr qs (fun r => rowW F ds xs (p : Int) (r : Int) 0) := ⟨h3, nd, npr, fun i q h => s3 _ _ (at_ q (List.mem_of_getElem? h)).1, fun q h => (at_ q h).2⟩
  refine ⟨Nat.zero_le _, fun fe hfe => ?_⟩
  have s4 := same_new hfe (.lst [])
  have h4 : (upd H3 fe (.lst [])) fe = some (.lst (rowsV (feetW F ds xs (p : Int) 0))) := upd_same
  have nf1 : fe ≠ pr := fun e => by rw [e, h3] at hfe; cases hfe
  have nf2 : fe ∉ qs := fun h => by rw [(s3 _ _ (at_ fe h).1)] at hfe; cases hfe
  have hfe0 : H fe = none := (s2.trans s3).free hfe
  have L1 := L0.same s4
  generalize upd H3 fe (.lst []) = H4 at s4 h4 L1 ⊢
  dsimp only [gName]
  have t4 := s2.trans (s3.trans s4)
  refine ⟨_, rfl, _, _, _, _, rfl, rfl, t4.tup hb, rfl, _, rfl, wo, la, rfl, rfl, ⟨_, t4.seq hw⟩, ⟨_, t4.seq hla⟩, for_zip (K := K) (a := wo) (b := la) (xs := was.map V.ref) (ys := las.map V.ref) (fun i σ H5 => Same H H5 ∧ ∃ v6 v7 : Option V, σ = [some (.ref ba), some (.ref la), some (.int (p : Int)), some (.ref fa), some (.ref pr), some (.ref fe), v6, v7, none] ∧ LsF H H5 pr qs (fun r => rowW F ds xs (p : Int) (r : Int) i) ∧ H5 fe = some (.lst (rowsV (feetW F ds xs (p : Int) i))) ∧ (feetW F ds xs (p : Int) i).length ≤ 40 * i) (by rw [elw, ell]) ⟨t4, none, none, rfl, L1, h4, Nat.le_refl _⟩ (fun i σ H5 _ g => ⟨g.1.seq hw, g.1.seq hla⟩) ?_ ?_⟩
  · rintro i x y σ H5 pp hx hy ⟨s5, v6, v7, rfl, L, h5, f5⟩ hpp
    obtain ⟨wb, d, rfl, eb, ed⟩ := wd_at hws.1 hx
    obtain ⟨lb, elb, rfl⟩ : ∃ lb, las[i]? = some lb ∧ V.ref lb = y := by
      rw [List.getElem?_map] at hy
      exact Option.map_eq_some_iff.mp hy
    have hid : i < ds.length := (List.getElem?_eq_some_iff.mp ed).1
    have hix : i < xs.length := by rw [← B.len]; exact hid
    have hz : SqT K H lb (pl (xAt xs i)) := by
      have := hls.2 i lb xs[i] elb (List.getElem?_eq_getElem hix)
      rwa [← xAt_of (List.getElem?_eq_getElem hix)] at this
    have edd : dAt ds i = d := by
      show ds.getD i wd0 = d
      rw [List.getD_eq_getElem?_getD, ed]
      rfl
    have wk := wdx d (List.mem_of_getElem? ed)
    have n40 := wk.n
    obtain ⟨sy, fo', bs, g1, g2, g3, g4⟩ := hws.2 i wb d eb ed
    have s6 := same_new hpp (.tup [.ref wb, .ref lb])
    refine ⟨pp, _, rfl, SqT.of upd_same, rfl, _, _, rfl, _, _, rfl, rfl, ?_⟩
    generalize upd H5 pp (.tup [.ref wb, .ref lb]) = H6 at s6 ⊢
    dsimp only [gName]
    have t6 := s5.trans s6
    have L6 := L.same s6
    have h6 := s6 _ _ h5
    refine ⟨_, rfl, _, _, _, _, rfl, rfl, t6.tup hz, rfl, _, rfl, rfl, _, rfl, ?_⟩
    by_cases cp : (xAt xs i).1 = (p : Int)
    rotate_left
    · rw [decide_eq_false (show ¬ V.int (xAt xs i).1 = V.int (p : Int) from fun z => cp (V.int.inj z))]
      refine iteF ?_
      refine ⟨t6, _, _, rfl, ⟨L6.top, L6.nd, L6.ne, fun j q hq => ?_, L6.fr⟩, ?_, ?_⟩
      · rw [L6.at' j q hq]
        show some (HO.lst (rowsV (rowW F ds xs (p : Int) (j : Int) i))) = some (HO.lst (rowsV (rowW F ds xs (p : Int) (j : Int) i ++ (if xAt xs i = ((p : Int), (j : Int)) then _ else []))))
        rw [if_neg (fun z => cp (by rw [z])), List.append_nil]
      · show H6 fe = some (.lst (rowsV (feetW F ds xs (p : Int) i ++ (if (xAt xs i).1 = (p : Int) then _ else []))))
        rw [if_neg cp, List.append_nil]
        exact h6
      · show (feetW F ds xs (p : Int) i ++ (if (xAt xs i).1 = (p : Int) then _ else [])).length ≤ _
        rw [if_neg cp, List.append_nil]
        omega
    rw [decide_eq_true (show V.int (xAt xs i).1 = V.int (p : Int) by rw [cp])]
    refine iteT ?_
    have rx := (B.x hid).1
    obtain ⟨r, er⟩ := Int.eq_ofNat_of_zero_le rx.r1
    have rl : r < qs.length := by have := rx.r2; omega
    have exi : xAt xs i = ((p : Int), (r : Int)) := Prod.ext cp er
    have qr : qs[r]? = some qs[r] := List.getElem?_eq_getElem rl
    have atr : atI (qs.map V.ref) (xAt xs i).2 = some (V.ref qs[r]) := by rw [er]; exact atI_nat (by rw [List.getElem?_map, qr]; rfl)
    have hqr := L6.at' r qs[r] qr
    have rlen := rowW_len (F := F) (ds := ds) (xs := xs) (p : Int) (r : Int) i
    refine ⟨_, rfl, _, rfl, _, _, _, _, rfl, rfl, t6.tup hz, rfl, _, _, _, _, rfl, rfl, SqL.of L6.top, atr, .inl ⟨rfl, _, SqL.of hqr⟩, _, rfl, _, rfl, _, _, _, _, rfl, rfl, t6.tup g1, rfl, _, rfl, fa, sy, la, F.w, F.h, F.f, F.m, d.say, las, xs, rfl, t6.tup hf, t6.tup g2, t6.seq hla, hls.same t6, fo, wk.s, B.po, _, _, _, rfl, rfl, hqr, ?_, ?_⟩
    · unfold rowsV
      rw [List.length_map]
      exact Nat.lt_of_lt_of_le (show _ < 1000 by omega) (small (Nat.le_refl _))
    have hq0 : H qs[r] = none := L6.fr _ (List.getElem_mem rl)
    have L7 : LsF H (upd H6 qs[r] (.lst (rowsV (rowW F ds xs (p : Int) (r : Int) i) ++ [V.str (tx (saidL F.h F.f xs d.say))]))) pr qs (fun r => rowW F ds xs (p : Int) (r : Int) (i + 1)) := by
      refine L6.push qr ?_ (fun j hj => ?_)
      · show rowW F ds xs (p : Int) (r : Int) i ++ (if xAt xs i = ((p : Int), (r : Int)) then [saidL F.h F.f xs (dAt ds i).say] else []) = _
        rw [if_pos exi, edd]
      · show rowW F ds xs (p : Int) (j : Int) i ++ (if xAt xs i = ((p : Int), (j : Int)) then _ else []) = _
        rw [if_neg (fun z => hj (by rw [exi] at z; have := congrArg Prod.snd z; simp only at this; omega)), List.append_nil]
    have s7 : Same H (upd H6 qs[r] (.lst (rowsV (rowW F ds xs (p : Int) (r : Int) i) ++ [V.str (tx (saidL F.h F.f xs d.say))]))) := t6.put hq0
    have h7 : (upd H6 qs[r] (.lst (rowsV (rowW F ds xs (p : Int) (r : Int) i) ++ [V.str (tx (saidL F.h F.f xs d.say))]))) fe = some (.lst (rowsV (feetW F ds xs (p : Int) i))) := by
      rw [upd_ne (fun e => nf2 (by rw [e]; exact List.getElem_mem rl))]
      exact h6
    generalize upd H6 qs[r] (.lst (rowsV (rowW F ds xs (p : Int) (r : Int) i) ++ [V.str (tx (saidL F.h F.f xs d.say))])) = H7 at L7 s7 h7 ⊢
    refine ⟨_, rfl, .inl ⟨rfl, _, SqL.of h7⟩, _, rfl, _, rfl, _, _, _, _, rfl, rfl, s7.tup g1, rfl, _, rfl, fa, fo', la, F.w, F.h, F.f, F.m, bs, las, d.foot, xs, rfl, s7.tup hf, s7.seq g3, g4.same s7, s7.seq hla, hls.same s7, fo, wk.f, B.po, (by omega), fun q8 H8 s8 n8 h8 => ?_⟩
    have fsm := (fill_small (w := F.w) fo.w2 (d.foot.map (saidL F.h F.f xs)) (fun t ht => by
      obtain ⟨s, hs, rfl⟩ := List.mem_map.mp ht
      exact (said_len fo B.po (wk.f s hs)).2.1)).2
    rw [List.length_map] at fsm
    have h78 := s8 _ _ h7
    refine ⟨_, _, _, _, rfl, rfl, h78, h8, ?_, ?_⟩
    · unfold rowsV
      rw [List.length_map, List.length_map]
      exact small2 (by omega)
    have L8 := L7.same s8
    have n8a : q8 ≠ fe := fun e => by rw [e, h7] at n8; cases n8
    refine ⟨(s7.trans s8).put hfe0, _, _, rfl, L8.put nf1 nf2, ?_, ?_⟩
    · rw [upd_same]
      show _ = some (HO.lst (rowsV (feetW F ds xs (p : Int) i ++ (if (xAt xs i).1 = (p : Int) then fillW F.w ((dAt ds i).foot.map (saidL F.h F.f xs)) else []))))
      rw [if_pos cp, edd]
      unfold rowsV
      rw [List.map_append]
    · show (feetW F ds xs (p : Int) i ++ (if (xAt xs i).1 = (p : Int) then fillW F.w ((dAt ds i).foot.map (saidL F.h F.f xs)) else [])).length ≤ _
      rw [if_pos cp, edd, List.length_append]
      omega
  · rintro σ H5 ⟨s5, v6, v7, rfl, L, h5, f5⟩
    rw [elw] at L h5 f5
    have tle : ∀ r, ∀ t ∈ rowW F ds xs (p : Int) r ds.length, t.length ≤ 62 := fun r t ht => by
      obtain ⟨k, hk, rfl⟩ := rowW_mem ht
      exact (said_len fo B.po (by have := (B.d hk).2.s; exact this)).2.1
    have eqs : (qs.map V.ref).length = F.h.toNat := by rw [List.length_map, ql]
    refine ⟨_, rfl, _, rfl, ⟨_, SqL.of L.top⟩, lc_list (K := K) (a := pr) (xs := qs.map V.ref) (fun i ys H6 => H6 = H5 ∧ ys = rowsV ((bodyW F ds xs (p : Int)).take i)) ⟨rfl, rfl⟩ (fun i ys H6 _ g => by rw [g.1]; exact SqL.of L.top) ?_ ?_ ?_⟩
    · rintro i ys H6 hi ⟨_, rfl⟩
      unfold rowsV
      rw [List.length_map, List.length_take, bodyW_len]
      exact Nat.lt_of_lt_of_le (show _ < 1000 by omega) (small (Nat.le_refl _))
    · rintro i y ys H6 hi ⟨rfl, rfl⟩
      have hih : i < F.h.toNat := by rw [← eqs]; exact (List.getElem?_eq_some_iff.mp hi).1
      obtain ⟨qi, eqi, rfl⟩ : ∃ qi, qs[i]? = some qi ∧ V.ref qi = y := by
        rw [List.getElem?_map] at hi
        exact Option.map_eq_some_iff.mp hi
      have hqi := L.at' i qi eqi
      have sm := sum_tx _ (tle (i : Int))
      have rl := rowW_len (F := F) (ds := ds) (xs := xs) (p : Int) (i : Int) ds.length
      have rm : (rowW F ds xs (p : Int) (i : Int) ds.length).length * (62 + 1) ≤ 40 * 63 := Nat.mul_le_mul (by omega) (Nat.le_refl _)
      refine yes_go ?_
      refine ⟨rfl, _, rfl, _, qi, (rowW F ds xs (p : Int) (i : Int) ds.length).map tx, rfl, rfl, SqL.of (by rw [hqi, rowsV_eq]), by decide, by omega, rfl, ?_⟩
      have eb : (bodyW F ds xs (p : Int))[i]? = some (joinL [32] (rowW F ds xs (p : Int) (i : Int) ds.length)) := by
        unfold bodyW
        rw [List.getElem?_map, List.getElem?_range hih]
        rfl
      rw [take_snoc eb, rowsV_snoc, cbl, join_tx]
    rintro ys H6 ⟨rfl, rfl⟩ ro hro
    rw [eqs, ← bodyW_len (F := F) (ds := ds) (xs := xs) (p : Int), List.take_length]
    have s6 := same_new hro (.lst (rowsV (bodyW F ds xs (p : Int))))
    have h6 : (upd H6 ro (.lst (rowsV (bodyW F ds xs (p : Int))))) ro = some (.lst (rowsV (bodyW F ds xs (p : Int)))) := upd_same
    have h56 := s6 _ _ h5
    generalize upd H6 ro (.lst (rowsV (bodyW F ds xs (p : Int)))) = H7 at s6 h6 h56 ⊢
    dsimp only [gName]
    have lb : ((rowsV (bodyW F ds xs (p : Int))).length : Int) = F.h := by unfold rowsV; rw [List.length_map, bodyW_len]; omega
    have lf : ((rowsV (feetW F ds xs (p : Int) ds.length)).length : Int) = ((feetW F ds xs (p : Int) ds.length).length : Int) := by unfold rowsV; rw [List.length_map]
    refine ⟨_, rfl, _, rfl, _, _, rfl, .inl (SqL.of h6), _, rfl, _, _, rfl, .inl (SqL.of h56), _, _, rfl, rfl, _, rfl, _, _, rfl, SqL.of h6, fun p3 hp3 => ?_⟩
    rw [lb, lf]
    have c3 : cutV (rowsV (bodyW F ds xs (p : Int))) none (some (F.h - ((feetW F ds xs (p : Int) ds.length).length : Int))) = rowsV ((bodyW F ds xs (p : Int)).take (F.h.toNat - (feetW F ds xs (p : Int) ds.length).length)) := by
      unfold rowsV
      rw [cutV_map, show F.h - ((feetW F ds xs (p : Int) ds.length).length : Int) = ((F.h.toNat - (feetW F ds xs (p : Int) ds.length).length : Nat) : Int) by omega, Tl.cut_to]
    rw [lb, lf] at *
    have s8 := same_new hp3 (.lst (cutV (rowsV (bodyW F ds xs (p : Int))) none (some (F.h - ((feetW F ds xs (p : Int) ds.length).length : Int)))))
    have h8 : (upd H7 p3 (.lst (cutV (rowsV (bodyW F ds xs (p : Int))) none (some (F.h - ((feetW F ds xs (p : Int) ds.length).length : Int)))))) p3 = some (.lst (rowsV ((bodyW F ds xs (p : Int)).take (F.h.toNat - (feetW F ds xs (p : Int) ds.length).length)))) := by rw [upd_same, c3]
    generalize upd H7 p3 (.lst (cutV (rowsV (bodyW F ds xs (p : Int))) none (some (F.h - ((feetW F ds xs (p : Int) ds.length).length : Int))))) = H8 at s8 h8 ⊢
    refine ⟨_, rfl, _, _, _, _, rfl, rfl, h8, s8 _ _ h56, ?_, fun p4 hp4 => ?_⟩
    · unfold rowsV
      rw [List.length_map, List.length_map, List.length_take, bodyW_len]
      exact small (by omega)
    have s9 := same_new hp4 (.lst (rowsV ((bodyW F ds xs (p : Int)).take (F.h.toNat - (feetW F ds xs (p : Int) ds.length).length)) ++ rowsV (feetW F ds xs (p : Int) ds.length)))
    refine q p4 _ (s5.trans (s6.trans (s8.trans s9))) ((s5.trans (s6.trans s8)).free hp4) ?_
    rw [upd_same]
    unfold pgR rowsV
    rw [List.map_append]
def sp_pages_of (K : PySem.W.Frag) : Sp := fun vs H Q _ => ∃ (ba la : Addr) (F : Frm) (ds : List Wd) (xs : List (Int × Int)), vs = [.ref ba, .ref la] ∧ BkAt K H ba F.w F.h F.f F.m ds ∧ LwAt K H la xs ∧ BkOk F ds xs ∧ ds.length ≤ 40 ∧ (∀ p : Int, ((feetW F ds xs p ds.length).length : Int) ≤ F.h) ∧ (∀ k, k < xs.length → (xAt xs k).1 ≤ 60) ∧ ∀ q (ps rs : List Addr) H', Same H H' → H q = none → PgD H H' q ps rs F.f (fun i => pgR F ds xs (i : Int)) → ps.length = nPg xs → Q (.ref q) H'
theorem sc_pages_of : FnScope ["book", "places", "form"] ["book", "places"] (defScope s_pages_of) := ⟨rfl, rfl, rfl, by decide +kernel, rfl, by decide +kernel, by decide +kernel⟩
theorem ok_pages_of (T : Txt P w K mg a) : FnOk P w K mg base CX0 5 a.f_pages_of a.fd_pages_of ["book", "places"] (sp_pages_of K) := by
  have g_page_rows := ok_page_rows (P := P) (w := w) (base := base) T
  have d_page_rows := T.d_page_rows
  have z_range := T.z_range
  refine T.d_pages_of.fn.ok sc_pages_of (fun vs H Q E h => ?_) (fun cdv A outer s H vs Q E hr h => ?_)
  · obtain ⟨ba, la, F, ds, xs, rfl, _⟩ := h
    rfl
  obtain ⟨ba, la, F, ds, xs, rfl, hbk, hl, B, d40, fl, p60, q⟩ := h
  have hu := Nat.lt_of_succ_lt (hu_of hr)
  refine ⟨_, (pss_cons (ps_set (i := 2) sc_pages_of.nd rfl (Or.inr rfl) (pe_ix ix_tup (pv 0) pe_int (fun _ _ => rfl)))
      (pss_cons (ps_if (pt_cmpR (op_eqNil hu) (pv 1) (pe_lst pa_nil) (nomark _)) (pss_one (ps_ret (pe_lst pa_nil))) pss_nil)
      (pss_one (ps_ret (pe_lc rfl (lcok (caps := ["book", "places", "form"]) (js := [0, 1, 2]) (cap := ⟨⟨rfl, .inl rfl, rfl, .inl rfl⟩, ⟨⟨rfl, .inl rfl, rfl, .inl rfl⟩, ⟨⟨rfl, .inl rfl, rfl, .inl rfl⟩, trivial⟩⟩⟩)) (pi_range1 rfl z_range (pa_cons (pe_op op_add (pe_ix ix_tup (pe_ix ix_list (pv 1) (pe_un un_neg pe_int) (fun _ _ => rfl)) pe_int (fun _ _ => rfl)) pe_int) pa_nil)) (fun _ _ _ _ => pts_nil) (fun _ _ _ _ => (pe_tup (pa_cons (pe_op op_add (pe_ix (r := rIxT K) ix_tup (pv 3) pe_int (fun _ _ => rfl)) (pv 0)) (pa_cons (pe_callD d_page_rows g_page_rows (hr.mono (by decide)) rfl (pa_cons (pv 1) (pa_cons (pv 2) (pa_cons (pv 0) pa_nil)))) pa_nil))))))))), ?_⟩
  have hbk0 := hbk
  have hl0 := hl
  obtain ⟨fa, wo, was, hb, hf, hw, hws⟩ := hbk
  obtain ⟨las, hla, hls⟩ := hl
  refine ⟨_, rfl, _, _, _, _, rfl, rfl, hb, rfl, ?_⟩
  dsimp only [gName]
  refine ⟨_, rfl, Nat.zero_le _, fun p1 hp1 => ?_⟩
  have s1 := same_new hp1 (.lst [])
  refine ⟨la, p1, las.map V.ref, rfl, rfl, s1.seq hla, SqL.of upd_same, _, rfl, ?_⟩
  generalize upd H p1 (.lst []) = H1 at s1 ⊢
  by_cases x0 : xs.length = 0
  · have xe : xs = [] := List.length_eq_zero_iff.mp x0
    have le : las = [] := List.length_eq_zero_iff.mp (by rw [hls.1]; exact x0)
    rw [le]
    refine iteT ?_
    refine ⟨Nat.zero_le _, fun p2 hp2 => ?_⟩
    refine q p2 [] [] _ (s1.trans (same_new hp2 _)) (s1.free hp2) ⟨PgI.nil, upd_same, by simp⟩ ?_
    unfold nPg
    rw [if_pos xe]
    rfl
  have lne : ((las.map V.ref).isEmpty) = false := by
    cases las with
    | nil => exact absurd (show xs.length = 0 from hls.1.symm) x0
    | cons a l => rfl
  rw [lne]
  refine iteF ?_
  dsimp only [tNext]
  have hkl : xs.length - 1 < xs.length := by omega
  have hlk : las.length - 1 < las.length := by rw [hls.1]; exact hkl
  have atl : atI (las.map V.ref) (-1) = some (V.ref las[las.length - 1]) := by
    unfold atI
    rw [List.length_map, ix_last las.length (by omega)]
    show (las.map V.ref)[las.length - 1]? = _
    rw [List.getElem?_map, List.getElem?_eq_getElem hlk]
    rfl
  have hz : SqT K H las[las.length - 1] (pl (xAt xs (xs.length - 1))) := by
    have := hls.2 (las.length - 1) _ (xs[xs.length - 1]) (List.getElem?_eq_getElem hlk) (by rw [hls.1]; exact List.getElem?_eq_getElem hkl)
    rwa [← xAt_of (List.getElem?_eq_getElem hkl)] at this
  have rx := (B.x (show xs.length - 1 < ds.length by rw [B.len]; exact hkl)).1.p1
  have p6 := p60 _ hkl
  have en : nPg xs = ((xAt xs (xs.length - 1)).1 + 1).toNat := by unfold nPg; rw [if_neg (fun z => x0 (by rw [z]; rfl))]
  refine ⟨_, rfl, _, rfl, _, _, _, _, rfl, rfl, s1.seq hla, atl, _, _, _, _, rfl, rfl, s1.tup hz, rfl, _, _, rfl, rfl, _, rfl, (by omega), (by omega), ?_⟩
  refine lc_range (fun i ys H2 => Same H H2 ∧ ∃ ps rs : List Addr, ps.length = i ∧ ys = ps.map V.ref ∧ PgI H H2 ps rs F.f (fun i => pgR F ds xs (i : Int))) ⟨s1, [], [], rfl, rfl, PgI.nil⟩ ?_ ?_ ?_
  · rintro i ys H2 hi ⟨_, ps, rs, pl_, rfl, _⟩
    rw [List.length_map, pl_]
    exact Nat.lt_of_lt_of_le (show i < 1000 by omega) (small (Nat.le_refl _))
  · rintro i ys H2 hi ⟨s2, ps, rs, pl_, rfl, hps⟩
    refine yes_go ?_
    have fli := fl (i : Int)
    refine ⟨_, rfl, _, _, _, _, rfl, rfl, s2.tup hf, rfl, _, rfl, _, _, rfl, rfl, _, rfl, _, rfl, _, rfl, ba, la, F, ds, xs, i, (by show [_, _, V.int (0 + (i : Int))] = _; rw [Int.zero_add]), hbk0.same s2, hl0.same s2, B, d40, (by omega), fun rq H3 s3 nrq hrq => ?_⟩
    refine ⟨le2, fun p3 hp3 => ?_⟩
    have s4 := same_new hp3 (.tup [V.int (F.f + (0 + (i : Int))), V.ref rq])
    have t4 := s3.trans s4
    have h3 : (upd H3 p3 (.tup [V.int (F.f + (0 + (i : Int))), V.ref rq])) p3 = some (.tup [V.int (F.f + (ps.length : Int)), V.ref rq]) := by rw [upd_same, Int.zero_add, pl_]
    have hq4 := s4 _ _ hrq
    subst pl_
    exact ⟨s2.trans t4, ps ++ [p3], rs ++ [rq], by simp, refs_snoc _ _, hps.snoc t4 h3 hq4 nrq (s2.free nrq)⟩
  rintro ys H2 ⟨s2, ps, rs, pl_, rfl, hps⟩ p hp
  have s3 := same_new hp (.lst (ps.map V.ref))
  exact q p ps rs _ (s2.trans s3) (s2.free hp) ⟨hps.same s3, upd_same, fun z => by
    obtain ⟨i, hi, e⟩ := List.mem_iff_getElem.mp z
    have := hps.at' i p (by rw [List.getElem?_eq_getElem hi, e])
    rw [hp] at this
    cases this⟩ (by rw [pl_, en])
theorem refs_same (as : List Addr) : ∀ x ∈ as.map V.ref, sameV x := fun x hx => by
  obtain ⟨a, _, rfl⟩ := List.mem_map.mp hx
  exact .inr ⟨a, rfl⟩

theorem sc_law : FnScope ["script", "book", "layings", "places", "due", "handed", "spots", "found", "at"] ["script"] (defScope s_law) := ⟨rfl, rfl, rfl, by decide +kernel, rfl, by decide +kernel, by decide +kernel⟩
theorem ok_law (T : Txt P w K mg a) : FnOk P w K mg base CX0 6 a.f_law a.fd_law ["script"] (sp_law K) := by
  have g_l_cell_at := ok_l_cell_at (P := P) (w := w) (base := base) T
  have d_l_cell_at := T.d_l_cell_at
  have g_l_copied := ok_l_copied (P := P) (w := w) (base := base) T
  have d_l_copied := T.d_l_copied
  have g_l_drawn := ok_l_drawn (P := P) (w := w) (base := base) T
  have d_l_drawn := T.d_l_drawn
  have g_l_due := ok_l_due (P := P) (w := w) (base := base) T
  have d_l_due := T.d_l_due
  have g_l_is_pages := ok_l_is_pages (P := P) (w := w) (base := base) T
  have d_l_is_pages := T.d_l_is_pages
  have g_l_mixed := ok_l_mixed (P := P) (w := w) (base := base) T
  have d_l_mixed := T.d_l_mixed
  have g_pages_of := ok_pages_of (P := P) (w := w) (base := base) T
  have d_pages_of := T.d_pages_of
  have z_len := T.z_len
  have z_list := T.z_list
  refine T.d_law.fn.ok sc_law (fun vs H Q E h => ?_) (fun cdv A outer s H vs Q E hr h => ?_)
  · obtain ⟨a, ns, rfl, _⟩ := h
    rfl
  obtain ⟨sa, ns, rfl, hS, h63, q⟩ := h
  have hu := Nat.lt_of_succ_lt (hu_of hr)
  refine ⟨_, (pss_cons (ps_asg (pe_callD d_l_drawn g_l_drawn (hr.mono (by decide)) rfl (pa_cons (pv 0) (pa_cons pe_int (pa_cons pe_int pa_nil)))) (pg_tup rfl (pgs_cons (pg_name (i := 1) sc_law.nd rfl (Or.inl rfl)) (pgs_cons (pg_name (i := 2) sc_law.nd rfl (Or.inl rfl)) pgs_nil))))
      (pss_cons (ps_set (i := 3) sc_law.nd rfl (Or.inl rfl) (pe_ix ix_list (pv 2) pe_int (fun _ _ => rfl)))
      (pss_cons (ps_set (i := 4) sc_law.nd rfl (Or.inl rfl) (pe_callD d_l_due g_l_due (hr.mono (by decide)) rfl (pa_cons (pv 1) (pa_cons (pv 3) pa_nil))))
      (pss_cons (ps_set (i := 5) sc_law.nd rfl (Or.inl rfl) (pe_tup (pa_cons (pe_ix ix_tup (pv 1) pe_int (fun _ _ => rfl)) (pa_cons (pe_callD d_l_copied g_l_copied (hr.mono (by decide)) rfl (pa_cons (pe_ix ix_tup (pv 1) pe_int (fun _ _ => rfl)) pa_nil)) pa_nil))))
      (pss_cons (ps_set (i := 6) sc_law.nd rfl (Or.inl rfl) (pe_callTy call_list_of rfl z_list PyProof.Rows.boot_list (pa_cons (pv 3) pa_nil)))
      (pss_cons (ps_set (i := 7) sc_law.nd rfl (Or.inl rfl) (pe_callD d_pages_of g_pages_of (hr.mono (by decide)) rfl (pa_cons (pv 5) (pa_cons (pv 6) pa_nil))))
      (pss_cons (ps_if (PW.pt (pw_or (pt_not (pt_val (pe_callD d_l_is_pages g_l_is_pages (hr.mono (by decide)) rfl (pa_cons (pv 7) (pa_cons (pe_callB call_len_seq rfl z_len PySem.boot_len (pa_cons (pv 4) pa_nil)) (pa_cons (pe_ix ix_tup (pe_ix ix_tup (pv 1) pe_int (fun _ _ => rfl)) pe_int (fun _ _ => rfl)) pa_nil)))) (fun _ => rfl))) (pw_or (pt_cmpR (op_neQ (hu100 hr)) (pv 7) (pv 4) (nomark _)) (pw_or (pt_cmpR (op_neQ (hu100 hr)) (pv 5) (pv 1) (nomark _)) (pw_or1 (pt_cmpR (op_neS hu) (pv 6) (pv 3) (nomark _))))))) (pss_one (ps_ret pe_bl)) pss_nil)
      (pss_cons (ps_if (pt_cmpR (op_eqNil hu) (pv 7) (pe_lst pa_nil) (nomark _)) (pss_one (ps_ret pe_bl)) pss_nil)
      (pss_cons (ps_set (i := 8) sc_law.nd rfl (Or.inl rfl) (pe_op op_mod (pe_callD d_l_mixed g_l_mixed (hr.mono (by decide)) rfl (pa_cons (pe_op op_add (pe_callD d_l_cell_at g_l_cell_at (hr.mono (by decide)) rfl (pa_cons (pv 0) (pa_cons pe_int pa_nil))) pe_int) pa_nil)) (pe_callB call_len_seq rfl z_len PySem.boot_len (pa_cons (pv 7) pa_nil))))
      (pss_cons (ps_expr (pe_bm PySem.F.plainAttrs_list PySem.F.slot_list_append PySem.F.type_list_append mt_append (pe_ix ix_tup (pe_ix ix_list (pv 7) (pv 8) (fun _ _ => rfl)) pe_int (fun _ _ => rfl)) (pa_cons pe_str pa_nil)))
      (pss_cons (ps_if (PW.pt (pw_or (pt_cmpR (op_neQ (hu100 hr)) (pe_slice sl_list (pv 7) po_none (po_some (pv 8))) (pe_slice sl_list (pv 4) po_none (po_some (pv 8))) (nomark _)) (pw_or1 (pt_cmpR (op_neQ (hu100 hr)) (pe_slice sl_list (pv 7) (po_some (pe_op op_add (pv 8) pe_int)) po_none) (pe_slice sl_list (pv 4) (po_some (pe_op op_add (pv 8) pe_int)) po_none) (nomark _))))) (pss_one (ps_ret pe_bl)) pss_nil)
      (pss_cons (ps_expr (pe_bm0 PySem.F.plainAttrs_list PySem.F.slot_list_clear PySem.F.type_list_clear mt_clear (pv 7)))
      (pss_one (ps_ret (pe_cmpR (op_eqQ (hu100 hr)) (pe_callD d_pages_of g_pages_of (hr.mono (by decide)) rfl (pa_cons (pv 5) (pa_cons (pv 6) pa_nil))) (pv 4) (nomark _)))))))))))))))), ?_⟩
  refine ⟨_, rfl, sa, ns, (40 : Nat), (1 : Nat), rfl, hS, by decide, .inl rfl, fun dq bq ly las F es xss b H1 s1 hdq hbk hly hls xl e40 hx => ?_⟩
  refine ⟨dq, _, rfl, hdq, rfl, _, _, rfl, _, _, rfl, rfl, ?_⟩
  dsimp only [gName]
  have hbk0 := hbk
  obtain ⟨fa, wa, was, hb, hf, hw, hws⟩ := hbk
  obtain ⟨x1, rfl⟩ : ∃ x1, xss = [x1] := by
    match xss, xl with
    | [x1], _ => exact ⟨x1, rfl⟩
  obtain ⟨l1, rfl⟩ : ∃ l1, las = [l1] := by
    have := hls.1
    match las, this with
    | [l1], _ => exact ⟨l1, rfl⟩
  obtain ⟨B, pg, R, tr⟩ := hx x1 List.mem_cons_self
  have hl1 := hls.2 0 l1 x1 rfl rfl
  have hl10 := hl1
  obtain ⟨as, hla, hps⟩ := hl1
  have fo := B.fo
  have eas : (as.map V.ref).length = x1.length := by rw [List.length_map, hps.1]
  refine ⟨_, rfl, _, _, _, _, rfl, rfl, hly, rfl, ?_⟩
  dsimp only [gName]
  have fl : ∀ p : Int, ((feetW F es x1 p es.length).length : Int) ≤ F.h := fun p => (feet_room B R tr p).1
  have p60 : ∀ k, k < x1.length → (xAt x1 k).1 ≤ 60 := fun k hk => by have := R.pg k hk; have := B.len; omega
  refine ⟨_, rfl, _, rfl, bq, l1, F, es, x1, rfl, hbk0, hl10, B, e40, fl, p60, (fun k hk => ris_page R hk), fun du dps drs H2 s2 nd2 D2 dl => ?_⟩
  dsimp only [gName]
  refine ⟨_, rfl, _, _, _, _, rfl, rfl, s2.tup hb, rfl, _, rfl, _, _, _, _, rfl, rfl, s2.tup hb, rfl, wa, was, es, rfl, s2.seq hw, hws.same s2, by omega, fun wa' was' H3 s3 hw3 hws3 hcp => ?_⟩
  refine ⟨le2, fun p1 hp1 => ?_⟩
  have s4 := same_new hp1 (.tup [V.ref fa, V.ref wa'])
  have h4 : SqT K (upd H3 p1 (.tup [V.ref fa, V.ref wa'])) p1 [V.ref fa, V.ref wa'] := SqT.of upd_same
  generalize upd H3 p1 (.tup [V.ref fa, V.ref wa']) = H4 at s4 h4 ⊢
  dsimp only [gName]
  have t4 := s2.trans (s3.trans s4)
  refine ⟨_, rfl, _, _, rfl, .inl (t4.seq hla), fun p2 hp2 => ?_⟩
  have s5 := same_new hp2 (.lst (as.map V.ref))
  have h5 : (upd H4 p2 (.lst (as.map V.ref))) p2 = some (.lst (as.map V.ref)) := upd_same
  generalize upd H4 p2 (.lst (as.map V.ref)) = H5 at s5 h5 ⊢
  dsimp only [gName]
  have t5 := t4.trans s5
  have D5 := D2.same (s3.trans (s4.trans s5))
  have hh5 : BkAt K H5 p1 F.w F.h F.f F.m es := ⟨fa, wa', was', s5.tup h4, t5.tup hf, (s4.trans s5).seq hw3, hws3.same (s4.trans s5)⟩
  have hl5 : LwAt K H5 p2 x1 := ⟨as, SqL.of h5, hps.same t5⟩
  refine ⟨_, rfl, _, rfl, p1, p2, F, es, x1, rfl, hh5, hl5, B, e40, fl, p60, fun pq ps rs H6 s6 npq D6 pl6 => ?_⟩
  dsimp only [gName]
  have t6 := t5.trans s6
  have E6 := D5.same s6
  refine ⟨_, rfl, _, rfl, _, _, rfl, .inl (SqL.of E6.top), _, rfl, _, _, _, _, rfl, rfl, t6.tup hb, rfl, _, _, _, _, rfl, rfl, t6.tup hf, rfl, pq, F, es, x1, ps.length, (by rw [List.length_map, dl, pl6]; rfl), D6.pgs, fo.h1, fo.h2, fl, fun H7 s7 => ?_⟩
  refine ⟨_, rfl, ?_⟩
  refine iteF ?_
  have t7 := t6.trans s7
  have E7 := E6.same s7
  have D7 := D6.same s7
  have u7 := s6.trans s7
  refine ⟨_, rfl, _, rfl, 2, pq, du, ps.map V.ref, dps.map V.ref, by decide, rfl, rfl, .inl ⟨SqL.of D7.top, SqL.of E7.top⟩, (by rw [List.length_map, List.length_map, dl, pl6]), fun i x y e1 e2 => ?_, _, rfl, ?_⟩
  · rw [List.getElem?_map] at e1 e2
    obtain ⟨a1, k1, rfl⟩ := Option.map_eq_some_iff.mp e1
    obtain ⟨a2, k2, rfl⟩ := Option.map_eq_some_iff.mp e2
    exact pgd_dq (pb := du) D7.toPgI E7.toPgI k1 k2 rfl
  refine iteF ?_
  have v4 := s4.trans (s5.trans u7)
  refine ⟨_, rfl, _, rfl, 3, p1, bq, _, _, by decide, rfl, rfl, .inr ⟨(s5.trans u7).tup h4, t7.tup hb⟩, rfl, fun j x y e1 e2 => ?_, _, rfl, ?_⟩
  · match j, e1, e2 with
    | 0, e1, e2 => cases e1; cases e2; exact .inl (.inr ⟨_, rfl, rfl⟩)
    | 1, e1, e2 => cases e1; cases e2; exact (hcp.same v4).dq (t7.seq hw) (v4.seq hw3)
    | j + 2, e1, _ => exact absurd e1 (by simp)
  refine iteF ?_
  refine ⟨_, rfl, _, rfl, p2, l1, as.map V.ref, rfl, rfl, SqL.of (u7 _ _ h5), t7.seq hla, refs_same as, _, rfl, ?_⟩
  refine iteF ?_
  dsimp only [tNext]
  refine ⟨_, rfl, Nat.zero_le _, fun p3 hp3 => ?_⟩
  have s8 := same_new hp3 (.lst [])
  refine ⟨pq, p3, ps.map V.ref, rfl, rfl, SqL.of (s8 _ _ D7.top), SqL.of upd_same, _, rfl, ?_⟩
  have D8 := D7.same s8
  have E8 := E7.same s8
  generalize upd H7 p3 (.lst []) = H8 at s8 D8 E8 ⊢
  by_cases c0 : ps = []
  · subst c0
    refine iteT ?_
    exact q _
  have pne : (ps.map V.ref).isEmpty = false := by
    cases ps with
    | nil => exact absurd rfl c0
    | cons a l => rfl
  rw [pne]
  refine iteF ?_
  dsimp only [tNext]
  have t8 := t7.trans s8
  have u8 := u7.trans s8
  have pp : 0 < ps.length := List.length_pos_iff.mpr c0
  refine ⟨_, rfl, sa, ns, (1 : Nat), rfl, (s1.trans t8).seq hS, _, _, rfl, rfl, _, rfl, _, rfl, _, _, rfl, .inl (SqL.of D8.top), _, _, rfl, rfl, (by rw [List.length_map]; show (0 : Int) < _; omega), ?_⟩
  dsimp only [gName]
  rw [List.length_map]
  obtain ⟨at', ea, la'⟩ : ∃ at' : Nat, mixed (ns.getD 1 0 + 31) % (ps.length : Int) = (at' : Int) ∧ at' < ps.length := by
    have a1 := Int.emod_nonneg (mixed (ns.getD 1 0 + 31)) (show (ps.length : Int) ≠ 0 by omega)
    have a2 := Int.emod_lt_of_pos (mixed (ns.getD 1 0 + 31)) (show (0 : Int) < (ps.length : Int) by omega)
    exact ⟨(mixed (ns.getD 1 0 + 31) % (ps.length : Int)).toNat, by omega, by omega⟩
  rw [ea]
  obtain ⟨pi, ri, er1, ep1, eat, hpi, hri⟩ := D8.get la'
  have n60 : (pgR F es x1 (at' : Int)).length = F.h.toNat := pgR_len (by have := fl (at' : Int); omega)
  have h60 := fo.h2
  refine ⟨_, rfl, _, rfl, _, _, _, _, rfl, rfl, SqL.of D8.top, eat, _, _, _, _, rfl, rfl, SqT.of hpi, rfl, .inl ⟨rfl, _, SqL.of hri⟩, _, _, _, rfl, rfl, hri, (by rw [rowsV_len2, n60]; exact Nat.lt_of_lt_of_le (show _ < 1000 by omega) (small (Nat.le_refl _))), ?_⟩
  rw [show rowsV (pgR F es x1 (at' : Int)) ++ [V.str (PySem.Str.ofString "a")] = rowsV (pgR F es x1 (at' : Int) ++ [[97]]) by rw [rowsV_snoc, show PySem.Str.ofString "a" = tx [97] by decide +kernel]]
  have nri : H5 ri = none := D8.fr ri (List.mem_of_getElem? er1)
  have D9 : PgD H5 (upd H8 ri (.lst (rowsV (pgR F es x1 (at' : Int) ++ [[97]])))) pq ps rs F.f (fun i => if i = at' then pgR F es x1 (at' : Int) ++ [[97]] else pgR F es x1 (i : Int)) := D8.set er1 (if_pos rfl) (fun i hi => if_neg hi)
  have u9 : Same H5 (upd H8 ri (.lst (rowsV (pgR F es x1 (at' : Int) ++ [[97]])))) := u8.put nri
  generalize upd H8 ri (.lst (rowsV (pgR F es x1 (at' : Int) ++ [[97]]))) = H9 at D9 u9 ⊢
  have E9 := D5.same u9
  refine ⟨_, rfl, _, rfl, _, rfl, pq, _, rfl, SqL.of D9.top, fun p4 hp4 => ?_⟩
  rw [cutV_map, Tl.cut_to]
  have sA := same_new hp4 (.lst ((ps.take at').map V.ref))
  have hA : (upd H9 p4 (.lst ((ps.take at').map V.ref))) p4 = some (.lst ((ps.take at').map V.ref)) := upd_same
  have DA := D9.same sA
  have EA := E9.same sA
  have uA := u9.trans sA
  generalize upd H9 p4 (.lst ((ps.take at').map V.ref)) = HA at sA hA DA EA uA ⊢
  refine ⟨_, rfl, _, rfl, _, rfl, du, _, rfl, SqL.of EA.top, fun p5 hp5 => ?_⟩
  rw [cutV_map, Tl.cut_to]
  have sB := same_new hp5 (.lst ((dps.take at').map V.ref))
  have hB : (upd HA p5 (.lst ((dps.take at').map V.ref))) p5 = some (.lst ((dps.take at').map V.ref)) := upd_same
  have DB := DA.same sB
  have EB := EA.same sB
  have uB := uA.trans sB
  have kA := sB _ _ hA
  generalize upd HA p5 (.lst ((dps.take at').map V.ref)) = HB at sB hB DB EB uB kA ⊢
  refine ⟨2, p4, p5, (ps.take at').map V.ref, (dps.take at').map V.ref, by decide, rfl, rfl, .inl ⟨SqL.of kA, SqL.of hB⟩, (by rw [List.length_map, List.length_map, List.length_take, List.length_take, dl, pl6]), fun i x y e1 e2 => ?_, _, rfl, ?_⟩
  · rw [List.getElem?_map] at e1 e2
    obtain ⟨a1, k1, rfl⟩ := Option.map_eq_some_iff.mp e1
    obtain ⟨a2, k2, rfl⟩ := Option.map_eq_some_iff.mp e2
    have hi : i < at' := by have := (List.getElem?_eq_some_iff.mp k1).1; rw [List.length_take] at this; omega
    rw [List.getElem?_take_of_lt hi] at k1 k2
    exact pgd_dq (pb := du) DB.toPgI EB.toPgI k1 k2 (if_neg (by omega))
  refine iteF ?_
  refine ⟨_, rfl, _, rfl, _, _, rfl, rfl, _, rfl, pq, _, rfl, SqL.of DB.top, fun p6 hp6 => ?_⟩
  rw [cutV_map, show (at' : Int) + 1 = ((at' + 1 : Nat) : Int) by omega, cut_fr]
  have sC := same_new hp6 (.lst ((ps.drop (at' + 1)).map V.ref))
  have hC : (upd HB p6 (.lst ((ps.drop (at' + 1)).map V.ref))) p6 = some (.lst ((ps.drop (at' + 1)).map V.ref)) := upd_same
  have DC := DB.same sC
  have EC := EB.same sC
  have uC := uB.trans sC
  generalize upd HB p6 (.lst ((ps.drop (at' + 1)).map V.ref)) = HC at sC hC DC EC uC ⊢
  refine ⟨_, rfl, _, rfl, _, _, rfl, rfl, _, rfl, du, _, rfl, SqL.of EC.top, fun p7 hp7 => ?_⟩
  rw [cutV_map, show (at' : Int) + 1 = ((at' + 1 : Nat) : Int) by omega, cut_fr]
  have sD := same_new hp7 (.lst ((dps.drop (at' + 1)).map V.ref))
  have hD : (upd HC p7 (.lst ((dps.drop (at' + 1)).map V.ref))) p7 = some (.lst ((dps.drop (at' + 1)).map V.ref)) := upd_same
  have DD := DC.same sD
  have ED := EC.same sD
  have uD := uC.trans sD
  have kC := sD _ _ hC
  generalize upd HC p7 (.lst ((dps.drop (at' + 1)).map V.ref)) = HD at sD hD DD ED uD kC ⊢
  refine ⟨2, p6, p7, (ps.drop (at' + 1)).map V.ref, (dps.drop (at' + 1)).map V.ref, by decide, rfl, rfl, .inl ⟨SqL.of kC, SqL.of hD⟩, (by rw [List.length_map, List.length_map, List.length_drop, List.length_drop, dl, pl6]), fun i x y e1 e2 => ?_, _, rfl, ?_⟩
  · rw [List.getElem?_map] at e1 e2
    obtain ⟨a1, k1, rfl⟩ := Option.map_eq_some_iff.mp e1
    obtain ⟨a2, k2, rfl⟩ := Option.map_eq_some_iff.mp e2
    rw [List.getElem?_drop] at k1 k2
    exact pgd_dq (pb := du) DD.toPgI ED.toPgI k1 k2 (if_neg (by omega))
  refine iteF ?_
  dsimp only [tNext]
  refine ⟨_, rfl, .inl ⟨rfl, _, SqL.of DD.top⟩, pq, _, rfl, rfl, DD.top, ?_⟩
  have uE : Same H5 (upd HD pq (.lst [])) := uD.put npq
  generalize upd HD pq (.lst []) = HE at uE ⊢
  have EE := D5.same uE
  refine ⟨_, rfl, _, rfl, p1, p2, F, es, x1, rfl, hh5.same uE, hl5.same uE, B, e40, fl, p60, fun pz2 qs ss HF sF _ DF pl9 => ?_⟩
  have EF := EE.same sF
  refine ⟨_, rfl, 2, pz2, du, qs.map V.ref, dps.map V.ref, by decide, rfl, rfl, .inl ⟨SqL.of DF.top, SqL.of EF.top⟩, (by rw [List.length_map, List.length_map, dl, pl9]), fun i x y e1 e2 => ?_, ?_⟩
  · rw [List.getElem?_map] at e1 e2
    obtain ⟨a1, k1, rfl⟩ := Option.map_eq_some_iff.mp e1
    obtain ⟨a2, k2, rfl⟩ := Option.map_eq_some_iff.mp e2
    exact pgd_dq (pb := du) DF.toPgI EF.toPgI k1 k2 rfl
  exact q _
end
noncomputable abbrev fdA (n : Str) (s : Stmt) (d kV dc pm : Value) (an : Option Addr) (cd ct : Value) : FuncData := PySem.W.fnOf n n (defArgs s) (defBody s) (defScope s) d kV dc pm an cd ct
abbrev Na (K : PySem.W.Frag) (n : Str) (f : Addr) : Prop := PySem.W.nsIn K mainGlobals n = some (some (.ref f))
abbrev Lk (K : PySem.W.Frag) (f : Addr) (n : Str) (s : Stmt) (d oc : Value) (od : Option Addr) (sl : Array (Option Value)) (kV dc pm : Value) (an : Option Addr) (cd ct : Value) : Prop := K.lookup f = some ⟨oc, od, .func (fdA n s d kV dc pm an cd ct), sl⟩
abbrev Cd (K : PySem.W.Frag) (c : Value) (n : Str) : Prop := PySem.W.codeIn K c n = true
abbrev Kp (K : PySem.W.Frag) (f : Addr) : Prop := PySem.W.keepIn K (.ref f) = true
abbrev Zn (K : PySem.W.Frag) (n : Str) : Prop := PySem.W.nsIn K mainGlobals n = some none
theorem us1 {us : List Value} (h : us.length = 1) : ∃ a0, us = [a0] := by
  match us, h with
  | [a0], _ => exact ⟨a0, rfl⟩
theorem us2 {us : List Value} (h : us.length = 2) : ∃ a0 a1, us = [a0, a1] := by
  match us, h with
  | [a0, a1], _ => exact ⟨a0, a1, rfl⟩
theorem us3 {us : List Value} (h : us.length = 3) : ∃ a0 a1 a2, us = [a0, a1, a2] := by
  match us, h with
  | [a0, a1, a2], _ => exact ⟨a0, a1, a2, rfl⟩
theorem us4 {us : List Value} (h : us.length = 4) : ∃ a0 a1 a2 a3, us = [a0, a1, a2, a3] := by
  match us, h with
  | [a0, a1, a2, a3], _ => exact ⟨a0, a1, a2, a3, rfl⟩
theorem us5 {us : List Value} (h : us.length = 5) : ∃ a0 a1 a2 a3 a4, us = [a0, a1, a2, a3, a4] := by
  match us, h with
  | [a0, a1, a2, a3, a4], _ => exact ⟨a0, a1, a2, a3, a4, rfl⟩
theorem txt_mk {P : Program} {w : World} {K : PySem.W.Frag} {h : Heap} {mg : Str → Option Value} (X : K.In h) (G : h.Ns mainGlobals mg)
    {od0 an0 od1 an1 od2 an2 od3 an3 od4 an4 od5 an5 od6 an6 od7 an7 od8 an8 od9 an9 od10 an10 od11 an11 od12 an12 od13 an13 od14 an14 od15 an15 od16 an16 od17 an17 od18 an18 od19 an19 od20 an20 od21 an21 od22 an22 od23 an23 od24 an24 od25 an25 od26 an26 : Option Addr} {sl0 sl1 sl2 sl3 sl4 sl5 sl6 sl7 sl8 sl9 sl10 sl11 sl12 sl13 sl14 sl15 sl16 sl17 sl18 sl19 sl20 sl21 sl22 sl23 sl24 sl25 sl26 : Array (Option Value)} {oc0 kV0 dc0 pm0 cd0 ct0 oc1 kV1 dc1 pm1 cd1 ct1 oc2 kV2 dc2 pm2 cd2 ct2 oc3 kV3 dc3 pm3 cd3 ct3 oc4 kV4 dc4 pm4 cd4 ct4 oc5 kV5 dc5 pm5 cd5 ct5 oc6 kV6 dc6 pm6 cd6 ct6 oc7 kV7 dc7 pm7 cd7 ct7 oc8 kV8 dc8 pm8 cd8 ct8 oc9 kV9 dc9 pm9 cd9 ct9 oc10 kV10 dc10 pm10 cd10 ct10 oc11 kV11 dc11 pm11 cd11 ct11 oc12 kV12 dc12 pm12 cd12 ct12 oc13 kV13 dc13 pm13 cd13 ct13 oc14 kV14 dc14 pm14 cd14 ct14 oc15 kV15 dc15 pm15 cd15 ct15 oc16 kV16 dc16 pm16 cd16 ct16 oc17 kV17 dc17 pm17 cd17 ct17 oc18 kV18 dc18 pm18 cd18 ct18 oc19 kV19 dc19 pm19 cd19 ct19 oc20 kV20 dc20 pm20 cd20 ct20 oc21 kV21 dc21 pm21 cd21 ct21 oc22 kV22 dc22 pm22 cd22 ct22 oc23 kV23 dc23 pm23 cd23 ct23 oc24 kV24 dc24 pm24 cd24 ct24 oc25 kV25 dc25 pm25 cd25 ct25 oc26 kV26 dc26 pm26 cd26 ct26 : Value} {f0 f1 f2 f3 f4 f5 f6 f7 f8 f9 f10 f11 f12 f13 f14 f15 f16 f17 f18 f19 f20 f21 f22 f23 f24 f25 f26 : Addr}
    (a0 : Na K "_law_cell_at" f0) (l0 : Lk K f0 "_law_cell_at" s_l_cell_at .none oc0 od0 sl0 kV0 dc0 pm0 an0 cd0 ct0) (c0 : Cd K cd0 "_law_cell_at") (k0 : Kp K f0)
    (a1 : Na K "_law_copied" f1) (l1 : Lk K f1 "_law_copied" s_l_copied .none oc1 od1 sl1 kV1 dc1 pm1 an1 cd1 ct1) (c1 : Cd K cd1 "_law_copied") (k1 : Kp K f1)
    (a2 : Na K "_law_first" f2) (l2 : Lk K f2 "_law_first" s_l_first .none oc2 od2 sl2 kV2 dc2 pm2 an2 cd2 ct2) (c2 : Cd K cd2 "_law_first") (k2 : Kp K f2)
    (a3 : Na K "_law_said_by" f3) (l3 : Lk K f3 "_law_said_by" s_l_said_by .none oc3 od3 sl3 kV3 dc3 pm3 an3 cd3 ct3) (c3 : Cd K cd3 "_law_said_by") (k3 : Kp K f3)
    (a4 : Na K "_law_high_by" f4) (l4 : Lk K f4 "_law_high_by" s_l_high_by .none oc4 od4 sl4 kV4 dc4 pm4 an4 cd4 ct4) (c4 : Cd K cd4 "_law_high_by") (k4 : Kp K f4)
    (a5 : Na K "_law_sizes" f5) (l5 : Lk K f5 "_law_sizes" s_l_sizes .none oc5 od5 sl5 kV5 dc5 pm5 an5 cd5 ct5) (c5 : Cd K cd5 "_law_sizes") (k5 : Kp K f5)
    (a6 : Na K "_law_fitting" f6) (l6 : Lk K f6 "_law_fitting" s_l_fitting .none oc6 od6 sl6 kV6 dc6 pm6 an6 cd6 ct6) (c6 : Cd K cd6 "_law_fitting") (k6 : Kp K f6)
    (a7 : Na K "_law_mixed" f7) (l7 : Lk K f7 "_law_mixed" s_l_mixed .none oc7 od7 sl7 kV7 dc7 pm7 an7 cd7 ct7) (c7 : Cd K cd7 "_law_mixed") (k7 : Kp K f7)
    (a8 : Na K "_law_numbers" f8) (l8 : Lk K f8 "_law_numbers" s_l_numbers .none oc8 od8 sl8 kV8 dc8 pm8 an8 cd8 ct8) (c8 : Cd K cd8 "_law_numbers") (k8 : Kp K f8)
    (a9 : Na K "_law_signs" f9) (l9 : Lk K f9 "_law_signs" s_l_signs .none oc9 od9 sl9 kV9 dc9 pm9 an9 cd9 ct9) (c9 : Cd K cd9 "_law_signs") (k9 : Kp K f9)
    (a10 : Na K "_law_some" f10) (l10 : Lk K f10 "_law_some" s_l_some .none oc10 od10 sl10 kV10 dc10 pm10 an10 cd10 ct10) (c10 : Cd K cd10 "_law_some") (k10 : Kp K f10)
    (a11 : Na K "_law_parts" f11) (l11 : Lk K f11 "_law_parts" s_l_parts .none oc11 od11 sl11 kV11 dc11 pm11 an11 cd11 ct11) (c11 : Cd K cd11 "_law_parts") (k11 : Kp K f11)
    (a12 : Na K "_law_rising" f12) (l12 : Lk K f12 "_law_rising" s_l_rising .none oc12 od12 sl12 kV12 dc12 pm12 an12 cd12 ct12) (c12 : Cd K cd12 "_law_rising") (k12 : Kp K f12)
    (a13 : Na K "_law_behind_by" f13) (l13 : Lk K f13 "_law_behind_by" s_l_behind_by .none oc13 od13 sl13 kV13 dc13 pm13 an13 cd13 ct13) (c13 : Cd K cd13 "_law_behind_by") (k13 : Kp K f13)
    (a14 : Na K "_law_sooner" f14) (l14 : Lk K f14 "_law_sooner" s_l_sooner .none oc14 od14 sl14 kV14 dc14 pm14 an14 cd14 ct14) (c14 : Cd K cd14 "_law_sooner") (k14 : Kp K f14)
    (a15 : Na K "_law_let" f15) (l15 : Lk K f15 "_law_let" s_l_let .none oc15 od15 sl15 kV15 dc15 pm15 an15 cd15 ct15) (c15 : Cd K cd15 "_law_let") (k15 : Kp K f15)
    (a16 : Na K "_law_words" f16) (l16 : Lk K f16 "_law_words" s_l_words .none oc16 od16 sl16 kV16 dc16 pm16 an16 cd16 ct16) (c16 : Cd K cd16 "_law_words") (k16 : Kp K f16)
    (a17 : Na K "_law_drawn" f17) (l17 : Lk K f17 "_law_drawn" s_l_drawn .none oc17 od17 sl17 kV17 dc17 pm17 an17 cd17 ct17) (c17 : Cd K cd17 "_law_drawn") (k17 : Kp K f17)
    (a18 : Na K "_law_filled_by" f18) (l18 : Lk K f18 "_law_filled_by" s_l_filled_by .none oc18 od18 sl18 kV18 dc18 pm18 an18 cd18 ct18) (c18 : Cd K cd18 "_law_filled_by") (k18 : Kp K f18)
    (a19 : Na K "_law_due" f19) (l19 : Lk K f19 "_law_due" s_l_due .none oc19 od19 sl19 kV19 dc19 pm19 an19 cd19 ct19) (c19 : Cd K cd19 "_law_due") (k19 : Kp K f19)
    (a20 : Na K "_law_is_pages" f20) (l20 : Lk K f20 "_law_is_pages" s_l_is_pages .none oc20 od20 sl20 kV20 dc20 pm20 an20 cd20 ct20) (c20 : Cd K cd20 "_law_is_pages") (k20 : Kp K f20)
    (a21 : Na K "figures_of" f21) (l21 : Lk K f21 "figures_of" s_figures_of .none oc21 od21 sl21 kV21 dc21 pm21 an21 cd21 ct21) (c21 : Cd K cd21 "figures_of") (k21 : Kp K f21)
    (a22 : Na K "said" f22) (l22 : Lk K f22 "said" s_said .none oc22 od22 sl22 kV22 dc22 pm22 an22 cd22 ct22) (c22 : Cd K cd22 "said") (k22 : Kp K f22)
    (a23 : Na K "foot_rows" f23) (l23 : Lk K f23 "foot_rows" s_foot_rows .none oc23 od23 sl23 kV23 dc23 pm23 an23 cd23 ct23) (c23 : Cd K cd23 "foot_rows") (k23 : Kp K f23)
    (a24 : Na K "page_rows" f24) (l24 : Lk K f24 "page_rows" s_page_rows .none oc24 od24 sl24 kV24 dc24 pm24 an24 cd24 ct24) (c24 : Cd K cd24 "page_rows") (k24 : Kp K f24)
    (a25 : Na K "pages_of" f25) (l25 : Lk K f25 "pages_of" s_pages_of .none oc25 od25 sl25 kV25 dc25 pm25 an25 cd25 ct25) (c25 : Cd K cd25 "pages_of") (k25 : Kp K f25)
    (a26 : Na K "law" f26) (l26 : Lk K f26 "law" s_law .none oc26 od26 sl26 kV26 dc26 pm26 an26 cd26 ct26) (c26 : Cd K cd26 "law") (k26 : Kp K f26)
    (z_all : Zn K "all")
    (z_bool : Zn K "bool")
    (z_enumerate : Zn K "enumerate")
    (z_int : Zn K "int")
    (z_isinstance : Zn K "isinstance")
    (z_len : Zn K "len")
    (z_list : Zn K "list")
    (z_max : Zn K "max")
    (z_min : Zn K "min")
    (z_range : Zn K "range")
    (z_str : Zn K "str")
    (z_sum : Zn K "sum")
    (z_tuple : Zn K "tuple")
    (z_zip : Zn K "zip") :
    ∃ a : Adr, Txt P w K mg a := by
  refine ⟨{ f_l_cell_at := f0, fd_l_cell_at := fdA "_law_cell_at" s_l_cell_at .none kV0 dc0 pm0 an0 cd0 ct0, f_l_copied := f1, fd_l_copied := fdA "_law_copied" s_l_copied .none kV1 dc1 pm1 an1 cd1 ct1, f_l_first := f2, fd_l_first := fdA "_law_first" s_l_first .none kV2 dc2 pm2 an2 cd2 ct2, f_l_said_by := f3, fd_l_said_by := fdA "_law_said_by" s_l_said_by .none kV3 dc3 pm3 an3 cd3 ct3, f_l_high_by := f4, fd_l_high_by := fdA "_law_high_by" s_l_high_by .none kV4 dc4 pm4 an4 cd4 ct4, f_l_sizes := f5, fd_l_sizes := fdA "_law_sizes" s_l_sizes .none kV5 dc5 pm5 an5 cd5 ct5, f_l_fitting := f6, fd_l_fitting := fdA "_law_fitting" s_l_fitting .none kV6 dc6 pm6 an6 cd6 ct6, f_l_mixed := f7, fd_l_mixed := fdA "_law_mixed" s_l_mixed .none kV7 dc7 pm7 an7 cd7 ct7, f_l_numbers := f8, fd_l_numbers := fdA "_law_numbers" s_l_numbers .none kV8 dc8 pm8 an8 cd8 ct8, f_l_signs := f9, fd_l_signs := fdA "_law_signs" s_l_signs .none kV9 dc9 pm9 an9 cd9 ct9, f_l_some := f10, fd_l_some := fdA "_law_some" s_l_some .none kV10 dc10 pm10 an10 cd10 ct10, f_l_parts := f11, fd_l_parts := fdA "_law_parts" s_l_parts .none kV11 dc11 pm11 an11 cd11 ct11, f_l_rising := f12, fd_l_rising := fdA "_law_rising" s_l_rising .none kV12 dc12 pm12 an12 cd12 ct12, f_l_behind_by := f13, fd_l_behind_by := fdA "_law_behind_by" s_l_behind_by .none kV13 dc13 pm13 an13 cd13 ct13, f_l_sooner := f14, fd_l_sooner := fdA "_law_sooner" s_l_sooner .none kV14 dc14 pm14 an14 cd14 ct14, f_l_let := f15, fd_l_let := fdA "_law_let" s_l_let .none kV15 dc15 pm15 an15 cd15 ct15, f_l_words := f16, fd_l_words := fdA "_law_words" s_l_words .none kV16 dc16 pm16 an16 cd16 ct16, f_l_drawn := f17, fd_l_drawn := fdA "_law_drawn" s_l_drawn .none kV17 dc17 pm17 an17 cd17 ct17, f_l_filled_by := f18, fd_l_filled_by := fdA "_law_filled_by" s_l_filled_by .none kV18 dc18 pm18 an18 cd18 ct18, f_l_due := f19, fd_l_due := fdA "_law_due" s_l_due .none kV19 dc19 pm19 an19 cd19 ct19, f_l_is_pages := f20, fd_l_is_pages := fdA "_law_is_pages" s_l_is_pages .none kV20 dc20 pm20 an20 cd20 ct20, f_figures_of := f21, fd_figures_of := fdA "figures_of" s_figures_of .none kV21 dc21 pm21 an21 cd21 ct21, f_said := f22, fd_said := fdA "said" s_said .none kV22 dc22 pm22 an22 cd22 ct22, f_foot_rows := f23, fd_foot_rows := fdA "foot_rows" s_foot_rows .none kV23 dc23 pm23 an23 cd23 ct23, f_page_rows := f24, fd_page_rows := fdA "page_rows" s_page_rows .none kV24 dc24 pm24 an24 cd24 ct24, f_pages_of := f25, fd_pages_of := fdA "pages_of" s_pages_of .none kV25 dc25 pm25 an25 cd25 ct25, f_law := f26, fd_law := fdA "law" s_law .none kV26 dc26 pm26 an26 cd26 ct26 }, {
    d_l_cell_at := defok_mk X G a0 l0 c0 k0 fun _ _ _ _ _ _ us hl => by obtain ⟨_, ⟨_, rfl⟩⟩ := us2 hl; rfl,
    d_l_copied := defok_mk X G a1 l1 c1 k1 fun _ _ _ _ _ _ us hl => by obtain ⟨_, rfl⟩ := us1 hl; rfl,
    d_l_first := defok_mk X G a2 l2 c2 k2 fun _ _ _ _ _ _ us hl => by obtain ⟨_, rfl⟩ := us1 hl; rfl,
    d_l_said_by := defok_mk X G a3 l3 c3 k3 fun _ _ _ _ _ _ us hl => by obtain ⟨_, ⟨_, ⟨_, rfl⟩⟩⟩ := us3 hl; rfl,
    d_l_high_by := defok_mk X G a4 l4 c4 k4 fun _ _ _ _ _ _ us hl => by obtain ⟨_, ⟨_, ⟨_, rfl⟩⟩⟩ := us3 hl; rfl,
    d_l_sizes := defok_mk X G a5 l5 c5 k5 fun _ _ _ _ _ _ us hl => by obtain ⟨_, ⟨_, ⟨_, rfl⟩⟩⟩ := us3 hl; rfl,
    d_l_fitting := defok_mk X G a6 l6 c6 k6 fun _ _ _ _ _ _ us hl => by obtain ⟨_, ⟨_, ⟨_, ⟨_, ⟨_, rfl⟩⟩⟩⟩⟩ := us5 hl; rfl,
    d_l_mixed := defok_mk X G a7 l7 c7 k7 fun _ _ _ _ _ _ us hl => by obtain ⟨_, rfl⟩ := us1 hl; rfl,
    d_l_numbers := defok_mk X G a8 l8 c8 k8 fun _ _ _ _ _ _ us hl => by obtain ⟨_, ⟨_, rfl⟩⟩ := us2 hl; rfl,
    d_l_signs := defok_mk X G a9 l9 c9 k9 fun _ _ _ _ _ _ us hl => by obtain ⟨_, ⟨_, rfl⟩⟩ := us2 hl; rfl,
    d_l_some := defok_mk X G a10 l10 c10 k10 fun _ _ _ _ _ _ us hl => by obtain ⟨_, ⟨_, ⟨_, rfl⟩⟩⟩ := us3 hl; rfl,
    d_l_parts := defok_mk X G a11 l11 c11 k11 fun _ _ _ _ _ _ us hl => by obtain ⟨_, ⟨_, rfl⟩⟩ := us2 hl; rfl,
    d_l_rising := defok_mk X G a12 l12 c12 k12 fun _ _ _ _ _ _ us hl => by obtain ⟨_, ⟨_, ⟨_, rfl⟩⟩⟩ := us3 hl; rfl,
    d_l_behind_by := defok_mk X G a13 l13 c13 k13 fun _ _ _ _ _ _ us hl => by obtain ⟨_, ⟨_, ⟨_, rfl⟩⟩⟩ := us3 hl; rfl,
    d_l_sooner := defok_mk X G a14 l14 c14 k14 fun _ _ _ _ _ _ us hl => by obtain ⟨_, ⟨_, rfl⟩⟩ := us2 hl; rfl,
    d_l_let := defok_mk X G a15 l15 c15 k15 fun _ _ _ _ _ _ us hl => by obtain ⟨_, ⟨_, ⟨_, ⟨_, rfl⟩⟩⟩⟩ := us4 hl; rfl,
    d_l_words := defok_mk X G a16 l16 c16 k16 fun _ _ _ _ _ _ us hl => by obtain ⟨_, ⟨_, ⟨_, ⟨_, rfl⟩⟩⟩⟩ := us4 hl; rfl,
    d_l_drawn := defok_mk X G a17 l17 c17 k17 fun _ _ _ _ _ _ us hl => by obtain ⟨_, ⟨_, ⟨_, rfl⟩⟩⟩ := us3 hl; rfl,
    d_l_filled_by := defok_mk X G a18 l18 c18 k18 fun _ _ _ _ _ _ us hl => by obtain ⟨_, ⟨_, ⟨_, rfl⟩⟩⟩ := us3 hl; rfl,
    d_l_due := defok_mk X G a19 l19 c19 k19 fun _ _ _ _ _ _ us hl => by obtain ⟨_, ⟨_, rfl⟩⟩ := us2 hl; rfl,
    d_l_is_pages := defok_mk X G a20 l20 c20 k20 fun _ _ _ _ _ _ us hl => by obtain ⟨_, ⟨_, ⟨_, rfl⟩⟩⟩ := us3 hl; rfl,
    d_figures_of := defok_mk X G a21 l21 c21 k21 fun _ _ _ _ _ _ us hl => by obtain ⟨_, rfl⟩ := us1 hl; rfl,
    d_said := defok_mk X G a22 l22 c22 k22 fun _ _ _ _ _ _ us hl => by obtain ⟨_, ⟨_, ⟨_, rfl⟩⟩⟩ := us3 hl; rfl,
    d_foot_rows := defok_mk X G a23 l23 c23 k23 fun _ _ _ _ _ _ us hl => by obtain ⟨_, ⟨_, ⟨_, rfl⟩⟩⟩ := us3 hl; rfl,
    d_page_rows := defok_mk X G a24 l24 c24 k24 fun _ _ _ _ _ _ us hl => by obtain ⟨_, ⟨_, ⟨_, rfl⟩⟩⟩ := us3 hl; rfl,
    d_pages_of := defok_mk X G a25 l25 c25 k25 fun _ _ _ _ _ _ us hl => by obtain ⟨_, ⟨_, rfl⟩⟩ := us2 hl; rfl,
    d_law := defok_mk X G a26 l26 c26 k26 fun _ _ _ _ _ _ us hl => by obtain ⟨_, rfl⟩ := us1 hl; rfl,
    z_all := PySem.W.mg_none_of X G z_all,
    z_bool := PySem.W.mg_none_of X G z_bool,
    z_enumerate := PySem.W.mg_none_of X G z_enumerate,
    z_int := PySem.W.mg_none_of X G z_int,
    z_isinstance := PySem.W.mg_none_of X G z_isinstance,
    z_len := PySem.W.mg_none_of X G z_len,
    z_list := PySem.W.mg_none_of X G z_list,
    z_max := PySem.W.mg_none_of X G z_max,
    z_min := PySem.W.mg_none_of X G z_min,
    z_range := PySem.W.mg_none_of X G z_range,
    z_str := PySem.W.mg_none_of X G z_str,
    z_sum := PySem.W.mg_none_of X G z_sum,
    z_tuple := PySem.W.mg_none_of X G z_tuple,
    z_zip := PySem.W.mg_none_of X G z_zip }⟩
theorem walk {l : PySem.W.OpenLaw} {q : Program} {loose : List Str} {XP : (Str → Option Value) → Heap → Prop} {YP : World → Heap → Prop} {d : DefRec} {K : Params → PySem.W.Frag} (hn : l.most = some 63) (hdf : d.params.defaults = []) (hnm : d.name = "law")
    (hY : ∀ (w : World) (h : Heap), YP w h → (K w.params).In h)
    (F : ∀ (w : World) (mg : Str → Option Value) (h : Heap), (K w.params).In h → h.Ns mainGlobals mg → ∃ a : Adr, Txt l.prog w (K w.params) mg a) :
    PySem.W.WalkO q loose XP YP l.row.toRowW d [] (fun f vs => PySem.call f vs) :=
  L2.walk_of (n := 63) (k := 6) (x := "script") (CX := fun _ => CX0) (sp := fun w => sp_law (K w.params)) hn (by decide) hdf ⟨rfl, by decide, by decide⟩ hY (fun w mg fa h KX G hmg => by
    obtain ⟨a, T⟩ := F w mg h KX G
    have e0 := hmg.symm.trans (hnm ▸ T.d_law.mg)
    cases e0
    refine ⟨a.fd_law, fun s u => .of_eq (T.d_law.ba [u] rfl), fun base _ _ => ok_law T⟩) (fun _ _ a ns hl _ hS => ⟨a, ns, rfl, hS, hl, fun _ => rfl⟩) fun _ _ _ _ _ z => z
end K65
open PySem PySem.W PyProof.Rows
set_option maxRecDepth 100000 in
set_option maxHeartbeats 0 in
theorem PySem.Challenge.cw_trueleaf_k65_pages_rows_holds : PySem.Challenge.rw_trueleaf_k65_pages_rows.Holds := by
  w_on; o_law
  refine holds_open (q := K65.vw) (loose := K65.ls) (Xt := K65.xt) (XP := XL K65.vw []) (Yf := Hook.obs K65.hk) (Ya := Hook.val K65.hk) (YP := InK K65.kk) K65.left
    (Hook.of K65.hk) (Hook.keeps K65.hk) (fun s e => xl_of s (Bool.and_eq_true_iff.mp e).1) XL.keeps (by rfl) (by rfl) (by rfl)
    (fun s e => recFacts_of (Bool.and_eq_true_iff.mp e).2) (by rfl) (by assumption) (by decide +kernel) ⟨rfl, rfl, rfl, rfl, rfl, by decide +kernel⟩ ?hw ?hc
  (case hw => w_witness2)
  k_fill
  refine K65.walk (l := PySem.Challenge.rw_trueleaf_k65_pages_rows) rfl rfl rfl (fun w h Y => Y) ?F
  case F =>
    intro w mg h KX G
    refine' K65.txt_mk KX G ?a0 ?l0 ?c0 ?k0 ?a1 ?l1 ?c1 ?k1 ?a2 ?l2 ?c2 ?k2 ?a3 ?l3 ?c3 ?k3 ?a4 ?l4 ?c4 ?k4 ?a5 ?l5 ?c5 ?k5 ?a6 ?l6 ?c6 ?k6 ?a7 ?l7 ?c7 ?k7 ?a8 ?l8 ?c8 ?k8 ?a9 ?l9 ?c9 ?k9 ?a10 ?l10 ?c10 ?k10 ?a11 ?l11 ?c11 ?k11 ?a12 ?l12 ?c12 ?k12 ?a13 ?l13 ?c13 ?k13 ?a14 ?l14 ?c14 ?k14 ?a15 ?l15 ?c15 ?k15 ?a16 ?l16 ?c16 ?k16 ?a17 ?l17 ?c17 ?k17 ?a18 ?l18 ?c18 ?k18 ?a19 ?l19 ?c19 ?k19 ?a20 ?l20 ?c20 ?k20 ?a21 ?l21 ?c21 ?k21 ?a22 ?l22 ?c22 ?k22 ?a23 ?l23 ?c23 ?k23 ?a24 ?l24 ?c24 ?k24 ?a25 ?l25 ?c25 ?k25 ?a26 ?l26 ?c26 ?k26 ?z_all ?z_bool ?z_enumerate ?z_int ?z_isinstance ?z_len ?z_list ?z_max ?z_min ?z_range ?z_str ?z_sum ?z_tuple ?z_zip
    (case a0 | l0 | c0 | k0 | a1 | l1 | c1 | k1 | a2 | l2 | c2 | k2 | a3 | l3 | c3 | k3 | a4 | l4 | c4 | k4 | a5 | l5 | c5 | k5 | a6 | l6 | c6 | k6 | a7 | l7 | c7 | k7 | a8 | l8 | c8 | k8 | a9 | l9 | c9 | k9 | a10 | l10 | c10 | k10 | a11 | l11 | c11 | k11 | a12 | l12 | c12 | k12 | a13 | l13 | c13 | k13 | a14 | l14 | c14 | k14 | a15 | l15 | c15 | k15 | a16 | l16 | c16 | k16 | a17 | l17 | c17 | k17 | a18 | l18 | c18 | k18 | a19 | l19 | c19 | k19 | a20 | l20 | c20 | k20 | a21 | l21 | c21 | k21 | a22 | l22 | c22 | k22 | a23 | l23 | c23 | k23 | a24 | l24 | c24 | k24 | a25 | l25 | c25 | k25 | a26 | l26 | c26 | k26 | z_all | z_bool | z_enumerate | z_int | z_isinstance | z_len | z_list | z_max | z_min | z_range | z_str | z_sum | z_tuple | z_zip => (first | k_is | (delta K65.Na; k_is) | (delta K65.Lk K65.fdA; k_is) | (delta K65.Cd; k_is) | (delta K65.Kp; k_is) | (delta K65.Zn; k_is)))
