import PyProof.Rows.All
import Wide.All
import OpenK.AllK
import Wide.FinOn
import Lean
import PyProof.EqAt
import PyProof.EqKinds
import PyProof.TupleCall
import PyProof.NeKinds
import KE.LcSums
import PyProof.ExcBaseAll.ValueError
import KE.KTryMore
import KE.RegKTryMore
import PyProof.StrLawsRepr
import PyProof.ReprStr
import PyProof.EnumMake
import PyProof.EnumFor
import KE.KEqDict
import PyProof.Rows.Range3
import PyProof.SumWalkG
import PyProof.ZipIter
import PySem.Challenge.RW_trueleaf_k25_foot_rows
set_option Elab.async false
set_option linter.all false
set_option maxRecDepth 100000
set_option maxHeartbeats 4000000
set_option maxHeartbeats 4000000
namespace L2
open PySem PySem.Spec PyProof.Rows

abbrev Key := Sum Int Str
def keyIs : Key → Value → Bool
  | .inl k, v => Value.isInt k v
  | .inr x, v => Value.isStrOf x v
def keyH (w : World) : Key → Int
  | .inl k => hashInt k
  | .inr x => hashStr w x
theorem keyIs_shape : ∀ {k : Key} {v : Value}, keyIs k v = true → (∃ i t, k = Sum.inl i ∧ v = Value.int i t) ∨ (∃ x t, k = Sum.inr x ∧ v = Value.str x t)
  | .inl i, v, h => by
    obtain ⟨t, e⟩ := Value.isInt_shape (k := i) (v := v) h
    exact .inl ⟨i, t, rfl, e⟩
  | .inr x, v, h => by
    obtain ⟨t, e⟩ := Value.isStrOf_shape (x := x) (v := v) h
    exact .inr ⟨x, t, rfl, e⟩
theorem key_ll (a b : Int) : decide ((Sum.inl a : Key) = Sum.inl b) = (a == b) := by
  by_cases e : a = b
  · subst e; simp
  · have h : ¬ (Sum.inl a : Key) = Sum.inl b := fun q => e (Sum.inl.inj q)
    rw [decide_eq_false h]
    exact (beq_eq_false_iff_ne.mpr e).symm
theorem key_rr (a b : Str) : decide ((Sum.inr a : Key) = Sum.inr b) = decide (a = b) := by
  by_cases e : a = b
  · subst e; simp
  · have h : ¬ (Sum.inr a : Key) = Sum.inr b := fun q => e (Sum.inr.inj q)
    rw [decide_eq_false h, decide_eq_false e]
theorem key_lr (a : Int) (b : Str) : decide ((Sum.inl a : Key) = Sum.inr b) = false := decide_eq_false (fun q => nomatch q)
theorem key_rl (a : Str) (b : Int) : decide ((Sum.inr a : Key) = Sum.inl b) = false := decide_eq_false (fun q => nomatch q)

def mixKind (prog : Program) (w : World) : PySem.KeyKind prog w Key where
  is := keyIs
  hash := keyH w
  inj := fun v a b ha hb => by
    rcases keyIs_shape ha with ⟨i, t, rfl, rfl⟩ | ⟨x, t, rfl, rfl⟩
    · rcases keyIs_shape hb with ⟨j, u, rfl, e⟩ | ⟨y, u, rfl, e⟩
      · injection e with e1 _; rw [e1]
      · exact nomatch e
    · rcases keyIs_shape hb with ⟨j, u, rfl, e⟩ | ⟨y, u, rfl, e⟩
      · exact nomatch e
      · injection e with e1 _; rw [e1]
  byValue := fun k v h => by
    rcases keyIs_shape h with ⟨i, t, rfl, rfl⟩ | ⟨x, t, rfl, rfl⟩ <;> rfl
  pyHash := fun hv h => by
    rcases keyIs_shape hv with ⟨i, t, rfl, rfl⟩ | ⟨x, t, rfl, rfl⟩
    · exact wpAny_pyHash_int h
    · exact wpAny_pyHash_str h
  eqBool := fun hu hv h => by
    rcases keyIs_shape hu with ⟨i, t, rfl, rfl⟩ | ⟨x, t, rfl, rfl⟩
    · rcases keyIs_shape hv with ⟨j, u, rfl, rfl⟩ | ⟨y, u, rfl, rfl⟩
      · rw [key_ll] at h; exact wpAny_eqBool_int h
      · rw [key_lr] at h; exact SeqAt.EqAt.int_str i t y u _ _ _ _ h
    · rcases keyIs_shape hv with ⟨j, u, rfl, rfl⟩ | ⟨y, u, rfl, rfl⟩
      · rw [key_rl] at h; exact SeqAt.EqAt.str_int x t j u _ _ _ _ h
      · rw [key_rr] at h; exact wpAny_eqBool_str h
  «strs» := fun k x t v h => by
    rcases keyIs_shape h with ⟨i, u, rfl, e⟩ | ⟨y, u, rfl, e⟩
    · exact nomatch e
    · injection e with e1 _
      subst e1
      cases v <;> rfl

end L2

namespace L2
open PySem PySem.Spec PyProof.Rows

inductive V where
  | non | bl (b : Bool) | int (i : Int) | str (x : Str) | byt (b : Array UInt8) | flt (b : UInt64) | ref (a : Addr) | ty (n : String)
  deriving DecidableEq

def RelV : V → Value → Prop
  | .non, u => u = Value.none
  | .bl b, u => u = Value.bool b
  | .int i, u => ∃ t, u = Value.int i t
  | .str x, u => ∃ t, u = Value.str x t
  | .byt b, u => ∃ t, u = Value.bytes b t
  | .flt b, u => ∃ t, u = Value.float b t
  | .ref a, u => u = Value.ref a
  | .ty n, u => u = Value.type n

abbrev Vals : List V → List Value → Prop := Paired RelV
theorem Vals.length {xs : List V} {us : List Value} (r : Vals xs us) : xs.length = us.length := Paired.length r
theorem Vals.get : ∀ {xs : List V} {us : List Value} {i : Nat} {x : V}, Vals xs us → xs[i]? = some x → ∃ u, us[i]? = some u ∧ RelV x u
  | _, _, _, _, .nil, e => by simp at e
  | _, _, 0, _, .cons r _, e => by simp at e; subst e; exact ⟨_, rfl, r⟩
  | _, _, i + 1, x, .cons _ t, e => by
    obtain ⟨u, h1, h2⟩ := Vals.get (i := i) (x := x) t (by simpa using e)
    exact ⟨u, by simpa using h1, h2⟩
theorem Vals.set {x : V} {u : Value} (r : RelV x u) : ∀ {xs : List V} {us : List Value} (i : Nat), Vals xs us → Vals (xs.set i x) (us.set i u)
  | _, _, _, .nil => .nil
  | _, _, 0, .cons _ t => .cons r t
  | _, _, i + 1, .cons q t => .cons q (Vals.set r i t)
theorem Vals.append : ∀ {xs ys : List V} {us ws : List Value}, Vals xs us → Vals ys ws → Vals (xs ++ ys) (us ++ ws)
  | _, _, _, _, .nil, s => s
  | _, _, _, _, .cons r t, s => .cons r (Vals.append t s)
theorem Vals.take : ∀ {xs : List V} {us : List Value} (n : Nat), Vals xs us → Vals (xs.take n) (us.take n)
  | _, _, 0, _ => .nil
  | _, _, _ + 1, .nil => .nil
  | _, _, n + 1, .cons r t => .cons r (Vals.take n t)
theorem Vals.drop : ∀ {xs : List V} {us : List Value} (n : Nat), Vals xs us → Vals (xs.drop n) (us.drop n)
  | _, _, 0, r => r
  | _, _, _ + 1, .nil => .nil
  | _, _, n + 1, .cons _ t => Vals.drop n t
def RelO : Option V → Option Value → Prop
  | some v, some u => RelV v u
  | none, none => True
  | _, _ => False
def KV {κ : Type} : List (κ × V) → List (κ × Value) → Prop := Paired fun (p : κ × V) (q : κ × Value) => p.1 = q.1 ∧ RelV p.2 q.2

def kV : Key → V
  | .inl i => .int i
  | .inr x => .str x

inductive HO where
    | lst (xs : List V)
    | tup (xs : List V)
    | dK (kvs : List (Key × V)) | dT (kvs : List (List Key × V))
    | set (S : Int → Bool) (n : Nat)
    | ins (C dx : Addr) (fs : List (Str × V))
    | own (x : Addr)
    | xd (fs : List (Str × V))
    | met (f x : Addr)
    | rng (lo hi : Int)
    | frz (o : Obj) (u : HO)
    | tbl (ps : Array Value)
    | ext (φ : Heap → Prop)

abbrev Hp := Addr → Option HO
def upd (H : Hp) (a : Addr) (o : HO) : Hp := fun b => if b = a then some o else H b
theorem upd_same {H : Hp} {a : Addr} {o : HO} : upd H a o a = some o := by unfold upd; rw [if_pos rfl]
theorem upd_ne {H : Hp} {a b : Addr} {o : HO} (h : b ≠ a) : upd H a o b = H b := by unfold upd; rw [if_neg h]
theorem ne_of {H : Hp} {a b : Addr} {o u : HO} (h : H a = some o) (h' : H b = some u) (d : o ≠ u) : a ≠ b := by
  intro e; subst e; rw [h] at h'; exact d (Option.some.inj h')
theorem ne_of_none {H : Hp} {a b : Addr} {o : HO} (h : H a = some o) (h' : H b = none) : a ≠ b := by
  intro e; subst e; rw [h] at h'; cases h'

section
variable (P : Program) (w : World)
def ObjOk (H : Hp) (h : Heap) (a : Addr) : HO → Prop
  | .lst xs => xs.length ≤ sizeLine ∧ ∃ (its : List Value) (n : Nat), Vals xs its ∧ h.get? a = some { cls := .type "list", data := .seq its.toArray n }
  | .tup xs => xs.length ≤ sizeLine ∧ ∃ its : List Value, Vals xs its ∧ IsTup h a its.toArray
  | .dK kvs => kvs.length ≤ sizeLine ∧ (a == sysModules) = false ∧ ∃ vs, KV kvs vs ∧ h.DictOf (mixKind P w) a vs
  | .dT kvs => kvs.length ≤ sizeLine ∧ (a == sysModules) = false ∧ ∃ xs : List (List Key × Addr × Value),
      Paired (fun (p : List Key × V) (q : List Key × Addr × Value) => p.1 = q.1 ∧ H q.2.1 = some (.tup (p.1.map kV)) ∧ RelV p.2 q.2.2) kvs xs ∧
      ∃ o es ep, h.get? a = some o ∧ o.ExactDict ∧ o.data = .dict es ep ∧ es.toList = xs.map (entryOfKey (tupleKind (mixKind P w))) ∧ (xs.map (·.1)).Nodup
  | .set S n => h.SetOf (intKind P w) a S n
  | .ins C dx fs => H dx = some (.own a) ∧ fs.length ≤ 1000 ∧ dx ≠ a ∧ h.get? a = some (PySem.W.instObj C dx) ∧
      ∃ mA, h.Ns1 dx mA ∧ (∀ f, RelO (fs.lookup f) (mA f)) ∧ PySem.Within mA (fs.map (·.1))
  | .own _ => ∃ o, h.get? a = some o
  | .xd fs => ∃ mA, h.Ns1 a mA ∧ ∀ f, RelO (fs.lookup f) (mA f)
  | .rng lo hi => ∃ t u v, h.get? a = some { cls := .type "range", data := .fields #[.int lo t, .int hi u, .int 1 v] }
  | .frz o u => h.get? a = some o ∧ ObjOk H h a u
  | .tbl ps => h.get? a = some { cls := .none, data := .fields ps }
  | .met f x => h.get? a = some (PySem.W.methodObj (.ref f) (.ref x))
  | .ext φ => φ h ∧ (∃ o, h.get? a = some o) ∧ ∀ h1 h2 : Heap, φ h1 → (∀ o, h1.get? a = some o → h2.get? a = some o) → φ h2
def HOk (H : Hp) (h : Heap) : Prop := ∀ a o, H a = some o → ObjOk P w H h a o
end

section
variable {P : Program} {w : World} {H H' : Hp} {h h' : Heap} {a : Addr} {o : HO}
theorem ObjOk.lt (x : ObjOk P w H h a o) : a < h.objs.size := by
  cases o with
  | lst xs => obtain ⟨_, _, _, _, e⟩ := x; exact Heap.lt_size e
  | tup xs => obtain ⟨_, _, _, p⟩ := x; exact p.lt
  | dK kvs => obtain ⟨_, _, _, _, o, _, _, e, _⟩ := x; exact Heap.lt_size e
  | dT kvs => obtain ⟨_, _, _, _, o, _, _, e, _⟩ := x; exact Heap.lt_size e
  | set S n => obtain ⟨o, _, _, _, e, _⟩ := x; exact Heap.lt_size e
  | ins C dx fs => obtain ⟨_, _, _, e, _⟩ := x; exact Heap.lt_size e
  | own y => obtain ⟨_, e⟩ := x; exact Heap.lt_size e
  | xd fs => obtain ⟨_, ⟨_, _, _, e, _⟩, _⟩ := x; exact Heap.lt_size e
  | rng lo hi => obtain ⟨_, _, _, e⟩ := x; exact Heap.lt_size e
  | frz ob u => obtain ⟨e, _⟩ := x; exact Heap.lt_size e
  | tbl ps => exact Heap.lt_size (show h.get? a = some _ from x)
  | met f y => exact Heap.lt_size (show h.get? a = some _ from x)
  | ext φ => obtain ⟨_, ⟨_, e⟩, _⟩ := x; exact Heap.lt_size e
theorem Paired.mapP {α β : Type} {F G : α → β → Prop} : ∀ {l₁ : List α} {l₂ : List β}, Paired F l₁ l₂ → (∀ a b, F a b → G a b) → Paired G l₁ l₂
  | _, _, .nil, _ => .nil
  | _, _, .cons r t, f => .cons (f _ _ r) (Paired.mapP t f)
theorem ObjOk.stay (x : ObjOk P w H h a o) (k : ∀ b u, (b = a ∨ H b = some (.own a)) → h.get? b = some u → h'.get? b = some u)
    (ho : ∀ b, H b = some (.own a) → H' b = some (.own a)) (ht : ∀ b xs, H b = some (.tup xs) → H' b = some (.tup xs)) : ObjOk P w H' h' a o := by
  induction o with
  | lst xs => obtain ⟨z, its, n, r, e⟩ := x; exact ⟨z, its, n, r, k _ _ (.inl rfl) e⟩
  | tup xs => obtain ⟨z, its, r, ob, e, c⟩ := x; exact ⟨z, its, r, ob, k _ _ (.inl rfl) e, c⟩
  | dK kvs => obtain ⟨z, y, vs, r, ob, es, ep, e, c⟩ := x; exact ⟨z, y, vs, r, ob, es, ep, k _ _ (.inl rfl) e, c⟩
  | dT kvs =>
    obtain ⟨z, y, xs, r, ob, es, ep, e, c⟩ := x
    exact ⟨z, y, xs, Paired.mapP r fun p q z => ⟨z.1, ht _ _ z.2.1, z.2.2⟩, ob, es, ep, k _ _ (.inl rfl) e, c⟩
  | set S n => obtain ⟨ob, es, ep, t, e, c⟩ := x; exact ⟨ob, es, ep, t, k _ _ (.inl rfl) e, c⟩
  | ins C dx fs =>
    obtain ⟨d, z, ne, e, mA, ⟨od, es, ep, e2, c⟩, r⟩ := x
    exact ⟨ho _ d, z, ne, k _ _ (.inl rfl) e, mA, ⟨od, es, ep, k _ _ (.inr d) e2, c⟩, r⟩
  | own y => obtain ⟨ob, e⟩ := x; exact ⟨ob, k _ _ (.inl rfl) e⟩
  | xd fs => obtain ⟨mA, ⟨od, es, ep, e, c⟩, r⟩ := x; exact ⟨mA, ⟨od, es, ep, k _ _ (.inl rfl) e, c⟩, r⟩
  | rng lo hi => obtain ⟨t, u, v, e⟩ := x; exact ⟨t, u, v, k _ _ (.inl rfl) e⟩
  | frz ob u ih => obtain ⟨e, q⟩ := x; exact ⟨k _ _ (.inl rfl) e, ih q⟩
  | tbl ps =>
    have e : h.get? a = some { cls := .none, data := .fields ps } := x
    show h'.get? a = some { cls := .none, data := .fields ps }
    exact k a _ (.inl rfl) e
  | met f y =>
    have e : h.get? a = some (PySem.W.methodObj (.ref f) (.ref y)) := x
    show h'.get? a = some (PySem.W.methodObj (.ref f) (.ref y))
    exact k a _ (.inl rfl) e
  | ext φ => obtain ⟨p, ⟨o, e⟩, st⟩ := x; exact ⟨st _ _ p fun o q => k _ _ (.inl rfl) q, ⟨o, k _ _ (.inl rfl) e⟩, st⟩
theorem HOk.lt (x : HOk P w H h) (e : H a = some o) : a < h.objs.size := (x a o e).lt
theorem HOk.fresh (x : HOk P w H h) (e : h.objs.size ≤ a) : H a = none := by
  cases q : H a with
  | none => rfl
  | some u => exact absurd (Nat.lt_of_lt_of_le (x.lt q) e) (Nat.lt_irrefl _)
theorem HOk.kept (x : HOk P w H h) (k : ∀ b u, h.get? b = some u → h'.get? b = some u) : HOk P w H h' := fun a o e =>
  (x a o e).stay (fun b u _ q => k b u q) (fun _ q => q) fun _ _ q => q
theorem HOk.laid (x : HOk P w H h) (k : ∀ b u, h.get? b = some u → h'.get? b = some u) (hp : h.objs.size ≤ a) (new : ObjOk P w (upd H a o) h' a o) : HOk P w (upd H a o) h' := fun b u e => by
  have hn := x.fresh hp
  by_cases hb : b = a
  · subst hb; rw [upd_same] at e; cases e; exact new
  · rw [upd_ne hb] at e
    exact (x b u e).stay (fun c v _ q => k c v q) (fun c q => by rw [upd_ne (ne_of_none q hn)]; exact q) fun c xs q => by rw [upd_ne (ne_of_none q hn)]; exact q
end

def Rd (H : Hp) (a : Addr) (u : HO) : Prop := H a = some u ∨ ∃ o, H a = some (.frz o u)
theorem Rd.of {H : Hp} {a : Addr} {u : HO} (h : H a = some u) : Rd H a u := .inl h
theorem Rd.ok {P : Program} {w : World} {H : Hp} {h : Heap} {a : Addr} {u : HO} (r : Rd H a u) (x : HOk P w H h) : ObjOk P w H h a u := by
  rcases r with r | ⟨o, r⟩
  · exact x a u r
  · obtain ⟨_, q⟩ := x a _ r
    exact q
def Mut : Option HO → Prop
  | some (.lst _) => True
  | some (.dK _) => True
  | some (.dT _) => True
  | some (.set _ _) => True
  | some (.ins _ _ _) => True
  | some (.ext _) => True
  | _ => False
section
variable {P : Program} {w : World} {H : Hp} {h h' : Heap} {x e : Addr} {o' : HO}
theorem HOk.write (ok : HOk P w H h) (mu : Mut (H x)) (he : e = x ∨ H e = some (.own x)) (k : ∀ b u, b ≠ e → h.get? b = some u → h'.get? b = some u) (heo : ∃ u, h'.get? e = some u)
    (new : ObjOk P w (upd H x o') h' x o') : HOk P w (upd H x o') h' := fun b u q => by
  have nown : ∀ c y, H c = some (.own y) → c ≠ x := fun c y r z => by subst z; rw [r] at mu; exact mu
  have ntup : ∀ c xs, H c = some (.tup xs) → c ≠ x := fun c xs r z => by subst z; rw [r] at mu; exact mu
  by_cases hb : b = x
  · subst hb; rw [upd_same] at q; cases q; exact new
  · rw [upd_ne hb] at q
    by_cases hbe : b = e
    · have q' : H b = some (.own x) := by
        rcases he with z | z
        · exact absurd (hbe.trans z) hb
        · rw [hbe]; exact z
      rw [q] at q'; cases q'
      obtain ⟨v, hv⟩ := heo
      exact ⟨v, by rw [hbe]; exact hv⟩
    · refine (ok b u q).stay (fun c v hc r => k c v ?_ r) (fun c r => by rw [upd_ne (nown c b r)]; exact r) fun c xs r => by rw [upd_ne (ntup c xs r)]; exact r
      rcases hc with rfl | hc
      · exact hbe
      · rintro rfl
        rcases he with z | z
        · exact nown c b hc z
        · rw [hc] at z; cases z; exact hb rfl
end

structure Un (fs ex : List Addr) (H H' : Hp) (h h' : Heap) : Prop where
  keep : ∀ b o, h.get? b = some o → H b = none → b ∉ fs → b ∉ ex → h'.get? b = some o
  slot : ∀ b o, h.get? b = some o → H b = none → b ∈ fs → b ∉ ex → ∃ sl, h'.get? b = some { o with slots := sl }
  free : ∀ b o, h.get? b = some o → H b = none → b ∉ ex → H' b = none
  there : ∀ b o, h.get? b = some o → b ∉ ex → ∃ o', h'.get? b = some o'
  tups : ∀ b xs, H b = some (.tup xs) → H' b = some (.tup xs)
  frzs : ∀ b o u, H b = some (.frz o u) → H' b = some (.frz o u)
  tbls : ∀ b ps, H b = some (.tbl ps) → ∃ more, H' b = some (.tbl (ps ++ more))
section
variable {fs fs' ex ex' : List Addr} {H H1 H2 : Hp} {h h1 h2 h' : Heap} {a x e : Addr} {o : HO}
theorem Un.any (u : Un fs ex H H1 h h1) {b : Addr} {ob : Obj} (q : h.get? b = some ob) (n : H b = none) (hx : b ∉ ex) : ∃ sl, h1.get? b = some { ob with slots := sl } := by
  by_cases hb : b ∈ fs
  · exact u.slot b ob q n hb hx
  · exact ⟨ob.slots, u.keep b ob q n hb hx⟩
theorem Un.trans (a : Un fs ex H H1 h h1) (b : Un fs ex H1 H2 h1 h2) : Un fs ex H H2 h h2 where
  keep := fun c ob q n hc hx => b.keep c ob (a.keep c ob q n hc hx) (a.free c ob q n hx) hc hx
  slot := fun c ob q n hc hx => by
    obtain ⟨sl, e1⟩ := a.slot c ob q n hc hx
    obtain ⟨sl', e2⟩ := b.slot c _ e1 (a.free c ob q n hx) hc hx
    exact ⟨sl', e2⟩
  free := fun c ob q n hx => by
    obtain ⟨o', e1⟩ := a.there c ob q hx
    exact b.free c o' e1 (a.free c ob q n hx) hx
  there := fun c ob q hx => by
    obtain ⟨o', e1⟩ := a.there c ob q hx
    exact b.there c o' e1 hx
  tups := fun c xs q => b.tups c xs (a.tups c xs q)
  frzs := fun c ob xs q => b.frzs c ob xs (a.frzs c ob xs q)
  tbls := fun c ps q => by
    obtain ⟨m1, e1⟩ := a.tbls c ps q
    obtain ⟨m2, e2⟩ := b.tbls c _ e1
    exact ⟨m1 ++ m2, by rw [e2, Array.append_assoc]⟩
theorem Un.kept (k : ∀ b u, h.get? b = some u → h'.get? b = some u) : Un fs ex H H h h' :=
  ⟨fun b ob q _ _ _ => k b ob q, fun b ob q _ _ _ => ⟨ob.slots, k b ob q⟩, fun _ _ _ n _ => n, fun b ob q _ => ⟨ob, k b ob q⟩, fun _ _ q => q, fun _ _ _ q => q, fun _ ps q => ⟨#[], by rw [q]; simp⟩⟩
theorem Un.refl : Un fs ex H H h h := Un.kept fun _ _ q => q
theorem Un.laid (k : ∀ b u, h.get? b = some u → h'.get? b = some u) (hp : h.objs.size ≤ a) (hn : H a = none) : Un fs ex H (upd H a o) h h' where
  keep := fun b u q _ _ _ => k b u q
  slot := fun b u q _ _ _ => ⟨u.slots, k b u q⟩
  free := fun b u q n _ => by rw [upd_ne (Nat.ne_of_lt (Nat.lt_of_lt_of_le (Heap.lt_size q) hp))]; exact n
  there := fun b u q _ => ⟨u, k b u q⟩
  tups := fun b xs q => by rw [upd_ne (ne_of_none q hn)]; exact q
  frzs := fun b u xs q => by rw [upd_ne (ne_of_none q hn)]; exact q
  tbls := fun b ps q => ⟨#[], by rw [upd_ne (ne_of_none q hn), q]; simp⟩
theorem Un.write (mu : Mut (H x)) (he : e = x ∨ H e = some (.own x)) (k : ∀ b u, b ≠ e → h.get? b = some u → h'.get? b = some u) (heo : ∃ u, h'.get? e = some u) : Un fs ex H (upd H x o) h h' := by
  have hx : ∀ b, H b = none → b ≠ x := fun b n z => by subst z; rw [n] at mu; exact mu
  have hb : ∀ b, H b = none → b ≠ e := fun b n z => by
    subst z
    rcases he with r | r
    · exact hx b n r
    · rw [n] at r; cases r
  have hm : ∀ b u, H b = some u → ¬ Mut (some u) → b ≠ x := fun b u q nm z => by subst z; rw [q] at mu; exact nm mu
  refine ⟨fun b u q n _ _ => k b u (hb b n) q, fun b u q n _ _ => ⟨u.slots, k b u (hb b n) q⟩, fun b u q n _ => by rw [upd_ne (hx b n)]; exact n, fun b u q _ => ?_,
    fun b xs q => by rw [upd_ne (hm b _ q fun z => z)]; exact q, fun b u xs q => by rw [upd_ne (hm b _ q fun z => z)]; exact q, fun b ps q => ⟨#[], by rw [upd_ne (hm b _ q fun z => z), q]; simp⟩⟩
  by_cases hbe : b = e
  · subst hbe; exact heo
  · exact ⟨u, k b u hbe q⟩
theorem Un.mono (u : Un fs ex H H1 h h1) (hs : ∀ b ∈ fs, b ∈ fs') (hx : ∀ b ∈ ex, b ∈ ex') : Un fs' ex' H H1 h h1 :=
  ⟨fun b ob q n hb he => u.keep b ob q n (fun z => hb (hs b z)) fun z => he (hx b z), fun _ _ q n _ he => u.any q n fun z => he (hx _ z), fun b ob q n he => u.free b ob q n fun z => he (hx b z), fun b ob q he => u.there b ob q fun z => he (hx b z), u.tups, u.frzs, u.tbls⟩
end

def trk (h : Heap) (H : Hp) : List Addr := (List.range h.objs.size).filter fun a => (H a).isSome
def hidT (h : Heap) (H : Hp) : Heap := PySem.W.hideAll h (trk h H)
theorem hidT_size (h : Heap) (H : Hp) : (hidT h H).objs.size = h.objs.size := PySem.W.hideAll_size _ _
theorem hidT_get {h : Heap} {H : Hp} {b : Addr} {o : Obj} (e : h.get? b = some o) (n : H b = none) : (hidT h H).get? b = some o :=
  PySem.W.hideAll_get _ e fun hm => by
    have q : (H b).isSome = true := (List.mem_filter.mp hm).2
    rw [n] at q; simp at q
theorem of_hidT {h : Heap} {H : Hp} {b : Addr} {o : Obj} (e : (hidT h H).get? b = some o) : h.get? b = some o ∧ H b = none := by
  have e' : h.get? b = some o := PySem.W.of_hideAll (trk h H) e
  refine ⟨e', ?_⟩
  cases q : H b with
  | none => rfl
  | some x =>
    have hm : b ∈ trk h H := List.mem_filter.mpr ⟨List.mem_range.mpr (Heap.lt_size e'), by simp [q]⟩
    have z : (hidT h H).get? b = none := PySem.W.hideAll_none (trk h H) hm
    rw [z] at e; cases e

def allNews (g h : Heap) (L : Addr) : List (Addr × Obj) := (List.range h.objs.size).filterMap fun a => if a = L ∨ (g.get? a).isSome = true then none else (h.get? a).map fun o => (a, o)
def rest (g h : Heap) (L d : Addr) : List (Addr × Obj) := (allNews g h L).filter fun p => decide (p.1 ≠ d)
end L2

namespace L2
open PySem PySem.Spec PyProof.Rows

structure Mod (K : PySem.W.Frag) (mg : Str → Option Value) (base : Heap) : Prop where
  kin : K.In base
  glob : base.Ns mainGlobals mg
  blt : ∃ mb, base.Ns builtinsNs mb ∧ ∀ x : Str, x ≠ "__name__" → mb x = bootBuiltins x
  nolimit : base.NoLimit

structure Cx where
  prog : Program
  w : World
  K : PySem.W.Frag
  mg : Str → Option Value
  base : Heap
  A : Around
  N : List Str
  s₀ : Shared
  H₀ : Hp
  env : Env
  outer : List Env
  stack : List Env
  ex : List Addr
  fn : Str → Bool
  calm : Bool
  pn : List (Addr × Obj)
  xe : Value → Shared → Prop
def frs (l : List Env) : List Addr := l.filterMap (·.frame)
abbrev Cx.fs (X : Cx) : List Addr := frs X.outer

def Vis (sc : Scope) (x : Str) : Prop := sc.names.lookup x = some .local ∨ sc.names.lookup x = some .cell ∨ sc.names.lookup x = some .free
def Loc (sc : Scope) (x : Str) : Prop := sc.names.lookup x = some .local ∨ sc.names.lookup x = some .cell
def Look (env : Env) (h : Heap) (m : Str → Option Value) (x : Str) (u : Value) : Prop :=
  (env.kindOf x = some .local ∧ m x = some u) ∨ ((env.kindOf x = some .cell ∨ env.kindOf x = some .free) ∧ ∃ c, env.cells.lookup x = some c ∧ h.IsCell c (some u))

structure Cx.Ok (X : Cx) : Prop where
  mod : Mod X.K X.mg X.base
  kind : X.env.scope.kind = .function
  glob : X.env.globals = mainGlobals
  blt : X.env.builtins = builtinsNs
  above : X.s₀.heap.objs.size ≤ X.env.locals
  inj : ∀ x y c, X.env.cells.lookup x = some c → X.env.cells.lookup y = some c → x = y
  has : ∀ x, (X.env.kindOf x = some .cell ∨ X.env.kindOf x = some .free) → ∃ c, X.env.cells.lookup x = some c
  cab : ∀ x c, X.fn x = true → X.env.cells.lookup x = some c → X.s₀.heap.objs.size ≤ c
  hd : X.calm = true → X.A.handled = none
  frames : X.A.frames = some X.stack
  stk : X.stack = X.outer ∨ (X.stack = X.env :: X.outer ∧ X.env.frame = some X.env.locals)
  exf : ∀ b ∈ X.ex, b ≠ X.env.locals ∧ ∀ x c, X.env.cells.lookup x = some c → c ≠ b
  bs : ∀ b o, X.base.get? b = some o → X.s₀.heap.get? b = some o ∧ X.H₀ b = none
  bsz : X.base.objs.size ≤ X.s₀.heap.objs.size
  noex : ∀ b o, X.base.get? b = some o → b ∉ X.ex
  exfs : ∀ b ∈ X.ex, b ∉ X.fs
  funs : X.s₀.heap.FunFrames X.base X.outer
  frf : ∀ b ∈ X.fs, X.H₀ b = none

structure Inv (X : Cx) (pins : List (Addr × Obj)) (σ : List (Option V)) (H : Hp) (s : Shared) : Prop where
  ok : X.Ok
  os : s.os = X.s₀.os
  bare : AllBare s.gens
  base : Un X.fs X.ex X.H₀ H X.s₀.heap s.heap
  loc : ∃ m, s.heap.Ns X.env.locals m ∧ ∀ (i : Nat) (x : Str) (v : V), X.N[i]? = some x → σ[i]? = some (some v) → Vis X.env.scope x → ∃ u, RelV v u ∧ Look X.env s.heap m x u
  cell : ∀ x c, X.env.cells.lookup x = some c → ∃ v, s.heap.IsCell c v
  free : H X.env.locals = none
  freeC : ∀ x c, X.env.cells.lookup x = some c → H c = none
  pin : ∀ p ∈ X.pn ++ pins, s.heap.get? p.1 = some p.2 ∧ H p.1 = none ∧ p.1 ≠ X.env.locals ∧ p.1 ∉ X.fs ∧ ∀ v, p.2.data ≠ .cell v
  hok : HOk X.prog X.w H s.heap
  len : σ.length = X.N.length

section
variable {X : Cx} {pins : List (Addr × Obj)} {σ : List (Option V)} {H H' : Hp} {s : Shared} {h' : Heap}

theorem Cx.Ok.nofr (ok : X.Ok) {b : Addr} {o : Obj} (e : X.base.get? b = some o) : b ∉ X.fs := fun hb => by
  have := (ok.funs.mem hb).1
  rw [e] at this; cases this
theorem Inv.bs (I : Inv X pins σ H s) : ∀ b o, X.base.get? b = some o → s.heap.get? b = some o ∧ H b = none := fun b o e =>
  ⟨I.base.keep b o (I.ok.bs b o e).1 (I.ok.bs b o e).2 (I.ok.nofr e) (I.ok.noex b o e), I.base.free b o (I.ok.bs b o e).1 (I.ok.bs b o e).2 (I.ok.noex b o e)⟩
theorem Inv.bk (I : Inv X pins σ H s) : ∀ b o, X.base.get? b = some o → s.heap.get? b = some o := fun b o e => (I.bs b o e).1
theorem Inv.mod (I : Inv X pins σ H s) : Mod X.K X.mg X.base := I.ok.mod
theorem Inv.kIn (I : Inv X pins σ H s) : X.K.In s.heap := I.ok.mod.kin.keeps I.bk
theorem Inv.nolimit (I : Inv X pins σ H s) : s.heap.NoLimit := I.ok.mod.nolimit.keeps I.bk
theorem Inv.fr (I : Inv X pins σ H s) : ∃ m, Fr X.base X.env.locals s.heap m :=
  let ⟨m, hn, _⟩ := I.loc
  ⟨m, hn, I.bk, Nat.le_trans I.ok.bsz I.ok.above⟩
theorem Inv.lt (I : Inv X pins σ H s) : X.env.locals < s.heap.objs.size := let ⟨_, hn, _⟩ := I.loc; hn.lt
theorem Inv.sz (I : Inv X pins σ H s) : X.s₀.heap.objs.size ≤ s.heap.objs.size := Nat.le_trans I.ok.above (Nat.le_of_lt I.lt)
theorem Inv.nofs (I : Inv X pins σ H s) {a : Addr} (h : s.heap.objs.size ≤ a) : a ∉ X.fs := fun hb => by
  obtain ⟨_, o, ho, _⟩ := I.ok.funs.mem hb
  exact absurd (Nat.lt_of_lt_of_le (Heap.lt_size ho) (Nat.le_trans I.sz h)) (Nat.lt_irrefl _)
theorem Inv.cne (I : Inv X pins σ H s) : ∀ x c, X.env.cells.lookup x = some c → c ≠ X.env.locals := fun x c e z => by
  obtain ⟨v, o, ho, hd⟩ := I.cell x c e
  obtain ⟨m, ⟨o', es, ep, ho', hd', _⟩, _⟩ := I.loc
  rw [z, ho'] at ho; cases ho; rw [hd'] at hd; cases hd
theorem Inv.funs (I : Inv X pins σ H s) : s.heap.FunFrames X.base X.outer := by
  have all : ∀ (l : List Env), (∀ b ∈ frs l, b ∈ X.fs) → X.s₀.heap.FunFrames X.base l → s.heap.FunFrames X.base l := by
    intro l
    induction l with
    | nil => intro _ _; trivial
    | cons env r ih =>
      intro hs hl
      obtain ⟨hk, ⟨L, o, hf, hn, ho, hd⟩, hr⟩ := hl
      have hL : L ∈ X.fs := hs L (by unfold frs; rw [List.filterMap_cons, hf]; exact List.mem_cons_self)
      obtain ⟨sl, e⟩ := I.base.slot L o ho (I.ok.frf L hL) hL fun z => I.ok.exfs L z hL
      exact ⟨hk, ⟨L, _, hf, hn, e, hd⟩, ih (fun b hb => hs b (by unfold frs; rw [List.filterMap_cons, hf]; exact List.mem_cons_of_mem _ hb)) hr⟩
  exact all X.outer (fun _ hb => hb) I.ok.funs

theorem Inv.stack (I : Inv X pins σ H s) : s.heap.FunFrames X.base X.stack := by
  rcases I.ok.stk with e | ⟨e, hf⟩
  · rw [e]; exact I.funs
  · rw [e]
    obtain ⟨m, hn, _⟩ := I.loc
    refine .cons (by rw [I.ok.kind]; decide) hf hn ?_ I.funs
    exact Heap.get?_none_of_le (Nat.le_trans I.ok.bsz I.ok.above)
theorem Inv.stkSub (I : Inv X pins σ H s) : ∀ b ∈ frs X.stack, b ∈ X.env.locals :: X.fs := fun b hb => by
  rcases I.ok.stk with e | ⟨e, hf⟩
  · rw [e] at hb; exact List.mem_cons_of_mem _ hb
  · rw [e] at hb
    unfold frs at hb
    rw [List.filterMap_cons, hf] at hb
    exact hb
theorem Inv.stkFree (I : Inv X pins σ H s) : ∀ b ∈ frs X.stack, H b = none := fun b hb => by
  rcases List.mem_cons.mp (I.stkSub b hb) with e | hb
  · rw [e]; exact I.free
  · obtain ⟨_, o, ho, _⟩ := I.ok.funs.mem hb
    exact I.base.free b o ho (I.ok.frf b hb) fun z => I.ok.exfs b z hb

theorem Inv.step {g' : Array GenState} {t' : Nat} {d' : Drawn} {ch : List Addr} (I : Inv X pins σ H s)
    (hch : ∀ b ∈ ch, (b ∈ X.ex ∨ X.s₀.heap.objs.size ≤ b) ∧ b ≠ X.env.locals ∧ (∀ x c, X.env.cells.lookup x = some c → c ≠ b) ∧ ∀ p ∈ X.pn ++ pins, p.1 ≠ b)
    (keep : ∀ b o, b ≠ X.env.locals → b ∉ X.fs → b ∉ ch → s.heap.get? b = some o → H b = none → h'.get? b = some o)
    (slot : ∀ b o, b ≠ X.env.locals → b ∈ X.fs → b ∉ ch → s.heap.get? b = some o → H b = none → ∃ sl, h'.get? b = some { o with slots := sl }) (free : ∀ b o, b ∉ ch → s.heap.get? b = some o → H b = none → H' b = none)
    (there : ∀ b o, b ∉ ch → s.heap.get? b = some o → ∃ o', h'.get? b = some o')
    (tups : ∀ b xs, H b = some (.tup xs) → H' b = some (.tup xs)) (frzs : ∀ b o u, H b = some (.frz o u) → H' b = some (.frz o u)) (tbls : ∀ b ps, H b = some (.tbl ps) → ∃ more, H' b = some (.tbl (ps ++ more)))
    (ns : ∀ m, s.heap.Ns X.env.locals m → h'.Ns X.env.locals m) (hok : HOk X.prog X.w H' h') (hg : AllBare g') :
    Inv X pins σ H' { s with heap := h', gens := g', drawn := d', toks := t' } := by
  have neL : ∀ b o, X.s₀.heap.get? b = some o → b ≠ X.env.locals := fun b o e => Nat.ne_of_lt (Nat.lt_of_lt_of_le (Heap.lt_size e) I.ok.above)
  have neC : ∀ b o, X.s₀.heap.get? b = some o → b ∉ X.ex → b ∉ ch := fun b o e hx hb => by
    rcases (hch b hb).1 with z | z
    · exact hx z
    · exact absurd (Nat.lt_of_lt_of_le (Heap.lt_size e) z) (Nat.lt_irrefl _)
  have cellK : ∀ x c, X.env.cells.lookup x = some c → ∀ v, s.heap.IsCell c v → h'.IsCell c v := fun x c e v ⟨o, ho, hd⟩ => by
    have nch : c ∉ ch := fun z => (hch c z).2.2.1 x c e rfl
    by_cases hc : c ∈ X.fs
    · obtain ⟨sl, q⟩ := slot c o (I.cne x c e) hc nch ho (I.freeC x c e)
      exact ⟨_, q, hd⟩
    · exact ⟨o, keep c o (I.cne x c e) hc nch ho (I.freeC x c e), hd⟩
  refine ⟨I.ok, I.os, hg, ⟨fun b o e n hb hx => ?_, fun b o e n hb hx => ?_, fun b o e n hx => ?_, fun b o e hx => ?_, fun b xs e => tups b xs (I.base.tups b xs e), fun b o xs e => frzs b o xs (I.base.frzs b o xs e), fun b ps e => ?_⟩, ?_, fun x c e => ?_, ?_, fun x c e => ?_, fun p hp => ?_, hok, I.len⟩
  · exact keep b o (neL b o e) hb (neC b o e hx) (I.base.keep b o e n hb hx) (I.base.free b o e n hx)
  · obtain ⟨sl, e1⟩ := I.base.slot b o e n hb hx
    obtain ⟨sl', e2⟩ := slot b _ (neL b o e) hb (neC b o e hx) e1 (I.base.free b o e n hx)
    exact ⟨sl', e2⟩
  · obtain ⟨o', e1⟩ := I.base.there b o e hx
    exact free b o' (neC b o e hx) e1 (I.base.free b o e n hx)
  · obtain ⟨o', e1⟩ := I.base.there b o e hx
    exact there b o' (neC b o e hx) e1
  · obtain ⟨m1, e1⟩ := I.base.tbls b ps e
    obtain ⟨m2, e2⟩ := tbls b _ e1
    exact ⟨m1 ++ m2, by rw [e2, Array.append_assoc]⟩
  · obtain ⟨m, hn, hl⟩ := I.loc
    refine ⟨m, ns m hn, fun i x v e1 e2 e3 => ?_⟩
    obtain ⟨u, r, l⟩ := hl i x v e1 e2 e3
    refine ⟨u, r, ?_⟩
    rcases l with l | ⟨k, c, e, z⟩
    · exact .inl l
    · exact .inr ⟨k, c, e, cellK x c e _ z⟩
  · obtain ⟨v, z⟩ := I.cell x c e
    exact ⟨v, cellK x c e v z⟩
  · obtain ⟨m, ⟨o, _, _, ho, _⟩, _⟩ := I.loc
    exact free _ o (fun z => (hch _ z).2.1 rfl) ho I.free
  · obtain ⟨v, o, ho, hd⟩ := I.cell x c e
    exact free c o (fun z => (hch c z).2.2.1 x c e rfl) ho (I.freeC x c e)
  · obtain ⟨e, n, ne, nf, d⟩ := I.pin p hp
    have nch : p.1 ∉ ch := fun z => (hch p.1 z).2.2.2 p hp rfl
    exact ⟨keep p.1 p.2 ne nf nch e n, free p.1 p.2 nch e n, ne, nf, d⟩
theorem Inv.un {t' : Nat} (I : Inv X pins σ H s) (u : Un X.fs [] H H' s.heap h') (hok : HOk X.prog X.w H' h') : Inv X pins σ H' { s with heap := h', toks := t' } := by
  obtain ⟨m, ⟨o, es, ep, ho, r⟩, _⟩ := id I.loc
  obtain ⟨sl, hL⟩ := u.any ho I.free (by simp)
  exact I.step (g' := s.gens) (d' := s.drawn) (ch := []) (fun _ z => nomatch z) (fun b o _ hb _ e n => u.keep b o e n hb (by simp)) (fun b o _ hb _ e n => u.slot b o e n hb (by simp)) (fun b o _ e n => u.free b o e n (by simp)) (fun b o _ e => u.there b o e (by simp)) u.tups u.frzs u.tbls (fun m' hm => by
    obtain ⟨o', es', ep', ho', r'⟩ := hm
    rw [ho] at ho'; cases ho'
    exact ⟨_, es', ep', hL, r'⟩) hok I.bare
theorem Inv.call {g' : Array GenState} {t' : Nat} {d' : Drawn} {ch : List Addr} (I : Inv X pins σ H s) (u : Un (frs X.stack) ch H H' s.heap h') (hok : HOk X.prog X.w H' h') (hg : AllBare g')
    (hch : ∀ b ∈ ch, (b ∈ X.ex ∨ X.s₀.heap.objs.size ≤ b) ∧ b ≠ X.env.locals ∧ (∀ x c, X.env.cells.lookup x = some c → c ≠ b) ∧ ∀ p ∈ X.pn ++ pins, p.1 ≠ b) :
    Inv X pins σ H' { s with heap := h', gens := g', drawn := d', toks := t' } := by
  obtain ⟨m, ⟨o, es, ep, ho, r⟩, _⟩ := id I.loc
  obtain ⟨sl, hL⟩ := u.any ho I.free fun z => (hch _ z).2.1 rfl
  exact I.step (ch := ch) hch (fun b o hL hb hc e n => u.keep b o e n (fun z => (List.mem_cons.mp (I.stkSub b z)).elim hL hb) hc) (fun b o _ _ hc e n => u.any e n hc) (fun b o hc e n => u.free b o e n hc) (fun b o hc e => u.there b o e hc) u.tups u.frzs u.tbls (fun m' hm => by
    obtain ⟨o', es', ep', ho', r'⟩ := hm
    rw [ho] at ho'; cases ho'
    exact ⟨_, es', ep', hL, r'⟩) hok hg
theorem Inv.turned {t' : Nat} {it : Addr} (I : Inv X pins σ H s) (k : ∀ b o, b ≠ it → s.heap.get? b = some o → h'.get? b = some o) (hn : H it = none) (hL : it ≠ X.env.locals)
    (h1 : it ∈ X.ex ∨ X.s₀.heap.objs.size ≤ it) (h2 : ∀ x c, X.env.cells.lookup x = some c → c ≠ it) (h3 : ∀ p ∈ X.pn ++ pins, p.1 ≠ it) : Inv X pins σ H { s with heap := h', toks := t' } := by
  have nit : ∀ b u, H b = some u → b ≠ it := fun b u e z => by rw [z, hn] at e; cases e
  refine I.step (g' := s.gens) (d' := s.drawn) (ch := [it]) (fun b hb => ?_) (fun b o _ _ hc e _ => k b o (fun z => hc (by simp [z])) e) (fun b o _ _ hc e _ => ⟨o.slots, k b o (fun z => hc (by simp [z])) e⟩) (fun _ _ _ _ n => n)
    (fun b o hc e => ⟨o, k b o (fun z => hc (by simp [z])) e⟩) (fun _ _ e => e) (fun _ _ _ e => e) (fun b ps e => ⟨#[], by rw [e]; simp⟩) (fun m hm => ?_) (fun b u e => ?_) I.bare
  · have e : b = it := by simpa using hb
    subst e
    exact ⟨h1, hL, h2, h3⟩
  · obtain ⟨o, es, ep, ho, r⟩ := hm
    exact ⟨o, es, ep, k _ o (Ne.symm hL) ho, r⟩
  · refine (I.hok b u e).stay (fun c v hc q => k c v ?_ q) (fun _ q => q) fun _ _ q => q
    rcases hc with z | z
    · rw [z]; exact nit b u e
    · exact nit c _ z
theorem Inv.tok (I : Inv X pins σ H s) (t : Nat) : Inv X pins σ H { s with toks := t } := I.un (h' := s.heap) (t' := t) Un.refl I.hok
theorem Inv.kept {t' : Nat} (I : Inv X pins σ H s) (k : ∀ b u, s.heap.get? b = some u → h'.get? b = some u) : Inv X pins σ H { s with heap := h', toks := t' } := I.un (Un.kept k) (I.hok.kept k)
theorem Inv.laid {a : Addr} {o : HO} {t' : Nat} (I : Inv X pins σ H s) (k : ∀ b u, s.heap.get? b = some u → h'.get? b = some u) (hp : s.heap.objs.size ≤ a) (new : ObjOk X.prog X.w (upd H a o) h' a o) :
    Inv X pins σ (upd H a o) { s with heap := h', toks := t' } := I.un (Un.laid k hp (I.hok.fresh hp)) (I.hok.laid k hp new)
theorem Inv.write {x e : Addr} {o : HO} {t' : Nat} (I : Inv X pins σ H s) (mu : Mut (H x)) (he : e = x ∨ H e = some (.own x)) (k : ∀ b u, b ≠ e → s.heap.get? b = some u → h'.get? b = some u) (heo : ∃ u, h'.get? e = some u)
    (new : ObjOk X.prog X.w (upd H x o) h' x o) : Inv X pins σ (upd H x o) { s with heap := h', toks := t' } := I.un (Un.write mu he k heo) (I.hok.write mu he k heo new)
theorem Inv.pins_of {pins' : List (Addr × Obj)} (I : Inv X pins σ H s) (h : ∀ p ∈ pins', s.heap.get? p.1 = some p.2 ∧ H p.1 = none ∧ p.1 ≠ X.env.locals ∧ p.1 ∉ X.fs ∧ ∀ v, p.2.data ≠ .cell v) : Inv X pins' σ H s :=
  ⟨I.ok, I.os, I.bare, I.base, I.loc, I.cell, I.free, I.freeC, fun p hp => (List.mem_append.mp hp).elim (fun z => I.pin p (List.mem_append_left _ z)) (h p), I.hok, I.len⟩

theorem nodup_ix {N : List Str} (hN : N.Nodup) {i j : Nat} {x : Str} (a : N[i]? = some x) (b : N[j]? = some x) : i = j := by
  obtain ⟨h1, e1⟩ := List.getElem?_eq_some_iff.mp a
  obtain ⟨h2, e2⟩ := List.getElem?_eq_some_iff.mp b
  exact (List.getElem_inj hN).mp (e1.trans e2.symm)

theorem store_ok2 {M : Model} {A : Around} {E : Value → Shared → Prop} {i : Nat} {x : Str} {v : V} {u : Value} {Q : Unit → Shared → Prop} (I : Inv X pins σ H s) (hN : X.N.Nodup) (hi : X.N[i]? = some x) (hx : Loc X.env.scope x) (r : RelV v u)
    (h : ∀ s', Inv X pins (σ.set i (some v)) H s' → (∃ a, Heap.SameBut a s.heap s'.heap ∧ (a = X.env.locals ∨ X.env.cells.lookup x = some a)) → Q () s') (hf : X.fn x = true ∨ X.env.scope.names.lookup x = some .local := by first | exact .inl rfl | exact .inr rfl | assumption) : wpAny M A (storeName X.env x u) Q E s := by
  obtain ⟨m, hn, hl⟩ := id I.loc
  have hcls : (X.env.scope.kind == .class || (X.env.scope.kind == .module && X.env.locals != X.env.globals)) = false := by rw [I.ok.kind]; rfl
  have hiσ : i < σ.length := by rw [I.len]; exact (List.getElem?_eq_some_iff.mp hi).1
  have cne := I.cne
  have tracked : ∀ {a : Addr} {h' : Heap}, (∃ o, s.heap.get? a = some o ∧ H a = none) → Heap.SameBut a s.heap h' → HOk X.prog X.w H h' := fun {a h'} ha hs b ob e => by
    obtain ⟨_, _, hfree⟩ := ha
    refine (I.hok b ob e).stay (fun c w' hc q => (hs.2 c ?_).trans q) (fun _ q => q) fun _ _ q => q
    rintro rfl
    rcases hc with rfl | hc
    · rw [hfree] at e; cases e
    · rw [hfree] at hc; cases hc
  rcases hx with hk | hk
  · refine wpAny_storeName_local hk hn (fun h' hn' hs => ?_) hcls
    obtain ⟨oL, _, _, hoL, _⟩ := id hn
    refine h _ ⟨I.ok, I.os, I.bare, ⟨fun b o e n hb hx => ?_, fun b o e n hb hx => ?_, I.base.free, fun b o e hx => ?_, I.base.tups, I.base.frzs, I.base.tbls⟩, ⟨_, hn', fun j y v' e1 e2 e3 => ?_⟩, fun y c e => ?_, I.free, I.freeC, fun p hp => ?_, tracked ⟨oL, hoL, I.free⟩ hs, by simpa using I.len⟩ ⟨_, hs, .inl rfl⟩
    · exact (hs.2 b (Nat.ne_of_lt (Nat.lt_of_lt_of_le (Heap.lt_size e) I.ok.above))).trans (I.base.keep b o e n hb hx)
    · obtain ⟨sl, e1⟩ := I.base.slot b o e n hb hx
      exact ⟨sl, (hs.2 b (Nat.ne_of_lt (Nat.lt_of_lt_of_le (Heap.lt_size e) I.ok.above))).trans e1⟩
    · obtain ⟨o', e1⟩ := I.base.there b o e hx
      exact ⟨o', (hs.2 b (Nat.ne_of_lt (Nat.lt_of_lt_of_le (Heap.lt_size e) I.ok.above))).trans e1⟩
    · by_cases hj : j = i
      · subst hj
        rw [hi] at e1; cases e1
        rw [List.getElem?_set_self hiσ] at e2
        cases e2
        exact ⟨u, r, .inl ⟨hk, by simp⟩⟩
      · rw [List.getElem?_set_ne (Ne.symm hj)] at e2
        obtain ⟨u', r', q⟩ := hl j y v' e1 e2 e3
        refine ⟨u', r', ?_⟩
        rcases q with ⟨k, e⟩ | ⟨k, c, e, z⟩
        · refine .inl ⟨k, ?_⟩
          have : y ≠ x := fun e => hj (nodup_ix hN e1 (e ▸ hi))
          simp [this, e]
        · exact .inr ⟨k, c, e, z.sameBut hs (cne y c e)⟩
    · obtain ⟨w', z⟩ := I.cell y c e
      exact ⟨w', z.sameBut hs (cne y c e)⟩
    · obtain ⟨e, n, ne, nf, d⟩ := I.pin p hp
      exact ⟨(hs.2 p.1 ne).trans e, n, ne, nf, d⟩
  · have hfn : X.fn x = true := by
      rcases hf with z | z
      · exact z
      · rw [z] at hk; cases hk
    obtain ⟨c, hc⟩ := I.ok.has x (.inl hk)
    obtain ⟨w', z⟩ := I.cell x c hc
    refine wpAny_storeName_cell I.ok.kind hk hc z (fun h' hc' hs => ?_)
    obtain ⟨oc, hoc, hocd⟩ := id z
    refine h { s with heap := h' } ⟨I.ok, I.os, I.bare, ⟨fun b o e n hb hx => ?_, fun b o e n hb hx => ?_, I.base.free, fun b o e hx => ?_, I.base.tups, I.base.frzs, I.base.tbls⟩, ⟨m, hn.sameBut hs (Ne.symm (cne x c hc)), fun j y v' e1 e2 e3 => ?_⟩, fun y c' e => ?_, I.free, I.freeC, fun p hp => ?_, tracked ⟨oc, hoc, I.freeC x c hc⟩ hs, by simpa using I.len⟩ ⟨c, hs, .inr hc⟩
    · exact (hs.2 b (Nat.ne_of_lt (Nat.lt_of_lt_of_le (Heap.lt_size e) (I.ok.cab x c hfn hc)))).trans (I.base.keep b o e n hb hx)
    · obtain ⟨sl, e1⟩ := I.base.slot b o e n hb hx
      exact ⟨sl, (hs.2 b (Nat.ne_of_lt (Nat.lt_of_lt_of_le (Heap.lt_size e) (I.ok.cab x c hfn hc)))).trans e1⟩
    · obtain ⟨o', e1⟩ := I.base.there b o e hx
      exact ⟨o', (hs.2 b (Nat.ne_of_lt (Nat.lt_of_lt_of_le (Heap.lt_size e) (I.ok.cab x c hfn hc)))).trans e1⟩
    · by_cases hj : j = i
      · subst hj
        rw [hi] at e1; cases e1
        rw [List.getElem?_set_self hiσ] at e2
        cases e2
        exact ⟨u, r, .inr ⟨.inl hk, c, hc, hc'⟩⟩
      · rw [List.getElem?_set_ne (Ne.symm hj)] at e2
        obtain ⟨u', r', q⟩ := hl j y v' e1 e2 e3
        refine ⟨u', r', ?_⟩
        rcases q with q | ⟨k, c', e, z'⟩
        · exact .inl q
        · refine .inr ⟨k, c', e, z'.sameBut hs ?_⟩
          rintro rfl
          exact hj (nodup_ix hN e1 (I.ok.inj _ _ _ e hc ▸ hi))
    · by_cases hcc : c' = c
      · subst hcc; exact ⟨_, hc'⟩
      · obtain ⟨w2, z2⟩ := I.cell y c' e
        exact ⟨w2, z2.sameBut hs hcc⟩
    · obtain ⟨e, n, ne, nf, d⟩ := I.pin p hp
      refine ⟨(hs.2 p.1 ?_).trans e, n, ne, nf, d⟩
      intro q
      rw [q, hoc] at e
      have q' : oc = p.2 := Option.some.inj e
      exact d w' (by rw [← q']; exact hocd)
theorem store_ok {M : Model} {A : Around} {E : Value → Shared → Prop} {i : Nat} {x : Str} {v : V} {u : Value} {Q : Unit → Shared → Prop} (I : Inv X pins σ H s) (hN : X.N.Nodup) (hi : X.N[i]? = some x) (hx : Loc X.env.scope x) (r : RelV v u)
    (h : ∀ s', Inv X pins (σ.set i (some v)) H s' → Q () s') (hf : X.fn x = true ∨ X.env.scope.names.lookup x = some .local := by first | exact .inl rfl | exact .inr rfl | assumption) : wpAny M A (storeName X.env x u) Q E s :=
  store_ok2 I hN hi hx r (fun s' I' _ => h s' I') hf
theorem Inv.call' {s' : Shared} {ch : List Addr} (I : Inv X pins σ H s) (ho : s'.os = s.os) (u : Un (frs X.stack) ch H H' s.heap s'.heap) (hok : HOk X.prog X.w H' s'.heap) (hg : AllBare s'.gens)
    (hch : ∀ b ∈ ch, (b ∈ X.ex ∨ X.s₀.heap.objs.size ≤ b) ∧ b ≠ X.env.locals ∧ (∀ x c, X.env.cells.lookup x = some c → c ≠ b) ∧ ∀ p ∈ X.pn ++ pins, p.1 ≠ b) : Inv X pins σ H' s' := by
  obtain ⟨h', g', d', t', o'⟩ := s'
  have e : o' = s.os := ho
  subst e
  exact I.call (g' := g') (t' := t') (d' := d') u hok hg hch
end

abbrev XK := Value → Option Addr → Hp → Prop
abbrev St := List (Option V)
abbrev VK := V → Hp → Prop
abbrev TE := St → Hp → VK → Prop
abbrev TT := St → Hp → (Bool → Hp → Prop) → Prop
abbrev TA := St → Hp → (List V → Hp → Prop) → Prop
structure Ends where
  nx : St → Hp → Prop
  rt : VK
  bk : St → Hp → Prop := fun _ _ => False
  ct : St → Hp → Prop := fun _ _ => False
abbrev TS := Ends → St → Hp → Prop

def EP (X : Cx) (pins : List (Addr × Obj)) (σ : St) (Q : VK) (u : Value) (s' : Shared) : Prop := ∃ v H', Inv X pins σ H' s' ∧ RelV v u ∧ Q v H'
def TP (X : Cx) (pins : List (Addr × Obj)) (σ : St) (Q : Bool → Hp → Prop) (b : Bool) (s' : Shared) : Prop := ∃ H', Inv X pins σ H' s' ∧ Q b H'
def AP (X : Cx) (pins : List (Addr × Obj)) (σ : St) (Q : List V → Hp → Prop) (us : List Value) (s' : Shared) : Prop := ∃ vs H', Inv X pins σ H' s' ∧ Vals vs us ∧ Q vs H'
def SP (X : Cx) (pins : List (Addr × Obj)) (D : Ends) (f : Flow) (s' : Shared) : Prop :=
  match f with
  | .next => ∃ σ' H', Inv X pins σ' H' s' ∧ D.nx σ' H'
  | .brk => ∃ σ' H', Inv X pins σ' H' s' ∧ D.bk σ' H'
  | .cont => ∃ σ' H', Inv X pins σ' H' s' ∧ D.ct σ' H'
  | .ret u => ∃ v σ' H', Inv X pins σ' H' s' ∧ RelV v u ∧ D.rt v H'

def PE (X : Cx) (e : Expr) (t : TE) : Prop :=
  ∀ (pins : List (Addr × Obj)) (s : Shared) (σ : St) (H : Hp) (Q : VK), Inv X pins σ H s → t σ H Q → wpAny (model X.prog X.w) X.A (eval e X.env) (EP X pins σ Q) X.xe s
def PT (X : Cx) (e : Expr) (t : TT) : Prop :=
  ∀ (pins : List (Addr × Obj)) (s : Shared) (σ : St) (H : Hp) (Q : Bool → Hp → Prop), Inv X pins σ H s → t σ H Q → wpAny (model X.prog X.w) X.A (isTrue e X.env (eval e X.env)) (TP X pins σ Q) X.xe s
def PW (X : Cx) (e : Expr) (t : TT) : Prop :=
  ∀ (whole : Sem Value) (pins : List (Addr × Obj)) (s : Shared) (σ : St) (H : Hp) (Q : Bool → Hp → Prop), Inv X pins σ H s → t σ H Q → wpAny (model X.prog X.w) X.A (isTrue e X.env whole) (TP X pins σ Q) X.xe s
theorem PW.pt {X : Cx} {e : Expr} {t : TT} (h : PW X e t) : PT X e t := h _
def PA (X : Cx) (es : List Expr) (t : TA) : Prop :=
  ∀ (pos : Pos) (pins : List (Addr × Obj)) (s : Shared) (σ : St) (H : Hp) (Q : List V → Hp → Prop), Inv X pins σ H s → t σ H Q → wpAny (model X.prog X.w) X.A (spliced (backTo pos (starEach es X.env))) (AP X pins σ Q) X.xe s
def PS (X : Cx) (st : Stmt) (t : TS) : Prop :=
  ∀ (pins : List (Addr × Obj)) (s : Shared) (σ : St) (H : Hp) (D : Ends), Inv X pins σ H s → t D σ H → wpAny (model X.prog X.w) X.A (exec st X.env) (SP X pins D) X.xe s
def PSs (X : Cx) (st : List Stmt) (t : TS) : Prop :=
  ∀ (pins : List (Addr × Obj)) (s : Shared) (σ : St) (H : Hp) (D : Ends), Inv X pins σ H s → t D σ H → wpAny (model X.prog X.w) X.A (execs st X.env) (SP X pins D) X.xe s
theorem thn {α : Type} {t : Sem α} {Q Q' : α → Shared → Prop} {M : Model} {A : Around} {E : Value → Shared → Prop} {s : Shared} (h : wpAny M A t Q E s) (hQ : ∀ a s, Q a s → Q' a s) : wpAny M A t Q' E s := wpAny_mono h hQ fun _ _ x => x
end L2

namespace L2
open PySem PySem.Spec PyProof.Rows
section
variable {X : Cx}

def tVar (i : Nat) : TE := fun σ H Q => ∃ v, σ[i]? = some (some v) ∧ Q v H
def tC (v : V) : TE := fun _ H Q => Q v H
theorem pe_var {i : Nat} {x : Str} {pos : Pos} (hN : X.N[i]? = some x) (hv : Vis X.env.scope x) (hd : (x == ("__debug__" : Str)) = false := by decide) (hcd : (x == ("__classdict__" : Str)) = false := by decide) : PE X (.Name x pos) (tVar i) := by
  intro pins s σ H Q I h
  obtain ⟨v, e, h⟩ := h
  obtain ⟨m, hn, hl⟩ := I.loc
  obtain ⟨u, r, l⟩ := hl i x v hN e hv
  have fin : EP X pins σ Q u s := ⟨v, H, I, r, h⟩
  rcases l with ⟨hk, hm⟩ | ⟨hk, c, hc, hcell⟩
  · exact wpAny_Name (wpAny_loadName_local I.ok.kind hk hn hm fin) hd
  · rcases hk with hk | hk
    · exact wpAny_Name (wpAny_loadName_cell I.ok.kind hk hc hcell fin) hd
    · exact wpAny_Name (wpAny_loadName_free I.ok.kind hk hc hcell fin hcd) hd
theorem pe_int {i j pos} : PE X (.Constant (.int i) j pos) (tC (.int i)) := fun _ _ _ H _ I h => wpAny_Constant_int ⟨.int i, H, I.tok _, ⟨_, rfl⟩, h⟩
theorem pe_bl {b j pos} : PE X (.Constant (.bool b) j pos) (tC (.bl b)) := fun _ _ _ H _ I h => Constant_bool ⟨.bl b, H, I, rfl, h⟩
theorem pe_str {x j pos} : PE X (.Constant (.str x) j pos) (tC (.str x)) := fun _ _ _ H _ I h => Calls.Constant_str ⟨.str x, H, I.tok _, ⟨_, rfl⟩, h⟩

def Gl (X : Cx) (x : Str) : Prop := X.env.kindOf x = some .globalImplicit
theorem ld_glob {E : Value → Shared → Prop} {pins : List (Addr × Obj)} {s : Shared} {σ : St} {H : Hp} {x : Str} {u : Value} {pos : Pos} {Q : Value → Shared → Prop} (I : Inv X pins σ H s) (hg : Gl X x) (hm : X.mg x = some u) (h : Q u s)
    (hd : (x == ("__debug__" : Str)) = false := by decide) : wpAny (model X.prog X.w) X.A (eval (.Name x pos) X.env) Q E s :=
  Calls.Name_function_global I.ok.kind hg (Calls.loadGlobal_global (by rw [I.ok.glob]; exact I.mod.glob.keeps I.bk) hm h) hd
theorem ld_blt {E : Value → Shared → Prop} {pins : List (Addr × Obj)} {s : Shared} {σ : St} {H : Hp} {x : Str} {u : Value} {pos : Pos} {Q : Value → Shared → Prop} (I : Inv X pins σ H s) (hg : Gl X x) (hm : X.mg x = none) (hv : bootBuiltins x = some u) (h : Q u s)
    (hn : x ≠ "__name__" := by decide) (hd : (x == ("__debug__" : Str)) = false := by decide) : wpAny (model X.prog X.w) X.A (eval (.Name x pos) X.env) Q E s := by
  obtain ⟨mb, h1, h2⟩ := I.mod.blt
  exact Calls.Name_function_global I.ok.kind hg (Calls.loadGlobal_builtin (by rw [I.ok.glob]; exact I.mod.glob.keeps I.bk) hm (by rw [I.ok.blt]; exact h1.keeps I.bk) ((h2 x hn).trans hv) h) hd
theorem pe_bltn {x : Str} {v : V} {u : Value} {pos : Pos} (hg : Gl X x) (hm : X.mg x = none) (hv : bootBuiltins x = some u) (r : RelV v u) (hn : x ≠ "__name__" := by decide) (hd : (x == ("__debug__" : Str)) = false := by decide) : PE X (.Name x pos) (tC v) :=
  fun _ _ _ H _ I h => ld_blt I hg hm hv ⟨v, H, I, r, h⟩ hn hd

variable {a b : Expr} {ta tb : TE} {pos : Pos}
def tB (t : TE) : TT := fun σ H Q => t σ H fun x H1 => ∃ c, x = .bl c ∧ Q c H1
theorem pt_val {e : Expr} {t : TE} (h : PE X e t) (he : ∀ whole, isTrue e X.env whole = (do let v ← whole; standAt e.pos; holding [v] (truthy v)) := by intro _; rfl) : PT X e (tB t) := by
  intro pins s σ H Q I hw
  refine isTrue_plain (thn (h pins s σ H _ I hw) fun v s1 ⟨x, H1, I1, r1, q1⟩ => ?_) (he _)
  obtain ⟨d, rfl, q⟩ := q1
  cases r1
  exact wpAny_truthy_bool ⟨H1, I1, q⟩

variable {tA tB' : TT} {rest : List Expr}
def tAnd (t u : TT) : TT := fun σ H Q => t σ H fun c H1 => if c = true then u σ H1 Q else Q false H1
def tOr (t u : TT) : TT := fun σ H Q => t σ H fun c H1 => if c = true then Q true H1 else u σ H1 Q
def tNot (t : TT) : TT := fun σ H Q => t σ H fun c H1 => Q (!c) H1
theorem pw_and1 (ha : PT X a tA) : PW X (.BoolOp .And [a] pos) tA := by
  intro wh pins s σ H Q I h
  refine isTrue_and (thn (ha pins s σ H Q I h) fun c s1 e => ?_)
  cases c with
  | true => exact isTrue_and_nil e
  | false => exact e
theorem pw_or1 (ha : PT X a tA) : PW X (.BoolOp .Or [a] pos) tA := by
  intro wh pins s σ H Q I h
  refine isTrue_or (thn (ha pins s σ H Q I h) fun c s1 e => ?_)
  cases c with
  | false => exact isTrue_or_nil e
  | true => exact e
theorem pw_and (ha : PT X a tA) (hb : PW X (.BoolOp .And (b :: rest) pos) tB') : PW X (.BoolOp .And (a :: b :: rest) pos) (tAnd tA tB') := by
  intro wh pins s σ H Q I h
  refine isTrue_and (thn (ha pins s σ H _ I h) fun c s1 ⟨H1, I1, q1⟩ => ?_)
  cases c with
  | true => exact hb wh pins s1 σ H1 Q I1 q1
  | false => exact ⟨H1, I1, q1⟩
theorem pw_or (ha : PT X a tA) (hb : PW X (.BoolOp .Or (b :: rest) pos) tB') : PW X (.BoolOp .Or (a :: b :: rest) pos) (tOr tA tB') := by
  intro wh pins s σ H Q I h
  refine isTrue_or (thn (ha pins s σ H _ I h) fun c s1 ⟨H1, I1, q1⟩ => ?_)
  cases c with
  | true => exact ⟨H1, I1, q1⟩
  | false => exact hb wh pins s1 σ H1 Q I1 q1
theorem pt_not (ha : PT X a tA) : PT X (.UnaryOp .Not a pos) (tNot tA) := by
  intro pins s σ H Q I h
  exact isTrue_not (ha pins s σ H (fun c H1 => Q (!c) H1) I h)
def tAndV (ta tb : TE) : TE := fun σ H Q => ta σ H fun x H1 => ∃ c, x = .bl c ∧ if c = true then tb σ H1 Q else Q (.bl false) H1
theorem pe_one {op} {t : TE} (h : PE X a t) : PE X (.BoolOp op [a] pos) t := fun pins s σ H Q I hw => BoolOp_one (h pins s σ H Q I hw)
theorem pe_and (ha : PE X a ta) (hb : PE X (.BoolOp .And (b :: rest) pos) tb) : PE X (.BoolOp .And (a :: b :: rest) pos) (tAndV ta tb) := by
  intro pins s σ H Q I h
  refine BoolOp_and (thn (ha pins s σ H _ I h) fun v s1 ⟨x, H1, I1, r1, q1⟩ => ?_)
  obtain ⟨c, rfl, q1⟩ := q1
  cases r1
  refine wpAny_truthy_bool ?_
  cases c with
  | true => exact hb pins s1 σ H1 Q I1 q1
  | false => exact ⟨.bl false, H1, I1, rfl, q1⟩
end
end L2

namespace L2
open PySem PySem.Spec PyProof.Rows

def SqL (K : PySem.W.Frag) (H : Hp) (a : Addr) (xs : List V) : Prop :=
  Rd H a (.lst xs) ∨
    ∃ (o : Obj) (its : Array Value) (n : Nat), K.lookup a = some o ∧ o.cls = .type "list" ∧ o.dict = none ∧ o.data = .seq its n ∧ its.size ≤ sizeLine ∧ Vals xs its.toList
def SqT (K : PySem.W.Frag) (H : Hp) (a : Addr) (xs : List V) : Prop :=
  Rd H a (.tup xs) ∨
    ∃ (o : Obj) (its : Array Value) (n : Nat), K.lookup a = some o ∧ o.cls = .type "tuple" ∧ o.data = .seq its n ∧ its.size ≤ sizeLine ∧ Vals xs its.toList
def absV : Value → Option V
  | .none => some .non
  | .bool b => some (.bl b)
  | .int i _ => some (.int i)
  | .str x _ => some (.str x)
  | .bytes b _ => some (.byt b)
  | .float b _ => some (.flt b)
  | .ref a => some (.ref a)
  | .type n => some (.ty n)
  | _ => none
theorem RelV.abs {x : V} {u : Value} (r : RelV x u) : absV u = some x := by
  cases x with
  | non => cases r; rfl
  | bl _ => cases r; rfl
  | int _ => obtain ⟨t, rfl⟩ := r; rfl
  | str _ => obtain ⟨t, rfl⟩ := r; rfl
  | byt _ => obtain ⟨t, rfl⟩ := r; rfl
  | flt _ => obtain ⟨t, rfl⟩ := r; rfl
  | ref _ => cases r; rfl
  | ty _ => cases r; rfl
theorem RelV.inj {x y : V} {u : Value} (r : RelV x u) (q : RelV y u) : x = y := Option.some.inj (r.abs.symm.trans q.abs)
theorem Vals.inj : ∀ {xs ys : List V} {us : List Value}, Vals xs us → Vals ys us → xs = ys
  | _, _, _, .nil, .nil => rfl
  | _, _, _, .cons r t, .cons r' t' => by rw [r.inj r', Vals.inj t t']
section
variable {X : Cx} {pins : List (Addr × Obj)} {σ : St} {H : Hp} {s : Shared} {a : Addr} {xs ys : List V}
theorem SqL.of {K : PySem.W.Frag} (h : H a = some (.lst xs)) : SqL K H a xs := .inl (.inl h)
theorem SqT.of {K : PySem.W.Frag} (h : H a = some (.tup xs)) : SqT K H a xs := .inl (.inl h)
theorem Inv.list (I : Inv X pins σ H s) (h : SqL X.K H a xs) : ∃ its : List Value, Vals xs its ∧ PlainL s.heap a its.toArray ∧ xs.length ≤ sizeLine := by
  rcases h with h | ⟨o, its, n, hk, hc, hd, hs, hz, r⟩
  · obtain ⟨z, its, n, r, e⟩ := h.ok I.hok
    exact ⟨its, r, ⟨_, n, e, rfl, rfl, rfl⟩, z⟩
  · refine ⟨its.toList, r, ⟨o, n, I.kIn a o hk, hc, hd, by simpa using hs⟩, ?_⟩
    have e := r.length
    simp only [Array.length_toList] at e
    omega
theorem Inv.tuple (I : Inv X pins σ H s) (h : SqT X.K H a xs) : ∃ its : List Value, Vals xs its ∧ IsTup s.heap a its.toArray ∧ xs.length ≤ sizeLine := by
  rcases h with h | ⟨o, its, n, hk, hc, hs, hz, r⟩
  · obtain ⟨z, its, r, p⟩ := h.ok I.hok
    exact ⟨its, r, p, z⟩
  · refine ⟨its.toList, r, ⟨o, I.kIn a o hk, hc, n, by simpa using hs⟩, ?_⟩
    have e := r.length
    simp only [Array.length_toList] at e
    omega
theorem Inv.list_inj (I : Inv X pins σ H s) (h : SqL X.K H a xs) (h' : SqL X.K H a ys) : xs = ys := by
  obtain ⟨its, r, ⟨o, n, e, _, _, d⟩, _⟩ := I.list h
  obtain ⟨its', r', ⟨o', n', e', _, _, d'⟩, _⟩ := I.list h'
  rw [e] at e'; cases e'
  rw [d] at d'
  injection d' with d1 _
  have : its = its' := by simpa using congrArg Array.toList d1
  subst this
  exact r.inj r'
end

abbrev Cx.wish (X : Cx) (E : Value → Shared → Prop) : Cx := { X with xe := E }
abbrev Cx.nox (X : Cx) : Cx := X.wish fun _ _ => False
theorem Cx.Ok.wish {X : Cx} (ok : X.Ok) (E : Value → Shared → Prop) : (X.wish E).Ok :=
  ⟨ok.mod, ok.kind, ok.glob, ok.blt, ok.above, ok.inj, ok.has, ok.cab, ok.hd, ok.frames, ok.stk, ok.exf, ok.bs, ok.bsz, ok.noex, ok.exfs, ok.funs, ok.frf⟩
theorem Cx.Ok.unwish {X : Cx} {E : Value → Shared → Prop} (ok : (X.wish E).Ok) : X.Ok :=
  ⟨ok.mod, ok.kind, ok.glob, ok.blt, ok.above, ok.inj, ok.has, ok.cab, ok.hd, ok.frames, ok.stk, ok.exf, ok.bs, ok.bsz, ok.noex, ok.exfs, ok.funs, ok.frf⟩
section
variable {X : Cx} {pins : List (Addr × Obj)} {σ : St} {H : Hp} {s : Shared} {E : Value → Shared → Prop}
theorem Inv.wish (I : Inv X pins σ H s) (E : Value → Shared → Prop) : Inv (X.wish E) pins σ H s := ⟨I.ok.wish E, I.os, I.bare, I.base, I.loc, I.cell, I.free, I.freeC, I.pin, I.hok, I.len⟩
theorem Inv.unwish (I : Inv (X.wish E) pins σ H s) : Inv X pins σ H s := ⟨I.ok.unwish, I.os, I.bare, I.base, I.loc, I.cell, I.free, I.freeC, I.pin, I.hok, I.len⟩
theorem SP.unwish {D : Ends} {f : Flow} {s' : Shared} (h : SP (X.wish E) pins D f s') : SP X pins D f s' := by
  cases f with
  | next => obtain ⟨σ', H', I, q⟩ := h; exact ⟨σ', H', I.unwish, q⟩
  | brk => obtain ⟨σ', H', I, q⟩ := h; exact ⟨σ', H', I.unwish, q⟩
  | cont => obtain ⟨σ', H', I, q⟩ := h; exact ⟨σ', H', I.unwish, q⟩
  | ret u => obtain ⟨v, σ', H', I, r, q⟩ := h; exact ⟨v, σ', H', I.unwish, r, q⟩
theorem PE.nox {e : Expr} {t : TE} (h : PE X.nox e t) : PE X e t := fun pins s σ H Q I hw =>
  wpAny_mono (h pins s σ H Q (I.wish _) hw) (fun _ _ ⟨v, H', I', r, q⟩ => ⟨v, H', I'.unwish, r, q⟩) fun _ _ z => False.elim z
theorem PT.nox {e : Expr} {t : TT} (h : PT X.nox e t) : PT X e t := fun pins s σ H Q I hw =>
  wpAny_mono (h pins s σ H Q (I.wish _) hw) (fun _ _ ⟨H', I', q⟩ => ⟨H', I'.unwish, q⟩) fun _ _ z => False.elim z
theorem PSs.nox {st : List Stmt} {t : TS} (h : PSs X.nox st t) : PSs X st t := fun pins s σ H D I hw =>
  wpAny_mono (h pins s σ H D (I.wish _) hw) (fun _ _ q => q.unwish) fun _ _ z => False.elim z
end

section
variable {X : Cx} {st : Stmt} {rest : List Stmt} {t u : TS} {e : Expr} {te : TE} {pos : Pos}
def tNext : TS := fun D σ H => D.nx σ H
def tSeq (t u : TS) : TS := fun D σ H => t { D with nx := u D } σ H
theorem pss_nil : PSs X [] tNext := fun _ _ σ H _ I h => wpAny_execs_nil ⟨σ, H, I, h⟩
theorem pss_cons (h1 : PS X st t) (h2 : PSs X rest u) : PSs X (st :: rest) (tSeq t u) := by
  intro pins s σ H D I h
  refine wpAny_execs_cons (thn (h1 pins s σ H { D with nx := u D } I h) fun f s1 q => ?_)
  cases f with
  | next =>
    obtain ⟨σ', H', I', q⟩ := q
    exact h2 pins s1 σ' H' D I' q
  | ret v => exact q
  | brk => exact q
  | cont => exact q
theorem pss_one (h1 : PS X st t) : PSs X [st] t := by
  intro pins s σ H D I h
  refine wpAny_execs_cons (thn (h1 pins s σ H D I h) fun f s1 q => ?_)
  cases f with
  | next => exact wpAny_execs_nil q
  | ret v => exact q
  | brk => exact q
  | cont => exact q
theorem Inv.quiet {pins : List (Addr × Obj)} {σ : St} {H : Hp} {s : Shared} (I : Inv X pins σ H s) : interactive X.env = false := by simp [interactive, I.ok.kind]
def tDrop (te : TE) : TS := fun D σ H => te σ H fun _ H1 => D.nx σ H1
theorem ps_expr (he : PE X e te) (hs : swapsWith e none pos.line X.env = pure false := by rfl) : PS X (.Expr e pos) (tDrop te) := by
  intro pins s σ H D I h
  exact wpAny_Expr_any (thn (he pins s σ H _ I h) fun v s1 ⟨x, H1, I1, r1, q1⟩ => ⟨σ, H1, I1, q1⟩) I.quiet hs
def tRet (te : TE) : TS := fun D σ H => te σ H D.rt
theorem ps_ret (he : PE X e te) : PS X (.Return (some e) pos) (tRet te) := by
  intro pins s σ H D I h
  exact wpAny_Return_some (thn (he pins s σ H _ I h) fun v s1 ⟨x, H1, I1, r1, q1⟩ => ⟨x, σ, H1, I1, r1, q1⟩)
def tIfS (c : TT) (t u : TS) : TS := fun D σ H => c σ H fun b H1 => if b = true then t D σ H1 else u D σ H1
theorem ps_if {c : Expr} {a b : List Stmt} {tc : TT} (hc : PT X c tc) (ha : PSs X a t) (hb : PSs X b u) : PS X (.If c a b pos) (tIfS tc t u) := by
  intro pins s σ H D I h
  refine wpAny_If (thn (hc pins s σ H _ I h) fun d s1 ⟨H1, I1, q1⟩ => ?_)
  cases d with
  | true => exact ha pins s1 σ H1 D I1 q1
  | false => exact hb pins s1 σ H1 D I1 q1
end

abbrev TG := V → St → Hp → (St → Hp → Prop) → Prop
abbrev TGs := List V → St → Hp → (St → Hp → Prop) → Prop
def PG (X : Cx) (target : Expr) (t : TG) : Prop :=
  ∀ (pins : List (Addr × Obj)) (s : Shared) (σ : St) (H : Hp) (v : V) (u : Value) (Q : St → Hp → Prop), Inv X pins σ H s → RelV v u → t v σ H Q →
    wpAny (model X.prog X.w) X.A (assign target X.env u) (fun _ s' => ∃ σ' H', Inv X pins σ' H' s' ∧ Q σ' H') X.xe s
def PGs (X : Cx) (ts : List Expr) (t : TGs) : Prop :=
  ∀ (pins : List (Addr × Obj)) (s : Shared) (σ : St) (H : Hp) (vs : List V) (us : List Value) (Q : St → Hp → Prop), Inv X pins σ H s → Vals vs us → t vs σ H Q →
    wpAny (model X.prog X.w) X.A (assignInOrder ((assignEach ts X.env).map (·.2)) us) (fun _ s' => ∃ σ' H', Inv X pins σ' H' s' ∧ Q σ' H') X.xe s
abbrev TSet := V → V → V → Hp → (Hp → Prop) → Prop
def PSet (X : Cx) (t : TSet) : Prop :=
  ∀ (pins : List (Addr × Obj)) (s : Shared) (σ : St) (H : Hp) (o i v : V) (ov iv u : Value) (Q : Hp → Prop), Inv X pins σ H s → RelV o ov → RelV i iv → RelV v u → t o i v H Q →
    wpAny (model X.prog X.w) X.A (setItem ov iv u) (fun _ s' => ∃ H', Inv X pins σ H' s' ∧ Q H') X.xe s
section
variable {X : Cx} {pos : Pos}
def gName (i : Nat) : TG := fun v σ H Q => Q (σ.set i (some v)) H
theorem pg_name {i : Nat} {x : Str} (hN : X.N.Nodup) (hi : X.N[i]? = some x) (hx : Loc X.env.scope x) (hf : X.fn x = true ∨ X.env.scope.names.lookup x = some .local := by first | exact .inl rfl | exact .inr rfl | assumption) : PG X (.Name x pos) (gName i) := by
  intro pins s σ H v u Q I r h
  exact wpAny_assign_Name (store_ok I hN hi hx r (fun s' I' => ⟨_, H, I', h⟩) hf)
def gNil : TGs := fun vs σ H Q => vs = [] ∧ Q σ H
def gCons (t : TG) (u : TGs) : TGs := fun vs σ H Q => ∃ v r, vs = v :: r ∧ t v σ H fun σ' H' => u r σ' H' Q
theorem pgs_nil : PGs X [] gNil := by
  intro pins s σ H vs us Q I r h
  obtain ⟨e, h⟩ := h
  subst e
  cases r
  exact assignInOrder_nil ⟨σ, H, I, h⟩
theorem pgs_cons {e : Expr} {es : List Expr} {t : TG} {u : TGs} (h1 : PG X e t) (h2 : PGs X es u)
    (hs : (assignEach (e :: es) X.env).map (·.2) = assign e X.env :: (assignEach es X.env).map (·.2) := by rfl) : PGs X (e :: es) (gCons t u) := by
  intro pins s σ H vs us Q I r h
  obtain ⟨v, vr, e1, h⟩ := h
  subst e1
  cases r with
  | cons r rr =>
    rw [hs]
    refine assignInOrder_cons (thn (h1 pins s σ H _ _ _ I r h) fun _ s1 ⟨σ1, H1, I1, q1⟩ => ?_)
    exact h2 pins s1 σ1 H1 _ _ Q I1 rr q1
def gTup (K : PySem.W.Frag) (n : Nat) (t : TGs) : TG := fun v σ H Q => ∃ a xs, v = .ref a ∧ SqT K H a xs ∧ xs.length = n ∧ t xs σ H Q
theorem pg_tup {es : List Expr} {k : Nat} {t : TGs} {n : Nat} (hc : X.calm = true) (h : PGs X es t)
    (hn : (assignEach es X.env).length = n := by rfl) (hst : (assignEach es X.env).findIdx? (·.1) = none := by rfl) : PG X (.Tuple es k pos) (gTup X.K n t) := by
  intro pins s σ H v u Q I r hw
  obtain ⟨a, xs, e1, hq, hl, hw⟩ := hw
  subst e1
  cases r
  obtain ⟨its, rv, ht, hz⟩ := I.tuple hq
  refine assign_Tuple_tuple (I.ok.hd hc) ht (by simp [hn, ← hl, rv.length]) hst fun h' hx => ?_
  have I1 : Inv X pins σ H { s with heap := h' } := I.kept (t' := s.toks) fun b o e => hx b o (Nat.ne_of_lt (Heap.lt_size e)) e
  exact h pins _ σ H xs _ Q I1 (by simpa using rv) hw
def gSub (to ti : TE) (t : TSet) : TG := fun v σ H Q => to σ H fun o H1 => ti σ H1 fun i H2 => t o i v H2 fun H3 => Q σ H3
theorem pg_sub {o i : Expr} {to ti : TE} {t : TSet} (ho : PE X o to) (hi : PE X i ti) (hs : PSet X t)
    (ha : ∀ v, assign (.Subscript o i pos) X.env v = (do
      let ov ← holding [v] (eval o X.env)
      let iv ← holding [v, ov] (eval i X.env)
      standAt pos
      holding [v, ov, iv] (setItem ov iv v)
      release [v, ov, iv] []) := by intro _; rfl) : PG X (.Subscript o i pos) (gSub to ti t) := by
  intro pins s σ H v u Q I r h
  rw [ha]
  refine wpAny_bind (wpAny_holding (thn (ho pins s σ H _ I h) fun ov s1 ⟨x, H1, I1, r1, q1⟩ => ?_))
  refine wpAny_bind (wpAny_holding (thn (hi pins s1 σ H1 _ I1 q1) fun iv s2 ⟨y, H2, I2, r2, q2⟩ => ?_))
  refine wpAny_bind (wpAny_standAt (wpAny_bind (wpAny_holding (thn (hs pins s2 σ H2 x y v ov iv u _ I2 r1 r2 r q2) fun _ s3 ⟨H3, I3, q3⟩ => ?_))))
  exact wpAny_release ⟨σ, H3, I3, q3⟩
def tAsg (te : TE) (g : TG) : TS := fun D σ H => te σ H fun x H1 => g x σ H1 D.nx
theorem ps_asg {tg e : Expr} {te : TE} {g : TG} (he : PE X e te) (hg : PG X tg g) (hs : swapsWithSole [tg] e pos.line X.env = pure false := by rfl) (hw : swappedStores [tg] e X.env = pure none := by rfl)
    (h1 : (assignEach [tg] X.env).map (·.2) = [assign tg X.env] := by rfl) : PS X (.Assign [tg] e pos) (tAsg te g) := by
  intro pins s σ H D I h
  refine wpAny_Assign_stores (thn (he pins s σ H _ I h) fun v s1 ⟨x, H1, I1, r1, q1⟩ => ?_) hs hw
  rw [h1]
  exact thn (hg pins s1 σ H1 x v _ I1 r1 q1) fun _ s2 q => q
theorem ps_set {i : Nat} {x : Str} {e : Expr} {te : TE} {pos' : Pos} (hN : X.N.Nodup) (hi : X.N[i]? = some x) (hx : Loc X.env.scope x) (he : PE X e te) (hs : swapsWith e (some (.Name x pos')) pos.line X.env = pure false := by rfl) (hf : X.fn x = true ∨ X.env.scope.names.lookup x = some .local := by first | exact .inl rfl | exact .inr rfl | assumption) :
    PS X (.Assign [.Name x pos'] e pos) (tAsg te (gName i)) := by
  intro pins s σ H D I h
  refine wpAny_Assign_Name (thn (he pins s σ H _ I h) fun v s1 ⟨y, H1, I1, r1, q1⟩ => ?_) hs
  exact store_ok I1 hN hi hx r1 (fun s2 I2 => ⟨_, H1, I2, q1⟩) hf
end

section
variable {X : Cx} {pos : Pos}
end

structure It where
  go : Nat → Hp → Prop
  yld : Nat → Hp → V → Hp → Prop
  stop : Nat → Hp → Prop
def FpOk (X : Cx) (pins : List (Addr × Obj)) (H : Hp) (b : Addr) : Prop :=
  H b = none ∧ b ≠ X.env.locals ∧ b ∉ X.fs ∧ (b ∈ X.ex ∨ X.s₀.heap.objs.size ≤ b) ∧ (∀ x c, X.env.cells.lookup x = some c → c ≠ b) ∧ ∀ p ∈ X.pn ++ pins, p.1 ≠ b
theorem Inv.fpOk {X : Cx} {pins : List (Addr × Obj)} {σ : St} {H H' : Hp} {s : Shared} {b : Addr} (I : Inv X pins σ H s) (hb : s.heap.objs.size ≤ b) (hn : H' b = none) : FpOk X pins H' b := by
  refine ⟨hn, Nat.ne_of_gt (Nat.lt_of_lt_of_le I.lt hb), I.nofs hb, .inr (Nat.le_trans I.sz hb), fun x c e z => ?_, fun p hp z => ?_⟩
  · obtain ⟨v, q⟩ := I.cell x c e
    exact absurd (Nat.lt_of_lt_of_le q.lt (by rw [z]; exact hb)) (Nat.lt_irrefl _)
  · exact absurd (Nat.lt_of_lt_of_le (Heap.lt_size (I.pin p hp).1) (by rw [z]; exact hb)) (Nat.lt_irrefl _)
structure Turn (P : Program) (w : World) (K : PySem.W.Frag) (tg : Expr) (J : It) (fp : List Addr) (it : Addr) (tn : Nat → Heap → Prop) : Prop where
  mem : it ∈ fp
  obj : ∀ i h, tn i h → ∀ b ∈ fp, ∃ o, h.get? b = some o ∧ ∀ v, o.data ≠ .cell v
  keep : ∀ i h h', tn i h → (∀ b ∈ fp, ∀ o, h.get? b = some o → h'.get? b = some o) → tn i h'
  item : ∀ (X : Cx), X.prog = P → X.w = w → X.K = K → X.calm = true → ∀ (i : Nat) (pins : List (Addr × Obj)) (s : Shared) (σ : St) (H : Hp) (E : Value → Shared → Prop), Inv X pins σ H s → (∀ b ∈ fp, FpOk X pins H b) → tn i s.heap → J.go i H →
    wpAny (model P w) X.A (pyNext (.ref it)) (fun r s1 => ∃ u, r = some u ∧
      wpAny (model P w) X.A (letOwnedTupleGo tg (.ref it) u) (fun _ s2 => ∃ x H', Inv X pins σ H' s2 ∧ RelV x u ∧ J.yld i H x H' ∧ tn (i + 1) s2.heap ∧ ∀ b ∈ fp, H' b = none) E s1) E s
  done : ∀ (X : Cx), X.prog = P → X.w = w → X.K = K → X.calm = true → ∀ (i : Nat) (pins : List (Addr × Obj)) (s : Shared) (σ : St) (H : Hp) (E : Value → Shared → Prop), Inv X pins σ H s → (∀ b ∈ fp, FpOk X pins H b) → tn i s.heap → J.stop i H →
    wpAny (model P w) X.A (pyNext (.ref it)) (fun r s1 => r = none ∧ Inv X pins σ H s1) E s
  self : ∀ (A : Around) (i : Nat) (s : Shared) (Q : Value → Shared → Prop) (E : Value → Shared → Prop), tn i s.heap → Q (.ref it) s → wpAny (model P w) A (pyIter (.ref it)) Q E s
abbrev TI := St → Hp → (It → Hp → Prop) → Prop
def PIE (X : Cx) (pins : List (Addr × Obj)) (σ : St) (tg : Expr) (R : It → Hp → Prop) (itv : Value) (s2 : Shared) : Prop :=
  ∃ (it : Addr) (fp : List Addr) (tn : Nat → Heap → Prop) (J : It) (H' : Hp), itv = .ref it ∧ Inv X pins σ H' s2 ∧ Turn X.prog X.w X.K tg J fp it tn ∧ tn 0 s2.heap ∧ (∀ b ∈ fp, FpOk X pins H' b) ∧ R J H'
def PI (X : Cx) (tg iter : Expr) (wi : TI) : Prop :=
  ∀ (pins : List (Addr × Obj)) (s : Shared) (σ : St) (H : Hp) (R : It → Hp → Prop), Inv X pins σ H s → wi σ H R →
    wpAny (model X.prog X.w) X.A (eval iter X.env) (fun v s1 => wpAny (model X.prog X.w) X.A (pyIter v) (PIE X pins σ tg R) X.xe s1) X.xe s

theorem go_of {M : Model} {A : Around} {E : Value → Shared → Prop} {s : Shared} {tg : Expr} {it : Addr} {u : Value} {o : Obj} {n : String} {vs : Array Value} {Q : Unit → Shared → Prop} (ho : s.heap.get? it = some o) (hc : o.cls = .type n) (hd : o.data = .fields vs)
    (hn : ["enumerate", "zip", "dict_itemiterator", "dict_reverseitemiterator", "odict_iterator", "itertools.zip_longest", "itertools.pairwise"].contains n = false) (hQ : Q () s) : wpAny M A (letOwnedTupleGo tg (.ref it) u) Q E s := by
  unfold letOwnedTupleGo
  cases tg <;> first
    | exact wpAny_pure hQ
    | (cases u <;> first
        | exact wpAny_pure hQ
        | (refine wpAny_bind (wpAny_load ho ?_)
           rw [hc, hd]
           show wpAny M A (if (["enumerate", "zip", "dict_itemiterator", "dict_reverseitemiterator", "odict_iterator", "itertools.zip_longest", "itertools.pairwise"].contains n && vs[0]? == some (rawInt _)) = true then _ else _) Q E s
           rw [if_neg (by intro h; rw [hn, Bool.false_and] at h; cases h)]
           exact wpAny_pure hQ))

def Itl (K : PySem.W.Frag) (a : Addr) : It :=
  ⟨fun i H => ∃ xs x, SqL K H a xs ∧ xs[i]? = some x, fun i H x H' => H' = H ∧ ∀ xs, SqL K H a xs → xs[i]? = some x, fun i H => ∃ xs, SqL K H a xs ∧ xs.length ≤ i⟩
def Itr (lo : Int) (n : Nat) : It := ⟨fun i _ => i < n, fun i H x H' => H' = H ∧ x = .int (lo + i), fun i _ => n ≤ i⟩
theorem turn_list {P : Program} {w : World} {K : PySem.W.Frag} {tg : Expr} (a it : Addr) : Turn P w K tg (Itl K a) [it] it (fun i h => h.IsListIter it a i) where
  mem := by simp
  obj := fun i h st b hb => by
    have e : b = it := by simpa using hb
    subst e
    obtain ⟨o, e, c, d⟩ := st
    exact ⟨o, e, fun v z => by rw [d] at z; cases z⟩
  keep := fun i h h' st k => st.at fun o e => k it (by simp) o e
  item := by
    intro X hP hw hK hc i pins s σ H E I hf st hg
    subst hP hw hK
    obtain ⟨xs, x, hq, hx⟩ := hg
    obtain ⟨its, rv, p, hz⟩ := I.list hq
    obtain ⟨u, hu, ru⟩ := rv.get hx
    obtain ⟨f0, f1, f2, f3, f4, f5⟩ := hf it (by simp)
    refine wpAny_pyNext_list_item st p.isList (x := u) (by simpa using hu) fun h' st' sb => ?_
    have I1 : Inv X pins σ H { s with heap := h' } := I.turned (t' := s.toks) (fun b o hb e => (sb.2 b hb).trans e) f0 f1 f3 f4 f5
    obtain ⟨o, e, c, d⟩ := id st'
    exact ⟨u, rfl, go_of (s := { s with heap := h' }) e c d (by decide) ⟨x, H, I1, ru, ⟨rfl, fun ys hy => by rw [I.list_inj hy hq]; exact hx⟩, st', fun b hb => (hf b hb).1⟩⟩
  done := by
    intro X hP hw hK hc i pins s σ H E I hf st hg
    subst hP hw hK
    obtain ⟨xs, hq, hx⟩ := hg
    obtain ⟨its, rv, p, hz⟩ := I.list hq
    obtain ⟨f0, f1, f2, f3, f4, f5⟩ := hf it (by simp)
    have hl := rv.length
    exact wpAny_pyNext_list_end (I.ok.hd hc) st p.isList (by simp; omega) fun h' eb => ⟨rfl, I.turned (t' := s.toks) (fun b o hb e => eb b o hb e) f0 f1 f3 f4 f5⟩
  self := fun _ _ _ _ _ st h => wpAny_pyIter_listiter st h
theorem turn_range {P : Program} {w : World} {K : PySem.W.Frag} {tg : Expr} (it : Addr) (lo : Int) (n : Nat) : Turn P w K tg (Itr lo n) [it] it (fun i h => IsRangeIter h it (lo + (i : Nat) * 1) ((n : Int) - (i : Nat)) 1) where
  mem := by simp
  obj := fun i h st b hb => by
    have e : b = it := by simpa using hb
    subst e
    exact ⟨_, st, fun v z => by
      have z' : Data.fields _ = Data.cell v := z
      cases z'⟩
  keep := fun i h h' st k => k it (by simp) _ st
  item := by
    intro X hP hw hK hc i pins s σ H E I hf st hg
    subst hP hw hK
    obtain ⟨f0, f1, f2, f3, f4, f5⟩ := hf it (by simp)
    have W := Walks.range (prog := X.prog) (w := X.w) (I.ok.hd hc) it lo 1 n
    refine W.item i s _ _ hg st fun v h' tk hv st' kk => ?_
    obtain ⟨t, rfl⟩ := hv
    have I1 : Inv X pins σ H { s with heap := h', toks := tk } := I.turned (fun b o hb e => kk b o (by simpa using hb) e) f0 f1 f3 f4 f5
    refine ⟨_, rfl, go_of (s := { s with heap := h', toks := tk }) (n := "range_iterator") st' rfl rfl (by decide) ⟨.int (lo + i), H, I1, ⟨t, ?_⟩, ⟨rfl, rfl⟩, st', fun b hb => (hf b hb).1⟩⟩
    rw [Int.mul_one]
  done := by
    intro X hP hw hK hc i pins s σ H E I hf st hg
    subst hP hw hK
    obtain ⟨f0, f1, f2, f3, f4, f5⟩ := hf it (by simp)
    exact wpAny_pyNext_range_end (I.ok.hd hc) st (by have : n ≤ i := hg; omega) fun h' eb => ⟨rfl, I.turned (t' := s.toks) (fun b o hb e => eb b o hb e) f0 f1 f3 f4 f5⟩
  self := fun _ _ _ _ _ st h => wpAny_pyIter_rangeiter st h
end L2

namespace L2
open PySem PySem.Spec PyProof.Rows
section
variable {X : Cx} {tg : Expr}
def iList (K : PySem.W.Frag) (tl : TE) : TI := fun σ H R => tl σ H fun x H1 => ∃ a, x = .ref a ∧ (∃ xs, SqL K H1 a xs) ∧ R (Itl K a) H1
theorem pi_list {l : Expr} {tl : TE} (hl : PE X l tl) : PI X tg l (iList X.K tl) := by
  intro pins s σ H R I h
  refine thn (hl pins s σ H _ I h) fun v s1 ⟨x, H1, I1, r1, q1⟩ => ?_
  obtain ⟨a, e, ⟨xs, hq⟩, q⟩ := q1
  subst e
  cases r1
  obtain ⟨its, rv, p, hz⟩ := I1.list hq
  refine wpAny_pyIter_list p.isList ?_
  refine ⟨s1.heap.objs.size, [s1.heap.objs.size], _, _, H1, rfl, I1.kept (t' := s1.toks) fun b o e => Heap.get?_push_of_some _ e, turn_list a _, ⟨_, Heap.get?_push_size _ rfl, rfl, rfl⟩, fun b hb => ?_, q⟩
  have e : b = s1.heap.objs.size := by simpa using hb
  subst e
  exact I1.fpOk (Nat.le_refl _) (I1.hok.fresh (Nat.le_refl _))
theorem range_it {pins : List (Addr × Obj)} {σ : St} {H : Hp} {s : Shared} {R : It → Hp → Prop} {E : Value → Shared → Prop} {lo hi : Int} {t u v : Tok} {tk : Nat} (I : Inv X pins σ H s) (h1 : -(2 ^ 62) ≤ lo) (h2 : lo < 2 ^ 62) (h3 : -(2 ^ 62) ≤ hi) (h4 : hi < 2 ^ 62)
    (q : R (Itr lo (hi - lo).toNat) H) : wpAny (model X.prog X.w) X.A (pyIter (.ref s.heap.objs.size)) (PIE X pins σ tg R) E { s with heap := s.heap.push { cls := .type "range", data := .fields #[.int lo t, .int hi u, .int 1 v] }, toks := tk } := by
  refine wpAny_pyIter_range (IsRange.new ..) (small_one h1 h2 h3 h4) ?_
  have I1 : Inv X pins σ H { s with heap := s.heap.push { cls := .type "range", data := .fields #[.int lo t, .int hi u, .int 1 v] }, toks := tk } := I.kept fun b o e => Heap.get?_push_of_some _ e
  refine ⟨(s.heap.push { cls := .type "range", data := .fields #[.int lo t, .int hi u, .int 1 v] }).objs.size, [(s.heap.push { cls := .type "range", data := .fields #[.int lo t, .int hi u, .int 1 v] }).objs.size], _, _, H, rfl,
    I1.kept (t' := tk) fun b o e => Heap.get?_push_of_some _ e, turn_range _ lo (hi - lo).toNat, ?_, fun b hb => ?_, q⟩
  · have e1 : lo + ((0 : Nat) : Int) * 1 = lo := by simp
    have e2 : (((hi - lo).toNat : Nat) : Int) - ((0 : Nat) : Int) = Builtin.Range.rangeSize lo hi 1 := by rw [rangeSize_one]; split <;> omega
    show IsRangeIter _ _ (lo + ((0 : Nat) : Int) * 1) ((((hi - lo).toNat : Nat) : Int) - ((0 : Nat) : Int)) 1
    rw [e1, e2]
    exact Heap.get?_push_size _ rfl
  · have e : b = (s.heap.push { cls := .type "range", data := .fields #[.int lo t, .int hi u, .int 1 v] }).objs.size := by simpa using hb
    subst e
    exact I1.fpOk (Nat.le_refl _) (I1.hok.fresh (Nat.le_refl _))
def iRng1 (ta : TA) : TI := fun σ H R => ta σ H fun vs H1 => ∃ j : Int, vs = [.int j] ∧ -(2 ^ 62) ≤ j ∧ j < 2 ^ 62 ∧ R (Itr 0 j.toNat) H1
theorem pi_range1 {a : Expr} {ta : TA} {p pos : Pos} (hg : Gl X "range") (hm : X.mg "range" = none) (ha : PA X [a] ta) (hs : starEach [a] X.env = [(false, eval a X.env)] := by rfl) : PI X tg (.Call (.Name "range" p) [a] [] pos) (iRng1 ta) := by
  intro pins s σ H R I h
  refine Call_ (ld_blt I hg hm boot_range (PyProof.Rows.callWith_type1 (thn (ha pos pins s σ H _ I h) fun us s1 ⟨vs, H1, I1, r1, q1⟩ => ?_) hs rfl))
  obtain ⟨j, e, q1, q2, q⟩ := q1
  subst e
  cases r1 with
  | cons r rr =>
    cases rr
    obtain ⟨t, rfl⟩ := r
    exact call_range_1 (range_it I1 (by omega) (by omega) q1 q2 (by simpa using q))
def tFor (wi : TI) (g : TG) (tb : TS) : TS := fun D σ H => wi σ H fun J H1 => ∃ W : Nat → Nat → St → Hp → Prop, (∃ m, W 0 m σ H1) ∧ ∀ i m σ H, W i m σ H →
  (J.stop i H ∧ D.nx σ H) ∨ (J.go i H ∧ ∃ N : St → Hp → Prop, (∀ σ' H', N σ' H' → ∃ m', m' < m ∧ W (i + 1) m' σ' H') ∧ ∀ x H', J.yld i H x H' → g x σ H' fun σ2 H2 => tb { D with nx := N, ct := N, bk := D.nx } σ2 H2)
def pinsAt (fp : List Addr) (h : Heap) : List (Addr × Obj) := fp.filterMap fun b => (h.get? b).map fun o => (b, o)
theorem mem_pinsAt {fp : List Addr} {h : Heap} {b : Addr} {o : Obj} (hb : b ∈ fp) (e : h.get? b = some o) : (b, o) ∈ pinsAt fp h := List.mem_filterMap.mpr ⟨b, hb, by rw [e]; rfl⟩
theorem of_pinsAt {fp : List Addr} {h : Heap} {p : Addr × Obj} (hp : p ∈ pinsAt fp h) : p.1 ∈ fp ∧ h.get? p.1 = some p.2 := by
  obtain ⟨b, hb, e⟩ := List.mem_filterMap.mp hp
  cases q : h.get? b with
  | none => rw [q] at e; cases e
  | some o =>
    rw [q] at e
    have e' : (b, o) = p := Option.some.inj e
    subst e'
    exact ⟨hb, q⟩
theorem Inv.pinned {pins : List (Addr × Obj)} {σ : St} {H : Hp} {s : Shared} {fp : List Addr} (I : Inv X pins σ H s) (hf : ∀ b ∈ fp, FpOk X pins H b) (ho : ∀ b ∈ fp, ∃ o, s.heap.get? b = some o ∧ ∀ v, o.data ≠ .cell v) : Inv X (pins ++ pinsAt fp s.heap) σ H s :=
  I.pins_of fun p hp => (List.mem_append.mp hp).elim (fun z => I.pin p (List.mem_append_right _ z)) fun z => by
    obtain ⟨hb, e⟩ := of_pinsAt z
    obtain ⟨f0, f1, f2, _⟩ := hf p.1 hb
    obtain ⟨o, e', d⟩ := ho p.1 hb
    rw [e] at e'; cases e'
    exact ⟨e, f0, f1, f2, d⟩
theorem Inv.unpinned {pins pl : List (Addr × Obj)} {σ : St} {H : Hp} {s : Shared} (I : Inv X (pins ++ pl) σ H s) : Inv X pins σ H s := I.pins_of fun p hp => I.pin p (List.mem_append_right _ (List.mem_append_left _ hp))
theorem ps_for {iter : Expr} {body : List Stmt} {wi : TI} {g : TG} {tb : TS} {pos : Pos} (hp : PassesOwn (model X.prog X.w) X.A X.env X.xe) (hc : X.calm = true) (hi : PI X tg iter wi) (hg : PG X tg g) (hb : PSs X body tb)
    (hs : ∀ x, foldedSetIterable iter X.env x = pure x := by intro _; rfl) : PS X (.For tg iter body [] pos) (tFor wi g tb) := by
  intro pins s σ H D I h
  refine wpAny_For (thn (hi pins s σ H _ I h) fun v s1 h1 => thn h1 fun itv s2 h2 => ?_) hs
  obtain ⟨it, fp, tn, J, H2, e, I2, T, st2, f2, W, ⟨m0, w0⟩, turn⟩ := h2
  subst e
  -- what stays true of the iterator's objects through the loop
  have stat : ∀ {H' : Hp}, (∀ b ∈ fp, H' b = none) → ∀ b ∈ fp, FpOk X pins H' b := fun hn b hb => ⟨hn b hb, (f2 b hb).2⟩
  refine codeAny_forLoop_any (fun n s' => ∃ i σ' H', Inv X pins σ' H' s' ∧ tn i s'.heap ∧ (∀ b ∈ fp, H' b = none) ∧ W i n σ' H') ?_ m0 ⟨0, σ, H2, I2, st2, fun b hb => (f2 b hb).1, w0⟩
  rintro n s3 ⟨i, σ3, H3, I3, st3, fr3, w3⟩
  rcases turn i n σ3 H3 w3 with ⟨stop, qn⟩ | ⟨go, N, hN, step⟩
  · refine wpAny_passesOwn hp (thn (T.done X rfl rfl rfl hc i pins s3 σ3 H3 X.xe I3 (stat fr3) st3 stop) fun r s4 ⟨hr, I4⟩ => ?_)
    subst hr
    exact wpAny_execs_nil ⟨σ3, H3, I4, qn⟩
  · refine wpAny_passesOwn hp (thn (T.item X rfl rfl rfl hc i pins s3 σ3 H3 X.xe I3 (stat fr3) st3 go) fun r s4 ⟨u, hr, h4⟩ => ?_)
    subst hr
    refine wpAny_passesOwn hp (thn h4 fun _ s5 ⟨x, H5, I5, r5, y5, st5, fr5⟩ => ?_)
    have I5' := I5.pinned (stat fr5) (T.obj _ _ st5)
    refine wpAny_passesOwn hp (thn (hg _ s5 σ3 H5 x u _ I5' r5 (step x H5 y5)) fun _ s6 ⟨σ6, H6, I6, q6⟩ => ?_)
    refine wpAny_passesOwn hp (thn (hb _ s6 σ6 H6 _ I6 q6) fun f s7 q7 => ?_)
    have again : ∀ {σ7 : St} {H7 : Hp}, Inv X (pins ++ pinsAt fp s5.heap) σ7 H7 s7 → N σ7 H7 → ∃ m, m < n ∧ ∃ i σ' H', Inv X pins σ' H' s7 ∧ tn i s7.heap ∧ (∀ b ∈ fp, H' b = none) ∧ W i m σ' H' := fun {σ7 H7} I7 n7 => by
      obtain ⟨m', hm, w7⟩ := hN σ7 H7 n7
      refine ⟨m', hm, i + 1, σ7, H7, I7.unpinned, T.keep _ _ _ st5 fun b hb o e => (I7.pin (b, o) (List.mem_append_right _ (List.mem_append_right _ (mem_pinsAt hb e)))).1, fun b hb => ?_, w7⟩
      obtain ⟨o, e, d⟩ := T.obj _ _ st5 b hb
      exact (I7.pin (b, o) (List.mem_append_right _ (List.mem_append_right _ (mem_pinsAt hb e)))).2.1
    cases f with
    | next => obtain ⟨σ7, H7, I7, n7⟩ := q7; exact again I7 n7
    | cont => obtain ⟨σ7, H7, I7, n7⟩ := q7; exact again I7 n7
    | brk => obtain ⟨σ7, H7, I7, q7⟩ := q7; exact ⟨σ7, H7, I7.unpinned, q7⟩
    | ret v => obtain ⟨x7, σ7, H7, I7, r7, q7⟩ := q7; exact ⟨x7, σ7, H7, I7.unpinned, r7, q7⟩
end

theorem for_list {K : PySem.W.Frag} {a : Addr} {xs : List V} {g : TG} {tb : TS} {D : Ends} {σ : St} {H : Hp} (Pv : Nat → St → Hp → Prop) (h0 : Pv 0 σ H) (hl : ∀ i σ H, i ≤ xs.length → Pv i σ H → SqL K H a xs)
    (hs : ∀ i x σ H, xs[i]? = some x → Pv i σ H → g x σ H fun σ2 H2 => tb { D with nx := Pv (i + 1), ct := Pv (i + 1), bk := D.nx } σ2 H2) (hd : ∀ σ H, Pv xs.length σ H → D.nx σ H) :
    ∃ W : Nat → Nat → St → Hp → Prop, (∃ m, W 0 m σ H) ∧ ∀ i m σ H, W i m σ H →
      ((Itl K a).stop i H ∧ D.nx σ H) ∨ ((Itl K a).go i H ∧ ∃ N : St → Hp → Prop, (∀ σ' H', N σ' H' → ∃ m', m' < m ∧ W (i + 1) m' σ' H') ∧ ∀ x H', (Itl K a).yld i H x H' → g x σ H' fun σ2 H2 => tb { D with nx := N, ct := N, bk := D.nx } σ2 H2) := by
  refine ⟨fun i m σ H => m = xs.length - i ∧ i ≤ xs.length ∧ Pv i σ H, ⟨xs.length, by simp, Nat.zero_le _, h0⟩, ?_⟩
  rintro i m σ H ⟨rfl, hi, p⟩
  have q := hl i σ H hi p
  by_cases hlt : i < xs.length
  · refine .inr ⟨⟨xs, xs[i], q, by simp [hlt]⟩, Pv (i + 1), fun σ' H' p' => ⟨xs.length - (i + 1), by omega, rfl, hlt, p'⟩, fun x H' y => ?_⟩
    obtain ⟨e, y⟩ := y
    subst e
    exact hs i x σ _ (y xs q) p
  · have e : i = xs.length := by omega
    subst e
    exact .inl ⟨⟨xs, q, Nat.le_refl _⟩, hd σ H p⟩
end L2

namespace L2
open PySem PySem.Spec PyProof.Rows

abbrev R2 := V → V → Hp → VK → Prop
def OpR (X : Cx) (f : Value → Value → Sem Value) (r : R2) : Prop :=
  ∀ (pins : List (Addr × Obj)) (s : Shared) (σ : St) (H : Hp) (x y : V) (v u : Value) (Q : VK), Inv X pins σ H s → RelV x v → RelV y u → r x y H Q →
    wpAny (model X.prog X.w) X.A (f v u) (EP X pins σ Q) X.xe s
def UnR (X : Cx) (f : Value → Sem Value) (r : V → Hp → VK → Prop) : Prop :=
  ∀ (pins : List (Addr × Obj)) (s : Shared) (σ : St) (H : Hp) (x : V) (v : Value) (Q : VK), Inv X pins σ H s → RelV x v → r x H Q →
    wpAny (model X.prog X.w) X.A (f v) (EP X pins σ Q) X.xe s
def CallR (X : Cx) (f : Value) (r : List V → Hp → VK → Prop) : Prop :=
  ∀ (pins : List (Addr × Obj)) (s : Shared) (σ : St) (H : Hp) (xs : List V) (us : List Value) (Q : VK), Inv X pins σ H s → Vals xs us → r xs H Q →
    wpAny (model X.prog X.w) X.A (call f us) (EP X pins σ Q) X.xe s
def tOp (r : R2) (ta tb : TE) : TE := fun σ H Q => ta σ H fun x H1 => tb σ H1 fun y H2 => r x y H2 Q
def tUn (r : V → Hp → VK → Prop) (ta : TE) : TE := fun σ H Q => ta σ H fun x H1 => r x H1 Q
def rI (C : Int → Int → Prop) (g : Int → Int → V) : R2 := fun x y H Q => ∃ i j, x = .int i ∧ y = .int j ∧ C i j ∧ Q (g i j) H
def rI0 (g : Int → Int → V) : R2 := fun x y H Q => ∃ i j, x = .int i ∧ y = .int j ∧ Q (g i j) H
def rU (g : Int → V) : V → Hp → VK → Prop := fun x H Q => ∃ i, x = .int i ∧ Q (g i) H

section
variable {X : Cx} {a b c : Expr} {ta tb tc : TE} {pos : Pos}

theorem binT (ha : PE X a ta) (hb : PE X b tb) {pins : List (Addr × Obj)} {s : Shared} {σ : St} {H : Hp} {R : V → V → Hp → Prop} (I : Inv X pins σ H s)
    (h : ta σ H fun x H1 => tb σ H1 fun y H2 => R x y H2) {Q : Value → Shared → Prop} {f : Value → Value → Sem Value}
    (hf : ∀ v u s2 x y H2, Inv X pins σ H2 s2 → RelV x v → RelV y u → R x y H2 → wpAny (model X.prog X.w) X.A (f v u) Q X.xe s2) :
    wpAny (model X.prog X.w) X.A (eval a X.env) (fun v s₁ => wpAny (model X.prog X.w) X.A (eval b X.env) (fun u s₂ => wpAny (model X.prog X.w) X.A (f v u) Q X.xe s₂) X.xe s₁) X.xe s := by
  refine thn (ha pins s σ H _ I h) fun v s1 ⟨x, H1, I1, r1, q1⟩ => ?_
  refine thn (hb pins s1 σ H1 _ I1 q1) fun u s2 ⟨y, H2, I2, r2, q2⟩ => ?_
  exact hf v u s2 x y H2 I2 r1 r2 q2

theorem pe_op {op : Operator} {r : R2} (ho : OpR X (binaryOp op) r) (ha : PE X a ta) (hb : PE X b tb) : PE X (.BinOp a op b pos) (tOp r ta tb) := by
  intro pins s σ H Q I h
  exact wpAny_BinOp (binT ha hb I h fun v u s2 x y H2 I2 rx ry q => ho pins s2 σ H2 x y v u Q I2 rx ry q)
theorem pe_un {op : UnaryOp} {r : V → Hp → VK → Prop} (ho : UnR X (unaryOp op) r) (ha : PE X a ta) : PE X (.UnaryOp op a pos) (tUn r ta) := by
  intro pins s σ H Q I h
  exact UnaryOp_ (thn (ha pins s σ H _ I h) fun v s1 ⟨x, H1, I1, r1, q1⟩ => ho pins s1 σ H1 x v Q I1 r1 q1)
theorem opI {f : Value → Value → Sem Value} {C : Int → Int → Prop} {g : Int → Int → Int}
    (rule : ∀ (i j : Int) (t u : Tok) (s : Shared) (Q : Value → Shared → Prop) (E : Value → Shared → Prop), C i j → Q (.int (g i j) s.toks) { s with toks := s.toks + 1 } → wpAny (model X.prog X.w) X.A (f (.int i t) (.int j u)) Q E s) :
    OpR X f (rI C fun i j => .int (g i j)) := by
  intro pins s σ H x y v u Q I rx ry h
  obtain ⟨i, j, rfl, rfl, hc, q⟩ := h
  obtain ⟨t, rfl⟩ := rx
  obtain ⟨t', rfl⟩ := ry
  exact rule i j t t' s _ _ hc ⟨.int (g i j), H, I.tok _, ⟨_, rfl⟩, q⟩
theorem opI0 {f : Value → Value → Sem Value} {g : Int → Int → Int}
    (rule : ∀ (i j : Int) (t u : Tok) (s : Shared) (Q : Value → Shared → Prop) (E : Value → Shared → Prop), Q (.int (g i j) s.toks) { s with toks := s.toks + 1 } → wpAny (model X.prog X.w) X.A (f (.int i t) (.int j u)) Q E s) :
    OpR X f (rI0 fun i j => .int (g i j)) := by
  intro pins s σ H x y v u Q I rx ry h
  obtain ⟨i, j, rfl, rfl, q⟩ := h
  obtain ⟨t, rfl⟩ := rx
  obtain ⟨t', rfl⟩ := ry
  exact rule i j t t' s _ _ ⟨.int (g i j), H, I.tok _, ⟨_, rfl⟩, q⟩
theorem opB0 {f : Value → Value → Sem Value} {g : Int → Int → Bool}
    (rule : ∀ (i j : Int) (t u : Tok) (s : Shared) (Q : Value → Shared → Prop) (E : Value → Shared → Prop), Q (.bool (g i j)) s → wpAny (model X.prog X.w) X.A (f (.int i t) (.int j u)) Q E s) :
    OpR X f (rI0 fun i j => .bl (g i j)) := by
  intro pins s σ H x y v u Q I rx ry h
  obtain ⟨i, j, rfl, rfl, q⟩ := h
  obtain ⟨t, rfl⟩ := rx
  obtain ⟨t', rfl⟩ := ry
  exact rule i j t t' s _ _ ⟨.bl (g i j), H, I, rfl, q⟩

def CDiv (i j : Int) : Prop := 0 < j ∧ j < 1073741824
def CPow (i j : Int) : Prop := 0 ≤ j ∧ j ≤ 1000000 ∧ i.natAbs < 2 ^ 64
def CMul (i j : Int) : Prop := (-(2 ^ 64) < i ∧ i < 2 ^ 64) ∨ (-(2 ^ 64) < j ∧ j < 2 ^ 64)
theorem CMul.ok {i j : Int} (h : CMul i j) : IntMulOk i j := by
  rcases h with ⟨h1, h2⟩ | ⟨h1, h2⟩
  · exact .of_left (intBits_le_64 h1 h2)
  · exact .of_right (intBits_le_64 h1 h2)
theorem op_add : OpR X (binaryOp .Add) (rI0 fun i j => .int (i + j)) := opI0 fun _ _ _ _ _ _ _ q => add_int q
theorem op_sub : OpR X (binaryOp .Sub) (rI0 fun i j => .int (i - j)) := opI0 fun _ _ _ _ _ _ _ q => sub_int q
theorem op_mul : OpR X (binaryOp .Mult) (rI CMul fun i j => .int (i * j)) := opI fun _ _ _ _ _ _ _ hc q => mul_int q hc.ok
theorem op_fdiv : OpR X (binaryOp .FloorDiv) (rI CDiv fun i j => .int (i / j)) := opI fun i j _ _ _ _ _ hc q => by
  have h1 : (0 : Int) < j := hc.1
  have h2 : j < 1073741824 := hc.2
  exact floordiv_int (by omega) (by rw [Int.fdiv_eq_ediv_of_nonneg i (by omega)]; exact q) (.inl (PyProof.noPylong_small (by omega)))
theorem op_mod : OpR X (binaryOp .Mod) (rI (fun _ j => 0 < j) fun i j => .int (i % j)) := opI fun i j _ _ _ _ _ hc q => by
  have h1 : (0 : Int) < j := hc
  exact mod_int' (by omega) (by rw [Int.fmod_eq_emod_of_nonneg i (by omega)]; exact q)
theorem op_pow : OpR X (binaryOp .Pow) (rI CPow fun i j => .int (i ^ j.toNat)) := opI fun _ _ _ _ _ _ _ hc q => pow_int_small hc.1 hc.2.1 hc.2.2 q
theorem unI {f : Value → Sem Value} {g : Int → Int}
    (rule : ∀ (i : Int) (t : Tok) (s : Shared) (Q : Value → Shared → Prop) (E : Value → Shared → Prop), Q (.int (g i) s.toks) { s with toks := s.toks + 1 } → wpAny (model X.prog X.w) X.A (f (.int i t)) Q E s) :
    UnR X f (rU fun i => .int (g i)) := by
  intro pins s σ H x v Q I rx h
  obtain ⟨i, rfl, q⟩ := h
  obtain ⟨t, rfl⟩ := rx
  exact rule i t s _ _ ⟨.int (g i), H, I.tok _, ⟨_, rfl⟩, q⟩
theorem un_neg : UnR X (unaryOp .USub) (rU fun i => .int (-i)) := unI fun _ _ _ _ _ q => neg_int q
end

def scal : V → V → Bool
  | .non, .non => true | .non, .int _ => true | .int _, .non => true | .non, .bl _ => true | .bl _, .non => true | .non, .str _ => true | .str _, .non => true
  | .int _, .int _ => true | .bl _, .bl _ => true | .str _, .str _ => true | .byt _, .byt _ => true
  | .int _, .str _ => true | .str _, .int _ => true | .bl _, .str _ => true | .str _, .bl _ => true
  | _, _ => false
def rEq : R2 := fun x y H Q => scal x y = true ∧ Q (.bl (decide (x = y))) H
theorem dec_int {i j : Int} : decide (V.int i = V.int j) = (i == j) := by
  rw [Bool.eq_iff_iff]
  simp
theorem dec_bl {i j : Bool} : decide (V.bl i = V.bl j) = (i == j) := by
  rw [Bool.eq_iff_iff]
  simp
theorem dec_str {i j : Str} : decide (V.str i = V.str j) = (i == j) := by
  rw [Bool.eq_iff_iff]
  simp
theorem dec_byt {i j : Array UInt8} : decide (V.byt i = V.byt j) = (i.toList == j.toList) := by
  rw [Bool.eq_iff_iff]
  cases i
  cases j
  simp

section
variable {X : Cx} {a b c : Expr} {ta tb tc : TE} {pos : Pos}
theorem fin_bl {pins : List (Addr × Obj)} {σ : St} {H : Hp} {s : Shared} {Q : VK} {k k' : Bool} (I : Inv X pins σ H s) (q : Q (.bl k) H) (e : k = k') : EP X pins σ Q (.bool k') s := by
  subst e
  exact ⟨.bl k, H, I, rfl, q⟩
theorem op_eq : OpR X (compareOp .Eq) rEq := by
  intro pins s σ H x y v u Q I rx ry h
  obtain ⟨hs, q⟩ := h
  cases x with
  | non =>
    cases rx
    cases y with
    | non => cases ry; exact PySem.EqNone.eq_none_none (fin_bl I q (by simp))
    | bl j => cases ry; exact PySem.EqNone.eq_none_bool (fin_bl I q (by simp))
    | int j => obtain ⟨t', rfl⟩ := ry; exact PySem.EqNone.eq_none_int (fin_bl I q (by simp))
    | str j => obtain ⟨t', rfl⟩ := ry; exact PySem.EqNone.eq_none_str (fin_bl I q (by simp))
    | _ => exact absurd (show false = true from hs) Bool.false_ne_true
  | bl i =>
    cases rx
    cases y with
    | non => cases ry; exact PySem.EqNone.eq_bool_none (fin_bl I q (by simp))
    | bl j => cases ry; exact eq_bool (fin_bl I q dec_bl)
    | str j => obtain ⟨t', rfl⟩ := ry; exact PySem.EqMixed.eq_bool_str (fin_bl I q (by simp))
    | _ => exact absurd (show false = true from hs) Bool.false_ne_true
  | int i =>
    obtain ⟨t, rfl⟩ := rx
    cases y with
    | non => cases ry; exact PySem.EqNone.eq_int_none (fin_bl I q (by simp))
    | int j => obtain ⟨t', rfl⟩ := ry; exact eq_int (fin_bl I q dec_int)
    | str j => obtain ⟨t', rfl⟩ := ry; exact PySem.EqMixed.eq_int_str (fin_bl I q (by simp))
    | _ => exact absurd (show false = true from hs) Bool.false_ne_true
  | str i =>
    obtain ⟨t, rfl⟩ := rx
    cases y with
    | non => cases ry; exact PySem.EqNone.eq_str_none (fin_bl I q (by simp))
    | bl j => cases ry; exact PySem.EqMixed.eq_str_bool (fin_bl I q (by simp))
    | int j => obtain ⟨t', rfl⟩ := ry; exact PySem.EqMixed.eq_str_int (fin_bl I q (by simp))
    | str j => obtain ⟨t', rfl⟩ := ry; exact eq_str (fin_bl I q dec_str)
    | _ => exact absurd (show false = true from hs) Bool.false_ne_true
  | byt i =>
    obtain ⟨t, rfl⟩ := rx
    cases y with
    | byt j => obtain ⟨t', rfl⟩ := ry; exact PySem.W.eq_bytes (fin_bl I q dec_byt)
    | _ => exact absurd (show false = true from hs) Bool.false_ne_true
  | _ => cases y <;> exact absurd (show false = true from hs) Bool.false_ne_true
theorem op_lt : OpR X (compareOp .Lt) (rI0 fun i j => .bl (decide (i < j))) := opB0 fun _ _ _ _ _ _ _ q => lt_int q
theorem op_le : OpR X (compareOp .LtE) (rI0 fun i j => .bl (decide (i ≤ j))) := opB0 fun _ _ _ _ _ _ _ q => le_int q
theorem op_gt : OpR X (compareOp .Gt) (rI0 fun i j => .bl (decide (j < i))) := opB0 fun _ _ _ _ _ _ _ q => gt_int q
theorem op_in_str : OpR X (compareOp .In) (fun x y H Q => ∃ i j, x = .str i ∧ y = .str j ∧ Q (.bl (!(Builtin.Str.occurrences j i 0 j.length 1).isEmpty)) H) := by
  intro pins s σ H x y v u Q I rx ry h
  obtain ⟨i, j, rfl, rfl, q⟩ := h
  obtain ⟨t, rfl⟩ := rx
  obtain ⟨t', rfl⟩ := ry
  exact in_str (fin_bl I q rfl)

theorem nomark (b : Expr) {op : CmpOp} (h : op ≠ .In := by decide) (h2 : op ≠ .NotIn := by decide) : behindInMarks op b = false := by
  have e1 : (op == CmpOp.In) = false := by cases op <;> first | rfl | exact absurd rfl h
  have e2 : (op == CmpOp.NotIn) = false := by cases op <;> first | rfl | exact absurd rfl h2
  cases b <;> simp [behindInMarks, e1, e2]
theorem pe_cmpR {op : CmpOp} {r : R2} (ho : OpR X (compareOp op) r) (ha : PE X a ta) (hb : PE X b tb) (hm : behindInMarks op b = false) : PE X (.Compare a [op] [b] pos) (tOp r ta tb) := by
  intro pins s σ H Q I h
  exact wpAny_Compare1 (binT ha hb I h fun v u s2 x y H2 I2 rx ry q => ho pins s2 σ H2 x y v u Q I2 rx ry q) hm
def tTest (t : TE) : TT := fun σ H Q => t σ H fun x H' => ∃ k, x = .bl k ∧ Q k H'
theorem pt_cmpR {op : CmpOp} {r : R2} (ho : OpR X (compareOp op) r) (ha : PE X a ta) (hb : PE X b tb) (hm : behindInMarks op b = false) : PT X (.Compare a [op] [b] pos) (tTest (tOp r ta tb)) := by
  intro pins s σ H Q I h
  refine wpAny_isTrue_Compare1 (thn (ha pins s σ H _ I h) fun v s1 ⟨x, H1, I1, r1, q1⟩ => thn (hb pins s1 σ H1 _ I1 q1) fun u s2 ⟨y, H2, I2, r2, q2⟩ =>
    thn (ho pins s2 σ H2 x y v u _ I2 r1 r2 q2) fun c s3 ⟨z, H3, I3, r3, k, e, q3⟩ => ?_) hm
  subst e
  cases r3
  exact wpAny_truthy_bool ⟨H3, I3, q3⟩
theorem line63 : (sizeLine : Nat) < 2 ^ 63 := by rw [sizeLine_eq]; decide
theorem op_add_str : OpR X (binaryOp .Add) (fun x y H Q => ∃ i j, x = .str i ∧ y = .str j ∧ i.length + j.length ≤ sizeLine ∧ Q (.str (i ++ j)) H) := by
  intro pins s σ H x y v u Q I rx ry h
  obtain ⟨i, j, rfl, rfl, hz, q⟩ := h
  obtain ⟨t, rfl⟩ := rx
  obtain ⟨t', rfl⟩ := ry
  exact add_str (fun t' tk => ⟨.str (i ++ j), H, I.tok _, ⟨_, rfl⟩, q⟩) hz
theorem vals1 {x : V} {us : List Value} (r : Vals [x] us) : ∃ u, us = [u] ∧ RelV x u := by
  cases r with
  | cons r1 r2 => cases r2; exact ⟨_, rfl, r1⟩
theorem vals2 {x y : V} {us : List Value} (r : Vals [x, y] us) : ∃ u w', us = [u, w'] ∧ RelV x u ∧ RelV y w' := by
  cases r with
  | cons r1 r2 =>
    cases r2 with
    | cons r3 r4 => cases r4; exact ⟨_, _, rfl, r1, r3⟩
theorem call_max2 (hc : X.calm = true) : CallR X (.builtin "max") (fun xs H Q => ∃ i j, xs = [.int i, .int j] ∧ Q (.int (if j > i then j else i)) H) := by
  intro pins s σ H xs us Q I r h
  obtain ⟨i, j, rfl, q⟩ := h
  obtain ⟨u, w', rfl, ⟨t, rfl⟩, ⟨t', rfl⟩⟩ := vals2 r
  refine max_two_ints (I.ok.hd hc) fun h' tk k => ⟨_, H, I.kept k, ?_, q⟩
  by_cases hj : j > i
  · rw [if_pos hj, if_pos hj]; exact ⟨_, rfl⟩
  · rw [if_neg hj, if_neg hj]; exact ⟨_, rfl⟩
theorem call_min2 (hc : X.calm = true) : CallR X (.builtin "min") (fun xs H Q => ∃ i j, xs = [.int i, .int j] ∧ Q (.int (if j < i then j else i)) H) := by
  intro pins s σ H xs us Q I r h
  obtain ⟨i, j, rfl, q⟩ := h
  obtain ⟨u, w', rfl, ⟨t, rfl⟩, ⟨t', rfl⟩⟩ := vals2 r
  refine min_two_ints (I.ok.hd hc) fun h' tk k => ⟨_, H, I.kept k, ?_, q⟩
  by_cases hj : j < i
  · rw [if_pos hj, if_pos hj]; exact ⟨_, rfl⟩
  · rw [if_neg hj, if_neg hj]; exact ⟨_, rfl⟩
theorem call_str_int : CallR X (.type "str") (fun xs H Q => ∃ i, xs = [.int i] ∧ i.natAbs.log2 < 1920 ∧ Q (.str (toString i)) H) := by
  intro pins s σ H xs us Q I r h
  obtain ⟨i, rfl, hz, q⟩ := h
  obtain ⟨u, rfl, t, rfl⟩ := vals1 r
  exact PySem.P.str_of_int hz ⟨.str _, H, I.tok _, ⟨_, rfl⟩, q⟩
end
end L2

namespace L2
open PySem PySem.Spec PyProof.Rows

section
variable {prog : Program} {w : World} {A : Around} {E : Value → Shared → Prop} {s : Shared} {K : PySem.W.Frag} {x dx C f : Addr} {mA : Str → Option Value} {name : Str} {v : Value}

end

section
variable {P : Program} {w : World} {H H' : Hp} {h h' : Heap} {a C dx : Addr} {fs fs' : List (Str × V)}
end

structure Cls (K : PySem.W.Frag) (C : Addr) : Prop where
  pg : PySem.W.plainGet K C Str.empty = true
  hd : PySem.W.hasDictIn K C = true
  po : PySem.W.plainOver K C = true
  sa : PySem.W.findIn K (.ref C) "__setattr__" = some (some (.builtin "object.__setattr__"))
theorem Cls.get {K : PySem.W.Frag} {C : Addr} (c : Cls K C) (f : Str) : PySem.W.plainGet K C f = true := c.pg
section
variable {X : Cx} {pins : List (Addr × Obj)} {σ : St} {H : Hp} {s : Shared} {a C dx : Addr} {fs : List (Str × V)} {f : Str} {v : V} {A : Around} {E : Value → Shared → Prop}

end

section
variable {X : Cx} {o e value : Expr} {f : Str} {pos pos' tpos : Pos} {ta tv : TE}
end

section
variable {X : Cx} {pins : List (Addr × Obj)} {σ : St} {H : Hp} {s : Shared} {A : Around} {E : Value → Shared → Prop} {Q : Value → Shared → Prop} {c : Value} {b : Bool}
end
end L2

namespace L2
open PySem PySem.Spec PyProof.Rows

structure Room (k : Nat) (A : Around) : Prop where
  hd : A.handled = none
  dp : A.depth + 3 * k + 5 < recursionLimit
  un : A.units + 16 * k + 200 < cLine
theorem Room.mono {j k : Nat} {A : Around} (r : Room k A) (h : j ≤ k) : Room j A := ⟨r.hd, by have := r.dp; omega, by have := r.un; omega⟩
theorem Room.deeper {k : Nat} {A : Around} (r : Room (k + 1) A) (env : Env) : Room k (A.deeper env) :=
  ⟨r.hd, by have := r.dp; show A.depth + 1 + 3 * k + 5 < _; omega, by have := r.un; show A.units + 3 + 16 * k + 200 < _; omega⟩
theorem Room.depth {k : Nat} {A : Around} (r : Room k A) : A.depth < recursionLimit := by have := r.dp; omega
theorem Room.units {k : Nat} {A : Around} (r : Room k A) : A.units + 64 < cLine := by have := r.un; omega
def tNil : TA := fun _ H Q => Q [] H
def tCons (ta : TE) (tr : TA) : TA := fun σ H Q => ta σ H fun x H1 => tr σ H1 fun xs H2 => Q (x :: xs) H2
section
variable {X : Cx} {e : Expr} {es : List Expr} {te : TE} {t : TA} {pos : Pos}
theorem pa_nil : PA X [] tNil := fun _ _ _ _ H Q I h => Calls.spliced_nil ⟨[], H, I, .nil, h⟩
theorem pa_cons (ha : PE X e te) (hr : PA X es t) (hs : starEach (e :: es) X.env = (false, eval e X.env) :: starEach es X.env := by rfl) : PA X (e :: es) (tCons te t) := by
  intro pos pins s σ H Q I h
  rw [hs]
  show wpAny _ _ (spliced ((false, eval e X.env) :: backTo pos (starEach es X.env))) _ _ s
  refine Calls.spliced_cons (thn (ha pins s σ H _ I h) fun u s1 ⟨x, H1, I1, r1, q1⟩ => ?_)
  exact thn (hr pos pins s1 σ H1 _ I1 q1) fun us s2 ⟨xs, H2, I2, r2, q2⟩ => ⟨x :: xs, H2, I2, .cons r1 r2, q2⟩

def tTup (t : TA) : TE := fun σ H Q => t σ H fun xs H1 => xs.length ≤ sizeLine ∧ ∀ p, H1 p = none → Q (.ref p) (upd H1 p (.tup xs))
def tLst (t : TA) : TE := fun σ H Q => t σ H fun xs H1 => xs.length ≤ sizeLine ∧ ∀ p, H1 p = none → Q (.ref p) (upd H1 p (.lst xs))
theorem pe_tup {x1} (h : PA X es t) : PE X (.Tuple es x1 pos) (tTup t) := by
  intro pins s σ H Q I hq
  refine wpAny_Tuple_spliced (thn (h pos pins s σ H _ I hq) fun us s1 ⟨xs, H1, I1, r, z, q⟩ => ⟨by rw [← r.length]; exact z, ?_⟩)
  have hf : H1 s1.heap.objs.size = none := I1.hok.fresh (Nat.le_refl _)
  refine ⟨.ref s1.heap.objs.size, upd H1 s1.heap.objs.size (.tup xs), I1.laid (t' := s1.toks) (fun b u e => Heap.get?_push_of_some _ e) (Nat.le_refl _) ?_, rfl, q _ hf⟩
  exact ⟨z, us, r, ⟨_, Heap.get?_push_size _ rfl, rfl, _, rfl⟩⟩
theorem pe_lst (h : PA X es t) : PE X (.List es pos) (tLst t) := by
  intro pins s σ H Q I hq
  refine wpAny_List_spliced (thn (h pos pins s σ H _ I hq) fun us s1 ⟨xs, H1, I1, r, z, q⟩ => ⟨by rw [← r.length]; exact z, ?_⟩)
  have hf : H1 s1.heap.objs.size = none := I1.hok.fresh (Nat.le_refl _)
  refine ⟨.ref s1.heap.objs.size, upd H1 s1.heap.objs.size (.lst xs), I1.laid (t' := s1.toks) (fun b u e => Heap.get?_push_of_some _ e) (Nat.le_refl _) ?_, rfl, q _ hf⟩
  exact ⟨z, us, 0, r, Heap.get?_push_size _ rfl⟩
end

abbrev Sp := List V → Hp → VK → XK → Prop
abbrev CXT := List Env → Hp → Shared → XK → Value → Shared → Prop

structure Env0 (P : Program) (w : World) (K : PySem.W.Frag) (mg : Str → Option Value) (base : Heap) (A : Around) (outer : List Env) (s : Shared) (H : Hp) : Prop where
  frames : A.frames = some outer
  mod : Mod K mg base
  bs : ∀ b o, base.get? b = some o → s.heap.get? b = some o ∧ H b = none
  bsz : base.objs.size ≤ s.heap.objs.size
  funs : s.heap.FunFrames base outer
  frf : ∀ b ∈ frs outer, H b = none
  hok : HOk P w H s.heap
  bare : AllBare s.gens
def CE (outer : List Env) (P : Program) (w : World) (H : Hp) (s : Shared) (Q : VK) (u : Value) (s' : Shared) : Prop :=
  ∃ v H', s'.os = s.os ∧ AllBare s'.gens ∧ Un (frs outer) [] H H' s.heap s'.heap ∧ HOk P w H' s'.heap ∧ RelV v u ∧ Q v H'
def CR (CX : CXT) (outer : List Env) (P : Program) (w : World) (H : Hp) (s : Shared) (Q : VK) (E : XK) (r : Result) (s' : Shared) : Prop :=
  match r with
  | .ok (.ret u) => CE outer P w H s Q u s'
  | .ok _ => False
  | .error e => CX outer H s E e s'
structure FnOk (P : Program) (w : World) (K : PySem.W.Frag) (mg : Str → Option Value) (base : Heap) (CX : CXT) (k : Nat) (f : Addr) (fd : FuncData) (ps : List Str) (sp : Sp) : Prop where
  len : ∀ vs H Q E, sp vs H Q E → vs.length = ps.length
  run : ∀ (A : Around) (outer : List Env) (s : Shared) (H : Hp) (args : Args) (us : List Value) (vs : List V) (Q : VK) (E : XK), Room k A → Env0 P w K mg base A outer s H → BindsTo s fd args (ps.zip us) → Vals vs us → sp vs H Q E →
    codeAny (model P w) A (.call (.ref f) args) (CR CX outer P w H s Q E) s
theorem FnOk.mono {P : Program} {w : World} {K : PySem.W.Frag} {mg : Str → Option Value} {base : Heap} {CX : CXT} {j k : Nat} {f : Addr} {fd : FuncData} {ps : List Str} {sp : Sp} (F : FnOk P w K mg base CX j f fd ps sp) (h : j ≤ k) :
    FnOk P w K mg base CX k f fd ps sp := ⟨F.len, fun A outer s H args us vs Q E hr => F.run A outer s H args us vs Q E (hr.mono h)⟩
section
variable {X : Cx} {pins : List (Addr × Obj)} {σ : St} {H : Hp} {s s' : Shared}
theorem Inv.env0 (I : Inv X pins σ H s) : Env0 X.prog X.w X.K X.mg X.base X.A X.stack s H :=
  ⟨I.ok.frames, I.ok.mod, I.bs, Nat.le_trans I.ok.bsz I.sz, I.stack, I.stkFree, I.hok, I.bare⟩
theorem Inv.after {Q : VK} {u : Value} (I : Inv X pins σ H s) (h : CE X.stack X.prog X.w H s Q u s') : EP X pins σ Q u s' := by
  obtain ⟨v, H', os, bare, un, hok, r, q⟩ := h
  obtain ⟨hh, g, d, t, os'⟩ := s'
  obtain rfl : os' = s.os := os
  exact ⟨v, H', I.call (h' := hh) (g' := g) (d' := d) (t' := t) (ch := []) un hok bare (fun b z => absurd z (by simp)), r, q⟩
end

def tCall (sp : Sp) (dvs : List V) (E : XK) (t : TA) : TE := fun σ H Q => t σ H fun vs H1 => sp (vs ++ dvs) H1 Q E
def Binds (K : PySem.W.Frag) (fd : FuncData) (ps : List Str) (ds : List Value) : Prop :=
  ∀ (s : Shared) (us : List Value), K.In s.heap → (us ++ ds).length = ps.length → BindsTo s fd ⟨us, []⟩ (ps.zip (us ++ ds))
theorem Binds.all {K : PySem.W.Frag} {fd : FuncData} {ps : List Str} (h : ∀ us : List Value, us.length = ps.length → bindArgs fd ⟨us, []⟩ = pure (ps.zip us)) : Binds K fd ps [] := fun s us _ hl => by
  rw [List.append_nil] at hl ⊢
  exact .of_eq (h us hl)

def Passes (CX : CXT) (X : Cx) (E : XK) : Prop := ∀ (pins : List (Addr × Obj)) (σ : St) (H : Hp) (s : Shared) (e : Value) (s' : Shared), Inv X pins σ H s → CX X.stack H s E e s' → X.xe e s'

section
variable {X : Cx} {CX : CXT} {k : Nat} {f C : Addr} {fd : FuncData} {ps : List Str} {sp : Sp} {dvs : List V} {ds : List Value} {E : XK} {x m : Str} {p pos apos : Pos} {e o : Expr} {es : List Expr} {ta : TE} {t : TA}

theorem run_fn {pins : List (Addr × Obj)} {σ : St} {H : Hp} {s : Shared} {Q : VK} {us : List Value} {vs : List V} (F : FnOk X.prog X.w X.K X.mg X.base CX k f fd ps sp) (hr : Room k X.A) (hb : Binds X.K fd ps ds) (hd : Vals dvs ds) (hx : Passes CX X E)
    (I : Inv X pins σ H s) (r : Vals vs us) (h : sp (vs ++ dvs) H Q E) : wpAny (model X.prog X.w) X.A (call (.ref f) us) (EP X pins σ Q) X.xe s := by
  have r2 : Vals (vs ++ dvs) (us ++ ds) := r.append hd
  have hl : (us ++ ds).length = ps.length := by rw [← r2.length]; exact F.len _ _ _ _ h
  refine wpAny_call (codeAny_mono (F.run X.A X.stack s H ⟨us, []⟩ (us ++ ds) (vs ++ dvs) Q E hr I.env0 (hb s us I.kIn hl) r2 h) fun r s' hq => ?_)
  cases r with
  | error e => exact hx pins σ H s e s' I hq
  | ok fl =>
    cases fl with
    | ret u => exact I.after hq
    | next => exact False.elim hq
    | brk => exact False.elim hq
    | cont => exact False.elim hq

theorem pe_call (F : FnOk X.prog X.w X.K X.mg X.base CX k f fd ps sp) (hr : Room k X.A) (hg : Gl X x) (hm : X.mg x = some (.ref f)) (hk : PySem.W.keepIn X.K (.ref f) = true) (hb : Binds X.K fd ps ds) (hd : Vals dvs ds) (hx : Passes CX X E)
    (ha : PA X (e :: es) t) (hdb : (x == ("__debug__" : Str)) = false := by decide) (he : starEach (e :: es) X.env = (false, eval e X.env) :: starEach es X.env := by rfl) (hpl : (backTo pos (starEach es X.env)).any (·.1) = false := by rfl) :
    PE X (.Call (.Name x p) (e :: es) [] pos) (tCall sp dvs E t) := by
  intro pins s σ H Q I h
  refine wpAny_Call_Name_kw (ld_glob I hg hm ?_ hdb)
  refine PySem.W.callWith_K (h₀ := X.base) I.ok.mod.kin hk (thn (ha pos pins s σ H _ I h) fun us s1 ⟨vs, H1, I1, r, q⟩ => ⟨I1.kIn, ?_⟩) he hpl
  exact run_fn F hr hb hd hx I1 r q
end

section
variable {X : Cx} {CX : CXT} {k : Nat} {f C : Addr} {fd : FuncData} {ps ks : List Str} {sp : Sp} {E : XK} {x m : Str} {p pos apos kpos : Pos} {e o : Expr} {es : List Expr} {kws : List Keyword} {te ta : TE} {t tk : TA} {nm : Option Str}
variable {g : List Value → List Value → List Value} {gV : List V → List V → List V}
end

structure FnScope (N P : List Str) (sc : Scope) : Prop where
  kind : sc.kind = .function
  co : sc.isCoroutine = false
  gen : sc.isGenerator = false
  nd : N.Nodup
  pre : N.take P.length = P
  par : ∀ x ∈ P, sc.names.lookup x = some .local ∨ sc.names.lookup x = some .cell
  nofree : ∀ y ∈ sc.names, y.2 ≠ .free

theorem bindL_out {kindOf : Str → Option NameKind} {x : Str} : ∀ {binds : List (Str × Value)} {m : Str → Option Value}, (∀ v, (x, v) ∉ binds) → bindL kindOf binds m x = m x
  | [], _, _ => rfl
  | (n, v) :: r, m, h => by
    unfold bindL
    rw [bindL_out fun w hw => h w (List.mem_cons_of_mem _ hw)]
    split
    · have : x ≠ n := by rintro rfl; exact h v List.mem_cons_self
      simp [this]
    · rfl
theorem bindC_out {kindOf : Str → Option NameKind} {x : Str} : ∀ {binds : List (Str × Value)} {m : Str → Option Value}, (∀ v, (x, v) ∉ binds) → bindC kindOf binds m x = m x
  | [], _, _ => rfl
  | (n, v) :: r, m, h => by
    unfold bindC
    rw [bindC_out fun w hw => h w (List.mem_cons_of_mem _ hw)]
    split
    · rfl
    · have : x ≠ n := by rintro rfl; exact h v List.mem_cons_self
      simp [this]
theorem bindL_get {kindOf : Str → Option NameKind} {x : Str} {v : Value} : ∀ {P : List Str} {vs : List Value} {i : Nat} {m : Str → Option Value}, P.Nodup → P[i]? = some x → vs[i]? = some v → kindOf x = some .local →
    bindL kindOf (P.zip vs) m x = some v
  | [], _, _, _, _, h, _, _ => by simp at h
  | _ :: _, [], _, _, _, _, h, _ => by simp at h
  | p :: P, w :: vs, 0, m, nd, h1, h2, hk => by
    simp at h1 h2; subst h1; subst h2
    show bindL kindOf ((p, w) :: P.zip vs) m p = _
    unfold bindL
    rw [bindL_out fun v hv => (List.nodup_cons.mp nd).1 (List.of_mem_zip hv).1, if_pos hk]
    simp
  | p :: P, w :: vs, i + 1, m, nd, h1, h2, hk => by
    show bindL kindOf ((p, w) :: P.zip vs) m x = _
    unfold bindL
    exact bindL_get (i := i) (List.nodup_cons.mp nd).2 (by simpa using h1) (by simpa using h2) hk
theorem bindC_get {kindOf : Str → Option NameKind} {x : Str} {v : Value} : ∀ {P : List Str} {vs : List Value} {i : Nat} {m : Str → Option Value}, P.Nodup → P[i]? = some x → vs[i]? = some v → kindOf x ≠ some .local →
    bindC kindOf (P.zip vs) m x = some v
  | [], _, _, _, _, h, _, _ => by simp at h
  | _ :: _, [], _, _, _, _, h, _ => by simp at h
  | p :: P, w :: vs, 0, m, nd, h1, h2, hk => by
    simp at h1 h2; subst h1; subst h2
    show bindC kindOf ((p, w) :: P.zip vs) m p = _
    unfold bindC
    rw [bindC_out fun v hv => (List.nodup_cons.mp nd).1 (List.of_mem_zip hv).1, if_neg hk]
    simp
  | p :: P, w :: vs, i + 1, m, nd, h1, h2, hk => by
    show bindC kindOf ((p, w) :: P.zip vs) m x = _
    unfold bindC
    exact bindC_get (i := i) (List.nodup_cons.mp nd).2 (by simpa using h1) (by simpa using h2) hk

def start (N : List Str) (vs : List V) : St := vs.map some ++ List.replicate (N.length - vs.length) none

def cxOf (CX : CXT) (P : Program) (w : World) (K : PySem.W.Frag) (mg : Str → Option Value) (base : Heap) (N : List Str) (qual : Str) (scope : Scope) (f : Addr) (cd : Value) (A : Around) (outer : List Env) (s : Shared) (H : Hp) (E : XK) : Cx where
  prog := P
  w := w
  K := K
  mg := mg
  base := base
  A := A.deeper (envOfC qual scope s.heap.objs.size f cd)
  N := N
  s₀ := s
  H₀ := H
  env := envOfC qual scope s.heap.objs.size f cd
  outer := outer
  stack := envOfC qual scope s.heap.objs.size f cd :: outer
  ex := []
  calm := true
  fn := fun _ => true
  pn := []
  xe := fun e s' => wpAny (model P w) (A.deeper (envOfC qual scope s.heap.objs.size f cd)) (leaving (envOfC qual scope s.heap.objs.size f cd) e) (fun _ s'' => CX outer H s E e s'') (fun e' s'' => CX outer H s E e' s'') s'

theorem cell_has {sc : Scope} {n : Nat} {x : Str} (h : sc.names.lookup x = some .cell) : ∃ c, (cellsFrom n sc.names []).lookup x = some c := by
  have q := PySem.W.cellsFrom_some sc.names n [] (.inl h)
  exact Option.isSome_iff_exists.mp q

theorem inv_start {CX : CXT} {P : Program} {w : World} {K : PySem.W.Frag} {mg : Str → Option Value} {base : Heap} {N ps : List Str} {qual : Str} {scope : Scope} {f : Addr} {cd : Value} {A : Around} {outer : List Env} {s s1 : Shared} {H : Hp} {E : XK} {us : List Value} {vs : List V}
    (S : FnScope N ps scope) (hd : A.handled = none) (e0 : Env0 P w K mg base A outer s H) (hl : vs.length = ps.length) (r : Vals vs us)
    (x : InCallC s s.heap.objs.size (bindL (envOfC qual scope s.heap.objs.size f cd).kindOf (ps.zip us) fun _ => none) (cellsFrom (s.heap.objs.size + 1) scope.names []) (bindC (envOfC qual scope s.heap.objs.size f cd).kindOf (ps.zip us) fun _ => none) s1) :
    Inv (cxOf CX P w K mg base N qual scope f cd A outer s H E) [] (start N vs) H s1 := by
  have hpl : ps.length ≤ N.length := by have := congrArg List.length S.pre; rw [List.length_take] at this; omega
  obtain ⟨h1, tk, rfl, hk⟩ := x.done
  have noA : ∀ b : Addr, b ∉ (cxOf CX P w K mg base N qual scope f cd A outer s H E).ex := fun b z => absurd (show b ∈ ([] : List Addr) from z) (by simp)
  refine ⟨⟨e0.mod, S.kind, rfl, rfl, Nat.le_refl _, fun y z c h1 h2 => ?_, fun y hy => ?_, fun y c _ h => ?_, fun _ => hd, Around.frames_deeper e0.frames, .inr ⟨rfl, rfl⟩, fun b z => absurd z (noA b), e0.bs, e0.bsz, fun b _ _ => noA b, fun b z => absurd z (noA b), e0.funs, e0.frf⟩,
    rfl, e0.bare, Un.kept hk, ⟨_, x.toInCall.ns, fun i y v h1 h2 h3 => ?_⟩, fun y c h => ⟨_, x.cell y c h⟩, e0.hok.fresh (Nat.le_refl _), fun y c h => ?_, fun p hp => absurd (show p ∈ ([] : List (Addr × Obj)) from hp) (by simp), e0.hok.kept hk, ?_⟩
  · exact name_of_addr x.apart (PySem.mem_of_lookup h1) (PySem.mem_of_lookup h2)
  · have hy : scope.names.lookup y = some .cell ∨ scope.names.lookup y = some .free := hy
    rcases hy with hy | hy
    · exact cell_has hy
    · exact absurd rfl (S.nofree _ (PySem.mem_of_lookup hy))
  · exact Nat.le_of_lt (x.above y c (PySem.mem_of_lookup h))
  · have hi : i < vs.length := by
      unfold start at h2
      by_cases hi : i < vs.length
      · exact hi
      · rw [List.getElem?_append_right (by simpa using hi)] at h2
        rw [List.getElem?_replicate] at h2
        split at h2 <;> cases h2
    have ha : vs[i]? = some v := by
      unfold start at h2
      rw [List.getElem?_append_left (by simpa using hi), List.getElem?_map] at h2
      cases e : vs[i]? with
      | none => rw [e] at h2; cases h2
      | some a => rw [e] at h2; cases h2; rfl
    obtain ⟨u, hu, rv⟩ := r.get ha
    have hp : ps[i]? = some y := by
      rw [← S.pre, List.getElem?_take_of_lt (by omega)]; exact h1
    have ndP : ps.Nodup := by rw [← S.pre]; exact S.nd.sublist (List.take_sublist _ _)
    refine ⟨u, rv, ?_⟩
    rcases S.par y (List.mem_of_getElem? hp) with k | k
    · exact .inl ⟨k, bindL_get ndP hp hu k⟩
    · obtain ⟨c, e⟩ := cell_has (n := s.heap.objs.size + 1) k
      refine .inr ⟨.inl k, c, e, ?_⟩
      have q := x.cell y c e
      rw [bindC_get ndP hp hu (by show scope.names.lookup y ≠ _; rw [k]; decide)] at q
      exact q
  · exact e0.hok.fresh (Nat.le_of_lt (x.above y c (PySem.mem_of_lookup h)))
  · unfold start
    show _ = N.length
    rw [List.length_append, List.length_map, List.length_replicate]
    omega

theorem fn_of {CX : CXT} {P : Program} {w : World} {K : PySem.W.Frag} {mg : Str → Option Value} {base : Heap} {k : Nat} {f : Addr} {name qual : Str} {params : Arguments} {body : List Stmt} {scope : Scope} {dV kV doc pm cdv ct oc : Value} {an od : Option Addr}
    {osl : Array (Option Value)} {N ps : List Str} {sp : Sp} (lk : K.lookup f = some ⟨oc, od, .func (PySem.W.fnOf name qual params body scope dV kV doc pm an cdv ct), osl⟩) (hcd : PySem.W.codeIn K cdv qual = true) (S : FnScope N ps scope)
    (len : ∀ vs H Q E, sp vs H Q E → vs.length = ps.length)
    (hbody : ∀ (A : Around) (outer : List Env) (s : Shared) (H : Hp) (vs : List V) (Q : VK) (E : XK), Room k (A.deeper (envOfC qual scope s.heap.objs.size f cdv)) → sp vs H Q E →
      ∃ t, PSs (cxOf CX P w K mg base N qual scope f cdv A outer s H E) body t ∧ t { nx := fun _ H' => Q .non H', rt := Q } (start N vs) H) :
    FnOk P w K mg base CX (k + 1) f (PySem.W.fnOf name qual params body scope dV kV doc pm an cdv ct) ps sp := by
  refine ⟨len, fun A outer s H args us vs Q E hr e0 hb r hsp => ?_⟩
  have hl := len _ _ _ _ hsp
  have KX : K.In s.heap := e0.mod.kin.keeps fun b o e => (e0.bs b o e).1
  have lim : s.heap.NoLimit := e0.mod.nolimit.keeps fun b o e => (e0.bs b o e).1
  have hkind : ∀ y ∈ ps.zip us, scope.names.lookup y.1 = some .local ∨ (scope.names.lookup y.1 = some .cell ∧ ((cellsFrom (s.heap.objs.size + 1) scope.names []).lookup y.1).isSome = true) := fun ⟨n, v⟩ hy => by
    rcases S.par n (List.of_mem_zip hy).1 with q | q
    · exact .inl q
    · exact .inr ⟨q, PySem.W.cellsFrom_some _ _ _ (.inl q)⟩
  refine codeAny_call_function hr.depth (KX _ _ lk) rfl S.co S.gen rfl (PySem.W.codeRec_of KX hcd) (hb _ _ _ _ ?_)
  refine wpAny_newFunctionEnv_cells S.kind hkind fun env he s1 x => ?_
  subst he
  refine ⟨lim.keeps x.toInCall.keep, codeAny_func ?_⟩
  obtain ⟨t, ht, hq⟩ := hbody A outer s H vs Q E (hr.deeper _) hsp
  have I : Inv (cxOf CX P w K mg base N qual scope f cdv A outer s H E) [] (start N vs) H s1 := inv_start S hr.hd e0 hl r x
  refine wpAny_mono (ht [] s1 (start N vs) H _ I hq) (fun fl s' hs => ?_) fun e s' hs => hs
  have fin : ∀ {σ' : St} {H' : Hp} {v : V} {u : Value}, Inv (cxOf CX P w K mg base N qual scope f cdv A outer s H E) [] σ' H' s' → RelV v u → Q v H' → CE outer P w H s Q u s' :=
    fun {σ' H' v u} J rv q => ⟨v, H', J.os, J.bare, J.base, J.hok, rv, q⟩
  cases fl with
  | ret u =>
    obtain ⟨v, σ', H', J, rv, q⟩ := hs
    exact fin J rv q
  | next =>
    obtain ⟨σ', H', J, q⟩ := hs
    exact fin (v := V.non) (u := Value.none) J rfl q
  | brk =>
    obtain ⟨_, _, _, q⟩ := hs
    exact False.elim q
  | cont =>
    obtain ⟨_, _, _, q⟩ := hs
    exact False.elim q
end L2

namespace L2
open PySem PySem.Spec PyProof.Rows
section
variable {X : Cx} {x : Str} {p pos : Pos} {e : Expr} {es : List Expr} {t : TA} {id T : String} {r : List V → Hp → VK → Prop}

def tCB (r : List V → Hp → VK → Prop) (t : TA) : TE := fun σ H Q => t σ H fun vs H1 => r vs H1 Q
theorem pe_callB (hc : CallR X (.builtin id) r) (hg : Gl X x) (hm : X.mg x = none) (hv : bootBuiltins x = some (.builtin id)) (ha : PA X (e :: es) t) (hn : x ≠ "__name__" := by decide) (hdb : (x == ("__debug__" : Str)) = false := by decide)
    (he : starEach (e :: es) X.env = (false, eval e X.env) :: starEach es X.env := by rfl) (hpl : (backTo pos (starEach es X.env)).any (·.1) = false := by rfl) : PE X (.Call (.Name x p) (e :: es) [] pos) (tCB r t) := by
  intro pins s σ H Q I h
  refine wpAny_Call_Name_kw (ld_blt I hg hm hv ?_ hn hdb)
  exact PyProof.Rows.callWith_builtin1 (thn (ha pos pins s σ H _ I h) fun us s1 ⟨vs, H1, I1, r1, q1⟩ => hc pins s1 σ H1 vs us Q I1 r1 q1) he hpl
theorem pe_callTy (hc : CallR X (.type T) r) (hg : Gl X x) (hm : X.mg x = none) (hv : bootBuiltins x = some (.type T)) (ha : PA X (e :: es) t) (hn : x ≠ "__name__" := by decide) (hdb : (x == ("__debug__" : Str)) = false := by decide)
    (he : starEach (e :: es) X.env = (false, eval e X.env) :: starEach es X.env := by rfl) (hpl : (backTo pos (starEach es X.env)).any (·.1) = false := by rfl) : PE X (.Call (.Name x p) (e :: es) [] pos) (tCB r t) := by
  intro pins s σ H Q I h
  refine wpAny_Call_Name_kw (ld_blt I hg hm hv ?_ hn hdb)
  exact PyProof.Rows.callWith_type1 (thn (ha pos pins s σ H _ I h) fun us s1 ⟨vs, H1, I1, r1, q1⟩ => hc pins s1 σ H1 vs us Q I1 r1 q1) he hpl
end
end L2

namespace HT
open PySem PyProof.Rows

section
open PySem.SeqAt
open PySem.AutoSeq1 (wpAny_loadPart')
open PySem.MeetsSeq PySem.MeetsSeq2 PySem.MeetsSeq3

end

section
variable {prog : Program} {w : World} {A : Around} {E : Value → Shared → Prop} {s : Shared}

def sIx (n d : Nat) : Option Int → Nat
  | none => d
  | some v => if v < 0 then (v + (n : Int)).toNat else min v.toNat n
theorem sIx_none (n d : Nat) : sIx n d none = d := rfl
theorem sIx_nat (n d k : Nat) : sIx n d (some (k : Int)) = min k n := by
  show (if (k : Int) < 0 then ((k : Int) + (n : Int)).toNat else min (k : Int).toNat n) = min k n
  rw [if_neg (by omega), Int.toNat_natCast]
end
end HT

namespace L2
open PySem PySem.Spec PyProof.Rows

abbrev TO := St → Hp → (Option Int → Hp → Prop) → Prop
def PO (X : Cx) (e : Option Expr) (t : TO) : Prop :=
  ∀ (pins : List (Addr × Obj)) (s : Shared) (σ : St) (H : Hp) (Q : Option Int → Hp → Prop), Inv X pins σ H s → t σ H Q →
    wpAny (model X.prog X.w) X.A (evalPart e X.env) (fun u s' => ∃ o H', Inv X pins σ H' s' ∧ IsPart u o ∧ Q o H') X.xe s
def tNoPart : TO := fun _ H Q => Q none H
def tPart (t : TE) : TO := fun σ H Q => t σ H fun x H1 => ∃ i, x = .int i ∧ Q (some i) H1

section
variable {X : Cx} {e : Expr} {te : TE} {lo hi : Option Expr} {tl th : TO} {pos p2 : Pos}

theorem po_none : PO X none tNoPart := by
  intro pins s σ H Q I h
  rw [evalPart_none]
  exact wpAny_pure ⟨none, H, I, .none, h⟩
theorem po_some (h : PE X e te) : PO X (some e) (tPart te) := by
  intro pins s σ H Q I hw
  rw [evalPart_some]
  refine thn (h pins s σ H _ I hw) fun u s1 ⟨x, H1, I1, r1, q1⟩ => ?_
  obtain ⟨i, rfl, q⟩ := q1
  obtain ⟨t, rfl⟩ := r1
  exact ⟨some i, H1, I1, .int i t, q⟩

def SlR (X : Cx) (r : V → Option Int → Option Int → Hp → VK → Prop) : Prop :=
  ∀ (pins : List (Addr × Obj)) (s : Shared) (σ : St) (H : Hp) (x : V) (v vl vu : Value) (lo hi : Option Int) (sl : Addr) (Q : VK), Inv X pins σ H s → RelV x v → s.heap.IsSliceOf sl vl vu .none → IsPart vl lo → IsPart vu hi → r x lo hi H Q →
    ∃ T id, typeLookup (.type T) "__getitem__" = pure (some (.builtin id)) ∧ s.TypeIs v T ∧ wpAny (model X.prog X.w) X.A (getItem v (.ref sl)) (EP X pins σ Q) X.xe s
def tSl (r : V → Option Int → Option Int → Hp → VK → Prop) (te : TE) (tl th : TO) : TE := fun σ H Q => te σ H fun x H1 => tl σ H1 fun l H2 => th σ H2 fun u H3 => r x l u H3 Q
theorem pe_slice {r : V → Option Int → Option Int → Hp → VK → Prop} (hr : SlR X r) (he : PE X e te) (hl : PO X lo tl) (hu : PO X hi th) : PE X (.Subscript e (.Slice lo hi none p2) pos) (tSl r te tl th) := by
  intro pins s σ H Q I h
  refine Subscript_ (thn (he pins s σ H _ I h) fun v s1 ⟨x, H1, I1, r1, q1⟩ => ?_)
  refine wpAny_Slice (thn (hl pins s1 σ H1 _ I1 q1) fun vl s2 ⟨l, H2, I2, pl, q2⟩ => thn (hu pins s2 σ H2 _ I2 q2) fun vu s3 ⟨u, H3, I3, pu, q3⟩ => ?_)
  rw [evalPart_none]
  refine wpAny_pure ?_
  have I4 : Inv X pins σ H3 { s3 with heap := s3.heap.push { cls := .type "slice", data := .fields #[vl, vu, .none] } } := I3.kept (t' := s3.toks) fun b ob q => Heap.get?_push_of_some _ q
  obtain ⟨T, id, hT, ht, hg⟩ := hr pins { s3 with heap := s3.heap.push { cls := .type "slice", data := .fields #[vl, vu, .none] } } σ H3 x v vl vu l u s3.heap.objs.size Q I4 r1 (Heap.IsSliceOf.new ..) pl pu q3
  show wpAny (model X.prog X.w) X.A (subscriptTail e (.Slice lo hi none p2) v (.ref s3.heap.objs.size)) (EP X pins σ Q) X.xe { s3 with heap := s3.heap.push { cls := .type "slice", data := .fields #[vl, vu, .none] } }
  exact tail_any (ops := [.ref s3.heap.objs.size, v]) ht hT hg (by with_unfolding_all rfl)

def cutV (xs : List V) (lo hi : Option Int) : List V := (xs.drop (HT.sIx xs.length 0 lo)).take (HT.sIx xs.length xs.length hi - HT.sIx xs.length 0 lo)
theorem cutV_length (xs : List V) (lo hi : Option Int) : (cutV xs lo hi).length ≤ xs.length := by
  unfold cutV
  rw [List.length_take, List.length_drop]
  omega
end
end L2

namespace L2
open PySem PySem.Spec PyProof.Rows

def ixN (n : Nat) (i : Int) : Option Nat := if 0 ≤ i then (if i < n then some i.toNat else none) else if -(n : Int) ≤ i then some (i + n).toNat else none
def atI {α : Type} (xs : List α) (i : Int) : Option α := (ixN xs.length i).bind fun j => xs[j]?
theorem ixN_seq {n : Nat} {i : Int} {j : Nat} (h : ixN n i = some j) : seqIndex? i n = some j ∧ j < n ∧ -(n : Int) ≤ i ∧ i < n := by
  unfold ixN at h
  by_cases h0 : 0 ≤ i
  · rw [if_pos h0] at h
    by_cases h1 : i < n
    · rw [if_pos h1] at h
      have e : i.toNat = j := Option.some.inj h
      exact ⟨by rw [seqIndex_of h0 h1, e], by omega, by omega, h1⟩
    · rw [if_neg h1] at h; cases h
  · rw [if_neg h0] at h
    by_cases h1 : -(n : Int) ≤ i
    · rw [if_pos h1] at h
      have e : (i + n).toNat = j := Option.some.inj h
      exact ⟨by rw [seqIndex_neg (by omega) h1, e], by omega, h1, by omega⟩
    · rw [if_neg h1] at h; cases h
theorem atI_get {α : Type} {xs : List α} {i : Int} {v : α} (h : atI xs i = some v) : ∃ j, seqIndex? i xs.length = some j ∧ xs[j]? = some v ∧ j < xs.length ∧ -(xs.length : Int) ≤ i ∧ i < xs.length := by
  unfold atI at h
  cases e : ixN xs.length i with
  | none => rw [e] at h; cases h
  | some j =>
    rw [e] at h
    obtain ⟨h1, h2, h3, h4⟩ := ixN_seq e
    exact ⟨j, h1, h, h2, h3, h4⟩
theorem atI_nat {α : Type} {xs : List α} {j : Nat} {v : α} (h : xs[j]? = some v) : atI xs (j : Int) = some v := by
  have hj : j < xs.length := (List.getElem?_eq_some_iff.mp h).1
  have e : ixN xs.length (j : Int) = some j := by
    unfold ixN
    rw [if_pos (by omega), if_pos (by omega)]; simp
  unfold atI; rw [e]; exact h
def PlainIx (b : Expr) : Prop := ∀ o i, subscripted b false o i = operate [o, i] (getItem o i)
def IxR (X : Cx) (r : R2) : Prop :=
  ∀ (value slice : Expr) (pins : List (Addr × Obj)) (s : Shared) (σ : St) (H : Hp) (x y : V) (v u : Value) (Q : VK), Inv X pins σ H s → RelV x v → RelV y u → r x y H Q →
    subscripted slice false v u = operate [v, u] (getItem v u) → wpAny (model X.prog X.w) X.A (subscriptTail value slice v u) (EP X pins σ Q) X.xe s
def MtR (X : Cx) (id : String) (r : V → List V → Hp → VK → Prop) : Prop :=
  ∀ (pins : List (Addr × Obj)) (s : Shared) (σ : St) (H : Hp) (x : V) (xs : List V) (v : Value) (us : List Value) (Q : VK), Inv X pins σ H s → RelV x v → Vals xs us → r x xs H Q →
    wpAny (model X.prog X.w) X.A (call (.builtin id) (v :: us)) (EP X pins σ Q) X.xe s
section
variable {X : Cx} {a b : Expr} {ta tb : TE} {pos : Pos}
theorem pe_ix {r : R2} (hr : IxR X r) (ha : PE X a ta) (hb : PE X b tb) (hs : PlainIx b) : PE X (.Subscript a b pos) (tOp r ta tb) := by
  intro pins s σ H Q I h
  exact Subscript_ (binT ha hb I h fun v u s2 x y H2 I2 rx ry q => hr a b pins s2 σ H2 x y v u Q I2 rx ry q (hs _ _))

def rIxL (K : PySem.W.Frag) : R2 := fun x y H Q => ∃ p xs i v, x = .ref p ∧ y = .int i ∧ SqL K H p xs ∧ atI xs i = some v ∧ Q v H
def rIxT (K : PySem.W.Frag) : R2 := fun x y H Q => ∃ p xs i v, x = .ref p ∧ y = .int i ∧ SqT K H p xs ∧ atI xs i = some v ∧ Q v H
def rIxS : R2 := fun x y H Q => ∃ z i c, x = .str z ∧ y = .int i ∧ z.length ≤ sizeLine ∧ atI z.cps.toList i = some c ∧ Q (.str ⟨#[c]⟩) H
theorem ix_list : IxR X (rIxL X.K) := by
  intro value slice pins s σ H x y v u Q I rx ry h hs
  obtain ⟨p, xs, i, z, rfl, rfl, hq, he, q⟩ := h
  cases rx
  obtain ⟨t, rfl⟩ := ry
  obtain ⟨its, r, pl, hz⟩ := I.list hq
  obtain ⟨j, h1, h2, h3, h4, h5⟩ := atI_get he
  obtain ⟨w, ew, rw'⟩ := r.get h2
  have hl := r.length
  have hn := line63
  have fin : EP X pins σ Q w s := ⟨z, H, I, rw', q⟩
  by_cases h0 : 0 ≤ i
  · have hj : i.toNat = j := by
      rw [seqIndex_of h0 h5] at h1
      exact Option.some.inj h1
    exact item_listR pl.isList h0 (by omega) (by rw [hj]; simpa using ew) fin hs
  · have hj : (i + (its.toArray.size : Int)).toNat = j := by
      rw [seqIndex_neg (by omega) h4] at h1
      rw [List.size_toArray, ← hl]
      exact Option.some.inj h1
    exact subscriptTail_builtinR (x := w) pl.isList.typeIs slot_list_getitem.lookup
      (wpAny_getItem_list_neg (Q := fun r s' => r = w ∧ EP X pins σ Q r s') pl.isList (by omega) (by rw [List.size_toArray] <;> omega) (by omega) (by rw [hj]; simpa using ew) ⟨rfl, fin⟩) hs
theorem ix_tup : IxR X (rIxT X.K) := by
  intro value slice pins s σ H x y v u Q I rx ry h hs
  obtain ⟨p, xs, i, z, rfl, rfl, hq, he, q⟩ := h
  cases rx
  obtain ⟨t, rfl⟩ := ry
  obtain ⟨its, r, pl, hz⟩ := I.tuple hq
  obtain ⟨j, h1, h2, h3, h4, h5⟩ := atI_get he
  obtain ⟨w, ew, rw'⟩ := r.get h2
  have hl := r.length
  have hn := line63
  have fin : EP X pins σ Q w s := ⟨z, H, I, rw', q⟩
  exact subscriptTail_builtinR (x := w) pl.typeIs slot_tuple_getitem.lookup
    (getItem_tuple (j := j) (Q := fun r s' => r = w ∧ EP X pins σ Q r s') pl (by omega) (by omega) (by rw [List.size_toArray, ← hl]; exact h1) (by simpa using ew) ⟨rfl, fin⟩) hs
theorem ix_str : IxR X rIxS := by
  intro value slice pins s σ H x y v u Q I rx ry h hs
  obtain ⟨z, i, c, rfl, rfl, hz, he, q⟩ := h
  obtain ⟨t, rfl⟩ := rx
  obtain ⟨t', rfl⟩ := ry
  obtain ⟨j, h1, h2, h3, h4, h5⟩ := atI_get he
  have hl : z.cps.toList.length = z.length := by simp [Str.length]
  rw [hl] at h1 h4 h5
  have hn := line63
  exact tail_any (typeIs_str s z t) slot_str_getitem.lookup (getItem_str (c := c) (by
    have e1 : decide (i < -(2 ^ 63 : Int)) = false := decide_eq_false (by omega)
    have e2 : decide (i ≥ 2 ^ 63) = false := decide_eq_false (by omega)
    rw [e1, e2, Bool.or_false]) (by rw [h1]; simpa using h2) ⟨.str ⟨#[c]⟩, H, I.tok _, ⟨_, rfl⟩, q⟩) hs
theorem mapSeq_set (its : List Value) (n j : Nat) (u : Value) : Obj.mapSeq (·.setIfInBounds j u) { cls := .type "list", data := .seq its.toArray n } = { cls := .type "list", data := .seq (its.set j u).toArray n } := by
  simp [Obj.mapSeq]
theorem Inv.lst {pins : List (Addr × Obj)} {σ : St} {H : Hp} {s : Shared} {p : Addr} {xs : List V} (I : Inv X pins σ H s) (h : H p = some (.lst xs)) :
    ∃ (its : List Value) (n : Nat), Vals xs its ∧ s.heap.get? p = some { cls := .type "list", data := .seq its.toArray n } ∧ xs.length ≤ sizeLine := by
  obtain ⟨z, its, n, r, e⟩ := I.hok p _ h
  exact ⟨its, n, r, e, z⟩
theorem Inv.lstUpd {pins : List (Addr × Obj)} {σ : St} {H : Hp} {s : Shared} {p : Addr} {xs ys : List V} {its its' : List Value} {n n' : Nat} {f : Obj → Obj} (I : Inv X pins σ H s) (h : H p = some (.lst xs))
    (ho : s.heap.get? p = some { cls := .type "list", data := .seq its.toArray n }) (hf : f { cls := .type "list", data := .seq its.toArray n } = { cls := .type "list", data := .seq its'.toArray n' }) (r : Vals ys its') (hz : ys.length ≤ sizeLine) (t : Nat) :
    Inv X pins σ (upd H p (.lst ys)) { s with heap := s.heap.update p f, toks := t } := by
  have e : (s.heap.update p f).get? p = some { cls := .type "list", data := .seq its'.toArray n' } := by
    rw [Heap.get?_update_self f ho (by rw [hf] <;> rfl), hf]
  refine I.write (x := p) (e := p) (by rw [h]; trivial) (.inl rfl) (fun b u hb q => (Heap.get?_update_other _ _ (Ne.symm hb)).trans q) ⟨_, e⟩ ?_
  exact ⟨hz, its', n', r, e⟩
def rSetL : V → V → V → Hp → (Hp → Prop) → Prop := fun o i v H Q => ∃ p xs k j, o = .ref p ∧ i = .int k ∧ H p = some (.lst xs) ∧ ixN xs.length k = some j ∧ Q (upd H p (.lst (xs.set j v)))
theorem set_list : PSet X rSetL := by
  intro pins s σ H o i v ov iv u Q I ro ri rv h
  obtain ⟨p, xs, k, j, rfl, rfl, hp, hj, q⟩ := h
  cases ro
  obtain ⟨t, rfl⟩ := ri
  obtain ⟨its, n, r, ho, hz⟩ := I.lst hp
  obtain ⟨h1, h2, h3, h4⟩ := ixN_seq hj
  have hl := r.length
  have hn := line63
  have I' : Inv X pins σ (upd H p (.lst (xs.set j v))) { s with heap := s.heap.update p (Obj.mapSeq (·.setIfInBounds j u)) } :=
    I.lstUpd hp ho (mapSeq_set its n j u) (r.set rv j) (by rw [List.length_set]; exact hz) s.toks
  by_cases h0 : 0 ≤ k
  · have hk : k.toNat = j := by
      rw [seqIndex_of h0 h4] at h1
      exact Option.some.inj h1
    exact PySem.W.ki_setAt ho h0 (by omega) (by rw [List.size_toArray, ← hl]; exact h4) (by rw [hk]; exact ⟨_, I', q⟩)
  · have hk : (k + (its.toArray.size : Int)).toNat = j := by
      rw [seqIndex_neg (by omega) h3] at h1
      rw [List.size_toArray, ← hl]
      exact Option.some.inj h1
    exact PySem.W.ki_setBack ho (by omega) (by rw [List.size_toArray, ← hl]; exact h3) (by omega) (by rw [hk]; exact ⟨_, I', q⟩)

theorem slice_bounds (lo hi : Option Int) (n : Nat) : (sliceBounds lo hi none n).1 = ((HT.sIx n 0 lo : Nat) : Int) ∧ (sliceBounds lo hi none n).2.1 = ((HT.sIx n n hi : Nat) : Int) ∧ (sliceBounds lo hi none n).2.2 = 1 := by
  refine ⟨?_, ?_, rfl⟩
  · cases lo with
    | none => simp [sliceBounds, HT.sIx]
    | some i =>
      simp only [sliceBounds, HT.sIx, Option.getD_none, show (1 : Int) > 0 by decide, if_true]
      by_cases h : i < 0
      · simp only [h, if_true] <;> omega
      · simp only [h, if_false] <;> omega
  · cases hi with
    | none => simp [sliceBounds, HT.sIx]
    | some i =>
      simp only [sliceBounds, HT.sIx, Option.getD_none, show (1 : Int) > 0 by decide, if_true]
      by_cases h : i < 0
      · simp only [h, if_true] <;> omega
      · simp only [h, if_false] <;> omega
theorem slicePick_cut (its : List Value) (lo hi : Option Int) : slicePick its.toArray lo hi none = ((its.drop (HT.sIx its.length 0 lo)).take (HT.sIx its.length its.length hi - HT.sIx its.length 0 lo)).toArray := by
  obtain ⟨h1, h2, h3⟩ := slice_bounds lo hi its.toArray.size
  unfold slicePick
  rw [h1, h2, h3]
  simp only [sliceRange_one, pick_run, List.size_toArray] <;> rfl
def rSlL (K : PySem.W.Frag) : V → Option Int → Option Int → Hp → VK → Prop := fun x lo hi H Q => ∃ a xs, x = .ref a ∧ SqL K H a xs ∧ ∀ p, H p = none → Q (.ref p) (upd H p (.lst (cutV xs lo hi)))
theorem sl_list : SlR X (rSlL X.K) := by
  intro pins s σ H x v vl vu lo hi sl Q I rx hs pl pu h
  obtain ⟨a, xs, rfl, hx, q⟩ := h
  cases rx
  obtain ⟨its, r, ht, hz⟩ := I.list hx
  have hlen := r.length
  refine ⟨"list", _, slot_list_getitem.lookup, ht.isList.typeIs, ?_⟩
  refine wpAny_getItem_list_slice ht.isList hs pl pu .none (by simp) ?_ (by rw [List.size_toArray] <;> omega)
  rw [slicePick_cut, ← hlen]
  refine ⟨.ref s.heap.objs.size, _, I.laid (t' := s.toks) (o := .lst (cutV xs lo hi)) (fun b ob q => Heap.get?_push_of_some _ q) (Nat.le_refl _) ?_, rfl, q _ (I.hok.fresh (Nat.le_refl _))⟩
  exact ⟨Nat.le_trans (cutV_length xs lo hi) hz, _, 0, (r.drop (HT.sIx xs.length 0 lo)).take (HT.sIx xs.length xs.length hi - HT.sIx xs.length 0 lo), Heap.get?_push_size _ rfl⟩

def flatV : V → Bool
  | .non => true
  | .bl _ => true
  | .int _ => true
  | .str _ => true
  | _ => false
def eqV : V → V → Bool
  | .non, .non => true
  | .bl a, .bl b => a == b
  | .bl a, .int b => (if a then 1 else 0) == b
  | .int a, .bl b => a == (if b then 1 else 0)
  | .int a, .int b => a == b
  | .str a, .str b => a == b
  | _, _ => false
theorem eqAt_V {A : Around} {s : Shared} {y x : V} {u v : Value} (ry : RelV y u) (rx : RelV x v) (fy : flatV y = true) (fx : flatV x = true) : SeqAt.EqAt A s u v (eqV y x) := by
  cases y with
  | non =>
    cases ry
    cases x with
    | non => cases rx; exact SeqAt.EqAt.same _
    | bl b => cases rx; exact SeqAt.EqAt.none_bool b
    | int b => obtain ⟨t, rfl⟩ := rx; exact SeqAt.EqAt.none_int b t
    | str b => obtain ⟨t, rfl⟩ := rx; exact SeqAt.EqAt.none_str b t
    | _ => exact absurd (show false = true from fx) Bool.false_ne_true
  | bl a =>
    cases ry
    cases x with
    | non => cases rx; exact SeqAt.EqAt.bool_none a
    | bl b => cases rx; exact SeqAt.EqAt.bool_bool a b
    | int b => obtain ⟨t, rfl⟩ := rx; exact SeqAt.EqAt.bool_int a b t
    | str b => obtain ⟨t, rfl⟩ := rx; exact SeqAt.EqAt.bool_str a b t
    | _ => exact absurd (show false = true from fx) Bool.false_ne_true
  | int a =>
    obtain ⟨t', rfl⟩ := ry
    cases x with
    | non => cases rx; exact SeqAt.EqAt.int_none a t'
    | bl b => cases rx; exact SeqAt.EqAt.int_bool a t' b
    | int b => obtain ⟨t, rfl⟩ := rx; exact SeqAt.EqAt.int_int a t' b t
    | str b => obtain ⟨t, rfl⟩ := rx; exact SeqAt.EqAt.int_str a t' b t
    | _ => exact absurd (show false = true from fx) Bool.false_ne_true
  | str a =>
    obtain ⟨t', rfl⟩ := ry
    cases x with
    | non => cases rx; exact SeqAt.EqAt.str_none a t'
    | bl b => cases rx; exact SeqAt.EqAt.str_bool a t' b
    | int b => obtain ⟨t, rfl⟩ := rx; exact SeqAt.EqAt.str_int a t' b t
    | str b => obtain ⟨t, rfl⟩ := rx; exact SeqAt.EqAt.str_str a t' b t
    | _ => exact absurd (show false = true from fx) Bool.false_ne_true
  | _ => exact absurd (show false = true from fy) Bool.false_ne_true
theorem call_len_seq : CallR X (.builtin "len") (fun xs H Q => ∃ p ys, xs = [.ref p] ∧ (SqL X.K H p ys ∨ SqT X.K H p ys) ∧ Q (.int ys.length) H) := by
  intro pins s σ H xs us Q I r h
  obtain ⟨p, ys, rfl, hq, q⟩ := h
  obtain ⟨u, rfl, rx⟩ := vals1 r
  cases rx
  have hn := line63
  rcases hq with hq | hq
  · obtain ⟨its, r', pl, hz⟩ := I.list hq
    have hlen := r'.length
    exact Calls.call_len_list pl.isList (by simp only [List.size_toArray] <;> omega) ⟨.int ys.length, H, I.tok _, ⟨s.toks + 1, by rw [List.size_toArray, hlen]⟩, q⟩
  · obtain ⟨its, r', pl, hz⟩ := I.tuple hq
    have hlen := r'.length
    exact len_tuple pl (by simp only [List.size_toArray] <;> omega) ⟨.int ys.length, H, I.tok _, ⟨s.toks + 1, by rw [List.size_toArray, hlen]⟩, q⟩
theorem call_len_str : CallR X (.builtin "len") (fun xs H Q => ∃ z, xs = [.str z] ∧ z.length ≤ sizeLine ∧ Q (.int z.length) H) := by
  intro pins s σ H xs us Q I r h
  obtain ⟨z, rfl, hz, q⟩ := h
  obtain ⟨u, rfl, t, rfl⟩ := vals1 r
  have hn := line63
  exact len_str (by omega) ⟨.int z.length, H, I.tok _, ⟨_, rfl⟩, q⟩
theorem call_list_of : CallR X (.type "list") (fun xs H Q => ∃ p ys, xs = [.ref p] ∧ (SqL X.K H p ys ∨ SqT X.K H p ys) ∧ ∀ l, H l = none → Q (.ref l) (upd H l (.lst ys))) := by
  intro pins s σ H xs us Q I r h
  obtain ⟨p, ys, rfl, hq, q⟩ := h
  obtain ⟨u, rfl, rx⟩ := vals1 r
  cases rx
  have fin : ∀ (its : List Value), Vals ys its → ys.length ≤ sizeLine → ∀ (h' : Heap) (c' : Nat), (∀ b o', s.heap.get? b = some o' → h'.get? b = some o') →
      h'.get? s.heap.objs.size = some { cls := .type "list", dict := none, data := .seq its.toArray c', slots := #[] } → EP X pins σ Q (.ref s.heap.objs.size) { s with heap := h' } := fun its r' hz h' c' kp e =>
    ⟨.ref s.heap.objs.size, _, I.laid (t' := s.toks) kp (Nat.le_refl _) (show ObjOk X.prog X.w _ h' _ (.lst ys) from ⟨hz, its, c', r', e⟩), rfl, q _ (I.hok.fresh (Nat.le_refl _))⟩
  rcases hq with hq | hq
  · obtain ⟨its, r', pl, hz⟩ := I.list hq
    have hlen := r'.length
    obtain ⟨o, ho, hc, n, hd⟩ := pl.isList
    exact call_list_seq p (.inl rfl) ho hc hd (fun h' c' kp e => fin its r' hz h' c' kp e) (by simp only [List.size_toArray] <;> omega)
  · obtain ⟨its, r', pl, hz⟩ := I.tuple hq
    have hlen := r'.length
    obtain ⟨o, ho, hc, n, hd⟩ := pl
    exact call_list_seq p (.inr rfl) ho hc hd (fun h' c' kp e => fin its r' hz h' c' kp e) (by simp only [List.size_toArray] <;> omega)
def tyV (K : PySem.W.Frag) (T : String) (x : V) (H : Hp) : Prop := match x with
  | .str _ => T = "str"
  | .int _ => T = "int"
  | .ref p => (T = "list" ∧ ∃ xs, SqL K H p xs) ∨ (T = "tuple" ∧ ∃ o, K.lookup p = some o ∧ o.cls = .type "tuple" ∧ o.dict = none) ∨
      (T = "dict" ∧ ((∃ kvs, H p = some (.dK kvs)) ∨ ∃ kvs, H p = some (.dT kvs))) ∨ (T = "set" ∧ ∃ S n, H p = some (.set S n))
  | _ => False
theorem tyV_is {pins : List (Addr × Obj)} {σ : St} {H : Hp} {s : Shared} {T : String} {x : V} {v : Value} (I : Inv X pins σ H s) (r : RelV x v) (ty : tyV X.K T x H) :
    s.TypeIs v T ∧ ∀ a, v = .ref a → ∃ ob, s.heap.get? a = some ob ∧ ob.dict = none := by
  cases x with
  | str z =>
    obtain ⟨t, rfl⟩ := r
    cases (show T = "str" from ty)
    exact ⟨typeIs_str s z t, fun _ e => nomatch e⟩
  | int i =>
    obtain ⟨t, rfl⟩ := r
    cases (show T = "int" from ty)
    exact ⟨typeIs_int s i t, fun _ e => nomatch e⟩
  | ref p =>
    cases r
    rcases ty with ⟨rfl, xs, hq⟩ | ⟨rfl, o, hk, hc, hd⟩ | ⟨rfl, hk⟩ | ⟨rfl, S, n, hk⟩
    · obtain ⟨its, _, pl, _⟩ := I.list hq
      refine ⟨pl.isList.typeIs, fun a e => ?_⟩
      cases e
      obtain ⟨o, n, e, c, hd, _⟩ := pl
      exact ⟨o, e, hd⟩
    · refine ⟨⟨o, I.kIn p o hk, hc⟩, fun a e => ?_⟩
      cases e
      exact ⟨o, I.kIn _ o hk, hd⟩
    · have z : ∃ o, s.heap.get? p = some o ∧ o.ExactDict := by
        rcases hk with ⟨kvs, hk⟩ | ⟨kvs, hk⟩
        · obtain ⟨_, _, _, _, o, _, _, e, ex, _⟩ := I.hok p _ hk
          exact ⟨o, e, ex⟩
        · obtain ⟨_, _, _, _, o, _, _, e, ex, _⟩ := I.hok p _ hk
          exact ⟨o, e, ex⟩
      obtain ⟨o, e, ex⟩ := z
      refine ⟨⟨o, e, ex.1⟩, fun a e2 => ?_⟩
      cases e2
      exact ⟨o, e, ex.2.1⟩
    · obtain ⟨o, _, _, _, e, ex, _⟩ := I.hok p _ hk
      refine ⟨⟨o, e, ex.1⟩, fun a e2 => ?_⟩
      cases e2
      exact ⟨o, e, ex.2.1⟩
  | _ => exact False.elim ty
def tBM (K : PySem.W.Frag) (T : String) (r : V → List V → Hp → VK → Prop) (to : TE) (t : TA) : TE := fun σ H Q => to σ H fun x H1 => tyV K T x H1 ∧ t σ H1 fun xs H2 => r x xs H2 Q
variable {o e : Expr} {es : List Expr} {to : TE} {t : TA} {name : Str} {apos cpos : Pos} {T id : String} {r : V → List V → Hp → VK → Prop}
theorem pe_bm (pa : PlainAttrs T) (slot : Slot T name id) (hty : typeOf (.builtin id) = pure (.type "method_descriptor")) (hm : MtR X id r) (ho : PE X o to) (ha : PA X (e :: es) t)
    (hbase : attributeBase o name X.env (eval o X.env) = eval o X.env := by rfl)
    (hfew : ((backTo cpos (starEach (e :: es) X.env)).all (fun x => !x.1) && (backToKw cpos (keywordEach [] X.env)).all (fun x => x.1.isSome)
      && decide ((e :: es).length + ([] : List Keyword).length + (if ([] : List Keyword).isEmpty then 0 else 1) < 30)) = true := by rfl)
    (hline : (apos.endLine == cpos.line) = true := by rfl) (hs : starEach (e :: es) X.env = (false, eval e X.env) :: starEach es X.env := by rfl) (hplain : (backTo cpos (starEach es X.env)).any (·.1) = false := by rfl) :
    PE X (.Call (.Attribute o name apos) (e :: es) [] cpos) (tBM X.K T r to t) := by
  intro pins s σ H Q I h
  refine wpAny_Call_method_late hbase hfew hline rfl (thn (ho pins s σ H _ I h) fun v s1 ⟨x, H1, I1, r1, ty, q1⟩ => ?_)
  obtain ⟨h1, h2⟩ := tyV_is I1 r1 ty
  refine ⟨T, id, pa, slot, hty, h1, h2, ?_⟩
  have hA := ha cpos pins s1 σ H1 _ I1 q1
  rw [hs] at hA ⊢
  refine Calls.callWith_builtin (by show (false || (backTo cpos (starEach es X.env)).any (·.1)) = false; rw [hplain] <;> rfl) (Calls.evalArgs_plain ?_)
  exact thn hA fun us s2 ⟨vs, H2, I2, r2, q2⟩ => hm pins s2 σ H2 x vs v us Q I2 r1 r2 q2
end
end L2

namespace L2
open PySem PySem.Spec PyProof.Rows

def MtM (X : Cx) (id : String) (r : V → List V → Hp → VK → Prop) : Prop :=
  ∀ (pins : List (Addr × Obj)) (s : Shared) (σ : St) (H : Hp) (x : V) (xs : List V) (v : Value) (us : List Value) (Q : VK), Inv X pins σ H s → RelV x v → Vals xs us → r x xs H Q →
    wpAny (model X.prog X.w) X.A (call (.builtin id) (v :: us)) (EP X pins σ Q) X.xe s

theorem Vals.one : ∀ {x : V} {us : List Value}, Vals [x] us → ∃ u, us = [u] ∧ RelV x u
  | _, _, .cons r .nil => ⟨_, rfl, r⟩
theorem Vals.zero : ∀ {us : List Value}, Vals [] us → us = []
  | _, .nil => rfl
theorem Vals.dropLast {xs : List V} {us : List Value} (h : Vals xs us) : Vals xs.dropLast us.dropLast := by
  induction h with
  | nil => exact .nil
  | cons r t ih =>
    cases t with
    | nil => exact .nil
    | cons q t' => exact .cons r ih
theorem Vals.reverse {xs : List V} {us : List Value} (h : Vals xs us) : Vals xs.reverse us.reverse := by
  induction h with
  | nil => exact .nil
  | cons r t ih => rw [List.reverse_cons, List.reverse_cons]; exact Vals.append ih (.cons r .nil)
section
variable {X : Cx} {pins : List (Addr × Obj)} {σ : St} {H : Hp} {s : Shared} {l b : Addr} {xs ys zs : List V}

theorem Inv.lset {its its' : List Value} {n : Nat} {f : Array Value → Array Value} {t' : Nat} (I : Inv X pins σ H s) (hH : H l = some (.lst xs))
    (e : s.heap.get? l = some { cls := .type "list", data := .seq its.toArray n }) (hf : f its.toArray = its'.toArray) (hv : Vals ys its') (hz : ys.length ≤ sizeLine) :
    Inv X pins σ (upd H l (.lst ys)) { s with heap := s.heap.update l (Obj.mapSeq f), toks := t' } := by
  have q := PySem.IsL.update e f
  rw [hf] at q
  refine I.write (x := l) (e := l) (by rw [hH]; exact trivial) (.inl rfl) (fun b' u hb hu => (Heap.get?_update_other s.heap (Obj.mapSeq f) (Ne.symm hb)).trans hu) ⟨_, q⟩ ?_
  exact ⟨hz, its', _, hv, q⟩
theorem Inv.lnew {its : List Value} {t' : Nat} (I : Inv X pins σ H s) (hv : Vals ys its) (hz : ys.length ≤ sizeLine) :
    Inv X pins σ (upd H s.heap.objs.size (.lst ys)) { s with heap := s.heap.push { cls := .type "list", data := .seq its.toArray }, toks := t' } :=
  I.laid (fun _ _ q => Heap.get?_push_of_some _ q) (Nat.le_refl _) ⟨hz, its, 0, hv, Heap.get?_push_size _ rfl⟩
theorem Inv.fresh (I : Inv X pins σ H s) : H s.heap.objs.size = none := I.hok.fresh (Nat.le_refl _)
theorem Inv.lstM (I : Inv X pins σ H s) (hH : H l = some (.lst xs)) : xs.length ≤ sizeLine ∧ ∃ (its : List Value) (n : Nat), Vals xs its ∧ xs.length = its.length ∧ s.heap.get? l = some { cls := .type "list", data := .seq its.toArray n } := by
  obtain ⟨z, its, n, r, e⟩ := I.hok l _ hH
  exact ⟨z, its, n, r, r.length, e⟩

theorem notLongL {n : Nat} (h : n ≤ sizeLine) : Builtin.List.listTooLong n = false := by
  unfold Builtin.List.listTooLong
  exact decide_eq_false (by omega)
end

section
variable {X : Cx}

def rAppend : V → List V → Hp → VK → Prop := fun x vs H Q => ∃ l xs y, x = .ref l ∧ vs = [y] ∧ H l = some (.lst xs) ∧ xs.length < sizeLine ∧ Q .non (upd H l (.lst (xs ++ [y])))
theorem mt_append : MtM X "list.append" rAppend := by
  intro pins s σ H x vs v us Q I rx rv h
  obtain ⟨l, xs, y, rfl, rfl, hH, hz, q⟩ := h
  cases rx
  obtain ⟨u, rfl, ru⟩ := rv.one
  obtain ⟨z, its, n, r, hl, e⟩ := I.lstM hH
  refine call_meets F.slot_list_append ⟨_, e, rfl⟩ F.entry_list_append (F.args_list_append_2 _ _) (PySem.list_append l its.toArray n u (by rw [List.size_toArray]; omega)) ⟨e, ?_⟩
  refine ⟨.non, _, I.lset (its' := its ++ [u]) hH e (by simp) (r.append (.cons ru .nil)) ?_, rfl, q⟩
  rw [List.length_append, List.length_singleton]
  omega

def rExtend : V → List V → Hp → VK → Prop := fun x vs H Q => ∃ l b xs zs, x = .ref l ∧ vs = [.ref b] ∧ H l = some (.lst xs) ∧ H b = some (.lst zs) ∧ xs.length + zs.length ≤ sizeLine ∧ Q .non (upd H l (.lst (xs ++ zs)))
theorem mt_extend : MtM X "list.extend" rExtend := by
  intro pins s σ H x vs v us Q I rx rv h
  obtain ⟨l, b, xs, zs, rfl, rfl, hH, hB, hz, q⟩ := h
  cases rx
  obtain ⟨u, rfl, ru⟩ := rv.one
  cases ru
  obtain ⟨z, its, n, r, hl, e⟩ := I.lstM hH
  obtain ⟨z2, its2, n2, r2, hl2, e2⟩ := I.lstM hB
  have hsz : its.toArray.size + its2.toArray.size ≤ sizeLine := by rw [List.size_toArray, List.size_toArray]; omega
  have hlong : ¬ (!its.toArray.isEmpty && Builtin.List.listTooLong (its.toArray.size + its2.toArray.size)) = true := by
    rw [notLongL hsz, Bool.and_false]
    exact Bool.false_ne_true
  refine call_meets F.slot_list_extend ⟨_, e, rfl⟩ F.entry_list_extend (F.args_list_extend_2 _ _)
    (AutoSeq1.list_extend_list_list_0 l its.toArray n b its2.toArray n2 hlong (by rw [List.size_toArray]; omega) (by omega)) ⟨e, e2, ?_⟩
  refine ⟨.non, _, I.lset (its' := its ++ its2) hH e (by simp) (r.append r2) ?_, rfl, q⟩
  rw [List.length_append]
  omega

end

section
variable {prog : Program} {w : World} {A : Around} {E : Value → Shared → Prop} {s : Shared}
end

section
variable {X : Cx}
end
end L2


namespace L2
open PySem PySem.Spec PyProof.Rows

section
variable {κ : Type} [DecidableEq κ]
def valV (kvs : List (κ × V)) (k : κ) : Option V := (kvs.find? fun kv => decide (kv.1 = k)).map (·.2)
def putK (kvs : List (κ × V)) (k : κ) (v : V) : List (κ × V) :=
  if (kvs.any fun kv => decide (kv.1 = k)) = true then kvs.map (fun kv => if kv.1 = k then (kv.1, v) else kv) else kvs ++ [(k, v)]
def dropK (kvs : List (κ × V)) (k : κ) : List (κ × V) := kvs.filter fun kv => decide (kv.1 ≠ k)

theorem valV_pos {p : κ × V} {r : List (κ × V)} {k : κ} (e : p.1 = k) : valV (p :: r) k = some p.2 := by simp [valV, List.find?_cons, e]
theorem valV_neg {p : κ × V} {r : List (κ × V)} {k : κ} (e : ¬ p.1 = k) : valV (p :: r) k = valV r k := by simp [valV, List.find?_cons, e]
theorem valV_any (k : κ) : ∀ kvs : List (κ × V), (kvs.any fun kv => decide (kv.1 = k)) = (valV kvs k).isSome
  | [] => rfl
  | p :: r => by
    rw [List.any_cons]
    by_cases e : p.1 = k
    · simp only [valV_pos e, decide_eq_true e, Bool.true_or, Option.isSome_some]
    · rw [valV_neg e, decide_eq_false e, Bool.false_or]; exact valV_any k r
theorem RelO.isSome_eq {o : Option V} {u : Option Value} (r : RelO o u) : o.isSome = u.isSome := by
  cases o with
  | none => cases u with
    | none => rfl
    | some _ => exact (show False from r).elim
  | some _ => cases u with
    | none => exact (show False from r).elim
    | some _ => rfl
theorem RelO.getD {o : Option V} {u : Option Value} {d : V} {d' : Value} (r : RelO o u) (rd : RelV d d') : RelV (o.getD d) (u.getD d') := by
  cases o with
  | none => cases u with
    | none => exact rd
    | some _ => exact (show False from r).elim
  | some _ => cases u with
    | none => exact (show False from r).elim
    | some _ => exact r

theorem KV.val {kvs : List (κ × V)} {vs : List (κ × Value)} (r : KV kvs vs) (k : κ) : RelO (valV kvs k) (valueAt vs k) := by
  unfold KV at r
  induction r with
  | nil => exact True.intro
  | @cons p q ps qs h t ih =>
    obtain ⟨h1, h2⟩ := h
    by_cases e : p.1 = k
    · have e' : q.1 = k := h1.symm.trans e
      have b : valueAt (q :: qs) k = some q.2 := by simp [valueAt, List.find?_cons, e']
      rw [valV_pos e, b]; exact h2
    · have e' : ¬ q.1 = k := fun z => e (h1.trans z)
      have b : valueAt (q :: qs) k = valueAt qs k := by simp [valueAt, List.find?_cons, e']
      rw [valV_neg e, b]; exact ih
theorem KV.any {kvs : List (κ × V)} {vs : List (κ × Value)} (r : KV kvs vs) (k : κ) : (kvs.any fun kv => decide (kv.1 = k)) = vs.any fun kv => decide (kv.1 = k) := by
  unfold KV at r
  induction r with
  | nil => rfl
  | cons h t ih => rw [List.any_cons, List.any_cons, ih, h.1]
theorem KV.repl {kvs : List (κ × V)} {vs : List (κ × Value)} (r : KV kvs vs) (k : κ) {y : V} {u : Value} (ry : RelV y u) :
    KV (kvs.map fun kv => if kv.1 = k then (kv.1, y) else kv) (vs.map fun kv => if kv.1 = k then (kv.1, u) else kv) := by
  unfold KV at r ⊢
  induction r with
  | nil => exact .nil
  | @cons p q ps qs h t ih =>
    rw [List.map_cons, List.map_cons]
    refine .cons ?_ ih
    obtain ⟨h1, h2⟩ := h
    by_cases e : p.1 = k
    · rw [if_pos e, if_pos (h1.symm.trans e)]; exact ⟨h1, ry⟩
    · rw [if_neg e, if_neg (fun z => e (h1.trans z))]; exact ⟨h1, h2⟩
theorem KV.put {kvs : List (κ × V)} {vs : List (κ × Value)} (r : KV kvs vs) (k : κ) {y : V} {u : Value} (ry : RelV y u) : KV (putK kvs k y) (stored vs k u) := by
  unfold putK stored
  rw [r.any k]
  by_cases e : (vs.any fun kv => decide (kv.1 = k)) = true
  · rw [if_pos e, if_pos e]; exact r.repl k ry
  · rw [if_neg e, if_neg e]; exact Paired.snoc r ⟨rfl, ry⟩
theorem KV.drop {kvs : List (κ × V)} {vs : List (κ × Value)} (r : KV kvs vs) (k : κ) : KV (dropK kvs k) (without vs k) := by
  unfold KV at r ⊢
  unfold dropK without
  induction r with
  | nil => exact .nil
  | @cons p q ps qs h t ih =>
    obtain ⟨h1, h2⟩ := h
    rw [List.filter_cons, List.filter_cons]
    by_cases e : p.1 = k
    · have a : ¬ decide (p.1 ≠ k) = true := by simp [e]
      have b : ¬ decide (q.1 ≠ k) = true := by simp [h1.symm.trans e]
      rw [if_neg a, if_neg b]; exact ih
    · have e' : ¬ q.1 = k := fun z => e (h1.trans z)
      have a : decide (p.1 ≠ k) = true := by simp [e]
      have b : decide (q.1 ≠ k) = true := by simp [e']
      rw [if_pos a, if_pos b]; exact .cons ⟨h1, h2⟩ ih
theorem KV.length {kvs : List (κ × V)} {vs : List (κ × Value)} (r : KV kvs vs) : kvs.length = vs.length := Paired.length r
end


abbrev KT (H : Hp) : List (List Key × V) → List (List Key × Addr × Value) → Prop := Paired fun p q => p.1 = q.1 ∧ H q.2.1 = some (.tup (p.1.map kV)) ∧ RelV p.2 q.2.2
theorem KT.val {H : Hp} {kvs : List (List Key × V)} {xs : List (List Key × Addr × Value)} (r : KT H kvs xs) (k : List Key) : RelO (valV kvs k) ((atKey xs k).map (·.2)) := by
  induction r with
  | nil => exact True.intro
  | @cons p q ps qs h t ih =>
    obtain ⟨h1, _, h2⟩ := h
    by_cases e : p.1 = k
    · have e' : q.1 = k := h1.symm.trans e
      have b : atKey (q :: qs) k = some q.2 := by simp [atKey, List.find?_cons, e']
      rw [valV_pos e, b]; exact h2
    · have e' : ¬ q.1 = k := fun z => e (h1.trans z)
      have b : atKey (q :: qs) k = atKey qs k := by simp [atKey, List.find?_cons, e']
      rw [valV_neg e, b]; exact ih
theorem KT.repl {H : Hp} {kvs : List (List Key × V)} {xs : List (List Key × Addr × Value)} (r : KT H kvs xs) (k : List Key) {y : V} {u : Value} (ry : RelV y u) :
    KT H (kvs.map fun kv => if kv.1 = k then (kv.1, y) else kv) (xs.map (putAt k u)) := by
  induction r with
  | nil => exact .nil
  | @cons p q ps qs h t ih =>
    rw [List.map_cons, List.map_cons]
    refine .cons ?_ ih
    obtain ⟨h1, h2, h3⟩ := h
    unfold putAt
    by_cases e : p.1 = k
    · rw [if_pos e, if_pos (h1.symm.trans e)]; exact ⟨h1, h2, ry⟩
    · rw [if_neg e, if_neg (fun z => e (h1.trans z))]; exact ⟨h1, h2, h3⟩
theorem KT.put {H : Hp} {kvs : List (List Key × V)} {xs : List (List Key × Addr × Value)} (r : KT H kvs xs) (k : List Key) {b : Addr} {y : V} {u : Value} (hb : H b = some (.tup (k.map kV))) (ry : RelV y u) :
    KT H (putK kvs k y) (storedH xs k b u) := by
  have e : (kvs.any fun kv => decide (kv.1 = k)) = (atKey xs k).isSome := by
    rw [valV_any, (r.val k).isSome_eq, Option.isSome_map]
  unfold putK storedH
  rw [e]
  by_cases q : (atKey xs k).isSome = true
  · rw [if_pos q, if_pos q]; exact r.repl k ry
  · rw [if_neg q, if_neg q]; exact Paired.snoc r ⟨rfl, hb, ry⟩
theorem KT.keeps {H H' : Hp} {kvs : List (List Key × V)} {xs : List (List Key × Addr × Value)} (r : KT H kvs xs) (ht : ∀ b ys, H b = some (.tup ys) → H' b = some (.tup ys)) : KT H' kvs xs :=
  Paired.mapP r fun _ _ z => ⟨z.1, ht _ _ z.2.1, z.2.2⟩

section
variable {P : Program} {w : World} {H : Hp} {h : Heap} {a : Addr}
end

def DGet (H : Hp) (a : Addr) (y : V) (r : Option V) : Prop :=
  (∃ kvs k, Rd H a (.dK kvs) ∧ y = kV k ∧ r = valV kvs k) ∨ ∃ kvs k b, Rd H a (.dT kvs) ∧ y = .ref b ∧ H b = some (.tup (k.map kV)) ∧ r = valV kvs k
def DPut (H : Hp) (a : Addr) (y v : V) (H' : Hp) : Prop :=
  (∃ kvs k, H a = some (.dK kvs) ∧ y = kV k ∧ kvs.length < sizeLine ∧ H' = upd H a (.dK (putK kvs k v))) ∨
  ∃ kvs k b, H a = some (.dT kvs) ∧ y = .ref b ∧ H b = some (.tup (k.map kV)) ∧ kvs.length < sizeLine ∧ H' = upd H a (.dT (putK kvs k v))
theorem DGet.k {H : Hp} {a : Addr} {kvs : List (Key × V)} {k : Key} (e : H a = some (.dK kvs)) : DGet H a (kV k) (valV kvs k) := .inl ⟨kvs, k, .inl e, rfl, rfl⟩
theorem DGet.t {H : Hp} {a b : Addr} {kvs : List (List Key × V)} {k : List Key} (e : H a = some (.dT kvs)) (eb : H b = some (.tup (k.map kV))) : DGet H a (.ref b) (valV kvs k) := .inr ⟨kvs, k, b, .inl e, rfl, eb, rfl⟩
theorem DPut.k {H : Hp} {a : Addr} {kvs : List (Key × V)} {k : Key} {v : V} (e : H a = some (.dK kvs)) (hl : kvs.length < sizeLine) : DPut H a (kV k) v (upd H a (.dK (putK kvs k v))) := .inl ⟨kvs, k, e, rfl, hl, rfl⟩
theorem DPut.t {H : Hp} {a b : Addr} {kvs : List (List Key × V)} {k : List Key} {v : V} (e : H a = some (.dT kvs)) (eb : H b = some (.tup (k.map kV))) (hl : kvs.length < sizeLine) :
    DPut H a (.ref b) v (upd H a (.dT (putK kvs k v))) := .inr ⟨kvs, k, b, e, rfl, eb, hl, rfl⟩


section
variable {X : Cx} {pins : List (Addr × Obj)} {σ : St} {H : Hp} {s : Shared} {a : Addr} {y v : V} {u r : Value} {o : Option V} {A : Around} {E : Value → Shared → Prop}

end

section
variable {X : Cx} {pins : List (Addr × Obj)} {σ : St} {H : Hp} {s : Shared} {a : Addr} {kvs : List (Key × V)} {k : Key} {u : Value} {A : Around} {E : Value → Shared → Prop}
end


section
variable {X : Cx} {o i e value : Expr} {pos pos' tpos : Pos} {td ty tv : TE}
end


section
variable {X : Cx} {pos : Pos}
end

section
variable {X : Cx} {pins : List (Addr × Obj)} {σ : St} {H : Hp} {s : Shared} {a : Addr} {y d : V} {u r : Value} {o : Option V} {A : Around} {E : Value → Shared → Prop}
end

section
variable {X : Cx} {o e f : Expr} {apos cpos : Pos} {td ty tx : TE}
end

section
variable {X : Cx} {pins : List (Addr × Obj)} {σ : St} {H : Hp} {s : Shared} {a : Addr} {kvs : List (Key × V)} {A : Around} {E : Value → Shared → Prop}
end


section
variable {X : Cx} {pins : List (Addr × Obj)} {σ : St} {H : Hp} {s : Shared} {a : Addr} {y : V} {u : Value} {A : Around} {E : Value → Shared → Prop}
end
end L2

namespace Att
open PySem PySem.W PySem.Calls PyProof.Rows

theorem ints_of_wellAll {P : Params} {h : Heap} : ∀ (ns : List Int) (vs : List Value), WellAll P h vs (ns.map WData.int) → IntsAre vs ns := by
  intro ns
  induction ns with
  | nil =>
    intro vs w
    rw [List.map_nil] at w
    cases w
    exact .nil
  | cons n ns ih =>
    intro vs w
    rw [List.map_cons] at w
    cases w with
    | cons a b =>
      cases a
      exact .cons _ _ (ih _ b)

theorem script_of {l : OpenLaw} {n : Nat} (hn : l.most = some n) {P : Params} {h : Heap} {args : List WData} {vals : List Value}
    (hpre : l.row.toRowW.claim.pre args = true) (hwl : WellAll P h vals args) :
    ∃ a vs ns, vals = [Value.ref a] ∧ args = [WData.list (ns.map WData.int)] ∧ h.get? a = some { cls := .type "list", data := .seq vs.toArray } ∧ IntsAre vs ns ∧ ns.length ≤ n := by
  have hsh : WShape.hasAll [] args [.list .int] = true := (pre_splitW hpre).1
  have hc : l.pre.holds [] { args := args } = true := (pre_splitW hpre).2
  obtain ⟨d, r, rfl, h1, h2⟩ := hasAllW_cons hsh
  obtain rfl := hasAllW_nil h2
  obtain ⟨xs, rfl, h3⟩ := hasW_list h1
  obtain ⟨ns, rfl⟩ := items_int h3
  have hlen : ns.length ≤ n := by
    unfold OpenLaw.pre at hc
    have h4 : (WTm.not (.lt (.lit (.int (n : Int))) (.len (.arg 0)))).holds [] { args := [.list (ns.map .int)] } = true := by
      have h4 := (holds_andW hc).1
      rw [hn] at h4
      exact h4
    have h5 := condW_of h4 (w_not (w_lt w_lit (w_len_list (w_arg rfl))))
    rw [List.length_map] at h5
    refine Nat.le_of_not_lt fun q => ?_
    have q' : (n : Int) < ((ns.length : Nat) : Int) := by omega
    first
      | (rw [decide_eq_true q'] at h5; exact absurd h5 (by decide))
      | (simp at h5; omega)
  cases hwl with
  | cons w1 w2 =>
    cases w2
    cases w1 with
    | list ho hall => exact ⟨_, _, ns, rfl, rfl, ho, ints_of_wellAll ns _ hall, hlen⟩

theorem post_true (l : OpenLaw) (args : List WData) : l.row.toRowW.claim.post args (.bool true) args = true :=
  postW_of (r := l.row.toRowW) (X := (true == true))
    (show WShape.has [] (.bool true) .bool = true by first | rfl | decide | simp [WShape.has, WShape.arms, WShape.armsAll])
    (show (WTm.eq .res (.lit (.bool true))).value [] { args := args, res := some (.bool true), after := args } = some (.bool (true == true)) from w_eq_bool (w_res rfl) w_lit) rfl

theorem attach_call {l : OpenLaw} {n : Nat} {q : Program} {loose : List Str} {XP : (Str → Option Value) → Heap → Prop} {YP : World → Heap → Prop} {d : DefRec}
    (hn : l.most = some n) (hdf : d.params.defaults = [])
    (call : ∀ (w : World) (s₀ s₁ : Shared) (mg mb : Str → Option Value) (fa : Addr) (o : Obj) (pm cd doc : Value) (a : Addr) (vs : List Value) (ns : List Int),
      Ground q loose [] XP w s₀ mg mb s₁.heap → YP w s₁.heap →
      s₁.heap.get? fa = some o → o.data = .func (docDef d.name d.params d.body d.scope pm cd doc) → s₁.heap.CodeRec cd d.name → mg d.name = some (.ref fa) →
      s₁.heap.get? a = some { cls := .type "list", data := .seq vs.toArray } → IntsAre vs ns → ns.length ≤ n → s₁.gens = #[] →
      codeAny (model l.prog w) callerA (.call (.ref fa) ⟨[.ref a], []⟩) (fun r s' => r = .ok (.ret (.bool true)) ∧ OldK s₁.heap s'.heap ∧ s'.os = s₁.os ∧ AllBare s'.gens) s₁) :
    WalkO q loose XP YP l.row.toRowW d [] (fun f vs => PySem.call f vs) := by
  intro w s₀ s₁ mg mb G Y fa o pm cd doc dV kV ho hd hcd hD hmg hg args vals as hpre hlay hrd hwl hlo
  obtain rfl : dV = .none := Dflts.none hD hdf
  obtain rfl : kV = .none := Dflts.noKw hD
  obtain ⟨a, vs, ns, rfl, rfl, hobj, hints, hlen⟩ := script_of hn hpre hwl
  refine enter_call (codeAny_mono (call w s₀ s₁ mg mb fa o pm cd doc a vs ns G Y ho (fd_plain hd) hcd hmg hobj hints hlen hg) fun r s' hq => ?_)
  obtain ⟨rfl, h2, h3, h4⟩ := hq
  exact ⟨.inl ⟨.bool true, .bool true, [], rfl, fun _ => rfl, .bool true, post_true l _, fun _ => ⟨List.Pairwise.nil, fun _ hm => (nomatch hm)⟩⟩, h2, h3, h4⟩

section
variable {prog : Program} {w : World} {A : Around} {E : Value → Shared → Prop} {s : Shared} {K : Frag}

end
end Att

namespace L2
open PySem PySem.Spec PyProof.Rows

theorem vals_ints : ∀ {vs : List Value} {ns : List Int}, IntsAre vs ns → Vals (ns.map V.int) vs
  | _, _, .nil => .nil
  | _, _, .cons n t h => .cons ⟨t, rfl⟩ (vals_ints h)

def Only (H : Hp) : Prop := ∀ b, H b = none ∨ ∃ o xs, H b = some (.frz o (.lst xs))

theorem law_call {P : Program} {w : World} {K : PySem.W.Frag} {mg mb : Str → Option Value} {CX : CXT} {k : Nat} {fa a : Addr} {fd : FuncData} {x : Str} {sp : Sp} {s₁ : Shared} {vs : List Value} {ns : List Int}
    (KX : K.In s₁.heap) (hns : s₁.heap.Ns mainGlobals mg) (hb : s₁.heap.Ns builtinsNs mb) (hbb : ∀ x : Str, x ≠ "__name__" → mb x = bootBuiltins x) (hlim : s₁.heap.NoLimit) (hg : s₁.gens = #[])
    (ha : s₁.heap.get? a = some { cls := .type "list", data := .seq vs.toArray }) (hi : IntsAre vs ns) (hl : ns.length ≤ sizeLine) (hr : Room k callerA)
    (F : ∀ base : Heap, K.In base → base.Ns mainGlobals mg → FnOk P w K mg base CX k fa fd [x] sp) (hbind : ∀ (s : Shared) (u : Value), BindsTo s fd ⟨[u], []⟩ [(x, u)])
    (hsp : ∀ H : Hp, Only H → SqL K H a (ns.map V.int) → sp [.ref a] H (fun v _ => v = .bl true) fun _ _ _ => False)
    (hCX : ∀ H e s', CX [] H s₁ (fun _ _ _ => False) e s' → False) :
    codeAny (model P w) callerA (.call (.ref fa) ⟨[.ref a], []⟩) (fun r s' => r = .ok (.ret (.bool true)) ∧ OldK s₁.heap s'.heap ∧ s'.os = s₁.os ∧ AllBare s'.gens) s₁ := by
  have rv := vals_ints hi
  have lenV := hi.length
  -- from an abstract heap in which nothing but the script may be tracked
  have core : ∀ H : Hp, Only H → SqL K H a (ns.map V.int) → HOk P w H s₁.heap → (∀ b, H b ≠ none → b = a) → (H a ≠ none → K.lookup a = none) →
      codeAny (model P w) callerA (.call (.ref fa) ⟨[.ref a], []⟩) (fun r s' => r = .ok (.ret (.bool true)) ∧ OldK s₁.heap s'.heap ∧ s'.os = s₁.os ∧ AllBare s'.gens) s₁ := by
    intro H hO hS hok hA hK
    have base_of : ∀ {b : Addr} {o : Obj}, s₁.heap.get? b = some o → H b = none → (hidT s₁.heap H).get? b = some o := fun e n => hidT_get e n
    have noA : ∀ {b : Addr} {o : Obj} {es : Array DictEntry} {ep : Nat}, s₁.heap.get? b = some o → o.data = .dict es ep → H b = none := fun {b o es ep} e d => by
      cases q : H b with
      | none => rfl
      | some u =>
        have e' : b = a := hA b (by rw [q]; simp)
        subst e'
        rw [ha] at e; cases e
        have d' : Data.seq vs.toArray _ = Data.dict es ep := d
        cases d'
    have nsK : ∀ {b : Addr} {m : Str → Option Value}, s₁.heap.Ns b m → (hidT s₁.heap H).Ns b m := fun {b m} ⟨o, es, ep, e, d, r⟩ => ⟨o, es, ep, base_of e (noA e d), d, r⟩
    have hKb : K.In (hidT s₁.heap H) := fun b o e => base_of (KX b o e) (by
      cases q : H b with
      | none => rfl
      | some u =>
        have e' : b = a := hA b (by rw [q]; simp)
        subst e'
        rw [hK (by rw [q]; simp)] at e; cases e)
    have hM : Mod K mg (hidT s₁.heap H) := ⟨hKb, nsK hns, ⟨mb, nsK hb, hbb⟩, let ⟨mc, h1, h2⟩ := hlim; ⟨mc, nsK h1, h2⟩⟩
    have e0 : Env0 P w K mg (hidT s₁.heap H) callerA [] s₁ H := ⟨rfl, hM, fun b o e => of_hidT e, Nat.le_of_eq (hidT_size _ _), trivial, fun b hb => absurd (show b ∈ ([] : List Addr) from hb) (by simp), hok, .of_eq hg⟩
    refine codeAny_mono ((F _ hKb (nsK hns)).run callerA [] s₁ H ⟨[.ref a], []⟩ [.ref a] [.ref a] _ _ hr e0 (hbind s₁ (.ref a)) (.cons rfl .nil) (hsp H hO hS)) fun r s' h => ?_
    cases r with
    | error e => exact (hCX H e s' h).elim
    | ok fl =>
      cases fl with
      | next => exact False.elim h
      | brk => exact False.elim h
      | cont => exact False.elim h
      | ret u =>
        obtain ⟨v, H', os, bare, un, hok', r', q⟩ := h
        have q' : v = .bl true := q
        subst q'
        obtain rfl : u = Value.bool true := r'
        refine ⟨rfl, OldK.of_keep fun b o e => ?_, os, bare⟩
        cases q : H b with
        | none => exact un.keep b o e q (by intro z; exact absurd (show b ∈ ([] : List Addr) from z) (by simp)) (by simp)
        | some u =>
          rcases hO b with z | ⟨ob, xs, z⟩
          · rw [q] at z; cases z
          · have z2 := un.frzs b ob _ z
            obtain ⟨e1, _⟩ := hok b _ z
            obtain ⟨e2, _⟩ := hok' b _ z2
            rw [e] at e1; cases e1
            exact e2
  cases hk : K.lookup a with
  | some o =>
    -- the script is one of the module's own objects
    have e := KX a o hk
    rw [ha] at e
    cases e
    refine core (fun _ => none) (fun _ => .inl rfl) (.inr ⟨_, vs.toArray, _, hk, rfl, rfl, rfl, by rw [List.size_toArray, lenV]; exact hl, by simpa using rv⟩) (fun b u z => by have z' : (none : Option HO) = some u := z; cases z') (fun b z => absurd rfl z) fun z => absurd rfl z
  | none =>
    refine core (fun b => if b = a then some (.frz { cls := .type "list", data := .seq vs.toArray } (.lst (ns.map V.int))) else none) (fun b => ?_) (.inl (.inr ⟨{ cls := .type "list", data := .seq vs.toArray }, if_pos rfl⟩)) (fun b u z => ?_) (fun b z => ?_) fun _ => hk
    · by_cases hb : b = a
      · exact .inr ⟨_, _, if_pos hb⟩
      · exact .inl (if_neg hb)
    · by_cases hb : b = a
      · have z' := (if_pos hb).symm.trans z
        cases z'
        subst hb
        exact ⟨ha, by rw [List.length_map]; exact hl, vs, _, rv, ha⟩
      · have z' := (if_neg hb).symm.trans z
        cases z'
    · by_cases hb : b = a
      · exact hb
      · exact absurd (if_neg hb) z
end L2

namespace L2
open PySem PySem.Spec PyProof.Rows

theorem walk_of {l : PySem.W.OpenLaw} {n k : Nat} {q : Program} {loose : List Str} {XP : (Str → Option Value) → Heap → Prop} {YP : World → Heap → Prop} {d : DefRec} {K : Params → PySem.W.Frag} {CX : World → CXT} {sp : World → Sp} {x : Str}
    (hn : l.most = some n) (hn2 : n ≤ sizeLine) (hdf : d.params.defaults = []) (hr : Room k callerA)
    (hY : ∀ (w : World) (h : Heap), YP w h → (K w.params).In h)
    (F : ∀ (w : World) (mg : Str → Option Value) (fa : Addr) (h : Heap), (K w.params).In h → h.Ns mainGlobals mg → mg d.name = some (.ref fa) →
      ∃ fd : FuncData, (∀ (s : Shared) (u : Value), BindsTo s fd ⟨[u], []⟩ [(x, u)]) ∧
        ∀ base : Heap, (K w.params).In base → base.Ns mainGlobals mg → FnOk l.prog w (K w.params) mg base (CX w) k fa fd [x] (sp w))
    (hsp : ∀ (w : World) (H : Hp) (a : Addr) (ns : List Int), ns.length ≤ n → Only H → SqL (K w.params) H a (ns.map V.int) → sp w [.ref a] H (fun v _ => v = .bl true) fun _ _ _ => False)
    (hCX : ∀ (w : World) (H : Hp) (s : Shared) (e : Value) (s' : Shared), CX w [] H s (fun _ _ _ => False) e s' → False) :
    PySem.W.WalkO q loose XP YP l.row.toRowW d [] (fun f vs => PySem.call f vs) := by
  refine Att.attach_call hn hdf fun w s₀ s₁ mg mb fa o pm cd doc a vs ns G Y ho hd hcd hmg hobj hints hlen hg => ?_
  have KX := hY w _ Y
  obtain ⟨fd, hb, hF⟩ := F w mg fa _ KX G.T.g hmg
  exact law_call KX G.T.g G.T.b G.T.builtins G.T.nolimit hg hobj hints (Nat.le_trans hlen hn2) hr hF hb (fun H hO hS => hsp w H a ns hlen hO hS) fun H e s' => hCX w H s₁ e s'
end L2


namespace L2
open PySem PySem.Spec PyProof.Rows

def defArgs (s : Stmt) : Arguments := match s with
  | .FunctionDef _ a _ _ _ _ _ _ _ _ => a
  | _ => { posonlyargs := [], args := [], vararg := none, kwonlyargs := [], kw_defaults := [], kwarg := none, defaults := [] }
def defBody (s : Stmt) : List Stmt := match s with
  | .FunctionDef _ _ b _ _ _ _ _ _ _ => b
  | _ => []
def defScope (s : Stmt) : Scope := match s with
  | .FunctionDef _ _ _ _ _ _ sc _ _ _ => sc
  | _ => { kind := .function, names := [], isGenerator := false, isCoroutine := false }

abbrev CX0 : CXT := fun _ _ _ _ _ _ => False
abbrev E0 : XK := fun _ _ _ => False
theorem pass0 {X : Cx} : Passes CX0 X E0 := fun _ _ _ _ _ _ _ h => h.elim

structure Fun (K : PySem.W.Frag) (x qual : Str) (st : Stmt) (f : Addr) (fd : FuncData) : Prop where
  ex : ∃ (oc : Value) (od : Option Addr) (kV doc pm : Value) (an : Option Addr) (cdv ct : Value) (osl : Array (Option Value)),
    fd = PySem.W.fnOf x qual (defArgs st) (defBody st) (defScope st) .none kV doc pm an cdv ct ∧ K.lookup f = some ⟨oc, od, .func fd, osl⟩ ∧ PySem.W.codeIn K cdv qual = true
  kp : PySem.W.keepIn K (.ref f) = true
section
variable {P : Program} {w : World} {K : PySem.W.Frag} {mg : Str → Option Value} {base : Heap}
theorem Fun.ok {x qual : Str} {st : Stmt} {f : Addr} {fd : FuncData} {N ps : List Str} {k : Nat} {sp : Sp} (F : Fun K x qual st f fd) (S : FnScope N ps (defScope st)) (len : ∀ vs H Q E, sp vs H Q E → vs.length = ps.length)
    (hbody : ∀ (cdv : Value) (A : Around) (outer : List Env) (s : Shared) (H : Hp) (vs : List V) (Q : VK) (E : XK), Room k (A.deeper (envOfC qual (defScope st) s.heap.objs.size f cdv)) → sp vs H Q E →
      ∃ t, PSs (cxOf CX0 P w K mg base N qual (defScope st) f cdv A outer s H E).nox (defBody st) t ∧ t { nx := fun _ H' => Q .non H', rt := Q } (start N vs) H) : FnOk P w K mg base CX0 (k + 1) f fd ps sp := by
  obtain ⟨oc, od, kV, doc, pm, an, cdv, ct, osl, rfl, lk, hcd⟩ := F.ex
  refine fn_of lk hcd S len fun A outer s H vs Q E hr hsp => ?_
  obtain ⟨t, h, q⟩ := hbody cdv A outer s H vs Q E hr hsp
  exact ⟨t, h.nox, q⟩
theorem Fun.binds {x qual : Str} {st : Stmt} {f : Addr} {fd : FuncData} {ps : List Str} (F : Fun K x qual st f fd)
    (h : ∀ (kV doc pm : Value) (an : Option Addr) (cdv ct : Value) (us : List Value), us.length = ps.length → bindArgs (PySem.W.fnOf x qual (defArgs st) (defBody st) (defScope st) .none kV doc pm an cdv ct) ⟨us, []⟩ = pure (ps.zip us)) : Binds K fd ps [] := by
  obtain ⟨oc, od, kV, doc, pm, an, cdv, ct, osl, rfl, lk, hcd⟩ := F.ex
  exact .all (h kV doc pm an cdv ct)
theorem fun_mk {x qual : Str} {st : Stmt} {f : Addr} {oc : Value} {od an : Option Addr} {osl : Array (Option Value)} {kV doc pm cdv ct : Value} (l : K.lookup f = some ⟨oc, od, .func (PySem.W.fnOf x qual (defArgs st) (defBody st) (defScope st) .none kV doc pm an cdv ct), osl⟩)
    (c : PySem.W.codeIn K cdv qual = true) (k : PySem.W.keepIn K (.ref f) = true) : Fun K x qual st f (PySem.W.fnOf x qual (defArgs st) (defBody st) (defScope st) .none kV doc pm an cdv ct) := ⟨⟨oc, od, kV, doc, pm, an, cdv, ct, osl, rfl, l, c⟩, k⟩
end
theorem hu_of {A : Around} {k : Nat} (hr : Room k A) : A.units + 1 < cLine := Nat.lt_of_le_of_lt (Nat.add_le_add_left (by decide : 1 ≤ 64) _) hr.units
theorem small1000 {n : Nat} (h : n ≤ 1000) : n < sizeLine := Nat.lt_of_le_of_lt h (by decide)

section
variable {X : Cx}
theorem pv (i : Nat) {x : Str} {pos : Pos} (hN : X.N[i]? = some x := by rfl) (hv : Vis X.env.scope x := by first | exact Or.inl rfl | exact Or.inr (Or.inl rfl) | exact Or.inr (Or.inr rfl)) (hd : (x == ("__debug__" : Str)) = false := by decide)
    (hcd : (x == ("__classdict__" : Str)) = false := by decide) : PE X (.Name x pos) (tVar i) := pe_var hN hv hd hcd
end

theorem iteF {A B : Prop} (h : B) : if false = true then A else B := by
  rw [if_neg Bool.false_ne_true]
  exact h
theorem iteT {A B : Prop} (h : A) : if true = true then A else B := by
  rw [if_pos rfl]
  exact h
theorem ite2 {c A B : Prop} [Decidable c] (h1 : c → A) (h2 : ¬ c → B) : if c then A else B := by
  by_cases h : c
  · rw [if_pos h]
    exact h1 h
  · rw [if_neg h]
    exact h2 h
def Same (H H' : Hp) : Prop := ∀ b o, H b = some o → H' b = some o
theorem Same.refl (H : Hp) : Same H H := fun _ _ h => h
theorem Same.trans {H H1 H2 : Hp} (a : Same H H1) (b : Same H1 H2) : Same H H2 := fun c o h => b c o (a c o h)
theorem Same.free {H H' : Hp} (e : Same H H') {l : Addr} (h : H' l = Option.none) : H l = Option.none := by
  cases q : H l with
  | none => rfl
  | some o =>
    rw [e l o q] at h
    cases h
theorem Same.seq {K : PySem.W.Frag} {H H' : Hp} {a : Addr} {xs : List V} (e : Same H H') (h : SqL K H a xs) : SqL K H' a xs := by
  rcases h with (h | ⟨o, h⟩) | h
  · exact .inl (.inl (e _ _ h))
  · exact .inl (.inr ⟨o, e _ _ h⟩)
  · exact .inr h

section
variable {κ : Type} [DecidableEq κ]
end
end L2


namespace L2
open PySem PySem.Spec PyProof.Rows

section
variable {prog : Program} {w : World} {A : Around} {R : Result → Shared → Prop} {s : Shared}
theorem compLoop_any {elt target iter : Expr} {ifs : List Expr} {scope : Scope} {pos : Pos} {it acc : Value} {env : Env} (I : Nat → Shared → Prop)
    (turn : ∀ n s, I n s → wpAny (model prog w) A (pyNext it) (fun r s₁ => match r with
      | none => R (.ok .next) s₁
      | some v => wpAny (model prog w) A (letOwnedTupleGo target it v) (fun _ s₀ => wpAny (model prog w) A (assign target env v) (fun _ s₂ =>
          wpAny (model prog w) A (forIn ifs true fun c r => if r = true then do let ok ← isTrue c env (eval c env); pure (ForInStep.yield ok) else pure (ForInStep.yield r)) (fun ok s₃ =>
            if ok = true then wpAny (model prog w) A (eval elt env) (fun x s₄ =>
              wpAny (model prog w) A (call (.builtin "list.append") [acc, x]) (fun _ s₅ => ∃ m, m < n ∧ I m s₅) (fun _ _ => False) s₄) (fun _ _ => False) s₃
            else ∃ m, m < n ∧ I m s₃) (fun _ _ => False) s₂) (fun _ _ => False) s₀) (fun _ _ => False) s₁) (fun _ _ => False) s)
    (n : Nat) (h : I n s) : codeAny (model prog w) A (.compLoop (.ListComp elt [⟨target, iter, ifs, 0⟩] scope pos) 0 it acc env) R s := by
  refine codeAny_loop rfl I (fun n s hI => ?_) n h
  show wpAny _ A ((compTurn (.ListComp elt [⟨target, iter, ifs, 0⟩] scope pos) 0 it acc env).onRaise (fun x => do noteFrame x env; theTreesLotGoes x)) _ _ s
  refine wpAny_noted ?_
  rw [compTurn_list]
  refine wpAny_bind (wpAny_standAt (wpAny_bind (wpAny_mono (turn n s hI) (fun r s₁ h₁ => ?_) fun _ _ h' => h'.elim)))
  cases r with
  | none => exact wpAny_pure h₁
  | some v =>
    refine wpAny_bind (wpAny_mono h₁ (fun _ s₀ h₀ => ?_) fun _ _ h' => h'.elim)
    refine wpAny_bind (wpAny_mono h₀ (fun _ s₂ h₂ => wpAny_bind (wpAny_mono h₂ (fun ok s₃ h₃ => ?_) fun _ _ h' => h'.elim)) fun _ _ h' => h'.elim)
    cases ok with
    | false => exact wpAny_pure ⟨rfl, h₃⟩
    | true =>
      exact wpAny_bind (wpAny_bind (wpAny_mono h₃ (fun x s₄ h₄ => wpAny_bind (wpAny_mono h₄ (fun _ s₅ h₅ => wpAny_pure (wpAny_pure ⟨rfl, h₅⟩)) fun _ _ h' => h'.elim)) fun _ _ h' => h'.elim))
end

def PTs (X : Cx) (ifs : List Expr) (t : TT) : Prop :=
  ∀ (pins : List (Addr × Obj)) (s : Shared) (σ : St) (H : Hp) (Q : Bool → Hp → Prop), Inv X pins σ H s → t σ H Q →
    wpAny (model X.prog X.w) X.A (forIn ifs true fun c r => if r = true then do let ok ← isTrue c X.env (eval c X.env); pure (ForInStep.yield ok) else pure (ForInStep.yield r)) (TP X pins σ Q) X.xe s
def tYes : TT := fun _ H Q => Q true H
theorem pts_nil {X : Cx} : PTs X [] tYes := fun _ _ _ H _ I h => wpAny_tests_nil ⟨H, I, h⟩
abbrev Cx.blk (X : Cx) (N : List Str) (s : Shared) (H : Hp) (scope : Scope) (cl : List (Str × Addr)) (C : Addr) (ex : List Addr) : Cx :=
  { X with N := N, s₀ := s, H₀ := H, env := compEnvC scope cl C X.env, outer := X.stack, stack := X.stack, ex := ex, fn := fun _ => false, pn := [], xe := fun _ _ => False }

def AllC (env : Env) : List (Str × Addr) → Prop
  | [] => True
  | p :: r => env.cells.lookup p.1 = some p.2 ∧ AllC env r
theorem lookup_mem {α : Type} : ∀ {l : List (Str × α)} {x : Str} {k : α}, l.lookup x = some k → (x, k) ∈ l
  | [], _, _, h => by simp at h
  | (n, k') :: r, x, k, h => by
    rw [List.lookup_cons] at h
    cases hx : x == n with
    | true =>
      rw [hx] at h
      have e : x = n := eq_of_beq hx
      have e2 : k' = k := Option.some.inj h
      rw [e, e2]; exact List.mem_cons_self
    | false =>
      rw [hx] at h
      exact List.mem_cons_of_mem _ (lookup_mem h)
theorem AllC.get {env : Env} : ∀ {cl : List (Str × Addr)} {x : Str} {c : Addr}, AllC env cl → cl.lookup x = some c → env.cells.lookup x = some c := fun {cl x c} h e => by
  have go : ∀ (l : List (Str × Addr)), AllC env l → ∀ p ∈ l, env.cells.lookup p.1 = some p.2 := by
    intro l
    induction l with
    | nil => intro _ p hp; cases hp
    | cons q r ih =>
      intro ha p hp
      rcases List.mem_cons.mp hp with rfl | hp
      · exact ha.1
      · exact ih ha.2 p hp
  exact go cl h (x, c) (lookup_mem e)
def CapOk (X : Cx) (scope : Scope) (cl : List (Str × Addr)) : List Str → List Nat → Prop
  | [], [] => True
  | y :: ys, j :: js => (X.N[j]? = some y ∧ (X.env.kindOf y = some .cell ∨ X.env.kindOf y = some .free) ∧ (cl.lookup y).isSome = true ∧ ((relabel scope X.env).names.lookup y = some .cell ∨ (relabel scope X.env).names.lookup y = some .free)) ∧ CapOk X scope cl ys js
  | _, _ => False
theorem CapOk.get {X : Cx} {scope : Scope} {cl : List (Str × Addr)} : ∀ {ys : List Str} {js : List Nat} {i : Nat} {y : Str}, CapOk X scope cl ys js → ys[i]? = some y →
    ∃ j, js[i]? = some j ∧ X.N[j]? = some y ∧ (X.env.kindOf y = some .cell ∨ X.env.kindOf y = some .free) ∧ (cl.lookup y).isSome = true ∧ ((relabel scope X.env).names.lookup y = some .cell ∨ (relabel scope X.env).names.lookup y = some .free)
  | [], _, _, _, _, e => by simp at e
  | _ :: _, [], _, _, h, _ => h.elim
  | y :: ys, j :: js, 0, z, h, e => by
    have e' : y = z := by simpa using e
    subst e'
    exact ⟨j, rfl, h.1⟩
  | y :: ys, j :: js, i + 1, z, h, e => by
    obtain ⟨k, e1, e2⟩ := CapOk.get (i := i) h.2 (by simpa using e)
    exact ⟨k, by simpa using e1, e2⟩
theorem CapOk.len {X : Cx} {scope : Scope} {cl : List (Str × Addr)} : ∀ {ys : List Str} {js : List Nat}, CapOk X scope cl ys js → ys.length = js.length
  | [], [], _ => rfl
  | [], _ :: _, h => h.elim
  | _ :: _, [], h => h.elim
  | _ :: _, _ :: _, h => by rw [List.length_cons, List.length_cons, CapOk.len h.2]
def capv (σ : St) (js : List Nat) : St := js.map fun j => (σ[j]?).join
theorem relabel_free {scope : Scope} {env : Env} {x : Str} (hcell : ∀ y ∈ scope.names, y.2 ≠ .cell) (h : (relabel scope env).names.lookup x = some .cell ∨ (relabel scope env).names.lookup x = some .free) : (x, NameKind.free) ∈ scope.names := by
  have hm : ∃ k, (k = NameKind.cell ∨ k = NameKind.free) ∧ (x, k) ∈ (relabel scope env).names := by
    rcases h with h | h
    · exact ⟨_, .inl rfl, lookup_mem h⟩
    · exact ⟨_, .inr rfl, lookup_mem h⟩
  obtain ⟨k, hk, hm⟩ := hm
  obtain ⟨⟨n, k'⟩, hin, e⟩ := List.mem_map.mp hm
  dsimp only at e
  by_cases hc : (k' == NameKind.free && env.scope.kind == .function && env.kindOf n == some .cell) = true
  · rw [if_pos hc] at e
    cases e
    have : k' = NameKind.free := by
      rw [Bool.and_eq_true, Bool.and_eq_true] at hc
      exact eq_of_beq hc.1.1
    rw [← this]; exact hin
  · rw [if_neg hc] at e
    cases e
    rcases hk with hk | hk
    · exact absurd hk (hcell _ hin)
    · rw [← hk]; exact hin
section
variable {X : Cx} {pins : List (Addr × Obj)} {σ : St} {H : Hp} {s : Shared}
theorem Inv.adopt {D : Addr} {ys : List V} {its : List Value} {n : Nat} (I : Inv X pins σ H s) (hn : H D = none) (hnew : X.s₀.heap.objs.size ≤ D) (hL : D ≠ X.env.locals) (hc : ∀ x c, X.env.cells.lookup x = some c → c ≠ D) (hp : ∀ p ∈ X.pn ++ pins, p.1 ≠ D)
    (e : s.heap.get? D = some { cls := .type "list", data := .seq its.toArray n }) (hv : Vals ys its) (hz : ys.length ≤ sizeLine) : Inv X pins σ (upd H D (.lst ys)) s := by
  have ne : ∀ b u, H b = some u → b ≠ D := fun b u q => ne_of_none q hn
  refine ⟨I.ok, I.os, I.bare, ⟨I.base.keep, I.base.slot, fun b o q nn hx => ?_, I.base.there, fun b xs q => ?_, fun b o u q => ?_, fun b ps q => ?_⟩, I.loc, I.cell, ?_, fun x c q => ?_, fun p hq => ?_, fun b u q => ?_, I.len⟩
  · rw [upd_ne (Nat.ne_of_lt (Nat.lt_of_lt_of_le (Heap.lt_size q) hnew))]; exact I.base.free b o q nn hx
  · have z := I.base.tups b xs q
    rw [upd_ne (ne b _ z)]; exact z
  · have z := I.base.frzs b o u q
    rw [upd_ne (ne b _ z)]; exact z
  · obtain ⟨more, z⟩ := I.base.tbls b ps q
    exact ⟨more, by rw [upd_ne (ne b _ z)]; exact z⟩
  · rw [upd_ne (Ne.symm hL)]; exact I.free
  · rw [upd_ne (hc x c q)]; exact I.freeC x c q
  · obtain ⟨a1, a2, a3⟩ := I.pin p hq
    exact ⟨a1, by rw [upd_ne (hp p hq)]; exact a2, a3⟩
  · by_cases hb : b = D
    · subst hb
      rw [upd_same] at q; cases q
      exact ⟨hz, its, n, hv, e⟩
    · rw [upd_ne hb] at q
      exact (I.hok b u q).stay (fun c v _ r => r) (fun c r => by rw [upd_ne (ne c _ r)]; exact r) fun c xs r => by rw [upd_ne (ne c _ r)]; exact r
structure Outed (X : Cx) (pins : List (Addr × Obj)) (σ : St) (C D : Addr) (H : Hp) (s : Shared) : Prop where
  inv : Inv X pins σ H s
  ns : ∃ m, s.heap.Ns C m
  nL : C ≠ X.env.locals
  new : X.s₀.heap.objs.size ≤ C
  nc : ∀ x c, X.env.cells.lookup x = some c → c ≠ C
  np : ∀ p ∈ X.pn ++ pins, p.1 ≠ C
  free : H C = none
theorem Outed.gone {C D : Addr} {h' : Heap} (O : Outed X pins σ C D H s) (sb : Heap.SameBut C s.heap h') : Inv X pins σ H { s with heap := h' } :=
  O.inv.turned (t' := s.toks) (it := C) (fun b o hb e => (sb.2 b hb).trans e) O.free O.nL (.inr O.new) O.nc O.np
end

def gLC (J : It) (g : TG) (tc : TT) (te : TE) (n : Nat) (cv : St) (Fin : List V → Hp → Prop) (H1 : Hp) : Prop :=
  ∃ W : Nat → Nat → List V → Hp → Prop, (∃ m, W 0 m [] H1) ∧ ∀ i m ys H, W i m ys H →
    (J.stop i H ∧ Fin ys H) ∨
    (J.go i H ∧ ys.length < sizeLine ∧ ∃ N : List V → Hp → Prop, (∀ ys' H', N ys' H' → ∃ m', m' < m ∧ W (i + 1) m' ys' H') ∧ ∀ x H', J.yld i H x H' → ∀ own : St, own.length = n → g x (own ++ cv) H' fun σ2 H2 => (∃ own2 : St, own2.length = n ∧ σ2 = own2 ++ cv) ∧
      tc σ2 H2 fun b H3 => if b = true then te σ2 H3 fun y H4 => N (ys ++ [y]) H4 else N ys H3)

def clOf (env : Env) : List (Str × NameKind) → List (Str × Addr) → List (Str × Addr)
  | [], acc => acc
  | (n, k) :: r, acc => clOf env r (if k == .free then (match env.cells.lookup n with | some c => (n, c) :: acc | none => acc) else acc)
theorem clOf_all (env : Env) : ∀ (names : List (Str × NameKind)) (acc : List (Str × Addr)), AllC env acc → AllC env (clOf env names acc)
  | [], _, h => h
  | (n, k) :: r, acc, h => by
    refine clOf_all env r _ ?_
    split
    · split
      · exact ⟨by assumption, h⟩
      · exact h
    · exact h
structure LcOk (X : Cx) (scope : Scope) (cl : List (Str × Addr)) (own caps : List Str) (js : List Nat) : Prop where
  clos : closureFor scope X.env = pure cl
  cell : ∀ y ∈ scope.names, y.2 ≠ .cell
  kind : scope.kind = .function
  names : ∀ y ∈ scope.names, y.2 = .local → scope.names.lookup y.1 = some .local
  allc : AllC X.env cl
  free : (scope.names.all fun y => y.2 != .free || (cl.lookup y.1).isSome) = true
  cap : CapOk X scope cl caps js

theorem lcok {X : Cx} {scope : Scope} {own caps : List Str} {js : List Nat} (clos : closureFor scope X.env = pure (clOf X.env scope.names []) := by with_unfolding_all rfl) (cell : ∀ y ∈ scope.names, y.2 ≠ .cell := by decide +kernel) (kind : scope.kind = .function := by rfl)
    (names : ∀ y ∈ scope.names, y.2 = .local → scope.names.lookup y.1 = some .local := by decide +kernel) (free : (scope.names.all fun y => y.2 != .free || ((clOf X.env scope.names []).lookup y.1).isSome) = true := by with_unfolding_all rfl)
    (cap : CapOk X scope (clOf X.env scope.names []) caps js) : LcOk X scope (clOf X.env scope.names []) own caps js := ⟨clos, cell, kind, names, clOf_all _ _ _ trivial, free, cap⟩
section
variable {X : Cx} {elt iter target : Expr} {ifs : List Expr} {scope : Scope} {cl : List (Str × Addr)} {pos : Pos} {own caps : List Str} {js : List Nat} {g : TG} {tc : TT} {te : TE}
theorem lc_block {pins : List (Addr × Obj)} {σ : St} {s₂ : Shared} {H1 : Hp} {it : Addr} {fp : List Addr} {tn : Nat → Heap → Prop} {J : It} {Fin : List V → Hp → Prop} {RR : Value → Addr → Result → Shared → Prop} {E : Value → Shared → Prop}
    (hc : X.calm = true) (L : LcOk X scope cl own caps js)
    (hg : ∀ s H C ex, PG (X.blk (own ++ caps) s H scope cl C ex) target g) (ht : ∀ s H C ex, PTs (X.blk (own ++ caps) s H scope cl C ex) ifs tc) (he : ∀ s H C ex, PE (X.blk (own ++ caps) s H scope cl C ex) elt te)
    (I2 : Inv X pins σ H1 s₂) (T : Turn X.prog X.w X.K target J fp it tn) (st2 : tn 0 s₂.heap) (f2 : ∀ b ∈ fp, FpOk X pins H1 b)
    (G : gLC J g tc te own.length (capv σ js) Fin H1)
    (hRR : ∀ D C H ys s', H D = none → Outed X pins σ C D (upd H D (.lst ys)) s' → Fin ys H → RR (.ref D) C (.ok .next) s') :
    wpAny (model X.prog X.w) X.A (newList []) (fun acc s₃ => wpAny (model X.prog X.w) X.A (newFunctionEnv scope X.env.globals cl [] X.env.qual none .none (some X.env)) (fun cenv s₄ =>
      codeAny (model X.prog X.w) X.A (.compStart (.ListComp elt [⟨target, iter, ifs, 0⟩] scope pos) 0 (.ref it) acc { cenv with scope := relabel scope X.env }) (RR acc cenv.locals) s₄) E s₃) E s₂ := by
  refine wpAny_newObj_type (wpAny_newFunctionEnv L.cell (by intro y hy; simp at hy) (fun h₁ hns₁ hsb₁ => ?_) L.kind)
  dsimp only at hns₁ hsb₁ ⊢
  generalize hH2 : s₂.heap.push { cls := .type "list", dict := none, data := .seq ([] : List Value).toArray } = G2 at hns₁ hsb₁ ⊢
  have hC : G2.objs.size = s₂.heap.objs.size + 1 := by rw [← hH2, Heap.size_push]
  have up2 : ∀ b o, s₂.heap.get? b = some o → G2.get? b = some o := fun b o e => hH2 ▸ Heap.get?_push_of_some _ e
  have hDC : s₂.heap.objs.size ≠ G2.objs.size := by rw [hC]; exact Nat.ne_of_lt (Nat.lt_succ_self _)
  have hD2 : G2.get? s₂.heap.objs.size = some { cls := .type "list", data := .seq ([] : List Value).toArray ([] : List Value).length } := hH2 ▸ Heap.get?_push_size _ rfl
  -- the state with the list laid
  have I3 : Inv X pins σ H1 { s₂ with heap := G2 } := I2.kept (t' := s₂.toks) up2
  have up3 : ∀ b o, G2.get? b = some o → h₁.get? b = some o := fun b o e => hsb₁.extBut b o (Nat.ne_of_lt (Heap.lt_size e)) (Heap.get?_push_of_some _ e)
  have DH : H1 s₂.heap.objs.size = none := I2.fresh
  have CH : H1 G2.objs.size = none := I3.fresh
  have fpl : ∀ b ∈ fp, b < s₂.heap.objs.size := fun b hb => by
    obtain ⟨o, e, _⟩ := T.obj 0 _ st2 b hb
    exact Heap.lt_size e
  have celllt : ∀ x c, X.env.cells.lookup x = some c → c < s₂.heap.objs.size := fun x c e => by
    obtain ⟨v, q⟩ := I2.cell x c e
    exact q.lt
  have locl : X.env.locals < s₂.heap.objs.size := I2.lt
  generalize hD : s₂.heap.objs.size = D at *
  generalize hCC : G2.objs.size = C at *
  have hDltC : D < C := by omega
  have noF : ∀ b, b ∈ frs X.stack → b < D := fun b hb => by
    rcases List.mem_cons.mp (I2.stkSub b hb) with e | hb
    · rw [e]; exact locl
    · obtain ⟨_, o, ho, _⟩ := I2.ok.funs.mem hb
      exact Nat.lt_of_lt_of_le (Heap.lt_size ho) (hD ▸ I2.sz)
  have fpF : ∀ b ∈ fp, b ∉ frs X.stack := fun b hb z => by
    obtain ⟨_, e1, e2, _⟩ := f2 b hb
    rcases List.mem_cons.mp (I2.stkSub b z) with e | z
    · exact e1 e
    · exact e2 z
  have ok' : (X.blk (own ++ caps) { s₂ with heap := G2 } H1 scope cl C (D :: fp)).Ok := {
    mod := I2.ok.mod
    kind := L.kind
    glob := I2.ok.glob
    blt := I2.ok.blt
    above := Nat.le_of_eq hCC
    inj := fun x y c e1 e2 => I2.ok.inj x y c (L.allc.get e1) (L.allc.get e2)
    has := fun x hx => by
      have hm := relabel_free L.cell hx
      have q := List.all_eq_true.mp L.free _ hm
      have q' : (cl.lookup x).isSome = true := by simpa using q
      exact Option.isSome_iff_exists.mp q'
    cab := fun x c e => nomatch e
    hd := I2.ok.hd
    frames := I2.ok.frames
    stk := .inl rfl
    exf := fun b hb => by
      rcases List.mem_cons.mp hb with rfl | hb
      · exact ⟨Nat.ne_of_lt hDltC, fun x c e => Nat.ne_of_lt (celllt x c (L.allc.get e))⟩
      · obtain ⟨_, e1, e2, _, e4, _⟩ := f2 b hb
        exact ⟨Nat.ne_of_lt (Nat.lt_trans (fpl b hb) hDltC), fun x c e => e4 x c (L.allc.get e)⟩
    bs := fun b o e => ⟨up2 b o (I2.bs b o e).1, (I2.bs b o e).2⟩
    bsz := by
      show X.base.objs.size ≤ G2.objs.size
      have := I2.ok.bsz
      have := I2.sz
      omega
    noex := fun b o e hb => by
      have hlt := Heap.lt_size (I2.bs b o e).1
      rcases List.mem_cons.mp hb with z | hb
      · exact absurd (show b < D from hD ▸ hlt) (by rw [z]; exact Nat.lt_irrefl _)
      · obtain ⟨_, _, _, e3, _⟩ := f2 b hb
        rcases e3 with e3 | e3
        · exact I2.ok.noex b o e e3
        · exact absurd (Nat.lt_of_lt_of_le (Heap.lt_size (I2.ok.bs b o e).1) e3) (Nat.lt_irrefl _)
    exfs := fun b hb z => by
      rcases List.mem_cons.mp hb with e | hb
      · exact absurd (noF b z) (by rw [e]; exact Nat.lt_irrefl _)
      · exact fpF b hb z
    funs := I3.stack
    frf := I3.stkFree }
  have hns : h₁.Ns C (fun x => ([] : List (Str × Value)).reverse.lookup x) := hns₁
  have start : Inv (X.blk (own ++ caps) { s₂ with heap := G2 } H1 scope cl C (D :: fp)) [(D, LCg.lst [])] (List.replicate own.length none ++ capv σ js) H1 { s₂ with heap := h₁, toks := s₂.toks + ([] : List (Str × Value)).length } := by
    refine ⟨ok', rfl, I2.bare, Un.kept up3, ⟨_, hns, fun i x v e1 e2 e3 => ?_⟩, fun x c e => ?_, CH, fun x c e => I2.freeC x c (L.allc.get e), fun p hp => ?_, I3.hok.kept up3, ?_⟩
    · have hlo : own.length ≤ i := by
        refine Nat.le_of_not_lt fun hlt => ?_
        rw [List.getElem?_append_left (by rw [List.length_replicate]; exact hlt), List.getElem?_replicate, if_pos hlt] at e2
        cases e2
      have e1' : caps[i - own.length]? = some x := by rw [← List.getElem?_append_right hlo]; exact e1
      obtain ⟨j, j1, j2, j3, j4, j5⟩ := L.cap.get e1'
      have e2' : (capv σ js)[i - own.length]? = some (some v) := by
        rw [← e2, List.getElem?_append_right (by rw [List.length_replicate]; exact hlo), List.length_replicate]
      have e4 : σ[j]? = some (some v) := by
        unfold capv at e2'
        rw [List.getElem?_map, j1] at e2'
        have e5 : (σ[j]?).join = some v := Option.some.inj e2'
        cases hq : σ[j]? with
        | none => rw [hq] at e5; cases e5
        | some q => rw [hq] at e5; exact congrArg some e5
      obtain ⟨m, hn, hl⟩ := I2.loc
      obtain ⟨u, ru, lk⟩ := hl j x v j2 e4 (.inr j3)
      refine ⟨u, ru, .inr ⟨j5, ?_⟩⟩
      rcases lk with ⟨k, _⟩ | ⟨_, c, ec, o, ho, hd⟩
      · rcases j3 with z | z <;> (rw [k] at z; cases z)
      · obtain ⟨c', ec'⟩ := Option.isSome_iff_exists.mp j4
        have := L.allc.get ec'
        rw [ec] at this
        cases this
        exact ⟨c, ec', o, up3 _ _ (up2 _ _ ho), hd⟩
    · obtain ⟨v, o, ho, hd⟩ := I2.cell x c (L.allc.get e)
      exact ⟨v, o, up3 _ _ (up2 _ _ ho), hd⟩
    · have e : p = (D, LCg.lst []) := by simpa using hp
      subst e
      exact ⟨up3 _ _ hD2, DH, Nat.ne_of_lt hDltC, fun z => absurd (noF D z) (Nat.lt_irrefl _), fun v z => by cases z⟩
    · rw [List.length_append, List.length_append, List.length_replicate]
      unfold capv
      rw [List.length_map, L.cap.len]
  obtain ⟨W, ⟨m0, w0⟩, turn⟩ := G
  have loop : codeAny (model X.prog X.w) X.A (.compLoop (.ListComp elt [⟨target, iter, ifs, 0⟩] scope pos) 0 (.ref it) (.ref D) (compEnvC scope cl C X.env)) (RR (.ref D) C) { s₂ with heap := h₁, toks := s₂.toks + ([] : List (Str × Value)).length } := by
    refine compLoop_any (fun n s' => ∃ i ys its ow H', Inv (X.blk (own ++ caps) { s₂ with heap := G2 } H1 scope cl C (D :: fp)) [(D, LCg.lst its)] (ow ++ capv σ js) H' s' ∧ ow.length = own.length ∧ tn i s'.heap ∧ (∀ b ∈ fp, H' b = none) ∧ Vals ys its ∧ ys.length ≤ sizeLine ∧ W i n ys H') ?_ m0
      ⟨0, [], [], List.replicate own.length none, H1, start, List.length_replicate, T.keep _ _ _ st2 fun b _ o e => up3 _ _ (up2 _ _ e), fun b hb => (f2 b hb).1, .nil, Nat.zero_le _, w0⟩
    rintro n s' ⟨i, ys, its, ow, H', I', hlo, st, fr, hv, hz, wv⟩
    have fpok : ∀ {H'' : Hp}, (∀ b ∈ fp, H'' b = none) → ∀ b ∈ fp, FpOk (X.blk (own ++ caps) { s₂ with heap := G2 } H1 scope cl C (D :: fp)) [(D, LCg.lst its)] H'' b := fun hn b hb => by
      obtain ⟨_, e1, e2, e3, e4, e5⟩ := f2 b hb
      refine ⟨hn b hb, Nat.ne_of_lt (Nat.lt_trans (fpl b hb) hDltC), fpF b hb, .inl (List.mem_cons_of_mem _ hb), fun x c e => e4 x c (L.allc.get e), fun p hp => ?_⟩
      have e : p = (D, LCg.lst its) := by simpa using hp
      subst e
      exact Nat.ne_of_gt (fpl b hb)
    rcases turn i n ys H' wv with ⟨stop, fin⟩ | ⟨go, hlt, N, hN, step⟩
    · refine wpAny_mono (T.done (X.blk (own ++ caps) { s₂ with heap := G2 } H1 scope cl C (D :: fp)) rfl rfl rfl hc i _ s' _ H' (fun _ _ => False) I' (fpok fr) st stop) (fun r s4 ⟨hr, I4⟩ => ?_) fun _ _ f => f
      subst hr
      have pD := I4.pin (D, LCg.lst its) (by simp)
      have hch : ∀ b ∈ D :: fp, (b ∈ X.ex ∨ X.s₀.heap.objs.size ≤ b) ∧ b ≠ X.env.locals ∧ (∀ x c, X.env.cells.lookup x = some c → c ≠ b) ∧ ∀ p ∈ X.pn ++ pins, p.1 ≠ b := fun b hb => by
        rcases List.mem_cons.mp hb with rfl | hb
        · exact ⟨.inr (hD ▸ I2.sz), Nat.ne_of_gt locl, fun x c e => Nat.ne_of_lt (celllt x c e), fun p hp => Nat.ne_of_lt (hD ▸ Heap.lt_size (I2.pin p hp).1)⟩
        · obtain ⟨_, e1, e2, e3, e4, e5⟩ := f2 b hb
          exact ⟨e3, e1, e4, e5⟩
      have IX : Inv X pins σ H' s4 := I2.call' (ch := D :: fp) I4.os ((Un.kept up2).trans I4.base) I4.hok I4.bare hch
      have cD := hch D List.mem_cons_self
      have IA : Inv X pins σ (upd H' D (.lst ys)) s4 := IX.adopt pD.2.1 (hD ▸ I2.sz) cD.2.1 cD.2.2.1 cD.2.2.2 pD.1 hv hz
      obtain ⟨mm, hmm, _⟩ := I4.loc
      refine hRR D C H' ys s4 pD.2.1 ⟨IA, ⟨mm, hmm⟩, Nat.ne_of_gt (Nat.lt_trans locl hDltC), ?_, fun x c e => Nat.ne_of_lt (Nat.lt_trans (celllt x c e) hDltC), fun p hp => ?_, ?_⟩ fin
      · have := I2.sz
        omega
      · exact Nat.ne_of_lt (Nat.lt_trans (show p.1 < D from hD ▸ Heap.lt_size (I2.pin p hp).1) hDltC)
      · rw [upd_ne (Nat.ne_of_gt hDltC)]; exact I4.free
    · refine wpAny_mono (T.item (X.blk (own ++ caps) { s₂ with heap := G2 } H1 scope cl C (D :: fp)) rfl rfl rfl hc i _ s' _ H' (fun _ _ => False) I' (fpok fr) st go) (fun r s4 ⟨u, hr, h4⟩ => ?_) fun _ _ f => f
      subst hr
      refine wpAny_mono h4 (fun _ s5 ⟨x, H5, I5, r5, y5, st5, fr5⟩ => ?_) fun _ _ f => f
      have I5' := I5.pinned (fpok fr5) (T.obj _ _ st5)
      have keepT : ∀ {σ8 : St} {H8 : Hp} {s8 : Shared}, Inv (X.blk (own ++ caps) { s₂ with heap := G2 } H1 scope cl C (D :: fp)) ([(D, LCg.lst its)] ++ pinsAt fp s5.heap) σ8 H8 s8 → tn (i + 1) s8.heap ∧ ∀ b ∈ fp, H8 b = none := fun {σ8 H8 s8} I8 =>
        ⟨T.keep _ _ _ st5 fun b hb o e => (I8.pin (b, o) (List.mem_append_right _ (List.mem_append_right _ (mem_pinsAt hb e)))).1, fun b hb => by
          obtain ⟨o, e, d⟩ := T.obj _ _ st5 b hb
          exact (I8.pin (b, o) (List.mem_append_right _ (List.mem_append_right _ (mem_pinsAt hb e)))).2.1⟩
      refine wpAny_mono (hg _ _ _ _ _ s5 _ H5 x u _ I5' r5 (step x H5 y5 ow hlo)) (fun _ s6 ⟨σ6, H6, I6, ⟨own2, hl2, e6⟩, q6⟩ => ?_) fun _ _ f => f
      subst e6
      refine wpAny_mono (ht _ _ _ _ _ s6 _ H6 _ I6 q6) (fun b s7 ⟨H7, I7, q7⟩ => ?_) fun _ _ f => f
      cases b with
      | false =>
        rw [if_neg Bool.false_ne_true]
        rw [if_neg Bool.false_ne_true] at q7
        obtain ⟨m', hm, w7⟩ := hN _ _ q7
        obtain ⟨k1, k2⟩ := keepT I7
        exact ⟨m', hm, i + 1, ys, its, own2, H7, I7.unpinned, hl2, k1, k2, hv, hz, w7⟩
      | true =>
        rw [if_pos rfl]
        rw [if_pos rfl] at q7
        refine wpAny_mono (he _ _ _ _ _ s7 _ H7 _ I7 q7) (fun y s8 ⟨vy, H8, I8, r8, n8⟩ => ?_) fun _ _ f => f
        obtain ⟨m', hm, w8⟩ := hN _ _ n8
        obtain ⟨k1, k2⟩ := keepT I8
        have pD := I8.pin (D, LCg.lst its) (by simp)
        have hyl := hv.length
        refine append_at (hsz := by show its.toArray.size ≤ sizeLine; rw [List.size_toArray]; omega) pD.1 fun h9 hs9 hD9 => ?_
        have I9 : Inv (X.blk (own ++ caps) { s₂ with heap := G2 } H1 scope cl C (D :: fp)) [] (own2 ++ capv σ js) H8 { s8 with heap := h9 } := by
          refine (I8.pins_of (pins' := []) fun p hp => nomatch hp).turned (t' := s8.toks) (it := D) (fun b o hb e => (hs9.2 b hb).trans e) pD.2.1 (Nat.ne_of_lt hDltC) (.inl List.mem_cons_self) (fun x c e => Nat.ne_of_lt (celllt x c (L.allc.get e))) fun p hp => ?_
          simp at hp
        refine ⟨m', hm, i + 1, ys ++ [vy], its ++ [y], own2, H8, I9.pins_of fun p hp => ?_, hl2, T.keep _ _ _ k1 fun b hb o e => (hs9.2 b (Nat.ne_of_lt (fpl b hb))).trans e, k2, hv.append (.cons r8 .nil), ?_, w8⟩
        · have e : p = (D, LCg.lst (its ++ [y])) := by simpa using hp
          subst e
          exact ⟨hD9.trans (congrArg some (LCg.lst_snoc its y)), pD.2.1, Nat.ne_of_lt hDltC, fun z => absurd (noF D z) (Nat.lt_irrefl _), fun v z => by cases z⟩
        · rw [List.length_append, List.length_singleton]; omega
  exact codeAny_compStart_list loop (T.self _ _ _ _ _ (T.keep _ _ _ st2 fun b _ o e => up3 _ _ (up2 _ _ e)) loop)

def tLCg (wi : TI) (g : TG) (tc : TT) (te : TE) (n : Nat) (js : List Nat) : TE := fun σ H Q => wi σ H fun J H1 => gLC J g tc te n (capv σ js) (fun ys H => ∀ p, H p = none → Q (.ref p) (upd H p (.lst ys))) H1
variable {wi : TI}
theorem pe_lcg (hc : X.calm = true) (L : LcOk X scope cl own caps js) (hi : PI X target iter wi)
    (hg : ∀ s H C ex, PG (X.blk (own ++ caps) s H scope cl C ex) target g) (ht : ∀ s H C ex, PTs (X.blk (own ++ caps) s H scope cl C ex) ifs tc) (he : ∀ s H C ex, PE (X.blk (own ++ caps) s H scope cl C ex) elt te)
    (hs : ∀ x, foldedSetIterable iter X.env x = pure x := by intro _; rfl) : PE X (.ListComp elt [⟨target, iter, ifs, 0⟩] scope pos) (tLCg wi g tc te own.length js) := by
  intro pins s σ H Q I h
  rw [eval_ListComp]
  refine wpAny_comprehension_free (use := none) rfl hs L.clos L.kind L.names (thn (hi pins s σ H _ I h) fun v s1 h1 => thn h1 fun itv s2 h2 => ?_)
  obtain ⟨it, fp, tn, J, H2, e, I2, T, st2, f2, G⟩ := h2
  subst e
  refine lc_block hc L hg ht he I2 T st2 f2 G ?_
  intro D C H3 ys s' hD O fin
  obtain ⟨m, hn⟩ := O.ns
  exact ⟨m, hn, fun h' sb => ⟨.ref D, _, O.gone sb, rfl, fin D hD⟩⟩
theorem ps_lcg {k : Nat} {y : Str} {py spos : Pos} (hc : X.calm = true) (L : LcOk X scope cl own caps js) (hi : PI X target iter wi)
    (hg : ∀ s H C ex, PG (X.blk (own ++ caps) s H scope cl C ex) target g) (ht : ∀ s H C ex, PTs (X.blk (own ++ caps) s H scope cl C ex) ifs tc) (he : ∀ s H C ex, PE (X.blk (own ++ caps) s H scope cl C ex) elt te)
    (hN : X.N.Nodup) (hk : X.N[k]? = some y) (hy : X.env.scope.names.lookup y = some .local)
    (hsw : swapsWith (.ListComp elt [⟨target, iter, ifs, 0⟩] scope pos) (some (.Name y py)) spos.line X.env = pure true := by rfl)
    (hs : ∀ x, foldedSetIterable iter X.env x = pure x := by intro _; rfl) : PS X (.Assign [.Name y py] (.ListComp elt [⟨target, iter, ifs, 0⟩] scope pos) spos) (tAsg (tLCg wi g tc te own.length js) (gName k)) := by
  intro pins s σ H De I h
  rw [exec_Assign_Name_used _ _ _ _ hsw]
  refine wpAny_bind (wpAny_standAt (wpAny_bind ?_))
  show wpAny _ _ (do let _ ← comprehension (.ListComp elt [⟨target, iter, ifs, 0⟩] scope pos) scope X.env _ (newList []) false (eval iter X.env) (some (assign (.Name y py) X.env))) _ _ s
  refine wpAny_bind (wpAny_mono (wpAny_comprehension_free (use := some (assign (.Name y py) X.env)) (Q := fun _ s' => SP X pins De .next s') rfl hs L.clos L.kind L.names
    (thn (hi pins s σ H _ I h) fun v s1 h1 => thn h1 fun itv s2 h2 => ?_)) (fun _ s' hq => wpAny_pure (wpAny_pure hq)) fun _ _ e => e)
  obtain ⟨it, fp, tn, J, H2, e, I2, T, st2, f2, G⟩ := h2
  subst e
  refine lc_block hc L hg ht he I2 T st2 f2 G ?_
  intro D C H3 ys s' hD O fin
  show wpAny _ _ (assign (.Name y py) X.env (.ref D)) _ _ _
  refine wpAny_assign_Name (store_ok2 O.inv hN hk (.inl hy) (show RelV (.ref D) (.ref D) from rfl) (fun s'' I'' sb => ?_) (.inr hy))
  obtain ⟨a, hsb, ha⟩ := sb
  have hne : C ≠ a := by
    rcases ha with rfl | ha
    · exact O.nL
    · exact Ne.symm (O.nc _ _ ha)
  obtain ⟨m, hn⟩ := O.ns
  refine ⟨m, hn.sameBut hsb hne, fun h' sb' => ⟨_, _, ?_, fin D hD⟩⟩
  exact I''.turned (t' := s''.toks) (it := C) (fun b o hb e => (sb'.2 b hb).trans e) O.free O.nL (.inr O.new) O.nc O.np
end
end L2

namespace L2
open PySem PySem.Spec PyProof.Rows

section
variable {X : Cx} {elt iter : Expr} {ifs : List Expr} {scope : Scope} {cl : List (Str × Addr)} {pos : Pos} {caps : List Str} {js : List Nat} {tc : TT} {te : TE} {wi : TI} {x : Str} {px : Pos}
theorem gLC1 {J : It} {cv : St} {Fin : List V → Hp → Prop} {H1 : Hp} (h : ∃ W : Nat → Nat → List V → Hp → Prop, (∃ m, W 0 m [] H1) ∧ ∀ i m ys H, W i m ys H →
    (J.stop i H ∧ Fin ys H) ∨
    (J.go i H ∧ ys.length < sizeLine ∧ ∃ N : List V → Hp → Prop, (∀ ys' H', N ys' H' → ∃ m', m' < m ∧ W (i + 1) m' ys' H') ∧ ∀ x H', J.yld i H x H' →
      tc (some x :: cv) H' fun b H3 => if b = true then te (some x :: cv) H3 fun y H4 => N (ys ++ [y]) H4 else N ys H3)) : gLC J (gName 0) tc te 1 cv Fin H1 := by
  obtain ⟨W, w0, turn⟩ := h
  refine ⟨W, w0, fun i m ys H w => ?_⟩
  rcases turn i m ys H w with ⟨a, b⟩ | ⟨a, b, N, hN, c⟩
  · exact .inl ⟨a, b⟩
  · refine .inr ⟨a, b, N, hN, fun v H' y own ho => ?_⟩
    match own, ho with
    | [τ], _ => exact ⟨⟨[some v], rfl, rfl⟩, c v H' y⟩
def tLC (wi : TI) (tc : TT) (te : TE) (js : List Nat) : TE := tLCg wi (gName 0) tc te 1 js
theorem pe_lc (hc : X.calm = true) (L : LcOk X scope cl [x] caps js) (hi : PI X (.Name x px) iter wi)
    (ht : ∀ s H C ex, PTs (X.blk (x :: caps) s H scope cl C ex) ifs tc) (he : ∀ s H C ex, PE (X.blk (x :: caps) s H scope cl C ex) elt te)
    (hN : (x :: caps).Nodup := by decide +kernel) (hx : (relabel scope X.env).names.lookup x = some .local := by with_unfolding_all rfl)
    (hs : ∀ x, foldedSetIterable iter X.env x = pure x := by intro _; rfl) : PE X (.ListComp elt [⟨.Name x px, iter, ifs, 0⟩] scope pos) (tLC wi tc te js) :=
  pe_lcg (own := [x]) (g := gName 0) hc L hi (fun s H C ex => pg_name (i := 0) hN rfl (.inl hx) (.inr hx)) ht he hs
theorem ps_lc {k : Nat} {y : Str} {py spos : Pos} (hc : X.calm = true) (L : LcOk X scope cl [x] caps js) (hi : PI X (.Name x px) iter wi)
    (ht : ∀ s H C ex, PTs (X.blk (x :: caps) s H scope cl C ex) ifs tc) (he : ∀ s H C ex, PE (X.blk (x :: caps) s H scope cl C ex) elt te)
    (hXN : X.N.Nodup) (hk : X.N[k]? = some y) (hy : X.env.scope.names.lookup y = some .local) (hN : (x :: caps).Nodup := by decide +kernel) (hx : (relabel scope X.env).names.lookup x = some .local := by with_unfolding_all rfl)
    (hsw : swapsWith (.ListComp elt [⟨.Name x px, iter, ifs, 0⟩] scope pos) (some (.Name y py)) spos.line X.env = pure true := by rfl)
    (hs : ∀ x, foldedSetIterable iter X.env x = pure x := by intro _; rfl) : PS X (.Assign [.Name y py] (.ListComp elt [⟨.Name x px, iter, ifs, 0⟩] scope pos) spos) (tAsg (tLC wi tc te js) (gName k)) :=
  ps_lcg (own := [x]) (g := gName 0) hc L hi (fun s H C ex => pg_name (i := 0) hN rfl (.inl hx) (.inr hx)) ht he hXN hk hy hsw hs
theorem lc_list {K : PySem.W.Frag} {a : Addr} {xs : List V} {cv : St} {Fin : List V → Hp → Prop} {H1 : Hp} (Pv : Nat → List V → Hp → Prop) (h0 : Pv 0 [] H1) (hl : ∀ i ys H, i ≤ xs.length → Pv i ys H → SqL K H a xs) (hz : ∀ i ys H, i < xs.length → Pv i ys H → ys.length < sizeLine)
    (hs : ∀ i x ys H, xs[i]? = some x → Pv i ys H → tc (some x :: cv) H fun b H3 => if b = true then te (some x :: cv) H3 fun y H4 => Pv (i + 1) (ys ++ [y]) H4 else Pv (i + 1) ys H3)
    (hd : ∀ ys H, Pv xs.length ys H → Fin ys H) : gLC (Itl K a) (gName 0) tc te 1 cv Fin H1 := by
  refine gLC1 ⟨fun i m ys H => m = xs.length - i ∧ i ≤ xs.length ∧ Pv i ys H, ⟨xs.length, by simp, Nat.zero_le _, h0⟩, ?_⟩
  rintro i m ys H ⟨rfl, hi, p⟩
  have q := hl i ys H hi p
  by_cases hlt : i < xs.length
  · refine .inr ⟨⟨xs, xs[i], q, by simp [hlt]⟩, hz i ys H hlt p, Pv (i + 1), fun ys' H' p' => ⟨xs.length - (i + 1), by omega, rfl, hlt, p'⟩, fun v H' y => ?_⟩
    obtain ⟨e, y⟩ := y
    subst e
    exact hs i v ys _ (y xs q) p
  · have e : i = xs.length := by omega
    subst e
    exact .inl ⟨⟨xs, q, Nat.le_refl _⟩, hd ys H p⟩
theorem lc_range {lo : Int} {n : Nat} {cv : St} {Fin : List V → Hp → Prop} {H1 : Hp} (Pv : Nat → List V → Hp → Prop) (h0 : Pv 0 [] H1) (hz : ∀ i ys H, i < n → Pv i ys H → ys.length < sizeLine)
    (hs : ∀ i ys H, i < n → Pv i ys H → tc (some (.int (lo + i)) :: cv) H fun b H3 => if b = true then te (some (.int (lo + i)) :: cv) H3 fun y H4 => Pv (i + 1) (ys ++ [y]) H4 else Pv (i + 1) ys H3)
    (hd : ∀ ys H, Pv n ys H → Fin ys H) : gLC (Itr lo n) (gName 0) tc te 1 cv Fin H1 := by
  refine gLC1 ⟨fun i m ys H => m = n - i ∧ i ≤ n ∧ Pv i ys H, ⟨n, by simp, Nat.zero_le _, h0⟩, ?_⟩
  rintro i m ys H ⟨rfl, hi, p⟩
  by_cases hlt : i < n
  · refine .inr ⟨hlt, hz i ys H hlt p, Pv (i + 1), fun ys' H' p' => ⟨n - (i + 1), by omega, rfl, hlt, p'⟩, fun v H' y => ?_⟩
    obtain ⟨e, y⟩ := y
    subst e y
    exact hs i ys _ hlt p
  · have e : i = n := by omega
    subst e
    exact .inl ⟨Nat.le_refl _, hd ys H p⟩
end

theorem yes_go {A B : Hp → Prop} {σ : St} {H : Hp} (h : A H) : tYes σ H (fun b H3 => if b = true then A H3 else B H3) := by
  show if true = true then A H else B H
  rw [if_pos rfl]
  exact h
section
variable {X : Cx} {tg : Expr}
end
section
variable {X : Cx}
theorem op_mul_str : OpR X (binaryOp .Mult) (fun x y H Q => ∃ z n, x = .str z ∧ y = .int n ∧ MulOk z n ∧ Q (.str (Txt.mul z n)) H) := by
  intro pins s σ H x y v u Q I rx ry h
  obtain ⟨z, n, rfl, rfl, hm, q⟩ := h
  obtain ⟨t, rfl⟩ := rx
  obtain ⟨t', rfl⟩ := ry
  exact SB.mul hm fun t'' k => ⟨.str _, H, I.tok k, ⟨t'', rfl⟩, q⟩
theorem vals_strs : ∀ (l : List (Str × Tok)), Vals ((l.map (·.1)).map V.str) (strValues l)
  | [] => .nil
  | p :: r => .cons ⟨p.2, rfl⟩ (vals_strs r)
theorem mt_split1 : MtR X "str.split" (fun x xs H Q => ∃ z c, x = .str z ∧ xs = [.str ⟨#[c]⟩] ∧ z.length + 2 ≤ sizeLine ∧ ∀ p, H p = none → Q (.ref p) (upd H p (.lst ((Txt.split z ⟨#[c]⟩).map V.str)))) := by
  intro pins s σ H x xs v us Q I rx r h
  obtain ⟨z, c, rfl, rfl, hz, q⟩ := h
  obtain ⟨t, rfl⟩ := rx
  obtain ⟨w', rfl, u, rfl⟩ := vals1 r
  have hy : ((⟨#[c]⟩ : Str).length == 0) = false := rfl
  have len := split_le z ⟨#[c]⟩
  have new : ∀ (l : List (Str × Tok)) (k : Nat), l.map (·.1) = Txt.split z ⟨#[c]⟩ → EP X pins σ Q (.ref s.heap.objs.size) { s with heap := s.heap.push { cls := .type "list", data := .seq (strValues l).toArray }, toks := k } := fun l k e =>
    ⟨.ref _, _, I.lnew (t' := k) (vals_strs l) (by rw [e, List.length_map]; exact Nat.le_trans len hz), rfl, by rw [e]; exact q _ I.fresh⟩
  cases h1 : (decide (z.length < (⟨#[c]⟩ : Str).length) || decide (Builtin.Str.strKind z < Builtin.Str.strKind ⟨#[c]⟩))
  · cases hf : (Builtin.Str.occurrences z ⟨#[c]⟩ 0 z.length (z.length + 1)).isEmpty
    · have e1 : Txt.split z ⟨#[c]⟩ = Builtin.Str.partsBetween z (Builtin.Str.occurrences z ⟨#[c]⟩ 0 z.length (z.length + 1)) (⟨#[c]⟩ : Str).length :=
        (if_neg (ne_true_of_eq_false h1)).trans (if_neg (ne_true_of_eq_false hf))
      refine call_meets F.slot_str_split (typeIs_str _ _ _) F.entry_str_split (F.args_str_split_2 _ _) (meets_str_split_sep z ⟨#[c]⟩ t u h1 hy hf (by omega) (by rw [← e1]; omega)) ?_
      show wants _ _ _ { s with toks := _, heap := s.heap.push { cls := .type "list", data := .seq (strsFrom s.toks (Builtin.Str.partsBetween z (Builtin.Str.occurrences z ⟨#[c]⟩ 0 z.length (z.length + 1)) (⟨#[c]⟩ : Str).length)).toArray } }
      rw [strsFrom_eq]
      exact new _ _ ((numbered_texts _ _).trans e1.symm)
    · exact call_meets F.slot_str_split (typeIs_str _ _ _) F.entry_str_split (F.args_str_split_2 _ _) (meets_str_split_not_found z ⟨#[c]⟩ t u h1 hy hf)
        (new [(z, t)] _ ((if_neg (ne_true_of_eq_false h1)).trans (if_pos hf)).symm)
  · exact call_meets F.slot_str_split (typeIs_str _ _ _) F.entry_str_split (F.args_str_split_2 _ _) (meets_str_split_cannot_occur z ⟨#[c]⟩ t u h1)
      (new [(z, t)] _ (if_pos h1).symm)
theorem strsAre_of {ys : List Str} : ∀ {us : List Value}, Vals (ys.map V.str) us → StrsAre us ys := by
  induction ys with
  | nil => intro us h; cases h; exact .nil
  | cons y ys ih =>
    intro us h
    cases h with
    | cons r t =>
      obtain ⟨tk, rfl⟩ := r
      exact .cons y tk (ih t)
theorem mt_join : MtR X "str.join" (fun x xs H Q => ∃ sep a ys, x = .str sep ∧ xs = [.ref a] ∧ SqL X.K H a (ys.map V.str) ∧ sep.length ≤ 16 ∧ (ys.map (·.length)).sum + ys.length ≤ 1048576 ∧ Q (.str (Txt.join sep ys)) H) := by
  intro pins s σ H x xs v us Q I rx r h
  obtain ⟨sep, a, ys, rfl, rfl, hS, h1, h2, q⟩ := h
  obtain ⟨t, rfl⟩ := rx
  obtain ⟨w', rfl, rfl⟩ := vals1 r
  obtain ⟨its, rv, p, hz⟩ := I.list hS
  exact join_listW p.isList (strsAre_of (by simpa using rv)) h1 h2 fun t' k => ⟨.str _, H, I.tok k, ⟨t', rfl⟩, q⟩
theorem call_int_text : CallR X (.type "int") (fun xs H Q => ∃ x n, xs = [.str x] ∧ PySem.intText? x = some n ∧ x.length ≤ 640 ∧ Q (.int n) H) := by
  intro pins s σ H xs us Q I r h
  obtain ⟨x, n, rfl, hn, hl, q⟩ := h
  obtain ⟨u, rfl, t, rfl⟩ := vals1 r
  exact PySem.W.KIN.call_text hn hl ⟨.int _, H, I.tok _, ⟨_, rfl⟩, q⟩
end
end L2

namespace Tl
open PySem PySem.Builtin PySem.Builtin.Str L2

abbrev tx (l : List Nat) : Str := ⟨l.toArray⟩
theorem tx_of (s : Str) : s = tx s.cps.toList := by cases s; rfl
theorem tx_app (a b : List Nat) : tx a ++ tx b = tx (a ++ b) := by
  show (⟨a.toArray ++ b.toArray⟩ : Str) = ⟨(a ++ b).toArray⟩
  rw [List.append_toArray]
theorem tx_len (l : List Nat) : (tx l).length = l.length := by show l.toArray.size = _; simp
theorem tx_inj {a b : List Nat} (h : tx a = tx b) : a = b := by
  have e : a.toArray = b.toArray := congrArg Str.cps h
  have e2 := congrArg Array.toList e
  simpa using e2
def cutL {α : Type} (l : List α) (lo hi : Option Int) : List α := (l.drop (HT.sIx l.length 0 lo)).take (HT.sIx l.length l.length hi - HT.sIx l.length 0 lo)
theorem cut_to {α : Type} (l : List α) (j : Nat) : cutL l none (some (j : Int)) = l.take j := by
  unfold cutL
  rw [HT.sIx_none, HT.sIx_nat, List.drop_zero, Nat.sub_zero]
  by_cases h : j ≤ l.length
  · rw [Nat.min_eq_left h]
  · rw [Nat.min_eq_right (by omega), List.take_of_length_le (Nat.le_refl _), List.take_of_length_le (by omega)]
def repL {α : Type} (l : List α) (n : Nat) : List α := (List.replicate n l).flatten
theorem repL_succ {α : Type} (l : List α) (n : Nat) : repL l (n + 1) = l ++ repL l n := by unfold repL; rw [List.replicate_succ, List.flatten_cons]
theorem repL_len {α : Type} (l : List α) : ∀ n : Nat, (repL l n).length = n * l.length
  | 0 => by simp [repL]
  | n + 1 => by rw [repL_succ, List.length_append, repL_len l n, Nat.add_mul]; omega
theorem fold_rep (l : List Nat) : ∀ (n : Nat) (acc : List Nat), (List.replicate n l.toArray).foldl (· ++ ·) acc.toArray = (acc ++ repL l n).toArray
  | 0, acc => by simp [repL]
  | n + 1, acc => by
    rw [List.replicate_succ, List.foldl_cons, List.append_toArray, fold_rep l n, repL_succ, List.append_assoc]
theorem mul_tx (l : List Nat) (n : Nat) : Txt.mul (tx l) (n : Int) = tx (repL l n) := by
  unfold Txt.mul
  by_cases h1 : (n : Int) < 1
  · have e : n = 0 := by omega
    subst e
    rw [if_pos h1]; rfl
  · rw [if_neg h1]
    by_cases h2 : ((n : Int) == 1 || (tx l).length == 0) = true
    · rw [if_pos h2]
      rcases Bool.or_eq_true _ _ ▸ h2 with h | h
      · have e : n = 1 := by have := eq_of_beq h; omega
        subst e
        rw [repL_succ]; simp [repL]
      · have e : l = [] := by
          have := eq_of_beq h
          rw [tx_len] at this
          exact List.eq_nil_of_length_eq_zero this
        subst e
        have : ∀ k, repL ([] : List Nat) k = [] := fun k => by
          induction k with
          | zero => rfl
          | succ k ih => rw [repL_succ, ih]; rfl
        rw [this]
    · rw [if_neg h2]
      have := fold_rep l n []
      have e : ((n : Int)).toNat = n := by omega
      rw [e]
      show (⟨(List.replicate n l.toArray).foldl (· ++ ·) #[]⟩ : Str) = _
      rw [show (#[] : Array Nat) = ([] : List Nat).toArray from rfl, this, List.nil_append]
theorem mulOk_small {l : List Nat} {n : Nat} (h1 : n ≤ 100000) (h2 : l.length ≤ 100) : MulOk (tx l) (n : Int) := by
  have hb : l.length * n ≤ 10000000 := by
    have := Nat.mul_le_mul h2 h1
    omega
  refine ⟨?_, fun _ _ => ?_, fun _ _ => ?_⟩
  · rw [decide_eq_false (by omega), decide_eq_false (by omega)]; rfl
  · rw [tx_len]
    have : (100 : Int) ≤ (2 ^ 63 - 1) / (n : Int) := by
      by_cases e : n = 0
      · omega
      · exact (Int.le_ediv_iff_mul_le (by omega)).mpr (by omega)
    omega
  · rw [tx_len]
    unfold tooLong
    have e : ((n : Int)).toNat = n := by omega
    rw [e]
    exact decide_eq_false (by show ¬ (_ > 16777216); omega)

def splitL (c : Nat) : List Nat → List (List Nat)
  | [] => [[]]
  | x :: r => if x = c then [] :: splitL c r else match splitL c r with
    | [] => [[x]]
    | p :: ps => (x :: p) :: ps
theorem splitL_cons (c x : Nat) (r : List Nat) : splitL c (x :: r) = if x = c then [] :: splitL c r else match splitL c r with
    | [] => [[x]]
    | p :: ps => (x :: p) :: ps := rfl
def joinL (sep : List Nat) : List (List Nat) → List Nat
  | [] => []
  | [x] => x
  | x :: y :: r => x ++ sep ++ joinL sep (y :: r)
theorem join_tx (sep : List Nat) : ∀ ps : List (List Nat), Txt.join (tx sep) (ps.map tx) = tx (joinL sep ps) := by
  have go : ∀ ps : List (List Nat), Str.join (tx sep) (ps.map tx) = tx (joinL sep ps) := by
    intro ps
    induction ps with
    | nil => rfl
    | cons x r ih =>
      cases r with
      | nil => rfl
      | cons y r =>
        show tx x ++ tx sep ++ Str.join (tx sep) (tx y :: r.map tx) = _
        rw [show Str.join (tx sep) (tx y :: r.map tx) = tx (joinL sep (y :: r)) from ih, tx_app, tx_app]
        rfl
  intro ps
  show glued (tx sep) (ps.map tx) = _
  rw [StrLaws.glued_eq_join]
  exact go ps
theorem splitL_join (c : Nat) : ∀ ps : List (List Nat), ps ≠ [] → (∀ p ∈ ps, c ∉ p) → splitL c (joinL [c] ps) = ps := by
  have one : ∀ p : List Nat, c ∉ p → splitL c p = [p] := by
    intro p
    induction p with
    | nil => intro _; rfl
    | cons x r ih =>
      intro h
      have hx : x ≠ c := fun e => h (by rw [e]; exact List.mem_cons_self)
      rw [splitL_cons, if_neg hx, ih fun z => h (List.mem_cons_of_mem _ z)]
  have app : ∀ (p : List Nat) (l : List Nat), c ∉ p → splitL c (p ++ c :: l) = p :: splitL c l := by
    intro p l
    induction p with
    | nil =>
      intro _
      show splitL c (c :: l) = _
      rw [splitL_cons, if_pos rfl]
    | cons x r ih =>
      intro h
      have hx : x ≠ c := fun e => h (by rw [e]; exact List.mem_cons_self)
      show splitL c (x :: (r ++ c :: l)) = _
      rw [splitL_cons, if_neg hx, ih fun z => h (List.mem_cons_of_mem _ z)]
  intro ps
  induction ps with
  | nil => intro h; exact absurd rfl h
  | cons x r ih =>
    intro _ h
    cases r with
    | nil => exact one x (h x List.mem_cons_self)
    | cons y r =>
      show splitL c (x ++ [c] ++ joinL [c] (y :: r)) = _
      rw [List.append_assoc, show [c] ++ joinL [c] (y :: r) = c :: joinL [c] (y :: r) from rfl, app _ _ (h x List.mem_cons_self), ih (by simp) fun p hp => h p (List.mem_cons_of_mem _ hp)]
theorem split_tx (l : List Nat) (c : Nat) : Txt.split (tx l) ⟨#[c]⟩ = (splitL c l).map tx := by
  have h1 := StrLaws.join_split (tx l) ⟨#[c]⟩
  have h2 := StrLaws.split_free (tx l) c
  have h3 := PyProof.Rows.split_pos (tx l) ⟨#[c]⟩
  obtain ⟨ps, e⟩ : ∃ ps : List (List Nat), Txt.split (tx l) ⟨#[c]⟩ = ps.map tx := ⟨(Txt.split (tx l) ⟨#[c]⟩).map (fun s => s.cps.toList), by
    rw [List.map_map]
    exact (List.map_id' _).symm.trans (List.map_congr_left fun s _ => tx_of s)⟩
  rw [e] at h1 h2 h3
  have e2 : joinL [c] ps = l := by
    have := join_tx [c] ps
    have h4 : Txt.join (tx [c]) (ps.map tx) = Str.join (tx [c]) (ps.map tx) := StrLaws.glued_eq_join _ _
    rw [h4] at this
    exact tx_inj (this.symm.trans h1)
  have hne : ps ≠ [] := by
    intro z
    rw [z] at h3
    simp at h3
  rw [e, ← e2, splitL_join c ps hne fun p hp => ?_]
  have := h2 (tx p) (List.mem_map_of_mem hp)
  simpa using this
theorem in_tx (l : List Nat) (c : Nat) : (!(occurrences (tx l) ⟨#[c]⟩ 0 (tx l).length 1).isEmpty) = decide (c ∈ l) := by
  have := StrLaws.found_one (tx l) c
  rw [this]
end Tl

namespace L2
open PySem PySem.Spec PyProof.Rows

def isiV (K : PySem.W.Frag) (T : String) (x : V) (H : Hp) (b : Bool) : Prop := match x with
  | .non => b = false
  | .bl _ => b = (T == "bool" || T == "int")
  | .int _ => b = (T == "int")
  | .str _ => b = (T == "str")
  | .ref p => ((∃ xs, SqL K H p xs) ∧ b = (T == "list")) ∨ ((∃ xs, SqT K H p xs) ∧ b = (T == "tuple"))
  | _ => False
section
variable {X : Cx}
theorem call_isi : CallR X (.builtin "isinstance") (fun xs H Q => ∃ x T b, xs = [x, .ty T] ∧ (T = "bool" ∨ T = "int" ∨ T = "str" ∨ T = "tuple" ∨ T = "list") ∧ isiV X.K T x H b ∧ Q (.bl b) H) := by
  intro pins s σ H xs us Q I r h
  obtain ⟨x, T, b, rfl, hT, hv, q⟩ := h
  obtain ⟨u, w', rfl, r1, r2⟩ := vals2 r
  cases r2
  have no : b = false → EP X pins σ Q (.bool false) { s with toks := s.toks + 1 } := fun e => ⟨.bl false, H, I.tok _, rfl, e ▸ q⟩
  have yes : b = true → EP X pins σ Q (.bool true) s := fun e => ⟨.bl true, H, I, rfl, e ▸ q⟩
  cases x with
  | non =>
    cases r1
    have hv' : b = false := hv
    rcases hT with rfl | rfl | rfl | rfl | rfl
    · exact IsiPair.NoneType_bool (no hv')
    · exact IsiPair.NoneType_int (no hv')
    · exact IsiPair.NoneType_str (no hv')
    · exact IsiPair.NoneType_tuple (no hv')
    · exact IsiPair.NoneType_list (no hv')
  | bl c =>
    cases r1
    rcases hT with rfl | rfl | rfl | rfl | rfl
    · exact IsiPair.bool_bool (yes (hv.trans (by decide)))
    · exact IsiPair.bool_int (yes (hv.trans (by decide)))
    · exact IsiPair.bool_str (no (hv.trans (by decide)))
    · exact IsiPair.bool_tuple (no (hv.trans (by decide)))
    · exact IsiPair.bool_list (no (hv.trans (by decide)))
  | int c =>
    obtain ⟨t, rfl⟩ := r1
    rcases hT with rfl | rfl | rfl | rfl | rfl
    · exact IsiPair.int_bool (no (hv.trans (by decide)))
    · exact IsiPair.int_int (yes (hv.trans (by decide)))
    · exact IsiPair.int_str (no (hv.trans (by decide)))
    · exact IsiPair.int_tuple (no (hv.trans (by decide)))
    · exact IsiPair.int_list (no (hv.trans (by decide)))
  | str c =>
    obtain ⟨t, rfl⟩ := r1
    rcases hT with rfl | rfl | rfl | rfl | rfl
    · exact IsiPair.str_bool (no (hv.trans (by decide)))
    · exact IsiPair.str_int (no (hv.trans (by decide)))
    · exact IsiPair.str_str (yes (hv.trans (by decide)))
    · exact IsiPair.str_tuple (no (hv.trans (by decide)))
    · exact IsiPair.str_list (no (hv.trans (by decide)))
  | ref p =>
    cases r1
    rcases hv with ⟨⟨xs, hq⟩, hb⟩ | ⟨⟨xs, hq⟩, hb⟩
    · obtain ⟨its, _, p', _⟩ := I.list hq
      obtain ⟨o, n, e, c, _⟩ := p'
      rcases hT with rfl | rfl | rfl | rfl | rfl
      · exact IsiPair.list_bool e c (no (hb.trans (by decide)))
      · exact IsiPair.list_int e c (no (hb.trans (by decide)))
      · exact IsiPair.list_str e c (no (hb.trans (by decide)))
      · exact IsiPair.list_tuple e c (no (hb.trans (by decide)))
      · exact IsiPair.list_list e c (yes (hb.trans (by decide)))
    · obtain ⟨its, _, p', _⟩ := I.tuple hq
      obtain ⟨o, e, c, _⟩ := p'
      rcases hT with rfl | rfl | rfl | rfl | rfl
      · exact IsiPair.tuple_bool e c (no (hb.trans (by decide)))
      · exact IsiPair.tuple_int e c (no (hb.trans (by decide)))
      · exact IsiPair.tuple_str e c (no (hb.trans (by decide)))
      · exact IsiPair.tuple_tuple e c (yes (hb.trans (by decide)))
      · exact IsiPair.tuple_list e c (no (hb.trans (by decide)))
  | byt c => exact hv.elim
  | flt c => exact hv.elim
  | ty c => exact hv.elim
end

section
variable {X : Cx}
theorem op_catS : OpR X (binaryOp .Add) (fun x y H Q => ∃ l b xs zs, x = .ref l ∧ y = .ref b ∧ SqL X.K H l xs ∧ SqL X.K H b zs ∧ xs.length + zs.length ≤ sizeLine ∧ ∀ p, H p = none → Q (.ref p) (upd H p (.lst (xs ++ zs)))) := by
  intro pins s σ H x y v u Q I rx ry h
  obtain ⟨l, b, xs, zs, rfl, rfl, hH, hB, hz, q⟩ := h
  cases rx
  cases ry
  obtain ⟨its, r, p1, z⟩ := I.list hH
  obtain ⟨its2, r2, p2, z2⟩ := I.list hB
  obtain ⟨⟨cls, dd, data, sl⟩, n, e, c, d, k⟩ := p1
  obtain ⟨⟨cls2, dd2, data2, sl2⟩, n2, e2, c2, d2, k2⟩ := p2
  simp only at c d k c2 d2 k2
  subst c d k c2 d2 k2
  have hl := r.length
  have hl2 := r2.length
  refine concat_meets ⟨_, e, rfl⟩ ⟨_, e2, rfl⟩ noFill_list_add seq_list_add PySem.F.slot_list_add PySem.F.entry_list_add (PySem.F.args_list_add_2 _ _) (list_addW l b its.toArray its2.toArray n n2 none none sl sl2 (by rw [List.size_toArray, List.size_toArray]; omega)) ⟨e, e2, ?_⟩
  have ea : its.toArray ++ its2.toArray = (its ++ its2).toArray := by simp
  rw [ea]
  exact ⟨.ref _, _, I.lnew (t' := s.toks) (r.append r2) (by rw [List.length_append]; omega), rfl, q _ I.fresh⟩
end
structure DefOk (K : PySem.W.Frag) (mg : Str → Option Value) (x : Str) (st : Stmt) (ps : List Str) (f : Addr) (fd : FuncData) : Prop where
  fn : Fun K x x st f fd
  bd : Binds K fd ps []
  mg : mg x = some (.ref f)
  ba : ∀ us : List Value, us.length = ps.length → bindArgs fd ⟨us, []⟩ = pure (ps.zip us)
section
variable {X : Cx} {x : Str} {st : Stmt} {ps : List Str} {f : Addr} {fd : FuncData} {k : Nat} {sp : Sp} {e : Expr} {es : List Expr} {t : TA} {p pos : Pos}
theorem pe_callD (D : DefOk X.K X.mg x st ps f fd) (G : FnOk X.prog X.w X.K X.mg X.base CX0 k f fd ps sp) (hr : Room k X.A) (hg : Gl X x) (ha : PA X (e :: es) t) (hd : (x == ("__debug__" : Str)) = false := by decide)
    (he : starEach (e :: es) X.env = (false, eval e X.env) :: starEach es X.env := by rfl) (hpl : (backTo pos (starEach es X.env)).any (·.1) = false := by rfl) : PE X (.Call (.Name x p) (e :: es) [] pos) (tCall sp [] E0 t) := pe_call G hr hg D.mg D.fn.kp D.bd .nil pass0 ha hd he hpl
theorem defok_mk {K : PySem.W.Frag} {h : Heap} {mg : Str → Option Value} (KX : K.In h) (G : h.Ns mainGlobals mg) {od an : Option Addr} {sl : Array (Option Value)} {oc kV dc pm cd ct : Value} (a : PySem.W.nsIn K mainGlobals x = some (some (.ref f)))
    (l : K.lookup f = some ⟨oc, od, .func (PySem.W.fnOf x x (defArgs st) (defBody st) (defScope st) .none kV dc pm an cd ct), sl⟩) (c : PySem.W.codeIn K cd x = true) (k : PySem.W.keepIn K (.ref f) = true)
    (b : ∀ (kV doc pm : Value) (an : Option Addr) (cdv ct : Value) (us : List Value), us.length = ps.length → bindArgs (PySem.W.fnOf x x (defArgs st) (defBody st) (defScope st) .none kV doc pm an cdv ct) ⟨us, []⟩ = pure (ps.zip us)) :
    DefOk K mg x st ps f (PySem.W.fnOf x x (defArgs st) (defBody st) (defScope st) .none kV dc pm an cd ct) :=
  ⟨fun_mk l c k, (fun_mk l c k).binds b, PySem.W.mg_of KX G a, fun us hl => b _ _ _ _ _ _ us hl⟩
end
end L2

namespace L2
open PySem PySem.Spec PyProof.Rows

theorem cut_seq {t u : TS} {D : Ends} {σ : St} {H : Hp} (Mid : St → Hp → Prop) (h2 : ∀ σ' H', Mid σ' H' → u D σ' H') (h1 : (∀ σ' H', Mid σ' H' → u D σ' H') → t { D with nx := u D } σ H) : tSeq t u D σ H := h1 h2

def eqVs : List V → List V → Bool
  | [], [] => true
  | a :: r, b :: s => eqV a b && eqVs r s
  | _, _ => false
theorem eqVs_len : ∀ {xs ys : List V}, xs.length ≠ ys.length → eqVs xs ys = false
  | [], [], h => absurd rfl h
  | [], _ :: _, _ => rfl
  | _ :: _, [], _ => rfl
  | a :: r, b :: s, h => by
    show (eqV a b && eqVs r s) = false
    rw [eqVs_len (xs := r) (ys := s) (fun e => h (by rw [List.length_cons, List.length_cons, e])), Bool.and_false]
theorem eqVs_range : ∀ {xs ys : List V}, xs.length = ys.length → (List.range xs.length).all (fun j => eqV ((xs[j]?).getD .non) ((ys[j]?).getD .non)) = eqVs xs ys
  | [], [], _ => rfl
  | [], _ :: _, h => by simp at h
  | _ :: _, [], h => by simp at h
  | a :: r, b :: s, h => by
    have ih := eqVs_range (xs := r) (ys := s) (by simpa using h)
    rw [List.length_cons, List.range_succ_eq_map, List.all_cons, List.all_map]
    show (eqV a b && _) = (eqV a b && eqVs r s)
    rw [← ih]
    rfl
theorem eqV_refl : ∀ {x : V}, flatV x = true → eqV x x = true := by
  intro x f
  cases x with
  | non => rfl
  | bl b => show (b == b) = true; simp
  | int i => show (i == i) = true; simp
  | str s => show (s == s) = true; simp
  | _ => exact absurd (show false = true from f) Bool.false_ne_true
theorem eqVs_refl : ∀ {xs : List V}, xs.all flatV = true → eqVs xs xs = true
  | [], _ => rfl
  | a :: r, h => by
    rw [List.all_cons, Bool.and_eq_true] at h
    show (eqV a a && eqVs r r) = true
    rw [eqV_refl h.1, eqVs_refl h.2]
    rfl
section
variable {X : Cx}
theorem flat_get {xs : List V} (f : xs.all flatV = true) {j : Nat} {x : V} (h : xs[j]? = some x) : flatV x = true := List.all_eq_true.mp f x (List.mem_of_getElem? h)
theorem items_eq {A : Around} {s : Shared} {xs ys : List V} {its its2 : List Value} (r : Vals xs its) (r2 : Vals ys its2) (fx : xs.all flatV = true) (fy : ys.all flatV = true) (j : Nat) (h1 : j < its.toArray.size) (h2 : j < its2.toArray.size) :
    SeqAt.EqAt A s its.toArray[j] its2.toArray[j] (eqV ((xs[j]?).getD .non) ((ys[j]?).getD .non)) := by
  have l1 := r.length
  have l2 := r2.length
  have h1' : j < its.length := by simpa using h1
  have h2' : j < its2.length := by simpa using h2
  have e1 : xs[j]? = some xs[j] := List.getElem?_eq_getElem (by omega)
  have e2 : ys[j]? = some ys[j] := List.getElem?_eq_getElem (by omega)
  obtain ⟨u, hu, ru⟩ := r.get e1
  obtain ⟨v, hv, rv⟩ := r2.get e2
  have eu : its.toArray[j] = u := by
    have : its[j]? = some its[j] := List.getElem?_eq_getElem h1'
    rw [hu] at this
    simpa using this.symm
  have ev : its2.toArray[j] = v := by
    have : its2[j]? = some its2[j] := List.getElem?_eq_getElem h2'
    rw [hv] at this
    simpa using this.symm
  rw [eu, ev, e1, e2]
  exact eqAt_V ru rv (flat_get fx e1) (flat_get fy e2)
def rEqL (K : PySem.W.Frag) (neg : Bool) : R2 := fun x y H Q => ∃ a b xs ys, x = .ref a ∧ y = .ref b ∧ SqL K H a xs ∧ SqL K H b ys ∧ xs.all flatV = true ∧ ys.all flatV = true ∧ Q (.bl (if neg then !eqVs xs ys else eqVs xs ys)) H
theorem op_eqL (hu : X.A.units < cLine) : OpR X (compareOp .Eq) (rEqL X.K false) := by
  intro pins s σ H x y v u Q I rx ry h
  obtain ⟨a, b, xs, ys, rfl, rfl, ha, hb, fx, fy, q⟩ := h
  cases rx
  cases ry
  obtain ⟨its, r, p, z⟩ := I.list ha
  obtain ⟨its2, r2, p2, z2⟩ := I.list hb
  have l1 := r.length
  have l2 := r2.length
  by_cases hl : xs.length = ys.length
  · refine SeqAt.eq_listAt (e := fun j => eqV ((xs[j]?).getD .non) ((ys[j]?).getD .non)) p.isList p2.isList (by simp; omega) hu (fun j h1 h2 => items_eq r r2 fx fy j h1 h2) ⟨.bl _, H, I, rfl, ?_⟩
    have e : its.toArray.size = xs.length := by simp; omega
    rw [e, eqVs_range hl]
    exact q
  · refine SeqAt.eq_list_lengthsAt p.isList p2.isList (by simp; omega) hu ⟨.bl false, H, I, rfl, ?_⟩
    have q' : Q (.bl (eqVs xs ys)) H := q
    rw [eqVs_len hl] at q'
    exact q'
theorem op_neL (hu : X.A.units < cLine) : OpR X (compareOp .NotEq) (rEqL X.K true) := by
  intro pins s σ H x y v u Q I rx ry h
  obtain ⟨a, b, xs, ys, rfl, rfl, ha, hb, fx, fy, q⟩ := h
  cases rx
  cases ry
  obtain ⟨its, r, p, z⟩ := I.list ha
  obtain ⟨its2, r2, p2, z2⟩ := I.list hb
  have l1 := r.length
  have l2 := r2.length
  by_cases hl : xs.length = ys.length
  · refine SeqAt.RcNeAt.lists (e := fun j => eqV ((xs[j]?).getD .non) ((ys[j]?).getD .non)) p.isList p2.isList (by simp; omega) hu (fun j h1 h2 => items_eq r r2 fx fy j h1 h2) _ _ _ _ ⟨.bl _, H, I, rfl, ?_⟩
    have e : its.toArray.size = xs.length := by simp; omega
    rw [e, eqVs_range hl]
    exact q
  · refine SeqAt.RcNeAt.lists_lengths p.isList p2.isList (by simp; omega) hu _ _ _ _ ⟨.bl true, H, I, rfl, ?_⟩
    have q' : Q (.bl (!eqVs xs ys)) H := q
    rw [eqVs_len hl] at q'
    exact q'

end

inductive DD where
  | bl (b : Bool)
  | int (i : Int)
  | str (s : Str)
  | tup (l : List DD)
  | lst (l : List DD)
mutual
def Rep (K : PySem.W.Frag) (H : Hp) : DD → V → Prop
  | .bl b, v => v = .bl b
  | .int i, v => v = .int i
  | .str s, v => v = .str s
  | .tup l, v => ∃ a xs, v = .ref a ∧ SqT K H a xs ∧ l.length ≤ 1000 ∧ Reps K H l xs
  | .lst l, v => ∃ a xs, v = .ref a ∧ SqL K H a xs ∧ l.length ≤ 1000 ∧ Reps K H l xs
def Reps (K : PySem.W.Frag) (H : Hp) : List DD → List V → Prop
  | [], xs => xs = []
  | d :: l, xs => ∃ x r, xs = x :: r ∧ Rep K H d x ∧ Reps K H l r
end
theorem Reps.len {K : PySem.W.Frag} {H : Hp} : ∀ {l : List DD} {xs : List V}, Reps K H l xs → xs.length = l.length
  | [], xs, h => by
    unfold Reps at h
    rw [h]; rfl
  | d :: l, xs, h => by
    unfold Reps at h
    obtain ⟨x, r, rfl, _, h⟩ := h
    rw [List.length_cons, List.length_cons, h.len]
theorem Reps.get {K : PySem.W.Frag} {H : Hp} : ∀ {l : List DD} {xs : List V} {i : Nat} {d : DD}, Reps K H l xs → l[i]? = some d → ∃ x, xs[i]? = some x ∧ Rep K H d x
  | [], _, _, _, _, e => by simp at e
  | d :: l, xs, 0, d', h, e => by
    unfold Reps at h
    obtain ⟨x, r, rfl, hx, h⟩ := h
    have : d = d' := by simpa using e
    subst this
    exact ⟨x, rfl, hx⟩
  | d :: l, xs, i + 1, d', h, e => by
    unfold Reps at h
    obtain ⟨x, r, rfl, hx, h⟩ := h
    obtain ⟨y, ey, hy⟩ := h.get (i := i) (by simpa using e)
    exact ⟨y, by simpa using ey, hy⟩
theorem Reps.strs {K : PySem.W.Frag} {H : Hp} : ∀ (l : List Str), Reps K H (l.map DD.str) (l.map V.str)
  | [] => by unfold Reps; rfl
  | s :: r => by
    show Reps K H (DD.str s :: r.map DD.str) (V.str s :: r.map V.str)
    unfold Reps
    exact ⟨_, _, rfl, by unfold Rep; rfl, Reps.strs r⟩
end L2

namespace L2
open PySem PySem.Spec PyProof.Rows

section
variable {X : Cx} {o i : Expr} {pos : Pos} {td ty : TE}
end
end L2

set_option maxHeartbeats 4000000
namespace L2
open PySem PySem.Spec PyProof.Rows

section
variable {P : Program} {w : World} {K : PySem.W.Frag} {mg : Str → Option Value} {base : Heap} {N : List Str} {qual : Str} {scope : Scope} {f : Addr} {cd : Value} {A : Around} {outer : List Env} {s : Shared} {H : Hp} {E : XK}
end

section
variable {X : Cx} {E : XK} {c : Str} {C : Addr} {e : Expr} {es : List Expr} {t : TA} {np cpos pos : Pos}
end
theorem FnOk.calm {P : Program} {w : World} {K : PySem.W.Frag} {mg : Str → Option Value} {base : Heap} {k : Nat} {f : Addr} {fd : FuncData} {ps : List Str} {sp : Sp} (F : FnOk P w K mg base CX0 k f fd ps sp) (CX : CXT) : FnOk P w K mg base CX k f fd ps sp :=
  ⟨F.len, fun A outer s H args us vs Q E hr e0 hb r hs => codeAny_mono (F.run A outer s H args us vs Q E hr e0 hb r hs) fun r s' h => by
    cases r with
    | error e => exact False.elim h
    | ok fl => cases fl <;> exact h⟩
section
variable {X : Cx} {k : Nat} {f T : Addr} {fd : FuncData} {ps : List Str} {sp : Sp} {fx c : Str} {st : Stmt} {e : Expr} {es : List Expr} {t : TA} {b₀ : Stmt} {suite : List Stmt} {th : TS} {np pf cpos apos hpos pos : Pos}
end
end L2

set_option maxHeartbeats 4000000
namespace L2
open PySem PySem.Spec PyProof.Rows Tl

section
variable {X : Cx}
end
end L2

set_option maxHeartbeats 4000000
namespace L2
open PySem PySem.Spec PyProof.Rows Tl

theorem Inv.track {X : Cx} {pins : List (Addr × Obj)} {σ : St} {H : Hp} {s : Shared} {D : Addr} {o : HO} (I : Inv X pins σ H s) (hn : H D = none) (hnew : X.s₀.heap.objs.size ≤ D) (hL : D ≠ X.env.locals) (hc : ∀ x c, X.env.cells.lookup x = some c → c ≠ D) (hp : ∀ p ∈ X.pn ++ pins, p.1 ≠ D)
    (ok : ObjOk X.prog X.w (upd H D o) s.heap D o) : Inv X pins σ (upd H D o) s := by
  have ne : ∀ b u, H b = some u → b ≠ D := fun b u q => ne_of_none q hn
  refine ⟨I.ok, I.os, I.bare, ⟨I.base.keep, I.base.slot, fun b o q nn hx => ?_, I.base.there, fun b xs q => ?_, fun b o u q => ?_, fun b ps q => ?_⟩, I.loc, I.cell, ?_, fun x c q => ?_, fun p hq => ?_, fun b u q => ?_, I.len⟩
  · rw [upd_ne (Nat.ne_of_lt (Nat.lt_of_lt_of_le (Heap.lt_size q) hnew))]; exact I.base.free b o q nn hx
  · have z := I.base.tups b xs q
    rw [upd_ne (ne b _ z)]; exact z
  · have z := I.base.frzs b o u q
    rw [upd_ne (ne b _ z)]; exact z
  · obtain ⟨more, z⟩ := I.base.tbls b ps q
    exact ⟨more, by rw [upd_ne (ne b _ z)]; exact z⟩
  · rw [upd_ne (Ne.symm hL)]; exact I.free
  · rw [upd_ne (hc x c q)]; exact I.freeC x c q
  · obtain ⟨a1, a2, a3⟩ := I.pin p hq
    exact ⟨a1, by rw [upd_ne (hp p hq)]; exact a2, a3⟩
  · by_cases hb : b = D
    · subst hb
      rw [upd_same] at q; cases q
      exact ok
    · rw [upd_ne hb] at q
      exact (I.hok b u q).stay (fun c v _ r => r) (fun c r => by rw [upd_ne (ne c _ r)]; exact r) fun c xs r => by rw [upd_ne (ne c _ r)]; exact r
section
variable {X : Cx} {elts : List Expr} {k1 : Nat} {tp : Pos}
end
end L2

set_option maxHeartbeats 4000000
namespace L2
open PySem PySem.Spec PyProof.Rows Tl

section
variable {X : Cx} {tg : Expr}
end
end L2
namespace L2
open PySem PySem.Spec PyProof.Rows Tl
end L2

set_option maxHeartbeats 4000000
namespace L2
open PySem PySem.Spec PyProof.Rows Tl
end L2

namespace L2
open PySem PySem.Spec PyProof.Rows

section
variable {X : Cx}
def sameV (x : V) : Prop := flatV x = true ∨ ∃ a, x = .ref a
theorem items_same {A : Around} {s : Shared} {xs : List V} {its its2 : List Value} (r : Vals xs its) (r2 : Vals xs its2) (f : ∀ x ∈ xs, sameV x) (j : Nat) (h1 : j < its.toArray.size) (h2 : j < its2.toArray.size) :
    SeqAt.EqAt A s its.toArray[j] its2.toArray[j] true := by
  have l1 := r.length
  have h1' : j < its.length := by simpa using h1
  have h2' : j < its2.length := by simpa using h2
  have hx : j < xs.length := by omega
  have e1 : xs[j]? = some xs[j] := List.getElem?_eq_getElem hx
  obtain ⟨u, hu, ru⟩ := r.get e1
  obtain ⟨v, hv, rv⟩ := r2.get e1
  have eu : its.toArray[j] = u := by
    have : its[j]? = some its[j] := List.getElem?_eq_getElem h1'
    rw [hu] at this
    simpa using this.symm
  have ev : its2.toArray[j] = v := by
    have : its2[j]? = some its2[j] := List.getElem?_eq_getElem h2'
    rw [hv] at this
    simpa using this.symm
  rw [eu, ev]
  rcases f xs[j] (List.getElem_mem hx) with hf | ⟨a, ha⟩
  · have := eqAt_V (A := A) (s := s) ru rv hf hf
    rw [eqV_refl hf] at this
    exact this
  · rw [ha] at ru rv
    cases ru
    cases rv
    exact SeqAt.EqAt.same _
def rEqS (K : PySem.W.Frag) (neg : Bool) : R2 := fun x y H Q => ∃ a b xs, x = .ref a ∧ y = .ref b ∧ SqL K H a xs ∧ SqL K H b xs ∧ (∀ x ∈ xs, sameV x) ∧ Q (.bl (!neg)) H
theorem all_true {n : Nat} : (List.range n).all (fun _ => true) = true := List.all_eq_true.mpr fun _ _ => rfl
theorem op_eqS (hu : X.A.units < cLine) : OpR X (compareOp .Eq) (rEqS X.K false) := by
  intro pins s σ H x y v u Q I rx ry h
  obtain ⟨a, b, xs, rfl, rfl, ha, hb, f, q⟩ := h
  cases rx
  cases ry
  obtain ⟨its, r, p, z⟩ := I.list ha
  obtain ⟨its2, r2, p2, z2⟩ := I.list hb
  have l1 := r.length
  have l2 := r2.length
  refine SeqAt.eq_listAt (e := fun _ => true) p.isList p2.isList (by simp; omega) hu (fun j h1 h2 => items_same r r2 f j h1 h2) ⟨.bl _, H, I, rfl, ?_⟩
  rw [all_true]
  exact q
theorem op_neS (hu : X.A.units < cLine) : OpR X (compareOp .NotEq) (rEqS X.K true) := by
  intro pins s σ H x y v u Q I rx ry h
  obtain ⟨a, b, xs, rfl, rfl, ha, hb, f, q⟩ := h
  cases rx
  cases ry
  obtain ⟨its, r, p, z⟩ := I.list ha
  obtain ⟨its2, r2, p2, z2⟩ := I.list hb
  have l1 := r.length
  have l2 := r2.length
  refine SeqAt.RcNeAt.lists (e := fun _ => true) p.isList p2.isList (by simp; omega) hu (fun j h1 h2 => items_same r r2 f j h1 h2) _ _ _ _ ⟨.bl _, H, I, rfl, ?_⟩
  rw [all_true]
  exact q

theorem same_new {H : Hp} {p : Addr} (h : H p = none) (o : HO) : Same H (upd H p o) := fun b u q => by rw [upd_ne (ne_of_none q h)]; exact q
theorem Same.tup {K : PySem.W.Frag} {H H' : Hp} {a : Addr} {xs : List V} (e : Same H H') (h : SqT K H a xs) : SqT K H' a xs := by
  rcases h with (h | ⟨o, h⟩) | h
  · exact .inl (.inl (e _ _ h))
  · exact .inl (.inr ⟨o, e _ _ h⟩)
  · exact .inr h
theorem SqT.lst {K : PySem.W.Frag} {H : Hp} {a l : Addr} {xs ys zs : List V} (e : H l = some (.lst ys)) (h : SqT K H a xs) : SqT K (upd H l (.lst zs)) a xs := by
  rcases h with (h | ⟨o, h⟩) | h
  · exact .inl (.inl (by rw [upd_ne (ne_of h e (fun z => nomatch z))]; exact h))
  · exact .inl (.inr ⟨o, by rw [upd_ne (ne_of h e (fun z => nomatch z))]; exact h⟩)
  · exact .inr h
def SameX (l : Addr) (H H' : Hp) : Prop := ∀ b o, b ≠ l → H b = some o → H' b = some o
theorem SameX.refl (l : Addr) (H : Hp) : SameX l H H := fun _ _ _ h => h
theorem SameX.trans {l : Addr} {H H1 H2 : Hp} (a : SameX l H H1) (b : SameX l H1 H2) : SameX l H H2 := fun c o n h => b c o n (a c o n h)
theorem SameX.put {l : Addr} {H H1 : Hp} {o : HO} (a : SameX l H H1) : SameX l H (upd H1 l o) := fun c u n h => by rw [upd_ne n]; exact a c u n h
theorem Same.x {l : Addr} {H H' : Hp} (e : Same H H') : SameX l H H' := fun b o _ h => e b o h
theorem SameX.seq {K : PySem.W.Frag} {H H' : Hp} {a l : Addr} {xs : List V} (e : SameX l H H') (n : a ≠ l) (h : SqL K H a xs) : SqL K H' a xs := by
  rcases h with (h | ⟨o, h⟩) | h
  · exact .inl (.inl (e _ _ n h))
  · exact .inl (.inr ⟨o, e _ _ n h⟩)
  · exact .inr h
theorem SameX.tup {K : PySem.W.Frag} {H H' : Hp} {a l : Addr} {xs : List V} (e : SameX l H H') (n : a ≠ l) (h : SqT K H a xs) : SqT K H' a xs := by
  rcases h with (h | ⟨o, h⟩) | h
  · exact .inl (.inl (e _ _ n h))
  · exact .inl (.inr ⟨o, e _ _ n h⟩)
  · exact .inr h
def sp_law (K : PySem.W.Frag) : Sp := fun vs H Q _ => ∃ (a : Addr) (ns : List Int), vs = [.ref a] ∧ SqL K H a (ns.map V.int) ∧ ns.length ≤ 63 ∧ ∀ H', Q (.bl true) H'
theorem small {n : Nat} (h : n ≤ 1000) : n ≤ sizeLine := Nat.le_of_lt (small1000 h)
theorem le1 : 1 ≤ sizeLine := by decide
theorem le2 : 2 ≤ sizeLine := by decide
theorem le4 : 4 ≤ sizeLine := by decide
theorem andG {a : Prop} {_inst : Decidable a} {X A B : Prop} (hb : ¬ a → B) (hx : a → X) : if a then X else (if false = true then A else B) := by
  by_cases h : a
  · rw [if_pos h]; exact hx h
  · rw [if_neg h]; exact hb h
theorem get_int {ns : List Int} {i : Nat} {y : V} (h : (ns.map V.int)[i]? = some y) : ∃ z, y = V.int z ∧ ns[i]? = some z := by
  rw [List.getElem?_map] at h
  cases e : ns[i]? with
  | none => rw [e] at h; cases h
  | some z => rw [e] at h; exact ⟨z, (Option.some.inj h).symm, rfl⟩
theorem map_snoc (n : Int) (ns : List Int) : (ns.map V.int) ++ [V.int n] = (ns ++ [n]).map V.int := by simp
end
end L2

namespace HT
open PySem PyProof.Rows
section
open PySem.SeqAt
open PySem.AutoSeq1 (wpAny_loadPart')
open PySem.MeetsSeq PySem.MeetsSeq2 PySem.MeetsSeq3

end
end HT

namespace L2
open PySem PySem.Spec PyProof.Rows
section
variable {X : Cx}

end
end L2

set_option maxHeartbeats 4000000
namespace L2
open PySem PySem.Spec PyProof.Rows Tl
def figs (n : Nat) : List Nat := (Nat.toDigits 10 n).map Char.toNat
theorem str_figs (n : Nat) : (PySem.Str.ofString (toString ((n : Nat) : Int))) = tx (figs n) := by
  have e := PySem.W.KIN.signs_num n
  rw [tx_of (PySem.Str.ofString _), e]
  rfl
theorem digit_char : ∀ d : Nat, d < 10 → (Nat.digitChar d).toNat = d + 48 := by decide
theorem figs_small {n : Nat} (h : n < 10) : figs n = [n + 48] := by
  unfold figs
  rw [Nat.toDigits_of_lt_base h, List.map_singleton, digit_char n h]
theorem figs_step {n : Nat} (h : 10 ≤ n) : figs n = figs (n / 10) ++ [n % 10 + 48] := by
  have hm : n % 10 < 10 := Nat.mod_lt n (by decide)
  have t : Nat.toDigits 10 (n / 10) ++ Nat.toDigits 10 (n % 10) = Nat.toDigits 10 (10 * (n / 10) + n % 10) := Nat.toDigits_append_toDigits (by decide) (by omega) hm
  rw [Nat.div_add_mod] at t
  unfold figs
  rw [← t, List.map_append, Nat.toDigits_of_lt_base hm, List.map_singleton, digit_char _ hm]
theorem figs_len : ∀ (k n : Nat), n < 10 ^ (k + 1) → (figs n).length ≤ k + 1
  | 0, n, h => by
    rw [figs_small (by simpa using h)]
    simp
  | k + 1, n, h => by
    by_cases hn : n < 10
    · rw [figs_small hn]; simp
    · rw [figs_step (by omega), List.length_append, List.length_singleton]
      have := figs_len k (n / 10) (by
        rw [Nat.pow_succ] at h
        omega)
      omega
theorem figs_in : ∀ (n c : Nat), c ∈ figs n → 48 ≤ c ∧ c ≤ 57 := by
  intro n
  induction n using Nat.strongRecOn with
  | _ n ih =>
    intro c hc
    by_cases h : n < 10
    · rw [figs_small h] at hc
      have : c = n + 48 := by simpa using hc
      omega
    · rw [figs_step (by omega)] at hc
      rcases List.mem_append.mp hc with hc | hc
      · exact ih (n / 10) (by omega) c hc
      · have : c = n % 10 + 48 := by simpa using hc
        omega
theorem figs_pos (n : Nat) : 1 ≤ (figs n).length := by
  by_cases h : n < 10
  · rw [figs_small h]; simp
  · rw [figs_step (by omega), List.length_append, List.length_singleton]
    omega
theorem log_small {n : Nat} (h : n < 10 ^ 100) : n.log2 < 1920 := by
  by_cases e : n = 0
  · subst e; decide
  · refine (Nat.log2_lt e).mpr (Nat.lt_trans h ?_)
    decide +kernel
def valF (l : List Nat) : Nat := l.foldl (fun acc c => acc * 10 + (c - 48)) 0
theorem valF_snoc (l : List Nat) (c : Nat) : valF (l ++ [c]) = valF l * 10 + (c - 48) := by unfold valF; rw [List.foldl_append]; rfl
theorem snoc_of {l : List Nat} (h : l ≠ []) : ∃ r c, l = r ++ [c] := ⟨l.dropLast, l.getLast h, (List.dropLast_concat_getLast h).symm⟩
theorem val_lt : ∀ (n : Nat) (l : List Nat), l.length = n → (∀ c ∈ l, 48 ≤ c ∧ c ≤ 57) → valF l < 10 ^ n := by
  intro n
  induction n with
  | zero =>
    intro l hl _
    rw [List.eq_nil_of_length_eq_zero hl]
    decide
  | succ n ih =>
    intro l hl f
    obtain ⟨r, c, rfl⟩ := snoc_of (l := l) (fun e => by rw [e] at hl; cases hl)
    have hl' : r.length = n := by rw [List.length_append, List.length_singleton] at hl; omega
    have := ih r hl' fun d hd => f d (List.mem_append_left _ hd)
    have hc := f c (by simp)
    rw [valF_snoc, Nat.pow_succ]
    omega
theorem read_digits {l : List Nat} (f : ∀ c ∈ l, 48 ≤ c ∧ c ≤ 57) (ne : l ≠ []) (h : l.length ≤ 100) : PySem.intText? (tx l) = some ((valF l : Nat) : Int) := by
  have e : (tx l).cps.toList = l := by simp
  have := PySem.intText_digits (x := tx l) (by rw [e]; exact f) (by rw [e]; exact ne) (by rw [tx_len]; omega)
  rw [e] at this
  exact this
theorem rep_mem {α : Type} (x c : α) : ∀ n : Nat, c ∈ repL [x] n → c = x
  | 0, h => by simp [repL] at h
  | n + 1, h => by
    rw [repL_succ] at h
    rcases List.mem_append.mp h with h | h
    · simpa using h
    · exact rep_mem x c n h
abbrev pl (x : Int × Int) : List V := [.int x.1, .int x.2]
abbrev fm (w h f m : Int) : List V := [.int w, .int h, .int f, .int m]
structure FormOk (w h f m : Int) : Prop where
  w1 : 1 ≤ w
  w2 : w ≤ 200
  h1 : 1 ≤ h
  h2 : h ≤ 60
  f1 : 0 ≤ f
  f2 : f ≤ 10 ^ 60
  m1 : 1 ≤ m
  m2 : m ≤ 60
structure PlaceOk (h : Int) (x : Int × Int) : Prop where
  p1 : 0 ≤ x.1
  p2 : x.1 < 9 * 10 ^ 59
  r1 : 0 ≤ x.2
  r2 : x.2 < h
def sooner (x y : Int × Int) : Bool := decide (x.1 < y.1) || (decide (x.1 = y.1) && decide (x.2 < y.2))
structure RowIn (h : Int) (x : Int × Int) : Prop where
  p1 : 0 ≤ x.1
  r1 : 0 ≤ x.2
  r2 : x.2 < h
inductive Say where
  | text (l : List Nat)
  | page (k : Nat)
  | row (k : Nat)
def sayV : Say → List V
  | .text l => [.str (PySem.Str.ofString "text"), .str (tx l)]
  | .page k => [.str (PySem.Str.ofString "page"), .int (k : Int)]
  | .row k => [.str (PySem.Str.ofString "row"), .int (k : Int)]
def saidL (h f : Int) (xs : List (Int × Int)) : Say → List Nat
  | .text l => l
  | .page k => figs (f + (xs.getD k (0, 0)).1).toNat
  | .row k => figs ((xs.getD k (0, 0)).1 * h + (xs.getD k (0, 0)).2 + 1).toNat
def SayOk (n : Nat) : Say → Prop
  | .text l => 1 ≤ l.length ∧ l.length ≤ 60 ∧ ∀ c ∈ l, 33 ≤ c ∧ c < 127
  | .page k => k < n
  | .row k => k < n
def PlsOk (h : Int) (xs : List (Int × Int)) : Prop := ∀ x ∈ xs, RowIn h x ∧ x.1 < 10 ^ 60
def PlsA (K : PySem.W.Frag) (H : Hp) (as : List Addr) (xs : List (Int × Int)) : Prop := as.length = xs.length ∧ ∀ (i : Nat) a x, as[i]? = some a → xs[i]? = some x → SqT K H a (pl x)
theorem PlsA.same {K : PySem.W.Frag} {H H' : Hp} {as : List Addr} {xs : List (Int × Int)} (s : Same H H') (h : PlsA K H as xs) : PlsA K H' as xs := ⟨h.1, fun i a x e e' => s.tup (h.2 i a x e e')⟩
theorem PlsA.lst {K : PySem.W.Frag} {H : Hp} {l : Addr} {ys zs : List V} {as : List Addr} {xs : List (Int × Int)} (e : H l = some (.lst ys)) (h : PlsA K H as xs) : PlsA K (upd H l (.lst zs)) as xs := ⟨h.1, fun i a x e1 e' => SqT.lst e (h.2 i a x e1 e')⟩
theorem PlsA.nil {K : PySem.W.Frag} {H : Hp} : PlsA K H [] [] := ⟨rfl, fun i a x e _ => by simp at e⟩
theorem PlsA.snoc {K : PySem.W.Frag} {H : Hp} {as : List Addr} {xs : List (Int × Int)} {a : Addr} {x : Int × Int} (h : PlsA K H as xs) (hx : SqT K H a (pl x)) : PlsA K H (as ++ [a]) (xs ++ [x]) := by
  refine ⟨by simp [h.1], fun i b y e e' => ?_⟩
  by_cases hi : i < as.length
  · rw [List.getElem?_append_left hi] at e
    rw [List.getElem?_append_left (by rw [← h.1]; exact hi)] at e'
    exact h.2 i b y e e'
  · rw [List.getElem?_append_right (by omega)] at e
    rw [List.getElem?_append_right (by rw [← h.1]; omega)] at e'
    have : i - as.length = 0 := by
      rcases Nat.eq_zero_or_pos (i - as.length) with z | z
      · exact z
      · rw [List.getElem?_eq_none (by simp; omega)] at e; cases e
    rw [this] at e
    rw [← h.1, this] at e'
    cases e
    cases e'
    exact hx
theorem PlsA.get {K : PySem.W.Frag} {H : Hp} {as : List Addr} {xs : List (Int × Int)} (h : PlsA K H as xs) {k : Nat} (hk : k < xs.length) : ∃ a, atI (as.map V.ref) (k : Int) = some (V.ref a) ∧ SqT K H a (pl (xs.getD k (0, 0))) := by
  have hk2 : k < as.length := by rw [h.1]; exact hk
  refine ⟨as[k], atI_nat (by rw [List.getElem?_map, List.getElem?_eq_getElem hk2]; rfl), ?_⟩
  rw [List.getD_eq_getElem?_getD, List.getElem?_eq_getElem hk]
  exact h.2 k _ _ (List.getElem?_eq_getElem hk2) (List.getElem?_eq_getElem hk)
theorem PlsOk.get {h : Int} {xs : List (Int × Int)} (o : PlsOk h xs) {k : Nat} (hk : k < xs.length) : RowIn h (xs.getD k (0, 0)) ∧ (xs.getD k (0, 0)).1 < 10 ^ 60 := by
  rw [List.getD_eq_getElem?_getD, List.getElem?_eq_getElem hk]
  exact o _ (List.getElem_mem hk)
theorem PlsOk.snoc {h : Int} {xs : List (Int × Int)} {x : Int × Int} (o : PlsOk h xs) (i : RowIn h x) (b : x.1 < 10 ^ 60) : PlsOk h (xs ++ [x]) := by
  intro y hy
  rcases List.mem_append.mp hy with hy | hy
  · exact o y hy
  · rw [List.mem_singleton.mp hy]
    exact ⟨i, b⟩
theorem page_num {f p : Int} (f1 : 0 ≤ f) (f2 : f ≤ 10 ^ 60) (p1 : 0 ≤ p) (p2 : p < 10 ^ 60) : ∃ n : Nat, f + p = (n : Int) ∧ n < 10 ^ 62 := by
  obtain ⟨n, hn⟩ := Int.eq_ofNat_of_zero_le (show 0 ≤ f + p by omega)
  exact ⟨n, hn, by omega⟩
theorem row_num {h p r : Int} (h1 : 1 ≤ h) (h2 : h ≤ 60) (p1 : 0 ≤ p) (p2 : p < 10 ^ 60) (r1 : 0 ≤ r) (r2 : r < h) : ∃ n : Nat, p * h + r + 1 = (n : Int) ∧ n < 10 ^ 62 := by
  have a : 0 ≤ p * h := Int.mul_nonneg p1 (by omega)
  have b : p * h ≤ p * 60 := Int.mul_le_mul_of_nonneg_left h2 p1
  obtain ⟨n, hn⟩ := Int.eq_ofNat_of_zero_le (show 0 ≤ p * h + r + 1 by omega)
  exact ⟨n, hn, by omega⟩
theorem lt_100 {n : Nat} (h : n < 10 ^ 62) : n < 10 ^ 100 := Nat.lt_trans h (Nat.pow_lt_pow_right (by decide) (by decide))
theorem said_len {w h f m : Int} {xs : List (Int × Int)} {s : Say} (fo : FormOk w h f m) (po : PlsOk h xs) (so : SayOk xs.length s) : 1 ≤ (saidL h f xs s).length ∧ (saidL h f xs s).length ≤ 62 ∧ ∀ c ∈ saidL h f xs s, 33 ≤ c ∧ c < 127 := by
  cases s with
  | text l => exact ⟨so.1, by have := so.2.1; show l.length ≤ 62; omega, so.2.2⟩
  | page k =>
    obtain ⟨i, b⟩ := po.get so
    obtain ⟨n, e, hn⟩ := page_num fo.f1 fo.f2 i.p1 b
    simp only [saidL]
    rw [e]
    exact ⟨figs_pos _, figs_len 61 n hn, fun c hc => by have := figs_in n c hc; omega⟩
  | row k =>
    obtain ⟨i, b⟩ := po.get so
    obtain ⟨n, e, hn⟩ := row_num fo.h1 fo.h2 i.p1 b i.r1 i.r2
    simp only [saidL]
    rw [e]
    exact ⟨figs_pos _, figs_len 61 n hn, fun c hc => by have := figs_in n c hc; omega⟩
theorem ref_same (as : List Addr) : ∀ x ∈ as.map V.ref, sameV x := fun x hx => by
  obtain ⟨a, _, rfl⟩ := List.mem_map.mp hx
  exact .inr ⟨a, rfl⟩
theorem ne_page : decide (V.str (PySem.Str.ofString "page") = V.str (PySem.Str.ofString "text")) = false := by decide +kernel
theorem ne_row : decide (V.str (PySem.Str.ofString "row") = V.str (PySem.Str.ofString "text")) = false := by decide +kernel
theorem ne_row_page : decide (V.str (PySem.Str.ofString "row") = V.str (PySem.Str.ofString "page")) = false := by decide +kernel
theorem refs_snoc (as : List Addr) (a : Addr) : as.map V.ref ++ [V.ref a] = (as ++ [a]).map V.ref := by simp
def sgns : List Nat := [33,34,35,36,38,39,40,41,42,43,44,45,46,47,48,49,50,51,52,53,54,55,56,57,58,59,60,61,62,63,64,65,66,67,68,69,70,71,72,73,74,75,76,77,78,79,80,81,82,83,84,85,86,87,88,89,90,91,92,93,94,95,96,97,98,99,100,101,102,103,104,105,106,107,108,109,110,111,112,113,114,115,116,117,118,119,120,121,122,123,124,125,126]
theorem sgn_in : ∀ k : Nat, k < 93 → 33 ≤ sgns.getD k 0 ∧ sgns.getD k 0 < 127 := by decide +kernel
theorem join_one : ∀ cs : List Nat, joinL [] (cs.map fun c => [c]) = cs
  | [] => rfl
  | [c] => rfl
  | c :: d :: r => by
    show [c] ++ [] ++ joinL [] ((d :: r).map fun c => [c]) = _
    rw [join_one (d :: r)]
    rfl
theorem sum_one : ∀ cs : List Nat, ((cs.map fun c => tx [c]).map (·.length)).sum = cs.length
  | [] => rfl
  | c :: r => by
    rw [List.map_cons, List.map_cons, List.sum_cons, sum_one r, tx_len]
    simp only [List.length_cons, List.length_nil]
    omega
theorem at_last {α : Type} (xs : List α) (x : α) : atI (xs ++ [x]) (-1) = some x := by
  unfold atI ixN
  rw [if_neg (by decide), if_pos (by simp; omega)]
  have e : (-1 + ((xs ++ [x]).length : Int)).toNat = xs.length := by simp; omega
  show (xs ++ [x])[(-1 + ((xs ++ [x]).length : Int)).toNat]? = some x
  rw [e]
  simp
def PlsLe (xs ys : List (Int × Int)) : Prop := xs.length = ys.length ∧ ∀ k, k < xs.length → sooner (ys.getD k (0, 0)) (xs.getD k (0, 0)) = false
theorem getD_app {α : Type} (xs ys : List α) (d : α) (k : Nat) : (xs ++ ys).getD k d = if k < xs.length then xs.getD k d else ys.getD (k - xs.length) d := by
  rw [List.getD_eq_getElem?_getD]
  by_cases e : k < xs.length
  · rw [if_pos e, List.getElem?_append_left e, List.getD_eq_getElem?_getD]
  · rw [if_neg e, List.getElem?_append_right (by omega), List.getD_eq_getElem?_getD]
theorem PlsLe.snoc {xs ys : List (Int × Int)} {x y : Int × Int} (h : PlsLe xs ys) (l : sooner y x = false) : PlsLe (xs ++ [x]) (ys ++ [y]) := by
  refine ⟨by simp [h.1], fun k hk => ?_⟩
  rw [getD_app, getD_app]
  by_cases e : k < xs.length
  · rw [if_pos e, if_pos (by rw [← h.1]; exact e)]
    exact h.2 k e
  · have hk2 : k = xs.length := by simp at hk; omega
    rw [if_neg e, if_neg (by rw [← h.1]; exact e), ← h.1, hk2, Nat.sub_self]
    exact l
end L2

set_option maxHeartbeats 4000000
namespace L2
open PySem PySem.Spec PyProof.Rows Tl
section
variable {X : Cx}
end
end L2

set_option maxHeartbeats 4000000
namespace L2
open PySem PySem.Spec PyProof.Rows Tl
def fillStep (w : Int) (rows : List (List Nat)) (t : List Nat) : List (List Nat) :=
  match rows.getLast? with
  | none => [t]
  | some l => if (l.length : Int) + 1 + t.length ≤ w then rows.dropLast ++ [l ++ 32 :: t] else rows ++ [t]
theorem fillStep_nil (w : Int) (t : List Nat) : fillStep w [] t = [t] := rfl
theorem fillStep_snoc (w : Int) (rs : List (List Nat)) (l t : List Nat) : fillStep w (rs ++ [l]) t = if (l.length : Int) + 1 + t.length ≤ w then rs ++ [l ++ 32 :: t] else rs ++ [l] ++ [t] := by simp [fillStep]
def fillW (w : Int) (ts : List (List Nat)) : List (List Nat) := ts.foldl (fillStep w) []
theorem fillW_snoc (w : Int) (ts : List (List Nat)) (t : List Nat) : fillW w (ts ++ [t]) = fillStep w (fillW w ts) t := by simp [fillW, List.foldl_append]
theorem list_snoc {α : Type} (l : List α) : l = [] ∨ ∃ r c, l = r ++ [c] := by
  by_cases h : l = []
  · exact .inl h
  · exact .inr ⟨l.dropLast, l.getLast h, (List.dropLast_concat_getLast h).symm⟩
theorem snoc_ind {α : Type} {P : List α → Prop} (h0 : P []) (h1 : ∀ l a, P l → P (l ++ [a])) : ∀ l, P l := by
  intro l
  have : ∀ n (l : List α), l.length = n → P l := by
    intro n
    induction n with
    | zero => intro l hl; rw [List.eq_nil_of_length_eq_zero hl]; exact h0
    | succ n ih =>
      intro l hl
      rcases list_snoc l with rfl | ⟨r, c, rfl⟩
      · exact h0
      · exact h1 r c (ih r (by simp at hl; exact hl))
  exact this _ l rfl
theorem fill_small {w : Int} (hw : w ≤ 200) (ts : List (List Nat)) (h : ∀ t ∈ ts, t.length ≤ 62) : (∀ r ∈ fillW w ts, r.length ≤ 200) ∧ (fillW w ts).length ≤ ts.length := by
  revert h
  refine snoc_ind (P := fun ts => (∀ t ∈ ts, t.length ≤ 62) → (∀ r ∈ fillW w ts, r.length ≤ 200) ∧ (fillW w ts).length ≤ ts.length) (fun _ => ⟨fun r hr => (by cases hr), Nat.le_refl _⟩) ?_ ts
  intro ts t ih h
  obtain ⟨i1, i2⟩ := ih fun u hu => h u (List.mem_append_left _ hu)
  have ht := h t (by simp)
  rw [fillW_snoc]
  rcases list_snoc (fillW w ts) with e | ⟨rs, l, e⟩
  · rw [e, fillStep_nil]
    exact ⟨fun r hr => by rw [List.mem_singleton.mp hr]; omega, by simp⟩
  · rw [e] at i1 i2 ⊢
    rw [fillStep_snoc]
    by_cases c : (l.length : Int) + 1 + t.length ≤ w
    · rw [if_pos c]
      refine ⟨fun r hr => ?_, by simp at i2 ⊢; omega⟩
      rcases List.mem_append.mp hr with hr | hr
      · exact i1 r (List.mem_append_left _ hr)
      · rw [List.mem_singleton.mp hr]
        simp
        omega
    · rw [if_neg c]
      refine ⟨fun r hr => ?_, by simp at i2 ⊢; omega⟩
      rcases List.mem_append.mp hr with hr | hr
      · exact i1 r hr
      · rw [List.mem_singleton.mp hr]; omega
def lexLe (x y : Int × Int) : Prop := x.1 < y.1 ∨ (x.1 = y.1 ∧ x.2 ≤ y.2)
theorem lexLe.refl (x : Int × Int) : lexLe x x := .inr ⟨rfl, Int.le_refl _⟩
theorem lexLe.trans {x y z : Int × Int} (a : lexLe x y) (b : lexLe y z) : lexLe x z := by
  unfold lexLe at *
  omega
def rowsV (rows : List (List Nat)) : List V := rows.map fun t => V.str (tx t)
def SaysA (K : PySem.W.Frag) (H : Hp) (bs : List Addr) (ss : List Say) : Prop := bs.length = ss.length ∧ ∀ (i : Nat) b s, bs[i]? = some b → ss[i]? = some s → SqT K H b (sayV s)
theorem SaysA.same {K : PySem.W.Frag} {H H' : Hp} {bs : List Addr} {ss : List Say} (s : Same H H') (h : SaysA K H bs ss) : SaysA K H' bs ss := ⟨h.1, fun i a x e e' => s.tup (h.2 i a x e e')⟩
theorem SaysA.lst {K : PySem.W.Frag} {H : Hp} {l : Addr} {ys zs : List V} {bs : List Addr} {ss : List Say} (e : H l = some (.lst ys)) (h : SaysA K H bs ss) : SaysA K (upd H l (.lst zs)) bs ss := ⟨h.1, fun i a x e1 e' => SqT.lst e (h.2 i a x e1 e')⟩
theorem SaysA.nil {K : PySem.W.Frag} {H : Hp} : SaysA K H [] [] := ⟨rfl, fun i a x e _ => by simp at e⟩
theorem SaysA.app {K : PySem.W.Frag} {H : Hp} {bs cs : List Addr} {ss ts : List Say} (h : SaysA K H bs ss) (g : SaysA K H cs ts) : SaysA K H (bs ++ cs) (ss ++ ts) := by
  refine ⟨by simp [h.1, g.1], fun i b y e e' => ?_⟩
  by_cases hi : i < bs.length
  · rw [List.getElem?_append_left hi] at e
    rw [List.getElem?_append_left (by rw [← h.1]; exact hi)] at e'
    exact h.2 i b y e e'
  · rw [List.getElem?_append_right (by omega)] at e
    rw [List.getElem?_append_right (by rw [← h.1]; omega), ← h.1] at e'
    exact g.2 _ b y e e'
theorem SaysA.one {K : PySem.W.Frag} {H : Hp} {b : Addr} {s : Say} (h : SqT K H b (sayV s)) : SaysA K H [b] [s] := by
  refine ⟨rfl, fun i a x e e' => ?_⟩
  match i, e, e' with
  | 0, e, e' =>
    cases e
    cases e'
    exact h
theorem SaysA.take {K : PySem.W.Frag} {H : Hp} {bs : List Addr} {ss : List Say} (h : SaysA K H bs ss) (n : Nat) : SaysA K H (bs.take n) (ss.take n) := by
  refine ⟨by simp [h.1], fun i b y e e' => ?_⟩
  rw [List.getElem?_take] at e e'
  split at e
  · rename_i c
    rw [if_pos c] at e'
    exact h.2 i b y e e'
  · cases e
theorem SaysA.drop {K : PySem.W.Frag} {H : Hp} {bs : List Addr} {ss : List Say} (h : SaysA K H bs ss) (n : Nat) : SaysA K H (bs.drop n) (ss.drop n) := by
  refine ⟨by simp [h.1], fun i b y e e' => ?_⟩
  rw [List.getElem?_drop] at e e'
  exact h.2 _ b y e e'
theorem Same.put {H H2 : Hp} {r : Addr} {o : HO} (s : Same H H2) (hr : H r = none) : Same H (upd H2 r o) := fun b u q => by rw [upd_ne (ne_of_none q hr)]; exact s b u q
theorem ix_last (n : Nat) (h : 0 < n) : ixN n (-1) = some (n - 1) := by
  unfold ixN
  rw [if_neg (by decide), if_pos (by omega)]
  congr 1
  omega
theorem set_last (rs : List V) (l x : V) : (rs ++ [l]).set ((rs ++ [l]).length - 1) x = rs ++ [x] := by
  rw [List.length_append, List.length_singleton, Nat.add_sub_cancel, List.set_append_right _ _ (Nat.le_refl _), Nat.sub_self]
  rfl
theorem rowsV_snoc (rs : List (List Nat)) (t : List Nat) : rowsV (rs ++ [t]) = rowsV rs ++ [V.str (tx t)] := by simp [rowsV]
theorem flat_rows (rs : List (List Nat)) : (rowsV rs).all flatV = true := by
  unfold rowsV
  rw [List.all_map]
  exact List.all_eq_true.mpr fun _ _ => rfl
theorem cbl : (PySem.Str.ofString " ") = tx [32] := by decide +kernel
theorem rows_nil (rs : List (List Nat)) : eqVs (rowsV rs) [] = rs.isEmpty := by
  cases rs with
  | nil => rfl
  | cons a r => rfl
theorem foot_at {bs : List Addr} {ss : List Say} (e : bs.length = ss.length) {i : Nat} {y : V} (h : (bs.map V.ref)[i]? = some y) : ∃ b s, y = V.ref b ∧ bs[i]? = some b ∧ ss[i]? = some s := by
  rw [List.getElem?_map] at h
  cases eb : bs[i]? with
  | none => rw [eb] at h; cases h
  | some b =>
    rw [eb] at h
    have hi : i < ss.length := by rw [← e]; exact (List.getElem?_eq_some_iff.mp eb).1
    exact ⟨b, ss[i], (Option.some.inj h).symm, rfl, List.getElem?_eq_getElem hi⟩
theorem take_snoc {α : Type} {l : List α} {i : Nat} {a : α} (h : l[i]? = some a) : l.take (i + 1) = l.take i ++ [a] := by rw [List.take_add_one, h]; rfl
theorem rows_at {rs : List (List Nat)} {i : Nat} {y : V} (h : (rowsV rs)[i]? = some y) : ∃ t, y = V.str (tx t) ∧ rs[i]? = some t := by
  unfold rowsV at h
  rw [List.getElem?_map] at h
  cases e : rs[i]? with
  | none => rw [e] at h; cases h
  | some t => rw [e] at h; exact ⟨t, (Option.some.inj h).symm, rfl⟩
theorem cutV_map {α : Type} (f : α → V) (ns : List α) (lo hi : Option Int) : cutV (ns.map f) lo hi = (cutL ns lo hi).map f := by
  unfold cutV cutL
  rw [List.length_map, List.map_take, List.map_drop]
end L2

set_option maxHeartbeats 4000000
namespace L2
open PySem PySem.Spec PyProof.Rows Tl
theorem at_int {xs : List Int} (k : Nat) (h : k < xs.length) : atI (xs.map V.int) (k : Int) = some (V.int (xs.getD k 0)) := by
  refine atI_nat ?_
  rw [List.getElem?_map, List.getD_eq_getElem?_getD, List.getElem?_eq_getElem h]
  rfl
def StrOk (n : Nat) (xs : List Int) : Prop := xs.length = n ∧ ∀ x ∈ xs, 0 ≤ x ∧ x < 2147483647
theorem StrOk.get {n k : Nat} {xs : List Int} (h : StrOk n xs) (hk : k < n) : 0 ≤ xs.getD k 0 ∧ xs.getD k 0 < 2147483647 := by
  have hk2 : k < xs.length := by rw [h.1]; exact hk
  rw [List.getD_eq_getElem?_getD, List.getElem?_eq_getElem hk2]
  exact h.2 _ (List.getElem_mem hk2)
theorem StrOk.at {n k : Nat} {xs : List Int} (h : StrOk n xs) (hk : k < n) : atI (xs.map V.int) (k : Int) = some (V.int (xs.getD k 0)) := at_int k (by rw [h.1]; exact hk)
end L2
namespace L2
open PySem PySem.Spec PyProof.Rows Tl
structure Wd where
  lead : Int
  kept : Bool
  say : Say
  foot : List Say
structure WdOk (n : Nat) (d : Wd) : Prop where
  l0 : 0 ≤ d.lead
  l1 : d.lead ≤ 4
  s : SayOk n d.say
  f : ∀ s ∈ d.foot, SayOk n s
  n : d.foot.length ≤ 40
def WdAt (K : PySem.W.Frag) (H : Hp) (a : Addr) (d : Wd) : Prop := ∃ (sa fo : Addr) (bs : List Addr), SqT K H a [.int d.lead, .bl d.kept, .ref sa, .ref fo] ∧ SqT K H sa (sayV d.say) ∧ SqL K H fo (bs.map V.ref) ∧ SaysA K H bs d.foot
theorem WdAt.same {K : PySem.W.Frag} {H H' : Hp} {a : Addr} {d : Wd} (s : Same H H') (h : WdAt K H a d) : WdAt K H' a d := by
  obtain ⟨sa, fo, bs, h1, h2, h3, h4⟩ := h
  exact ⟨sa, fo, bs, s.tup h1, s.tup h2, s.seq h3, h4.same s⟩
def WdsA (K : PySem.W.Frag) (H : Hp) (as : List Addr) (ds : List Wd) : Prop := as.length = ds.length ∧ ∀ (i : Nat) a d, as[i]? = some a → ds[i]? = some d → WdAt K H a d
theorem WdsA.same {K : PySem.W.Frag} {H H' : Hp} {as : List Addr} {ds : List Wd} (s : Same H H') (h : WdsA K H as ds) : WdsA K H' as ds := ⟨h.1, fun i a d e e' => (h.2 i a d e e').same s⟩
theorem WdsA.nil {K : PySem.W.Frag} {H : Hp} : WdsA K H [] [] := ⟨rfl, fun i a x e _ => by simp at e⟩
theorem WdsA.snoc {K : PySem.W.Frag} {H : Hp} {as : List Addr} {ds : List Wd} {a : Addr} {d : Wd} (h : WdsA K H as ds) (hx : WdAt K H a d) : WdsA K H (as ++ [a]) (ds ++ [d]) := by
  refine ⟨by simp [h.1], fun i b y e e' => ?_⟩
  by_cases hi : i < as.length
  · rw [List.getElem?_append_left hi] at e
    rw [List.getElem?_append_left (by rw [← h.1]; exact hi)] at e'
    exact h.2 i b y e e'
  · rw [List.getElem?_append_right (by omega)] at e
    rw [List.getElem?_append_right (by rw [← h.1]; omega)] at e'
    have : i - as.length = 0 := by
      rcases Nat.eq_zero_or_pos (i - as.length) with z | z
      · exact z
      · rw [List.getElem?_eq_none (by simp; omega)] at e; cases e
    rw [this] at e
    rw [← h.1, this] at e'
    cases e
    cases e'
    exact hx
def BkAt (K : PySem.W.Frag) (H : Hp) (b : Addr) (w h f m : Int) (ds : List Wd) : Prop := ∃ (fa wa : Addr) (as : List Addr), SqT K H b [.ref fa, .ref wa] ∧ SqT K H fa (fm w h f m) ∧ SqL K H wa (as.map V.ref) ∧ WdsA K H as ds
theorem BkAt.same {K : PySem.W.Frag} {H H' : Hp} {b : Addr} {w h f m : Int} {ds : List Wd} (s : Same H H') (g : BkAt K H b w h f m ds) : BkAt K H' b w h f m ds := by
  obtain ⟨fa, wa, as, h1, h2, h3, h4⟩ := g
  exact ⟨fa, wa, as, s.tup h1, s.tup h2, s.seq h3, h4.same s⟩
def LwAt (K : PySem.W.Frag) (H : Hp) (a : Addr) (xs : List (Int × Int)) : Prop := ∃ as : List Addr, SqL K H a (as.map V.ref) ∧ PlsA K H as xs
theorem LwAt.same {K : PySem.W.Frag} {H H' : Hp} {a : Addr} {xs : List (Int × Int)} (s : Same H H') (h : LwAt K H a xs) : LwAt K H' a xs := by
  obtain ⟨as, h1, h2⟩ := h
  exact ⟨as, s.seq h1, h2.same s⟩
end L2
namespace L2
open PySem PySem.Spec PyProof.Rows Tl
end L2

set_option maxHeartbeats 4000000
namespace L2
open PySem PySem.Spec PyProof.Rows Tl

section
variable {prog : Program} {w : World} {A : Around} {R : Result → Shared → Prop} {I : Addr} {fp wr : List Addr} {P : Nat → Value → Prop} {St : Nat → Heap → Prop}
end
section
variable {prog : Program} {w : World} {A : Around} {R : Result → Shared → Prop} {I : Addr} {fp wr : List Addr} {P : Nat → Value → Prop} {St : Nat → Heap → Prop}
end
end L2

set_option maxHeartbeats 4000000
namespace L2
open PySem PySem.Spec PyProof.Rows Tl
structure Frm where
  w : Int
  h : Int
  f : Int
  m : Int
structure BkOk (F : Frm) (ds : List Wd) (xs : List (Int × Int)) : Prop where
  fo : FormOk F.w F.h F.f F.m
  len : ds.length = xs.length
  wd : ∀ d ∈ ds, WdOk ds.length d
  po : PlsOk F.h xs
  n : ds.length ≤ 60
def wd0 : Wd := ⟨0, false, .text [], []⟩
abbrev dAt (ds : List Wd) (i : Nat) : Wd := ds.getD i wd0
abbrev xAt (xs : List (Int × Int)) (i : Nat) : Int × Int := xs.getD i (0, 0)
def PlO (K : PySem.W.Frag) (H : Hp) (v : V) : Option (Int × Int) → Prop
  | none => v = .non
  | some x => ∃ q, v = .ref q ∧ SqT K H q (pl x)
theorem PlO.same {K : PySem.W.Frag} {H H' : Hp} {v : V} {o : Option (Int × Int)} (s : Same H H') (h : PlO K H v o) : PlO K H' v o := by
  cases o with
  | none => exact h
  | some x => obtain ⟨q, e, hq⟩ := h; exact ⟨q, e, s.tup hq⟩
theorem BkOk.d {F : Frm} {ds : List Wd} {xs : List (Int × Int)} (B : BkOk F ds xs) {i : Nat} (h : i < ds.length) : ds[i]? = some (dAt ds i) ∧ WdOk xs.length (dAt ds i) := by
  have e : ds[i]? = some ds[i] := List.getElem?_eq_getElem h
  have e2 : dAt ds i = ds[i] := by show ds.getD i wd0 = _; rw [List.getD_eq_getElem?_getD, e]; rfl
  rw [e2]
  exact ⟨e, B.len ▸ B.wd _ (List.getElem_mem h)⟩
theorem BkOk.x {F : Frm} {ds : List Wd} {xs : List (Int × Int)} (B : BkOk F ds xs) {i : Nat} (h : i < ds.length) : RowIn F.h (xAt xs i) ∧ (xAt xs i).1 < 10 ^ 60 := B.po.get (B.len ▸ h)
theorem WdsA.get {K : PySem.W.Frag} {H : Hp} {as : List Addr} {ds : List Wd} (h : WdsA K H as ds) {k : Nat} (hk : k < ds.length) : ∃ a, atI (as.map V.ref) (k : Int) = some (V.ref a) ∧ WdAt K H a (dAt ds k) := by
  have hk2 : k < as.length := by rw [h.1]; exact hk
  refine ⟨as[k], atI_nat (by rw [List.getElem?_map, List.getElem?_eq_getElem hk2]; rfl), ?_⟩
  have e : ds[k]? = some (dAt ds k) := by
    show _ = some (ds.getD k wd0)
    rw [List.getD_eq_getElem?_getD, List.getElem?_eq_getElem hk]
    rfl
  exact h.2 k _ _ (List.getElem?_eq_getElem hk2) e
theorem WdsA.drop {K : PySem.W.Frag} {H : Hp} {as : List Addr} {ds : List Wd} (h : WdsA K H as ds) (n : Nat) : WdsA K H (as.drop n) (ds.drop n) := by
  refine ⟨by simp [h.1], fun i b y e e' => ?_⟩
  rw [List.getElem?_drop] at e e'
  exact h.2 _ b y e e'
theorem WdsA.take {K : PySem.W.Frag} {H : Hp} {as : List Addr} {ds : List Wd} (h : WdsA K H as ds) (n : Nat) : WdsA K H (as.take n) (ds.take n) := by
  refine ⟨by simp [h.1], fun i b y e e' => ?_⟩
  rw [List.getElem?_take] at e e'
  split at e
  · rename_i c
    rw [if_pos c] at e'
    exact h.2 i b y e e'
  · cases e
theorem LwAt.get {K : PySem.W.Frag} {H : Hp} {a : Addr} {xs : List (Int × Int)} {as : List Addr} (h : PlsA K H as xs) {k : Nat} (hk : k < xs.length) : ∃ b, atI (as.map V.ref) (k : Int) = some (V.ref b) ∧ SqT K H b (pl (xAt xs k)) := h.get hk
def PlOs (K : PySem.W.Frag) (H : Hp) (vs : List V) (os : List (Option (Int × Int))) : Prop := vs.length = os.length ∧ ∀ (k : Nat) v o, vs[k]? = some v → os[k]? = some o → PlO K H v o
theorem PlOs.same {K : PySem.W.Frag} {H H' : Hp} {vs : List V} {os : List (Option (Int × Int))} (s : Same H H') (h : PlOs K H vs os) : PlOs K H' vs os := ⟨h.1, fun k v o e e' => (h.2 k v o e e').same s⟩
theorem PlO.lst {K : PySem.W.Frag} {H : Hp} {l : Addr} {ys zs : List V} {v : V} {o : Option (Int × Int)} (e : H l = some (.lst ys)) (h : PlO K H v o) : PlO K (upd H l (.lst zs)) v o := by
  cases o with
  | none => exact h
  | some x => obtain ⟨q, e1, hq⟩ := h; exact ⟨q, e1, SqT.lst e hq⟩
theorem PlOs.lst {K : PySem.W.Frag} {H : Hp} {l : Addr} {ys zs : List V} {vs : List V} {os : List (Option (Int × Int))} (e : H l = some (.lst ys)) (h : PlOs K H vs os) : PlOs K (upd H l (.lst zs)) vs os := ⟨h.1, fun k v o e1 e' => (h.2 k v o e1 e').lst e⟩
theorem PlOs.nil {K : PySem.W.Frag} {H : Hp} : PlOs K H [] [] := ⟨rfl, fun k v o e _ => by simp at e⟩
theorem PlOs.snoc {K : PySem.W.Frag} {H : Hp} {vs : List V} {os : List (Option (Int × Int))} {v : V} {o : Option (Int × Int)} (h : PlOs K H vs os) (hx : PlO K H v o) : PlOs K H (vs ++ [v]) (os ++ [o]) := by
  refine ⟨by simp [h.1], fun i b y e e' => ?_⟩
  by_cases hi : i < vs.length
  · rw [List.getElem?_append_left hi] at e
    rw [List.getElem?_append_left (by rw [← h.1]; exact hi)] at e'
    exact h.2 i b y e e'
  · rw [List.getElem?_append_right (by omega)] at e
    rw [List.getElem?_append_right (by rw [← h.1]; omega)] at e'
    have : i - vs.length = 0 := by
      rcases Nat.eq_zero_or_pos (i - vs.length) with z | z
      · exact z
      · rw [List.getElem?_eq_none (by simp; omega)] at e; cases e
    rw [this] at e
    rw [← h.1, this] at e'
    cases e
    cases e'
    exact hx
theorem cut_fr {α : Type} (xs : List α) (a : Nat) : cutL xs (some (a : Int)) none = xs.drop a := by
  unfold cutL HT.sIx
  have h2 : ¬ ((a : Int) < 0) := by omega
  simp only [if_neg h2, Int.toNat_natCast]
  rw [List.take_of_length_le (by simp)]
  by_cases g : a ≤ xs.length
  · rw [Nat.min_eq_left g]
  · rw [Nat.min_eq_right (by omega), List.drop_of_length_le (by omega), List.drop_of_length_le (by omega)]
theorem PlsA.set {K : PySem.W.Frag} {H : Hp} {as : List Addr} {xs : List (Int × Int)} {a : Addr} {x : Int × Int} (h : PlsA K H as xs) (k : Nat) (hx : SqT K H a (pl x)) : PlsA K H (as.set k a) (xs.set k x) := by
  refine ⟨by simp [h.1], fun i b y e e' => ?_⟩
  rw [List.getElem?_set] at e e'
  by_cases c : k = i
  · rw [if_pos c] at e e'
    split at e
    · split at e'
      · cases e; cases e'; exact hx
      · cases e'
    · cases e
  · rw [if_neg c] at e e'
    exact h.2 i b y e e'
theorem PlsOk.set {h : Int} {xs : List (Int × Int)} {x : Int × Int} (o : PlsOk h xs) (k : Nat) (i : RowIn h x) (b : x.1 < 10 ^ 60) : PlsOk h (xs.set k x) := by
  intro y hy
  rcases List.mem_or_eq_of_mem_set hy with hy | rfl
  · exact o y hy
  · exact ⟨i, b⟩
end L2
namespace L2
open PySem PySem.Spec PyProof.Rows Tl
def Cp (K : PySem.W.Frag) (H : Hp) (a b : Addr) : Prop := ∃ (l : Int) (k : Bool) (sa fo fo' : Addr) (bs : List Addr), SqT K H a [.int l, .bl k, .ref sa, .ref fo] ∧ SqT K H b [.int l, .bl k, .ref sa, .ref fo'] ∧ SqL K H fo (bs.map V.ref) ∧ SqL K H fo' (bs.map V.ref)
theorem Cp.same {K : PySem.W.Frag} {H H' : Hp} {a b : Addr} (s : Same H H') (h : Cp K H a b) : Cp K H' a b := by
  obtain ⟨l, k, sa, fo, fo', bs, h1, h2, h3, h4⟩ := h
  exact ⟨l, k, sa, fo, fo', bs, s.tup h1, s.tup h2, s.seq h3, s.seq h4⟩
def CpA (K : PySem.W.Frag) (H : Hp) (as bs : List Addr) : Prop := as.length = bs.length ∧ ∀ (i : Nat) a b, as[i]? = some a → bs[i]? = some b → Cp K H a b
theorem CpA.same {K : PySem.W.Frag} {H H' : Hp} {as bs : List Addr} (s : Same H H') (h : CpA K H as bs) : CpA K H' as bs := ⟨h.1, fun i a b e e' => (h.2 i a b e e').same s⟩
theorem CpA.snoc {K : PySem.W.Frag} {H : Hp} {as bs : List Addr} {a b : Addr} (h : CpA K H as bs) (hx : Cp K H a b) : CpA K H (as ++ [a]) (bs ++ [b]) := by
  refine ⟨by simp [h.1], fun i c y e e' => ?_⟩
  by_cases hi : i < as.length
  · rw [List.getElem?_append_left hi] at e
    rw [List.getElem?_append_left (by rw [← h.1]; exact hi)] at e'
    exact h.2 i c y e e'
  · rw [List.getElem?_append_right (by omega)] at e
    rw [List.getElem?_append_right (by rw [← h.1]; omega)] at e'
    have : i - as.length = 0 := by
      rcases Nat.eq_zero_or_pos (i - as.length) with z | z
      · exact z
      · rw [List.getElem?_eq_none (by simp; omega)] at e; cases e
    rw [this] at e
    rw [← h.1, this] at e'
    cases e
    cases e'
    exact hx
end L2
namespace L2
open PySem PySem.Spec PyProof.Rows Tl
end L2
namespace L2
open PySem PySem.Spec PyProof.Rows Tl
end L2
namespace L2
open PySem PySem.Spec PyProof.Rows Tl
def rLen (K : PySem.W.Frag) : List V → Hp → VK → Prop := fun xs H Q => ∃ p ys, xs = [.ref p] ∧ (SqL K H p ys ∨ SqT K H p ys) ∧ Q (.int (ys.length : Nat)) H
end L2

namespace L2
open PySem PySem.Spec PyProof.Rows Tl
section
variable (F : Frm) (ds : List Wd) (xs : List (Int × Int)) (k : Str) (i : Nat) (j : Int)
end
end L2
namespace L2
open PySem PySem.Spec PyProof.Rows Tl
end L2
namespace L2
open PySem PySem.Spec PyProof.Rows Tl
end L2

set_option maxHeartbeats 4000000
namespace L2
open PySem PySem.Spec PyProof.Rows Tl
def Itz (K : PySem.W.Frag) (a b : Addr) : It :=
  ⟨fun i H => ∃ xs ys x y, SqL K H a xs ∧ SqL K H b ys ∧ xs[i]? = some x ∧ ys[i]? = some y, fun i H x H' => ∃ p, H p = none ∧ x = .ref p ∧ ∀ xs ys u v, SqL K H a xs → SqL K H b ys → xs[i]? = some u → ys[i]? = some v → H' = upd H p (.tup [u, v]), fun i H => ∃ xs ys, SqL K H a xs ∧ SqL K H b ys ∧ (xs.length ≤ i ∨ ys.length ≤ i)⟩
theorem turn_zip {P : Program} {w : World} {K : PySem.W.Frag} {elts : List Expr} {k1} {tp : Pos} (a b z TI TO i1 i2 : Addr) (D : ZipApart z TI TO i1 i2 a b) : Turn P w K (.Tuple elts k1 tp) (Itz K a b) [z, TI, TO, i1, i2] z (fun i h => IsZip h z TI TO .none ∧ IsPair h TI (.ref i1) (.ref i2) ∧ (∃ u v, IsPair h TO u v) ∧ h.IsListIter i1 a i ∧ h.IsListIter i2 b i) where
  mem := by simp
  obj := fun i h st c hb => by
    have hb' : c = z ∨ c = TI ∨ c = TO ∨ c = i1 ∨ c = i2 := by simpa using hb
    obtain ⟨s1, s2, ⟨u, v, s3⟩, s4, s5⟩ := st
    rcases hb' with rfl | rfl | rfl | rfl | rfl
    · exact ⟨_, s1, fun v z => by cases z⟩
    · exact ⟨_, s2, fun v z => by cases z⟩
    · exact ⟨_, s3, fun v z => by cases z⟩
    · obtain ⟨o, h1, _, d⟩ := s4
      exact ⟨o, h1, fun v z => by rw [d] at z; cases z⟩
    · obtain ⟨o, h1, _, d⟩ := s5
      exact ⟨o, h1, fun v z => by rw [d] at z; cases z⟩
  keep := fun i h h' st k => by
    obtain ⟨s1, s2, ⟨u, v, s3⟩, s4, s5⟩ := st
    exact ⟨k z (by simp) _ s1, k TI (by simp) _ s2, ⟨u, v, k TO (by simp) _ s3⟩, s4.at fun o h1 => k i1 (by simp) o h1, s5.at fun o h1 => k i2 (by simp) o h1⟩
  item := by
    intro X hP hw hK hc i pins s σ H E I hf st hg
    subst hP hw hK
    obtain ⟨xs, ys, x, y, hqx, hqy, hx, hy⟩ := hg
    obtain ⟨its, rv, p, hz⟩ := I.list hqx
    obtain ⟨its2, rv2, p2, hz2⟩ := I.list hqy
    obtain ⟨u, hu, ru⟩ := rv.get hx
    obtain ⟨v, hv, rv'⟩ := rv2.get hy
    obtain ⟨st1, st2, ⟨o1, o2, st3⟩, st4, st5⟩ := st
    have fz := fun c (hm : c ∈ [z, TI, TO, i1, i2]) => hf c hm
    refine wpAny_pyNext_zip_item D st1 st2 st3 st4 st5 p.isList p2.isList (x := u) (y := v) (by simpa using hu) (by simpa using hv) fun h' hz1 hTO1 hi1 hi2 hpair hsz1 hk => ?_
    have kk : ∀ c o, c ∉ [z, TI, TO, i1, i2] → s.heap.get? c = some o → h'.get? c = some o := fun c o hb q => hk c o (fun e => hb (by simp [e])) (fun e => hb (by simp [e])) (fun e => hb (by simp [e])) (fun e => hb (by simp [e])) q
    have kTI := hk TI _ D.TIz D.TITO D.TIi1 D.TIi2 st2
    have kk2 : ∀ c o, c ∉ [z, TO, i1, i2] → s.heap.get? c = some o → h'.get? c = some o := fun c o hb q => hk c o (fun e => hb (by simp [e])) (fun e => hb (by simp [e])) (fun e => hb (by simp [e])) (fun e => hb (by simp [e])) q
    have nit : ∀ c v, H c = some v → c ∉ [z, TI, TO, i1, i2] := fun c v q m => by
      have := (hf c m).1
      rw [this] at q
      cases q
    have I1 : Inv X pins σ H { s with heap := h', toks := s.toks } := by
      refine I.step (g' := s.gens) (d' := s.drawn) (ch := [z, TI, TO, i1, i2]) (fun c hb => ?_) (fun c o _ _ hb q _ => kk c o hb q) (fun c o _ _ hb q _ => ⟨o.slots, kk c o hb q⟩) (fun _ _ _ _ n => n)
        (fun c o hb q => ⟨o, kk c o hb q⟩) (fun _ _ q => q) (fun _ _ _ q => q) (fun c ps q => ⟨#[], by rw [q]; simp⟩) (fun m hm => ?_) (fun c v q => ?_) I.bare
      · obtain ⟨f0, f1, f2, f3, f4, f5⟩ := hf c hb
        exact ⟨f3, f1, f4, f5⟩
      · obtain ⟨o, es, ep, ho, r⟩ := hm
        exact ⟨o, es, ep, kk _ o (fun m => (hf _ m).2.1 rfl) ho, r⟩
      · refine (I.hok c v q).stay (fun d o hd r => kk d o ?_ r) (fun _ r => r) fun _ _ r => r
        rcases hd with rfl | hd
        · exact nit _ _ q
        · exact nit _ _ hd
    have hTn : H s.heap.objs.size = none := I.fresh
    have zlt : z < s.heap.objs.size := Heap.lt_size st1
    have I2 : Inv X pins σ (upd H s.heap.objs.size (.tup [x, y])) { s with heap := h', toks := s.toks } := by
      refine I1.track hTn I.sz (Nat.ne_of_gt I.lt) (fun y c q => ?_) (fun p hp => ?_) ⟨by show 2 ≤ sizeLine; decide, [u, v], .cons ru (.cons rv' .nil), ⟨_, hpair, rfl, _, rfl⟩⟩
      · obtain ⟨v, q2⟩ := I.cell y c q
        exact Nat.ne_of_lt q2.lt
      · exact Nat.ne_of_lt (Heap.lt_size (I.pin p hp).1)
    refine ⟨_, rfl, wpAny_letOwnedTupleGo_zip (s := { s with heap := h', toks := s.toks }) hz1 fun h'' hz2' hs'' => ?_⟩
    obtain ⟨f0, f1, f2, f3, f4, f5⟩ := hf z (by simp)
    have I3 : Inv X pins σ (upd H s.heap.objs.size (.tup [x, y])) { s with heap := h'', toks := s.toks } := Inv.turned (s := { s with heap := h', toks := s.toks }) (h' := h'') (t' := s.toks) (it := z) I2 (fun c o hb q => (hs''.2 c hb).trans q) (by rw [upd_ne (Nat.ne_of_lt zlt)]; exact f0) f1 f3 f4 f5
    refine ⟨.ref s.heap.objs.size, _, I3, rfl, ⟨_, hTn, rfl, fun xs' ys' u' v' hx' hy' ex ey => ?_⟩, ⟨hz2', (hs''.2 TI D.TIz).trans kTI, ⟨u, v, (hs''.2 TO D.TOz).trans hTO1⟩, hi1.at fun o h1 => (hs''.2 i1 D.i1z).trans h1, hi2.at fun o h1 => (hs''.2 i2 D.i2z).trans h1⟩, fun c hb => ?_⟩
    · rw [I.list_inj hx' hqx, hx] at ex
      rw [I.list_inj hy' hqy, hy] at ey
      cases ex
      cases ey
      rfl
    · have clt : c < s.heap.objs.size := by
        have z' : c = z ∨ c = TI ∨ c = TO ∨ c = i1 ∨ c = i2 := by simpa using hb
        rcases z' with rfl | rfl | rfl | rfl | rfl
        · exact zlt
        · exact Heap.lt_size st2
        · exact Heap.lt_size st3
        · obtain ⟨o, h1, _⟩ := st4; exact Heap.lt_size h1
        · obtain ⟨o, h1, _⟩ := st5; exact Heap.lt_size h1
      rw [upd_ne (Nat.ne_of_lt clt)]
      exact (hf c hb).1
  done := by
    intro X hP hw hK hc i pins s σ H E I hf st hg
    subst hP hw hK
    obtain ⟨xs, ys, hqx, hqy, hlen⟩ := hg
    obtain ⟨its, rv, p, hz⟩ := I.list hqx
    obtain ⟨its2, rv2, p2, hz2⟩ := I.list hqy
    obtain ⟨st1, st2, ⟨o1, o2, st3⟩, st4, st5⟩ := st
    have hl := rv.length
    have hl2 := rv2.length
    have hend : its.toArray[i]? = none ∨ its2.toArray[i]? = none := by
      rcases hlen with h | h
      · exact .inl (Array.getElem?_eq_none (by rw [List.size_toArray]; omega))
      · exact .inr (Array.getElem?_eq_none (by rw [List.size_toArray]; omega))
    refine wpAny_pyNext_zip_end (I.ok.hd hc) D st1 st2 st3 st4 st5 p.isList p2.isList hend fun h' hk => ⟨rfl, ?_⟩
    have kk : ∀ c o, c ∉ [z, TI, TO, i1, i2] → s.heap.get? c = some o → h'.get? c = some o := fun c o hb q => hk c o (fun e => hb (by simp [e])) (fun e => hb (by simp [e])) (fun e => hb (by simp [e])) (fun e => hb (by simp [e])) q
    have nit : ∀ c v, H c = some v → c ∉ [z, TI, TO, i1, i2] := fun c v q m => by
      have := (hf c m).1
      rw [this] at q
      cases q
    refine I.step (t' := s.toks) (g' := s.gens) (d' := s.drawn) (ch := [z, TI, TO, i1, i2]) (fun c hb => ?_) (fun c o _ _ hb q _ => kk c o hb q) (fun c o _ _ hb q _ => ⟨o.slots, kk c o hb q⟩) (fun _ _ _ _ n => n)
      (fun c o hb q => ⟨o, kk c o hb q⟩) (fun _ _ q => q) (fun _ _ _ q => q) (fun c ps q => ⟨#[], by rw [q]; simp⟩) (fun m hm => ?_) (fun c v q => ?_) I.bare
    · obtain ⟨f0, f1, f2, f3, f4, f5⟩ := hf c hb
      exact ⟨f3, f1, f4, f5⟩
    · obtain ⟨o, es, ep, ho, r⟩ := hm
      exact ⟨o, es, ep, kk _ o (fun m => (hf _ m).2.1 rfl) ho, r⟩
    · refine (I.hok c v q).stay (fun d o hd r => kk d o ?_ r) (fun _ r => r) fun _ _ r => r
      rcases hd with rfl | hd
      · exact nit _ _ q
      · exact nit _ _ hd
  self := fun _ _ _ _ _ st h => wpAny_pyIter_zip st.1 h
section
variable {X : Cx} {elts : List Expr} {k1 : Nat} {tp : Pos}
def iZip (K : PySem.W.Frag) (tl tm : TE) : TI := fun σ H R => tl σ H fun x H1 => tm σ H1 fun y H2 => ∃ a b, x = .ref a ∧ y = .ref b ∧ (∃ xs, SqL K H2 a xs) ∧ (∃ ys, SqL K H2 b ys) ∧ R (Itz K a b) H2
theorem pi_zip {l m : Expr} {k1} {tl tm : TE} {p pos : Pos} (hg : Gl X "zip") (hm : X.mg "zip" = none) (hl : PE X l tl) (hl2 : PE X m tm) (hs : starEach [l, m] X.env = (false, eval l X.env) :: starEach [m] X.env := by rfl) (hs1 : starEach [m] X.env = (false, eval m X.env) :: starEach [] X.env := by rfl) : PI X (.Tuple elts k1 tp) (.Call (.Name "zip" p) [l, m] [] pos) (iZip X.K tl tm) := by
  intro pins s σ H R I h
  have ha : PA X [l, m] (tCons tl (tCons tm tNil)) := pa_cons hl (pa_cons hl2 pa_nil hs1) hs
  refine Call_ (ld_blt I hg hm (by decide +kernel : bootBuiltins "zip" = some (.type "zip")) (PyProof.Rows.callWith_type1 (thn (ha pos pins s σ H (fun vs H1 => match vs with | [x, y] => ∃ a b, x = .ref a ∧ y = .ref b ∧ (∃ xs, SqL X.K H1 a xs) ∧ (∃ ys, SqL X.K H1 b ys) ∧ R (Itz X.K a b) H1 | _ => False) I h) fun us s1 ⟨vs, H1, I1, r1, q1⟩ => ?_) hs (by rw [hs1]; rfl)))
  match vs, r1, q1 with
  | [x, y], r1, q1 =>
  obtain ⟨a, b, rfl, rfl, ⟨xs, hqx⟩, ⟨ys, hqy⟩, q⟩ := q1
  obtain ⟨u, v, rfl, ru, rv0⟩ := vals2 r1
  cases ru
  cases rv0
  obtain ⟨its, rv, p, hz⟩ := I1.list hqx
  obtain ⟨its2, rv2, p2, hz2⟩ := I1.list hqy
  have alt : a < s1.heap.objs.size := by obtain ⟨_, _, e, _⟩ := p; exact Heap.lt_size e
  have blt : b < s1.heap.objs.size := by obtain ⟨_, _, e, _⟩ := p2; exact Heap.lt_size e
  refine call_zip_2 p.isList p2.isList fun h' g1 g2 g3 g4 g5 hz' hk => ?_
  refine wpAny_pyIter_zip g1 ?_
  have ne : ∀ {m n : Nat} {N : Nat}, m ≠ n → N + m ≠ N + n := fun h e => h (Nat.add_left_cancel e)
  have nl : ∀ {c : Addr} (k : Nat), c < s1.heap.objs.size → c ≠ s1.heap.objs.size + k := fun k h e => absurd h (by rw [e]; exact Nat.not_lt.mpr (Nat.le_add_right _ _))
  have D : ZipApart (s1.heap.objs.size + 4) (s1.heap.objs.size + 2) (s1.heap.objs.size + 3) s1.heap.objs.size (s1.heap.objs.size + 1) a b :=
    ⟨ne (by decide), ne (by decide), ne (m := 0) (by decide), ne (by decide), ne (by decide), ne (n := 0) (by decide), ne (by decide), ne (n := 0) (by decide), ne (by decide), ne (m := 0) (by decide), nl 4 alt, nl 3 alt, nl 0 alt, nl 1 alt, nl 4 blt, nl 3 blt, nl 0 blt, nl 1 blt⟩
  refine ⟨s1.heap.objs.size + 4, [s1.heap.objs.size + 4, s1.heap.objs.size + 2, s1.heap.objs.size + 3, s1.heap.objs.size, s1.heap.objs.size + 1], _, _, H1, rfl, I1.kept (t' := s1.toks) hk, turn_zip a b _ _ _ _ _ D, ⟨g1, g2, ⟨_, _, g3⟩, g4, g5⟩, fun c hb => ?_, q⟩
  have z' : c = s1.heap.objs.size + 4 ∨ c = s1.heap.objs.size + 2 ∨ c = s1.heap.objs.size + 3 ∨ c = s1.heap.objs.size ∨ c = s1.heap.objs.size + 1 := by simpa using hb
  rcases z' with rfl | rfl | rfl | rfl | rfl
  · exact I1.fpOk (Nat.le_add_right _ _) (I1.hok.fresh (Nat.le_add_right _ _))
  · exact I1.fpOk (Nat.le_add_right _ _) (I1.hok.fresh (Nat.le_add_right _ _))
  · exact I1.fpOk (Nat.le_add_right _ _) (I1.hok.fresh (Nat.le_add_right _ _))
  · exact I1.fpOk (Nat.le_refl _) (I1.hok.fresh (Nat.le_refl _))
  · exact I1.fpOk (Nat.le_succ _) (I1.hok.fresh (Nat.le_succ _))
end
theorem for_zip {K : PySem.W.Frag} {a b : Addr} {xs ys : List V} {g : TG} {tb : TS} {D : Ends} {σ : St} {H : Hp} (Pv : Nat → St → Hp → Prop) (el : xs.length = ys.length) (h0 : Pv 0 σ H) (hl : ∀ i σ H, i ≤ xs.length → Pv i σ H → SqL K H a xs ∧ SqL K H b ys)
    (hs : ∀ i x y σ H p, xs[i]? = some x → ys[i]? = some y → Pv i σ H → H p = none → g (.ref p) σ (upd H p (.tup [x, y])) fun σ2 H2 => tb { D with nx := Pv (i + 1), ct := Pv (i + 1), bk := D.nx } σ2 H2) (hd : ∀ σ H, Pv xs.length σ H → D.nx σ H) :
    ∃ W : Nat → Nat → St → Hp → Prop, (∃ m, W 0 m σ H) ∧ ∀ i m σ H, W i m σ H →
      ((Itz K a b).stop i H ∧ D.nx σ H) ∨ ((Itz K a b).go i H ∧ ∃ N : St → Hp → Prop, (∀ σ' H', N σ' H' → ∃ m', m' < m ∧ W (i + 1) m' σ' H') ∧ ∀ x H', (Itz K a b).yld i H x H' → g x σ H' fun σ2 H2 => tb { D with nx := N, ct := N, bk := D.nx } σ2 H2) := by
  refine ⟨fun i m σ H => m = xs.length - i ∧ i ≤ xs.length ∧ Pv i σ H, ⟨xs.length, by simp, Nat.zero_le _, h0⟩, ?_⟩
  rintro i m σ H ⟨rfl, hi, p⟩
  obtain ⟨q1, q2⟩ := hl i σ H hi p
  by_cases hlt : i < xs.length
  · have hlt2 : i < ys.length := by omega
    have e1 : xs[i]? = some xs[i] := List.getElem?_eq_getElem hlt
    have e2 : ys[i]? = some ys[i] := List.getElem?_eq_getElem hlt2
    refine .inr ⟨⟨xs, ys, xs[i], ys[i], q1, q2, e1, e2⟩, Pv (i + 1), fun σ' H' p' => ⟨xs.length - (i + 1), by omega, rfl, hlt, p'⟩, fun x H' y => ?_⟩
    obtain ⟨t, ht, e, y⟩ := y
    subst e
    have e3 := y xs ys xs[i] ys[i] q1 q2 e1 e2
    subst e3
    exact hs i xs[i] ys[i] σ H t e1 e2 p ht
  · have e : i = xs.length := by omega
    subst e
    exact .inl ⟨⟨xs, ys, q1, q2, .inl (Nat.le_refl _)⟩, hd σ H p⟩
end L2

set_option maxHeartbeats 4000000
namespace L2
open PySem PySem.Spec PyProof.Rows Tl
structure Grp (w : Int) (ts : List (List Nat)) (gs : List (List (List Nat))) : Prop where
  all : gs.flatten = ts
  rows : fillW w ts = gs.map (joinL [32])
  ne : ∀ g ∈ gs, g ≠ []
  fit : ∀ g ∈ gs, (∃ t, g = [t]) ∨ ((joinL [32] g).length : Int) ≤ w
  next : ∀ (i : Nat) g g', gs[i]? = some g → gs[i + 1]? = some g' → w < ((joinL [32] g).length : Int) + 1 + ((g'.headD []).length : Int)
theorem join_snoc (t : List Nat) : ∀ (g : List (List Nat)), g ≠ [] → joinL [32] (g ++ [t]) = joinL [32] g ++ 32 :: t
  | [], h => absurd rfl h
  | [x], _ => by show x ++ [32] ++ t = x ++ 32 :: t; simp
  | x :: y :: r, _ => by
    have ih := join_snoc t (y :: r) (by simp)
    show x ++ [32] ++ joinL [32] ((y :: r) ++ [t]) = x ++ [32] ++ joinL [32] (y :: r) ++ 32 :: t
    rw [ih]
    simp only [List.append_assoc]
theorem head_snoc {g : List (List Nat)} (t : List Nat) (h : g ≠ []) : (g ++ [t]).headD [] = g.headD [] := by
  cases g with
  | nil => exact absurd rfl h
  | cons a r => rfl
theorem next_snoc {w : Int} {gs : List (List (List Nat))} {g : List (List Nat)} (h : ∀ (i : Nat) a b, (gs ++ [g])[i]? = some a → (gs ++ [g])[i + 1]? = some b → w < ((joinL [32] a).length : Int) + 1 + ((b.headD []).length : Int)) (g2 : List (List Nat)) (e : g2.headD [] = g.headD []) :
    ∀ (i : Nat) a b, (gs ++ [g2])[i]? = some a → (gs ++ [g2])[i + 1]? = some b → w < ((joinL [32] a).length : Int) + 1 + ((b.headD []).length : Int) := by
  intro i a b ea eb
  by_cases c : i + 1 < gs.length
  · rw [List.getElem?_append_left (by omega)] at ea
    rw [List.getElem?_append_left c] at eb
    exact h i a b (by rw [List.getElem?_append_left (by omega)]; exact ea) (by rw [List.getElem?_append_left c]; exact eb)
  · have hlt := (List.getElem?_eq_some_iff.mp eb).1
    rw [List.length_append, List.length_singleton] at hlt
    have ei : i + 1 = gs.length := by omega
    rw [List.getElem?_append_right (by omega), ei, Nat.sub_self] at eb
    cases eb
    rw [List.getElem?_append_left (by omega)] at ea
    have := h i a g (by rw [List.getElem?_append_left (by omega)]; exact ea) (by rw [List.getElem?_append_right (by omega), ei, Nat.sub_self]; rfl)
    rw [e]
    exact this
theorem grp_ex (w : Int) (ts : List (List Nat)) : ∃ gs, Grp w ts gs := by
  refine snoc_ind (P := fun ts => ∃ gs, Grp w ts gs) ?_ ?_ ts
  · exact ⟨[], rfl, rfl, fun g h => by simp at h, fun g h => by simp at h, fun i g g' h _ => by simp at h⟩
  · rintro l t ⟨gs, G⟩
    rcases list_snoc gs with e | ⟨gs0, g, e⟩
    · subst e
      have hr := G.rows
      refine ⟨[[t]], ?_, ?_, ?_, ?_, ?_⟩
      · have := G.all
        rw [← this]
        rfl
      · rw [fillW_snoc, hr]
        rfl
      · intro g hg
        rw [List.mem_singleton.mp hg]
        simp
      · intro g hg
        exact .inl ⟨t, List.mem_singleton.mp hg⟩
      · intro i g g' h1 h2
        have := (List.getElem?_eq_some_iff.mp h2).1
        simp at this
    · subst e
      have hr := G.rows
      have gne := G.ne g (by simp)
      rw [List.map_append, List.map_singleton] at hr
      by_cases c : ((joinL [32] g).length : Int) + 1 + t.length ≤ w
      · refine ⟨gs0 ++ [g ++ [t]], ?_, ?_, ?_, ?_, ?_⟩
        · rw [← G.all]
          simp
        · rw [fillW_snoc, hr, fillStep_snoc, if_pos c, List.map_append, List.map_singleton, join_snoc t g gne]
        · intro x hx
          rcases List.mem_append.mp hx with hx | hx
          · exact G.ne x (List.mem_append_left _ hx)
          · rw [List.mem_singleton.mp hx]
            simp
        · intro x hx
          rcases List.mem_append.mp hx with hx | hx
          · exact G.fit x (List.mem_append_left _ hx)
          · rw [List.mem_singleton.mp hx, join_snoc t g gne]
            refine .inr ?_
            rw [List.length_append, List.length_cons]
            omega
        · exact next_snoc G.next _ (head_snoc t gne)
      · refine ⟨gs0 ++ [g] ++ [[t]], ?_, ?_, ?_, ?_, ?_⟩
        · rw [← G.all]
          simp
        · rw [fillW_snoc, hr, fillStep_snoc, if_neg c]
          simp only [List.map_append, List.map_cons, List.map_nil]
          rfl
        · intro x hx
          rcases List.mem_append.mp hx with hx | hx
          · exact G.ne x hx
          · rw [List.mem_singleton.mp hx]
            simp
        · intro x hx
          rcases List.mem_append.mp hx with hx | hx
          · exact G.fit x hx
          · exact .inl ⟨t, List.mem_singleton.mp hx⟩
        · intro i a b ea eb
          by_cases c2 : i + 1 < (gs0 ++ [g]).length
          · rw [List.getElem?_append_left (by omega)] at ea
            rw [List.getElem?_append_left c2] at eb
            exact G.next i a b ea eb
          · have hlt := (List.getElem?_eq_some_iff.mp eb).1
            rw [List.length_append, List.length_singleton] at hlt
            have ei : i + 1 = (gs0 ++ [g]).length := by omega
            rw [List.getElem?_append_right (by omega), ei, Nat.sub_self] at eb
            cases eb
            rw [List.getElem?_append_left (by omega)] at ea
            have ei2 : i = gs0.length := by
              rw [List.length_append, List.length_singleton] at ei
              omega
            rw [ei2, List.getElem?_append_right (Nat.le_refl _), Nat.sub_self] at ea
            cases ea
            show w < ((joinL [32] g).length : Int) + 1 + (t.length : Int)
            omega
theorem cut_last {α : Type} (l : List α) : cutL l none (some (-1)) = l.dropLast := by
  unfold cutL HT.sIx
  rw [List.dropLast_eq_take]
  simp only [List.drop_zero, Nat.sub_zero]
  congr 1
  simp
  omega
theorem cut_to {α : Type} (xs : List α) (b : Nat) : cutL xs none (some (b : Int)) = xs.take b := by
  unfold cutL HT.sIx
  have h2 : ¬ ((b : Int) < 0) := by omega
  simp only [if_neg h2, Int.toNat_natCast, Nat.sub_zero, List.drop_zero]
  by_cases g : b ≤ xs.length
  · rw [Nat.min_eq_left g]
  · rw [Nat.min_eq_right (by omega), List.take_of_length_le (by omega), List.take_of_length_le (by omega)]
theorem said_free {w h f m : Int} {xs : List (Int × Int)} {s : Say} (so : SayOk xs.length s) : 32 ∉ saidL h f xs s := by
  cases s with
  | text l => exact fun hm => by have := (so.2.2 32 hm).1; omega
  | page k => exact fun hm => by have := (figs_in _ 32 hm).1; omega
  | row k => exact fun hm => by have := (figs_in _ 32 hm).1; omega
end L2

namespace K25
open PySem PySem.Spec L2 Tl

def top (i : Nat) : Stmt := PySem.Challenge.pw_trueleaf_k25_foot_rows.main.body.getD i (.Pass ⟨0, 0, 0, 0⟩)
abbrev s_l_cell_at : Stmt := top 6
abbrev s_l_filled : Stmt := top 14
abbrev s_l_first : Stmt := top 8
abbrev s_l_mixed : Stmt := top 7
abbrev s_l_form : Stmt := top 9
abbrev s_l_place : Stmt := top 10
abbrev s_l_said_by : Stmt := top 13
abbrev s_l_signs : Stmt := top 11
abbrev s_l_saying : Stmt := top 12
abbrev s_figures_of : Stmt := top 1
abbrev s_said : Stmt := top 3
abbrev s_foot_rows : Stmt := top 4
abbrev s_law : Stmt := top 15
structure Adr where
  f_l_cell_at : Addr
  fd_l_cell_at : FuncData
  f_l_filled : Addr
  fd_l_filled : FuncData
  f_l_first : Addr
  fd_l_first : FuncData
  f_l_mixed : Addr
  fd_l_mixed : FuncData
  f_l_form : Addr
  fd_l_form : FuncData
  f_l_place : Addr
  fd_l_place : FuncData
  f_l_said_by : Addr
  fd_l_said_by : FuncData
  f_l_signs : Addr
  fd_l_signs : FuncData
  f_l_saying : Addr
  fd_l_saying : FuncData
  f_figures_of : Addr
  fd_figures_of : FuncData
  f_said : Addr
  fd_said : FuncData
  f_foot_rows : Addr
  fd_foot_rows : FuncData
  f_law : Addr
  fd_law : FuncData
structure Txt (P : Program) (w : World) (K : PySem.W.Frag) (mg : Str → Option Value) (a : Adr) : Prop where
  d_l_cell_at : DefOk K mg "_law_cell_at" s_l_cell_at ["script", "k"] a.f_l_cell_at a.fd_l_cell_at
  d_l_filled : DefOk K mg "_law_filled" s_l_filled ["found", "due", "wide"] a.f_l_filled a.fd_l_filled
  d_l_first : DefOk K mg "_law_first" s_l_first ["cell"] a.f_l_first a.fd_l_first
  d_l_mixed : DefOk K mg "_law_mixed" s_l_mixed ["cell"] a.f_l_mixed a.fd_l_mixed
  d_l_form : DefOk K mg "_law_form" s_l_form ["script"] a.f_l_form a.fd_l_form
  d_l_place : DefOk K mg "_law_place" s_l_place ["cell", "number", "high"] a.f_l_place a.fd_l_place
  d_l_said_by : DefOk K mg "_law_said_by" s_l_said_by ["form", "saying", "places"] a.f_l_said_by a.fd_l_said_by
  d_l_signs : DefOk K mg "_law_signs" s_l_signs ["number", "size"] a.f_l_signs a.fd_l_signs
  d_l_saying : DefOk K mg "_law_saying" s_l_saying ["number", "many"] a.f_l_saying a.fd_l_saying
  d_figures_of : DefOk K mg "figures_of" s_figures_of ["number"] a.f_figures_of a.fd_figures_of
  d_said : DefOk K mg "said" s_said ["form", "saying", "places"] a.f_said a.fd_said
  d_foot_rows : DefOk K mg "foot_rows" s_foot_rows ["form", "foot", "places"] a.f_foot_rows a.fd_foot_rows
  d_law : DefOk K mg "law" s_law ["script"] a.f_law a.fd_law
  z_int : mg "int" = none
  z_isinstance : mg "isinstance" = none
  z_len : mg "len" = none
  z_list : mg "list" = none
  z_max : mg "max" = none
  z_min : mg "min" = none
  z_range : mg "range" = none
  z_str : mg "str" = none
  z_zip : mg "zip" = none
section
variable {P : Program} {w : World} {K : PySem.W.Frag} {mg : Str → Option Value} {base : Heap} {a : Adr}

def sp_l_cell_at (K : PySem.W.Frag) : Sp := fun vs H Q _ => ∃ (b : Addr) (ns : List Int) (k : Nat), vs = [.ref b, .int (k : Int)] ∧ SqL K H b (ns.map V.int) ∧ Q (.int (ns.getD k 0)) H
theorem sc_l_cell_at : FnScope ["script", "k"] ["script", "k"] (defScope s_l_cell_at) := ⟨rfl, rfl, rfl, by decide +kernel, rfl, by decide +kernel, by decide +kernel⟩
theorem ok_l_cell_at (T : Txt P w K mg a) : FnOk P w K mg base CX0 1 a.f_l_cell_at a.fd_l_cell_at ["script", "k"] (sp_l_cell_at K) := by
  have z_len := T.z_len
  refine T.d_l_cell_at.fn.ok sc_l_cell_at (fun vs H Q E h => ?_) (fun cdv A outer s H vs Q E hr h => ?_)
  · obtain ⟨b, ns, k, rfl, _⟩ := h
    rfl
  obtain ⟨b, ns, k, rfl, hS, q⟩ := h
  have hu := Nat.lt_of_succ_lt (hu_of hr)
  refine ⟨_, (pss_cons (ps_if (pt_cmpR op_lt (pv 1) (pe_callB call_len_seq rfl z_len PySem.boot_len (pa_cons (pv 0) pa_nil)) (nomark _)) (pss_one (ps_ret (pe_ix ix_list (pv 0) (pv 1) (fun _ _ => rfl)))) pss_nil)
      (pss_one (ps_ret pe_int))), ?_⟩
  refine ⟨_, rfl, _, rfl, _, _, rfl, .inl hS, _, _, rfl, rfl, _, rfl, ?_⟩
  refine ite2 (fun c => ?_) (fun c => ?_)
  · have hk : k < ns.length := by
      have := of_decide_eq_true c
      rw [List.length_map] at this
      omega
    refine ⟨_, rfl, _, rfl, _, _, _, _, rfl, rfl, hS, atI_nat (j := k) (v := .int (ns.getD k 0)) ?_, q⟩
    rw [List.getElem?_map, List.getElem?_eq_getElem hk, List.getD_eq_getElem?_getD, List.getElem?_eq_getElem hk]
    rfl
  · have hk : ns.length ≤ k := by
      refine Nat.le_of_not_lt fun hk => c (decide_eq_true ?_)
      rw [List.length_map]
      omega
    have e : ns.getD k 0 = 0 := by rw [List.getD_eq_getElem?_getD, List.getElem?_eq_none hk]; rfl
    rw [e] at q
    exact q
theorem rows_split {g : List (List Nat)} (ne : g ≠ []) (free : ∀ t ∈ g, 32 ∉ t) : (Txt.split (tx (joinL [32] g)) ⟨#[32]⟩).map V.str = rowsV g := by
  rw [split_tx, splitL_join 32 g ne free]
  unfold rowsV
  rw [List.map_map]
  rfl
theorem rowsV_app (a b : List (List Nat)) : rowsV a ++ rowsV b = rowsV (a ++ b) := by unfold rowsV; rw [List.map_append]
theorem rowsV_len (a : List (List Nat)) : (rowsV a).length = a.length := by unfold rowsV; rw [List.length_map]
theorem rowsV_cut (rs : List (List Nat)) (lo hi : Option Int) : cutV (rowsV rs) lo hi = rowsV (cutL rs lo hi) := by unfold rowsV; rw [cutV_map]
theorem flat_len {g : List (List Nat)} {gs : List (List (List Nat))} (i : Nat) : ((gs.take i).flatten).length ≤ gs.flatten.length := by
  have e : gs.flatten = (gs.take i).flatten ++ (gs.drop i).flatten := by rw [← List.flatten_append, List.take_append_drop]
  rw [e, List.length_append]
  omega
theorem grp_len : ∀ {gs : List (List (List Nat))}, (∀ g ∈ gs, g ≠ []) → gs.length ≤ gs.flatten.length
  | [], _ => Nat.le_refl _
  | g :: r, h => by
    have ih := grp_len (gs := r) fun x hx => h x (List.mem_cons_of_mem _ hx)
    have hg := h g List.mem_cons_self
    rw [List.flatten_cons, List.length_append, List.length_cons]
    have : 1 ≤ g.length := by
      cases g with
      | nil => exact absurd rfl hg
      | cons a t => simp
    omega
theorem flat_snoc {gs : List (List (List Nat))} {i : Nat} {g : List (List Nat)} (h : gs[i]? = some g) : (gs.take (i + 1)).flatten = (gs.take i).flatten ++ g := by
  rw [take_snoc h, List.flatten_append]
  simp
theorem drop_at2 {α : Type} (l : List α) (i : Nat) : (l.drop 1)[i]? = l[i + 1]? := by rw [List.getElem?_drop, Nat.add_comm]
theorem last_at {α : Type} {l : List α} {i : Nat} {a : α} (h : l.dropLast[i]? = some a) : l[i]? = some a ∧ i + 1 < l.length := by
  have hi := (List.getElem?_eq_some_iff.mp h).1
  rw [List.length_dropLast] at hi
  rw [List.dropLast_eq_take, List.getElem?_take, if_pos (by omega)] at h
  exact ⟨h, by omega⟩
def sp_l_filled (K : PySem.W.Frag) : Sp := fun vs H Q _ => ∃ (fo du : Addr) (w : Int) (ts : List (List Nat)), vs = [.ref fo, .ref du, .int w] ∧ SqL K H fo (rowsV (fillW w ts)) ∧ SqL K H du (rowsV ts) ∧ w ≤ 200 ∧ ts.length ≤ 60 ∧ (∀ t ∈ ts, t.length ≤ 62) ∧ (∀ t ∈ ts, 32 ∉ t) ∧ ∀ H', Same H H' → Q (.bl true) H'
theorem sc_l_filled : FnScope ["found", "due", "wide", "words", "row", "one", "other"] ["found", "due", "wide"] (defScope s_l_filled) := ⟨rfl, rfl, rfl, by decide +kernel, rfl, by decide +kernel, by decide +kernel⟩
theorem ok_l_filled (T : Txt P w K mg a) : FnOk P w K mg base CX0 1 a.f_l_filled a.fd_l_filled ["found", "due", "wide"] (sp_l_filled K) := by
  have z_isinstance := T.z_isinstance
  have z_len := T.z_len
  have z_str := T.z_str
  have z_zip := T.z_zip
  refine T.d_l_filled.fn.ok sc_l_filled (fun vs H Q E h => ?_) (fun cdv A outer s H vs Q E hr h => ?_)
  · obtain ⟨fo, du, w, ts, rfl, _⟩ := h
    rfl
  obtain ⟨fo, du, w, ts, rfl, hF, hD, w2, tl, t62, free, q⟩ := h
  have hu := Nat.lt_of_succ_lt (hu_of hr)
  refine ⟨_, (pss_cons (ps_set (i := 3) sc_l_filled.nd rfl (Or.inl rfl) (pe_lst pa_nil))
      (pss_cons (ps_for PassesOwn.never rfl (pi_list (pv 0)) (pg_name (i := 4) sc_l_filled.nd rfl (Or.inl rfl)) (pss_cons (ps_if (pt_not (pt_val (pe_callB call_isi rfl z_isinstance PyProof.Rows.boot_isinstance (pa_cons (pv 4) (pa_cons (pe_bltn (v := .ty "str") rfl z_str PyProof.Rows.boot_str rfl) pa_nil))) (fun _ => rfl))) (pss_one (ps_ret pe_bl)) pss_nil)
      (pss_cons (ps_expr (pe_bm PySem.F.plainAttrs_list PySem.F.slot_list_extend PySem.F.type_list_extend mt_extend (pv 3) (pa_cons (pe_bm PySem.F.plainAttrs_str PySem.F.slot_str_split PySem.F.type_str_split mt_split1 (pv 4) (pa_cons pe_str pa_nil)) pa_nil)))
      (pss_one (ps_if (PW.pt (pw_and (pt_cmpR op_gt (pe_callB call_len_str rfl z_len PySem.boot_len (pa_cons (pv 4) pa_nil)) (pv 2) (nomark _)) (pw_and1 (pt_cmpR op_in_str pe_str (pv 4) (by with_unfolding_all rfl))))) (pss_one (ps_ret pe_bl)) pss_nil)))))
      (pss_cons (ps_for PassesOwn.never rfl (pi_zip rfl z_zip (pe_slice sl_list (pv 0) po_none (po_some (pe_un un_neg pe_int))) (pe_slice sl_list (pv 0) (po_some pe_int) po_none)) (pg_tup rfl (pgs_cons (pg_name (i := 5) sc_l_filled.nd rfl (Or.inl rfl)) (pgs_cons (pg_name (i := 6) sc_l_filled.nd rfl (Or.inl rfl)) pgs_nil))) (pss_one (ps_if (pt_cmpR op_le (pe_op op_add (pe_op op_add (pe_callB call_len_str rfl z_len PySem.boot_len (pa_cons (pv 5) pa_nil)) pe_int) (pe_callB call_len_str rfl z_len PySem.boot_len (pa_cons (pe_ix ix_list (pe_bm PySem.F.plainAttrs_str PySem.F.slot_str_split PySem.F.type_str_split mt_split1 (pv 6) (pa_cons pe_str pa_nil)) pe_int (fun _ _ => rfl)) pa_nil))) (pv 2) (nomark _)) (pss_one (ps_ret pe_bl)) pss_nil)))
      (pss_one (ps_ret (pe_cmpR (op_eqL hu) (pv 3) (pv 1) (nomark _))))))), ?_⟩
  obtain ⟨gs, G⟩ := grp_ex w ts
  obtain ⟨fs1, fs2⟩ := fill_small w2 ts t62
  have gfree : ∀ g ∈ gs, ∀ t ∈ g, 32 ∉ t := fun g hg t ht => free t (by rw [← G.all]; exact List.mem_flatten.mpr ⟨g, hg, ht⟩)
  have gl := grp_len G.ne
  rw [G.all] at gl
  have gfl : ∀ i, ((gs.take i).flatten).length ≤ 60 := fun i => by
    have := flat_len (g := []) (gs := gs) i
    rw [G.all] at this
    omega
  rw [G.rows] at hF fs1 fs2
  have rlen : ∀ g ∈ gs, (joinL [32] g).length ≤ 200 := fun g hg => fs1 _ (List.mem_map.mpr ⟨g, hg, rfl⟩)
  refine ⟨Nat.zero_le _, fun r hr => ?_⟩
  have s0 := same_new hr (.lst [])
  refine ⟨_, rfl, _, rfl, ⟨_, s0.seq hF⟩, for_list (K := K) (a := fo) (xs := rowsV (gs.map (joinL [32]))) (fun i σ H2 => Same H H2 ∧ (∃ v1 v2 v3 : Option V, σ = [some (.ref fo), some (.ref du), some (.int w), some (.ref r), v1, v2, v3]) ∧ H2 r = some (.lst (rowsV ((gs.take i).flatten))))
    ⟨s0, ⟨none, none, none, rfl⟩, upd_same⟩ (fun i σ H2 _ h2 => h2.1.seq hF) ?_ ?_⟩
  · rintro i y σ H2 hi ⟨t2, ⟨v1, v2, v3, rfl⟩, hr2⟩
    obtain ⟨l, rfl, el⟩ := rows_at hi
    rw [List.getElem?_map] at el
    cases eg : gs[i]? with
    | none => rw [eg] at el; cases el
    | some g =>
    rw [eg] at el
    cases el
    have hg := List.mem_of_getElem? eg
    have rl := rlen g hg
    have gi := gfl i
    have gi1 := gfl (i + 1)
    rw [flat_snoc eg, List.length_append] at gi1
    refine ⟨_, rfl, _, "str", true, rfl, (by (first | decide | (show (0 : Int) < _; first | decide | omega))), rfl, _, rfl, ?_⟩
    refine iteF ?_
    refine ⟨_, rfl, .inl ⟨rfl, _, SqL.of hr2⟩, _, rfl, rfl, _, 32, rfl, congrArg (fun z => [V.str z]) cbl, (by rw [tx_len]; exact small (by omega)), fun p2 hp2 => ?_⟩
    rw [rows_split (G.ne g hg) (gfree g hg)]
    have s3 := same_new hp2 (.lst (rowsV g))
    have hr3 := s3 _ _ hr2
    refine ⟨_, _, _, _, rfl, rfl, hr3, upd_same, (by rw [rowsV_len, rowsV_len]; exact small (by omega)), ?_⟩
    rw [rowsV_app, ← flat_snoc eg]
    have t3 : Same H (upd (upd H2 p2 (.lst (rowsV g))) r (.lst (rowsV ((gs.take (i + 1)).flatten)))) := (t2.trans s3).put hr
    have hr4 : (upd (upd H2 p2 (.lst (rowsV g))) r (.lst (rowsV ((gs.take (i + 1)).flatten)))) r = some (.lst (rowsV ((gs.take (i + 1)).flatten))) := upd_same
    generalize upd (upd H2 p2 (.lst (rowsV g))) r (.lst (rowsV ((gs.take (i + 1)).flatten))) = H4 at t3 hr4 ⊢
    refine ⟨_, rfl, _, rfl, (by rw [tx_len]; exact small (by omega)), _, rfl, _, _, rfl, rfl, _, rfl, ?_⟩
    rw [tx_len]
    by_cases c : w < ((joinL [32] g).length : Int)
    · refine andG (fun z => absurd (decide_eq_true c) z) (fun _ => ?_)
      refine ⟨_, rfl, _, _, congrArg V.str cbl, rfl, _, rfl, ?_⟩
      have no : 32 ∉ joinL [32] g := by
        rcases G.fit g hg with ⟨t, rfl⟩ | h
        · exact gfree _ hg t (List.mem_singleton.mpr rfl)
        · omega
      have e : (!(Builtin.Str.occurrences (tx (joinL [32] g)) (tx [32]) 0 (tx (joinL [32] g)).length 1).isEmpty) = false := by
        have := in_tx (joinL [32] g) 32
        rw [decide_eq_false no] at this
        exact this
      rw [e]
      refine iteF ?_
      exact ⟨t3, ⟨_, _, _, rfl⟩, hr4⟩
    · exact andG (fun _ => ⟨t3, ⟨_, _, _, rfl⟩, hr4⟩) (fun z => absurd (of_decide_eq_true z) c)
  · rintro σ H2 ⟨t2, ⟨v1, v2, v3, rfl⟩, hr2⟩
    rw [rowsV_len, List.length_map, List.take_length, G.all] at hr2
    refine ⟨_, rfl, _, rfl, _, rfl, _, _, rfl, t2.seq hF, fun p3 hp3 => ?_⟩
    rw [rowsV_cut]
    have ec : cutL (gs.map (joinL [32])) none (some (-1)) = (gs.map (joinL [32])).dropLast := cut_last _
    have s3 := same_new hp3 (.lst (rowsV (cutL (gs.map (joinL [32])) none (some (-1)))))
    refine ⟨_, rfl, _, rfl, _, _, rfl, (t2.trans s3).seq hF, fun p4 hp4 => ?_⟩
    rw [rowsV_cut]
    have ed : cutL (gs.map (joinL [32])) (some 1) none = (gs.map (joinL [32])).drop 1 := cut_fr _ 1
    have s4 := same_new hp4 (.lst (rowsV (cutL (gs.map (joinL [32])) (some 1) none)))
    have t4 := t2.trans (s3.trans s4)
    have h3 : SqL K (upd (upd H2 p3 (.lst (rowsV (cutL (gs.map (joinL [32])) none (some (-1)))))) p4 (.lst (rowsV (cutL (gs.map (joinL [32])) (some 1) none)))) p3 (rowsV (gs.map (joinL [32])).dropLast) := s4.seq (SqL.of (by rw [upd_same, ec]))
    have h4 : SqL K (upd (upd H2 p3 (.lst (rowsV (cutL (gs.map (joinL [32])) none (some (-1)))))) p4 (.lst (rowsV (cutL (gs.map (joinL [32])) (some 1) none)))) p4 (rowsV ((gs.map (joinL [32])).drop 1)) := SqL.of (by rw [upd_same, ed])
    have hr4 := (s3.trans s4) _ _ hr2
    generalize upd (upd H2 p3 (.lst (rowsV (cutL (gs.map (joinL [32])) none (some (-1)))))) p4 (.lst (rowsV (cutL (gs.map (joinL [32])) (some 1) none))) = H4 at t4 h3 h4 hr4 ⊢
    refine ⟨p3, p4, rfl, rfl, ⟨_, h3⟩, ⟨_, h4⟩, for_zip (K := K) (a := p3) (b := p4) (xs := rowsV (gs.map (joinL [32])).dropLast) (ys := rowsV ((gs.map (joinL [32])).drop 1)) (fun i σ H5 => Same H4 H5 ∧ ∃ v1 v2 v3 : Option V, σ = [some (.ref fo), some (.ref du), some (.int w), some (.ref r), v1, v2, v3]) (by rw [rowsV_len, rowsV_len, List.length_dropLast, List.length_drop])
      ⟨Same.refl _, v1, v2, v3, rfl⟩ (fun i σ H5 _ h5 => ⟨h5.1.seq h3, h5.1.seq h4⟩) ?_ ?_⟩
    · rintro i x y σ H5 p ex ey ⟨s5, v1, v2, v3, rfl⟩ hp
      obtain ⟨l, rfl, el⟩ := rows_at ex
      obtain ⟨l2, rfl, el2⟩ := rows_at ey
      obtain ⟨el, _⟩ := last_at el
      rw [drop_at2] at el2
      rw [List.getElem?_map] at el el2
      cases eg : gs[i]? with
      | none => rw [eg] at el; cases el
      | some g =>
      cases eg2 : gs[i + 1]? with
      | none => rw [eg2] at el2; cases el2
      | some g2 =>
      rw [eg] at el
      rw [eg2] at el2
      cases el
      cases el2
      have hg := List.mem_of_getElem? eg
      have hg2 := List.mem_of_getElem? eg2
      have rl := rlen g hg
      have rl2 := rlen g2 hg2
      have nx := G.next i g g2 eg eg2
      obtain ⟨t0, r0, e0⟩ : ∃ t0 r0, g2 = t0 :: r0 := by
        cases g2 with
        | nil => exact absurd rfl (G.ne _ hg2)
        | cons a b => exact ⟨a, b, rfl⟩
      have t0l : t0.length ≤ 62 := t62 t0 (by rw [← G.all]; exact List.mem_flatten.mpr ⟨g2, hg2, by rw [e0]; exact List.mem_cons_self⟩)
      have s6 := same_new hp (.tup [V.str (tx (joinL [32] g)), V.str (tx (joinL [32] g2))])
      refine ⟨p, _, rfl, SqT.of upd_same, rfl, _, _, rfl, _, _, rfl, rfl, ?_⟩
      refine ⟨_, rfl, _, rfl, (by rw [tx_len]; exact small (by omega)), _, _, rfl, rfl, _, rfl, rfl, _, 32, rfl, congrArg (fun z => [V.str z]) cbl, (by rw [tx_len]; exact small (by omega)), fun p5 hp5 => ?_⟩
      rw [rows_split (G.ne g2 hg2) (gfree g2 hg2)]
      have s7 := same_new hp5 (.lst (rowsV g2))
      refine ⟨_, _, _, _, rfl, rfl, SqL.of upd_same, (show atI (rowsV g2) 0 = some (V.str (tx t0)) from atI_nat (j := 0) (by rw [e0]; rfl)), _, rfl, (by rw [tx_len]; exact small (by omega)), _, _, rfl, rfl, _, rfl, _, _, rfl, rfl, _, rfl, ?_⟩
      rw [tx_len, tx_len]
      rw [e0] at nx
      have nx' : w < ((joinL [32] g).length : Int) + 1 + (t0.length : Int) := nx
      refine ite2 (fun z => absurd (of_decide_eq_true z) (by omega)) (fun _ => ?_)
      exact ⟨s5.trans (s6.trans s7), _, _, _, rfl⟩
    · rintro σ H5 ⟨s5, v1, v2, v3, rfl⟩
      refine ⟨_, rfl, _, rfl, _, _, _, _, rfl, rfl, SqL.of (s5 _ _ hr4), (t4.trans s5).seq hD, flat_rows _, flat_rows _, ?_⟩
      show Q (.bl (eqVs _ _)) _
      rw [eqVs_refl (flat_rows ts)]
      exact q _ (t4.trans s5)
theorem c9 : (PySem.Str.ofString "9") = tx [57] := by decide +kernel
theorem c0 : (PySem.Str.ofString "0") = tx [48] := by decide +kernel
theorem p60 : (10 : Int) ^ (60 : Int).toNat = 10 ^ 60 := by decide +kernel
theorem nines_in (k : Nat) (h : k ≤ 60) : valF (48 :: repL [57] k) < 10 ^ 60 := by
  have e : valF (48 :: repL [57] k) = valF (repL [57] k) := rfl
  rw [e]
  have f : ∀ c ∈ repL [57] k, 48 ≤ c ∧ c ≤ 57 := fun c hc => by rw [rep_mem _ _ _ hc]; omega
  refine Nat.lt_of_lt_of_le (val_lt _ _ rfl f) (Nat.pow_le_pow_right (by (first | decide | (show (0 : Int) < _; first | decide | omega))) ?_)
  rw [repL_len]
  simp
  omega
def sp_l_first : Sp := fun vs H Q _ => ∃ c : Int, vs = [.int c] ∧ ∀ n : Int, 0 ≤ n → n ≤ 10 ^ 60 → Q (.int n) H
theorem sc_l_first : FnScope ["cell", "kind", "rest"] ["cell"] (defScope s_l_first) := ⟨rfl, rfl, rfl, by decide +kernel, rfl, by decide +kernel, by decide +kernel⟩
theorem ok_l_first (T : Txt P w K mg a) : FnOk P w K mg base CX0 1 a.f_l_first a.fd_l_first ["cell"] sp_l_first := by
  have z_int := T.z_int
  have z_max := T.z_max
  refine T.d_l_first.fn.ok sc_l_first (fun vs H Q E h => ?_) (fun cdv A outer s H vs Q E hr h => ?_)
  · obtain ⟨c, rfl, _⟩ := h
    rfl
  obtain ⟨c, rfl, q⟩ := h
  have hu := Nat.lt_of_succ_lt (hu_of hr)
  refine ⟨_, (pss_cons (ps_set (i := 1) sc_l_first.nd rfl (Or.inl rfl) (pe_op op_mod (pv 0) pe_int))
      (pss_cons (ps_set (i := 2) sc_l_first.nd rfl (Or.inl rfl) (pe_op op_fdiv (pv 0) pe_int))
      (pss_cons (ps_if (pt_cmpR op_eq (pv 1) pe_int (nomark _)) (pss_one (ps_ret (pe_op op_mod (pv 2) pe_int))) pss_nil)
      (pss_cons (ps_if (pt_cmpR op_eq (pv 1) pe_int (nomark _)) (pss_one (ps_ret (pe_callB (call_max2 rfl) rfl z_max PyProof.Rows.boot_max (pa_cons pe_int (pa_cons (pe_op op_sub (pe_callTy call_int_text rfl z_int PyProof.Rows.boot_int (pa_cons (pe_op op_add_str pe_str (pe_op op_mul_str pe_str (pe_op op_mod (pv 2) pe_int))) pa_nil)) (pe_op op_mod (pe_op op_fdiv (pv 2) pe_int) pe_int)) pa_nil))))) pss_nil)
      (pss_cons (ps_if (pt_cmpR op_eq (pv 1) pe_int (nomark _)) (pss_one (ps_ret (pe_op op_mod (pv 2) (pe_op op_add (pe_op op_pow pe_int pe_int) pe_int)))) pss_nil)
      (pss_one (ps_ret (pe_op op_add pe_int (pe_op op_mod (pv 2) pe_int))))))))), ?_⟩
  refine ⟨_, rfl, _, _, rfl, rfl, (by (first | decide | (show (0 : Int) < _; first | decide | omega))), ?_⟩
  refine ⟨_, rfl, _, _, rfl, rfl, ⟨by decide, by decide⟩, ?_⟩
  refine ⟨_, rfl, rfl, _, rfl, ?_⟩
  refine ite2 (fun _ => ?_) (fun _ => ?_)
  · refine ⟨_, rfl, _, _, rfl, rfl, (by (first | decide | (show (0 : Int) < _; first | decide | omega))), q _ (Int.emod_nonneg _ (by (first | decide | (show (0 : Int) < _; first | decide | omega)))) ?_⟩
    have := Int.emod_lt_of_pos (c / 4) (show (0 : Int) < 3 by decide)
    exact Int.le_trans (Int.le_of_lt this) (by (first | decide | (show (0 : Int) < _; first | decide | omega)))
  refine ⟨_, rfl, rfl, _, rfl, ?_⟩
  refine ite2 (fun _ => ?_) (fun _ => ?_)
  · have b1 := Int.emod_nonneg (c / 4) (show (61 : Int) ≠ 0 by decide)
    have b2 := Int.emod_lt_of_pos (c / 4) (show (0 : Int) < 61 by decide)
    have b3 := Int.emod_nonneg (c / 4 / 61) (show (13 : Int) ≠ 0 by decide)
    obtain ⟨k, hk⟩ := Int.eq_ofNat_of_zero_le b1
    have hk2 : k ≤ 60 := by omega
    refine ⟨_, rfl, _, _, rfl, rfl, (by (first | decide | (show (0 : Int) < _; first | decide | omega))), _, _, rfl, rfl, (by rw [hk, c9]; exact mulOk_small (by omega) (by (first | decide | (show (0 : Int) < _; first | decide | omega)))), _, _, rfl, rfl, ?_, ?_⟩
    · rw [hk, c9, c0, mul_tx, tx_len, tx_len, repL_len]
      exact small (by simp; omega)
    have ei : PySem.intText? (PySem.Str.ofString "0" ++ Txt.mul (PySem.Str.ofString "9") (c / 4 % 61)) = some ((valF (48 :: repL [57] k) : Nat) : Int) := by
      rw [hk, c9, c0, mul_tx, tx_app]
      refine read_digits (l := 48 :: repL [57] k) (fun d hd => ?_) (by simp) ?_
      · rcases List.mem_cons.mp hd with rfl | hd
        · omega
        · rw [rep_mem _ _ _ hd]; omega
      · rw [List.length_cons, repL_len]
        simp
        omega
    refine ⟨_, _, rfl, ei, ?_, _, rfl, _, _, rfl, rfl, ⟨by decide, by decide⟩, _, _, rfl, rfl, (by (first | decide | (show (0 : Int) < _; first | decide | omega))), _, _, rfl, rfl, _, _, rfl, ?_⟩
    · rw [hk, c9, c0, mul_tx, tx_app, tx_len, List.length_append, repL_len]
      simp
      omega
    have nb := nines_in k hk2
    have nb2 : ((valF (48 :: repL [57] k) : Nat) : Int) ≤ 10 ^ 60 := by
      have : ((valF (48 :: repL [57] k) : Nat) : Int) ≤ ((10 ^ 60 : Nat) : Int) := Int.ofNat_le.mpr (Nat.le_of_lt nb)
      exact Int.le_trans this (by decide +kernel)
    generalize ((valF (48 :: repL [57] k) : Nat) : Int) = z at nb2 ⊢
    refine q _ ?_ ?_
    · split <;> omega
    · split <;> omega
  refine ⟨_, rfl, rfl, _, rfl, ?_⟩
  refine ite2 (fun _ => ?_) (fun _ => ?_)
  · refine ⟨_, rfl, _, _, rfl, rfl, ⟨by decide, by decide, by decide⟩, _, _, rfl, rfl, _, _, rfl, rfl, ?_, ?_⟩
    · show (0 : Int) < 10 ^ (60 : Int).toNat + 1
      rw [p60]
      decide
    · rw [p60]
      refine q _ (Int.emod_nonneg _ (by (first | decide | (show (0 : Int) < _; first | decide | omega)))) ?_
      have := Int.emod_lt_of_pos (c / 4) (show (0 : Int) < 10 ^ 60 + 1 by decide)
      omega
  · refine ⟨_, rfl, _, _, rfl, rfl, (by (first | decide | (show (0 : Int) < _; first | decide | omega))), _, _, rfl, rfl, q _ ?_ ?_⟩
    · have := Int.emod_nonneg (c / 4) (show (6 : Int) ≠ 0 by decide)
      omega
    · have := Int.emod_lt_of_pos (c / 4) (show (0 : Int) < 6 by decide)
      exact Int.le_trans (show 95 + c / 4 % 6 ≤ 101 by omega) (by (first | decide | (show (0 : Int) < _; first | decide | omega)))
def mixed (c : Int) : Int := (c + 1) * 1357913579135791357 % 2305843009213693951
def sp_l_mixed : Sp := fun vs H Q _ => ∃ c : Int, vs = [.int c] ∧ Q (.int (mixed c)) H
theorem sc_l_mixed : FnScope ["cell"] ["cell"] (defScope s_l_mixed) := ⟨rfl, rfl, rfl, by decide +kernel, rfl, by decide +kernel, by decide +kernel⟩
theorem ok_l_mixed (T : Txt P w K mg a) : FnOk P w K mg base CX0 1 a.f_l_mixed a.fd_l_mixed ["cell"] sp_l_mixed := by
  refine T.d_l_mixed.fn.ok sc_l_mixed (fun vs H Q E h => ?_) (fun cdv A outer s H vs Q E hr h => ?_)
  · obtain ⟨c, rfl, _⟩ := h
    rfl
  obtain ⟨c, rfl, q⟩ := h
  have hu := Nat.lt_of_succ_lt (hu_of hr)
  refine ⟨_, (pss_one (ps_ret (pe_op op_mod (pe_op op_mul (pe_op op_add (pv 0) pe_int) pe_int) pe_int))), ?_⟩
  exact ⟨_, rfl, _, _, rfl, rfl, _, _, rfl, rfl, .inr ⟨by decide, by decide⟩, _, _, rfl, rfl, (by (first | decide | (show (0 : Int) < _; first | decide | omega))), q⟩
theorem two_at {x y : Int} (k : Int) : ∃ z, atI [V.int x, V.int y] (k % 2) = some (V.int z) ∧ (z = x ∨ z = y) := by
  have : k % 2 = 0 ∨ k % 2 = 1 := by omega
  rcases this with e | e
  · exact ⟨x, by rw [e]; rfl, .inl rfl⟩
  · exact ⟨y, by rw [e]; rfl, .inr rfl⟩
def sp_l_form (K : PySem.W.Frag) : Sp := fun vs H Q _ => ∃ (sa : Addr) (ns : List Int), vs = [.ref sa] ∧ SqL K H sa (ns.map V.int) ∧ ∀ q H' w h f m, Same H H' → SqT K H' q (fm w h f m) → FormOk w h f m → Q (.ref q) H'
theorem sc_l_form : FnScope ["script", "number", "high", "wide"] ["script"] (defScope s_l_form) := ⟨rfl, rfl, rfl, by decide +kernel, rfl, by decide +kernel, by decide +kernel⟩
theorem ok_l_form (T : Txt P w K mg a) : FnOk P w K mg base CX0 2 a.f_l_form a.fd_l_form ["script"] (sp_l_form K) := by
  have g_l_cell_at := ok_l_cell_at (P := P) (w := w) (base := base) T
  have d_l_cell_at := T.d_l_cell_at
  have g_l_first := ok_l_first (P := P) (w := w) (base := base) T
  have d_l_first := T.d_l_first
  have g_l_mixed := ok_l_mixed (P := P) (w := w) (base := base) T
  have d_l_mixed := T.d_l_mixed
  refine T.d_l_form.fn.ok sc_l_form (fun vs H Q E h => ?_) (fun cdv A outer s H vs Q E hr h => ?_)
  · obtain ⟨sa, ns, rfl, _⟩ := h
    rfl
  obtain ⟨sa, ns, rfl, hS, q⟩ := h
  have hu := Nat.lt_of_succ_lt (hu_of hr)
  refine ⟨_, (pss_cons (ps_set (i := 1) sc_l_form.nd rfl (Or.inl rfl) (pe_callD d_l_mixed g_l_mixed (hr.mono (by decide)) rfl (pa_cons (pe_callD d_l_cell_at g_l_cell_at (hr.mono (by decide)) rfl (pa_cons (pv 0) (pa_cons pe_int pa_nil))) pa_nil)))
      (pss_cons (ps_set (i := 2) sc_l_form.nd rfl (Or.inl rfl) (pe_op op_add pe_int (pe_ix ix_list (pe_lst (pa_cons (pe_op op_mod (pe_op op_fdiv (pv 1) pe_int) pe_int) (pa_cons (pe_op op_mod (pe_op op_fdiv (pv 1) pe_int) pe_int) pa_nil))) (pe_op op_mod (pv 1) pe_int) (fun _ _ => rfl))))
      (pss_cons (ps_set (i := 1) sc_l_form.nd rfl (Or.inl rfl) (pe_op op_fdiv (pv 1) pe_int))
      (pss_cons (ps_set (i := 3) sc_l_form.nd rfl (Or.inl rfl) (pe_op op_add pe_int (pe_ix ix_list (pe_lst (pa_cons (pe_op op_mod (pe_op op_fdiv (pv 1) pe_int) pe_int) (pa_cons (pe_op op_mod (pe_op op_fdiv (pv 1) pe_int) pe_int) pa_nil))) (pe_op op_mod (pv 1) pe_int) (fun _ _ => rfl))))
      (pss_one (ps_ret (pe_tup (pa_cons (pv 3) (pa_cons (pv 2) (pa_cons (pe_callD d_l_first g_l_first (hr.mono (by decide)) rfl (pa_cons (pe_callD d_l_cell_at g_l_cell_at (hr.mono (by decide)) rfl (pa_cons (pv 0) (pa_cons pe_int pa_nil))) pa_nil)) (pa_cons (pe_op op_add pe_int (pe_op op_mod (pe_op op_fdiv (pv 1) pe_int) pe_int)) pa_nil))))))))))), ?_⟩
  refine ⟨_, rfl, _, _, (0 : Nat), rfl, hS, _, rfl, ?_⟩
  generalize mixed (ns.getD 0 0) = n1
  refine ⟨_, rfl, _, _, rfl, rfl, ⟨by decide, by decide⟩, _, _, rfl, rfl, (by (first | decide | (show (0 : Int) < _; first | decide | omega))), _, rfl, _, _, rfl, rfl, ⟨by decide, by decide⟩, _, _, rfl, rfl, (by (first | decide | (show (0 : Int) < _; first | decide | omega))), le2, fun p1 hp1 => ?_⟩
  obtain ⟨z1, e1, o1⟩ := two_at (x := n1 / 2 % 4) (y := n1 / 2 % 60) n1
  refine ⟨_, rfl, _, _, rfl, rfl, (by (first | decide | (show (0 : Int) < _; first | decide | omega))), _, _, _, _, rfl, rfl, SqL.of upd_same, e1, _, _, rfl, rfl, ?_⟩
  refine ⟨_, rfl, _, _, rfl, rfl, ⟨by decide, by decide⟩, ?_⟩
  refine ⟨_, rfl, _, _, rfl, rfl, ⟨by decide, by decide⟩, _, _, rfl, rfl, (by (first | decide | (show (0 : Int) < _; first | decide | omega))), _, rfl, _, _, rfl, rfl, ⟨by decide, by decide⟩, _, _, rfl, rfl, (by (first | decide | (show (0 : Int) < _; first | decide | omega))), le2, fun p2 hp2 => ?_⟩
  obtain ⟨z2, e2, o2⟩ := two_at (x := n1 / 120 / 2 % 24) (y := n1 / 120 / 2 % 200) (n1 / 120)
  refine ⟨_, rfl, _, _, rfl, rfl, (by (first | decide | (show (0 : Int) < _; first | decide | omega))), _, _, _, _, rfl, rfl, SqL.of upd_same, e2, _, _, rfl, rfl, ?_⟩
  refine ⟨_, rfl, _, rfl, _, rfl, _, _, (1 : Nat), rfl, (by (repeat first | assumption | exact SqT.of upd_same | exact SqL.of upd_same | exact upd_same | refine Same.tup (same_new (by assumption) _) ?_ | refine Same.seq (same_new (by assumption) _) ?_ | refine Same.tup (by assumption) ?_ | refine Same.seq (by assumption) ?_ | refine SqT.lst (by assumption) ?_)), _, rfl, fun fi f1 f2 => ?_⟩
  refine ⟨_, rfl, _, _, rfl, rfl, ⟨by decide, by decide⟩, _, _, rfl, rfl, (by (first | decide | (show (0 : Int) < _; first | decide | omega))), _, _, rfl, rfl, le4, fun p3 hp3 => ?_⟩
  refine q _ _ _ _ _ _ (((same_new hp1 _).trans (same_new hp2 _)).trans (same_new hp3 _)) (SqT.of upd_same) ⟨?_, ?_, ?_, ?_, f1, f2, ?_, ?_⟩
  all_goals omega
theorem p59 : (10 : Int) ^ (60 : Int).toNat - 10 ^ (59 : Int).toNat = 9 * 10 ^ 59 := by decide +kernel
def sp_l_place (K : PySem.W.Frag) : Sp := fun vs H Q _ => ∃ (c n h : Int), vs = [.int c, .int n, .int h] ∧ 1 ≤ h ∧ h ≤ 60 ∧ ∀ q H' x, Same H H' → SqT K H' q (pl x) → PlaceOk h x → Q (.ref q) H'
theorem sc_l_place : FnScope ["cell", "number", "high", "page", "row"] ["cell", "number", "high"] (defScope s_l_place) := ⟨rfl, rfl, rfl, by decide +kernel, rfl, by decide +kernel, by decide +kernel⟩
theorem ok_l_place (T : Txt P w K mg a) : FnOk P w K mg base CX0 1 a.f_l_place a.fd_l_place ["cell", "number", "high"] (sp_l_place K) := by
  have z_min := T.z_min
  refine T.d_l_place.fn.ok sc_l_place (fun vs H Q E h => ?_) (fun cdv A outer s H vs Q E hr h => ?_)
  · obtain ⟨c, n, h, rfl, _⟩ := h
    rfl
  obtain ⟨c, n, h, rfl, h1, h2, q⟩ := h
  have hu := Nat.lt_of_succ_lt (hu_of hr)
  refine ⟨_, (pss_cons (ps_set (i := 3) sc_l_place.nd rfl (Or.inl rfl) (pe_op op_mod (pe_op op_fdiv (pv 1) pe_int) pe_int))
      (pss_cons (ps_if (pt_cmpR op_eq (pe_op op_mod (pv 1) pe_int) pe_int (nomark _)) (pss_one (ps_set (i := 3) sc_l_place.nd rfl (Or.inl rfl) (pe_op op_mod (pv 0) (pe_op op_sub (pe_op op_pow pe_int pe_int) (pe_op op_pow pe_int pe_int))))) pss_nil)
      (pss_cons (ps_set (i := 4) sc_l_place.nd rfl (Or.inl rfl) (pe_op op_mod (pe_op op_fdiv (pv 1) pe_int) (pv 2)))
      (pss_cons (ps_if (pt_cmpR op_eq (pe_op op_mod (pe_op op_fdiv (pv 1) pe_int) pe_int) pe_int (nomark _)) (pss_one (ps_set (i := 4) sc_l_place.nd rfl (Or.inl rfl) (pe_op op_sub (pe_op op_sub (pv 2) pe_int) (pe_op op_mod (pe_op op_fdiv (pv 1) pe_int) (pe_callB (call_min2 rfl) rfl z_min PyProof.Rows.boot_min (pa_cons (pv 2) (pa_cons pe_int pa_nil))))))) pss_nil)
      (pss_one (ps_ret (pe_tup (pa_cons (pv 3) (pa_cons (pv 4) pa_nil))))))))), ?_⟩
  refine ⟨_, rfl, _, _, rfl, rfl, ⟨by decide, by decide⟩, _, _, rfl, rfl, (by (first | decide | (show (0 : Int) < _; first | decide | omega))), ?_⟩
  dsimp only [gName]
  refine cut_seq (fun σ' H' => H' = H ∧ ∃ p : Int, 0 ≤ p ∧ p < 9 * 10 ^ 59 ∧ σ' = [some (.int c), some (.int n), some (.int h), some (.int p), none]) ?_ (fun key => ?_)
  · rintro σ' H' ⟨rfl, p, p1, p2, rfl⟩
    refine ⟨_, rfl, _, _, rfl, rfl, ⟨by decide, by decide⟩, _, rfl, _, _, rfl, rfl, (show 0 < h by omega), ?_⟩
    have b1 := Int.emod_nonneg (n / 48) (show h ≠ 0 by omega)
    have b2 := Int.emod_lt_of_pos (n / 48) (show 0 < h by omega)
    dsimp only [gName]
    refine cut_seq (fun σ2 H2 => H2 = H' ∧ ∃ r : Int, 0 ≤ r ∧ r < h ∧ σ2 = [some (.int c), some (.int n), some (.int h), some (.int p), some (.int r)]) ?_ (fun key => ?_)
    · rintro σ2 H2 ⟨rfl, r, r1, r2, rfl⟩
      refine ⟨_, rfl, _, rfl, le2, fun p3 hp3 => ?_⟩
      exact q _ _ (p, r) (same_new hp3 _) (SqT.of upd_same) ⟨p1, p2, r1, r2⟩
    · refine ⟨_, rfl, _, _, rfl, rfl, ⟨by decide, by decide⟩, _, _, rfl, rfl, (by (first | decide | (show (0 : Int) < _; first | decide | omega))), rfl, _, rfl, ?_⟩
      refine ite2 (fun c => ?_) (fun c => ?_)
      · refine ⟨_, rfl, _, _, rfl, rfl, _, rfl, _, _, rfl, rfl, ⟨by decide, by decide⟩, _, rfl, _, _, rfl, _, _, rfl, rfl, ?_, _, _, rfl, rfl, ?_⟩
        · show 0 < if (3 : Int) < h then (3 : Int) else h
          split <;> omega
        have hm : 0 < (if (3 : Int) < h then (3 : Int) else h) ∧ (if (3 : Int) < h then (3 : Int) else h) ≤ h := by split <;> omega
        have b3 := Int.emod_nonneg (n / 48) (show (if (3 : Int) < h then (3 : Int) else h) ≠ 0 by omega)
        have b4 := Int.emod_lt_of_pos (n / 48) hm.1
        exact key _ _ ⟨rfl, _, by omega, by omega, rfl⟩
      · exact key _ _ ⟨rfl, _, b1, b2, rfl⟩
  · refine ⟨_, rfl, _, _, rfl, rfl, (by (first | decide | (show (0 : Int) < _; first | decide | omega))), rfl, _, rfl, ?_⟩
    refine ite2 (fun c1 => ?_) (fun c1 => ?_)
    · refine ⟨_, rfl, _, _, rfl, rfl, ⟨by decide, by decide, by decide⟩, _, _, rfl, rfl, ⟨by decide, by decide, by decide⟩, _, _, rfl, rfl, _, _, rfl, rfl, ?_, ?_⟩
      · show (0 : Int) < 10 ^ (60 : Int).toNat - 10 ^ (59 : Int).toNat
        rw [p59]
        decide
      · rw [p59]
        exact key _ _ ⟨rfl, _, Int.emod_nonneg _ (by (first | decide | (show (0 : Int) < _; first | decide | omega))), Int.emod_lt_of_pos _ (by (first | decide | (show (0 : Int) < _; first | decide | omega))), rfl⟩
    · refine key _ _ ⟨rfl, _, Int.emod_nonneg _ (by (first | decide | (show (0 : Int) < _; first | decide | omega))), ?_, rfl⟩
      exact Int.lt_of_lt_of_le (Int.emod_lt_of_pos _ (show (0 : Int) < 6 by decide)) (by (first | decide | (show (0 : Int) < _; first | decide | omega)))
def sp_l_said_by (K : PySem.W.Frag) : Sp := fun vs H Q _ => ∃ (fa sa pa : Addr) (w h f m : Int) (s : Say) (as : List Addr) (xs : List (Int × Int)), vs = [.ref fa, .ref sa, .ref pa] ∧ SqT K H fa (fm w h f m) ∧ SqT K H sa (sayV s) ∧ SqL K H pa (as.map V.ref) ∧ PlsA K H as xs ∧ FormOk w h f m ∧ SayOk xs.length s ∧ PlsOk h xs ∧ Q (.str (tx (saidL h f xs s))) H
theorem sc_l_said_by : FnScope ["form", "saying", "places", "page", "row"] ["form", "saying", "places"] (defScope s_l_said_by) := ⟨rfl, rfl, rfl, by decide +kernel, rfl, by decide +kernel, by decide +kernel⟩
theorem ok_l_said_by (T : Txt P w K mg a) : FnOk P w K mg base CX0 1 a.f_l_said_by a.fd_l_said_by ["form", "saying", "places"] (sp_l_said_by K) := by
  have z_str := T.z_str
  refine T.d_l_said_by.fn.ok sc_l_said_by (fun vs H Q E h => ?_) (fun cdv A outer s H vs Q E hr h => ?_)
  · obtain ⟨fa, sa, pa, w, h, f, m, s, as, xs, rfl, _⟩ := h
    rfl
  obtain ⟨fa, sa, pa, w, h, f, m, s, as, xs, rfl, hf, hs, hp, ha, fo, so, po, q⟩ := h
  have hu := Nat.lt_of_succ_lt (hu_of hr)
  refine ⟨_, (pss_cons (ps_if (pt_cmpR op_eq (pe_ix ix_tup (pv 1) pe_int (fun _ _ => rfl)) pe_str (nomark _)) (pss_one (ps_ret (pe_ix ix_tup (pv 1) pe_int (fun _ _ => rfl)))) pss_nil)
      (pss_cons (ps_asg (pe_ix ix_list (pv 2) (pe_ix ix_tup (pv 1) pe_int (fun _ _ => rfl)) (fun _ _ => rfl)) (pg_tup rfl (pgs_cons (pg_name (i := 3) sc_l_said_by.nd rfl (Or.inl rfl)) (pgs_cons (pg_name (i := 4) sc_l_said_by.nd rfl (Or.inl rfl)) pgs_nil))))
      (pss_cons (ps_if (pt_cmpR op_eq (pe_ix ix_tup (pv 1) pe_int (fun _ _ => rfl)) pe_str (nomark _)) (pss_one (ps_ret (pe_callTy call_str_int rfl z_str PyProof.Rows.boot_str (pa_cons (pe_op op_add (pe_ix ix_tup (pv 0) pe_int (fun _ _ => rfl)) (pv 3)) pa_nil)))) pss_nil)
      (pss_one (ps_ret (pe_callTy call_str_int rfl z_str PyProof.Rows.boot_str (pa_cons (pe_op op_add (pe_op op_add (pe_op op_mul (pv 3) (pe_ix ix_tup (pv 0) pe_int (fun _ _ => rfl))) (pv 4)) pe_int) pa_nil))))))), ?_⟩
  cases s with
  | text l =>
    refine ⟨_, rfl, _, _, _, _, rfl, rfl, hs, rfl, rfl, _, rfl, ?_⟩
    rw [decide_eq_true rfl]
    refine iteT ?_
    exact ⟨_, rfl, _, _, _, _, rfl, rfl, hs, rfl, q⟩
  | page k =>
    obtain ⟨a1, e1, h1⟩ := ha.get so
    obtain ⟨i, b⟩ := po.get so
    obtain ⟨n, en, hn⟩ := page_num fo.f1 fo.f2 i.p1 b
    refine ⟨_, rfl, _, _, _, _, rfl, rfl, hs, rfl, rfl, _, rfl, ?_⟩
    rw [ne_page]
    refine iteF ?_
    refine ⟨_, rfl, _, rfl, _, _, _, _, rfl, rfl, hs, rfl, _, _, _, _, rfl, rfl, hp, e1, _, _, rfl, h1, rfl, _, _, rfl, _, _, rfl, rfl, ?_⟩
    refine ⟨_, rfl, _, _, _, _, rfl, rfl, hs, rfl, rfl, _, rfl, ?_⟩
    rw [decide_eq_true rfl]
    refine iteT ?_
    refine ⟨_, rfl, _, _, _, _, rfl, rfl, hf, rfl, _, rfl, _, _, rfl, rfl, _, rfl, (by rw [en]; exact log_small (lt_100 hn)), ?_⟩
    simp only [saidL] at q
    rw [en] at q
    rw [en]
    exact Eq.mpr (congrArg (fun z => Q (.str z) H) (str_figs n)) q
  | row k =>
    obtain ⟨a1, e1, h1⟩ := ha.get so
    obtain ⟨i, b⟩ := po.get so
    obtain ⟨n, en, hn⟩ := row_num fo.h1 fo.h2 i.p1 b i.r1 i.r2
    refine ⟨_, rfl, _, _, _, _, rfl, rfl, hs, rfl, rfl, _, rfl, ?_⟩
    rw [ne_row]
    refine iteF ?_
    refine ⟨_, rfl, _, rfl, _, _, _, _, rfl, rfl, hs, rfl, _, _, _, _, rfl, rfl, hp, e1, _, _, rfl, h1, rfl, _, _, rfl, _, _, rfl, rfl, ?_⟩
    refine ⟨_, rfl, _, _, _, _, rfl, rfl, hs, rfl, rfl, _, rfl, ?_⟩
    rw [ne_row_page]
    refine iteF ?_
    have h1' := fo.h1
    have h2' := fo.h2
    refine ⟨_, rfl, _, rfl, _, _, _, _, rfl, rfl, hf, rfl, _, _, rfl, rfl, .inr ⟨by omega, by omega⟩, _, rfl, _, _, rfl, rfl, _, _, rfl, rfl, _, rfl, (by rw [en]; exact log_small (lt_100 hn)), ?_⟩
    simp only [saidL] at q
    rw [en] at q
    rw [en]
    exact Eq.mpr (congrArg (fun z => Q (.str z) H) (str_figs n)) q
theorem csome : (PySem.Str.ofString "!\"#$&'()*+,-./0123456789:;<=>?@ABCDEFGHIJKLMNOPQRSTUVWXYZ[\\]^_") ++ (PySem.Str.ofString "`abcdefghijklmnopqrstuvwxyz{|}~") = tx sgns := by decide +kernel
theorem lsome : (PySem.Str.ofString "!\"#$&'()*+,-./0123456789:;<=>?@ABCDEFGHIJKLMNOPQRSTUVWXYZ[\\]^_").length + (PySem.Str.ofString "`abcdefghijklmnopqrstuvwxyz{|}~").length ≤ 1000 := by decide +kernel
theorem ce : (PySem.Str.ofString "") = tx [] := by decide +kernel
theorem at_sgn (k : Int) : ∃ c, atI (tx sgns).cps.toList (k % 93) = some c ∧ 33 ≤ c ∧ c < 127 := by
  have b1 := Int.emod_nonneg k (show (93 : Int) ≠ 0 by decide)
  have b2 := Int.emod_lt_of_pos k (show (0 : Int) < 93 by decide)
  obtain ⟨d, hd⟩ := Int.eq_ofNat_of_zero_le b1
  rw [hd]
  have hd2 : d < 93 := by omega
  have hl : d < sgns.length := hd2
  refine ⟨sgns.getD d 0, ?_, sgn_in d hd2⟩
  refine atI_nat ?_
  show (sgns.toArray.toList)[d]? = _
  rw [List.getD_eq_getElem?_getD, List.getElem?_eq_getElem hl]
  rfl
def sp_l_signs : Sp := fun vs H Q _ => ∃ n size : Int, vs = [.int n, .int size] ∧ 1 ≤ size ∧ size ≤ 60 ∧ ∀ (l : List Nat) (H' : Hp), Same H H' → 1 ≤ l.length → l.length ≤ 60 → (∀ c ∈ l, 33 ≤ c ∧ c < 127) → Q (.str (tx l)) H'
theorem sc_l_signs : FnScope ["number", "size", "some", "step"] ["number", "size"] (defScope s_l_signs) := ⟨rfl, rfl, rfl, by decide +kernel, rfl, by decide +kernel, by decide +kernel⟩
theorem ok_l_signs (T : Txt P w K mg a) : FnOk P w K mg base CX0 1 a.f_l_signs a.fd_l_signs ["number", "size"] sp_l_signs := by
  have z_range := T.z_range
  refine T.d_l_signs.fn.ok sc_l_signs (fun vs H Q E h => ?_) (fun cdv A outer s H vs Q E hr h => ?_)
  · obtain ⟨n, size, rfl, _⟩ := h
    rfl
  obtain ⟨n, size, rfl, z1, z2, q⟩ := h
  have hu := Nat.lt_of_succ_lt (hu_of hr)
  refine ⟨_, (pss_cons (ps_set (i := 2) sc_l_signs.nd rfl (Or.inr rfl) pe_str)
      (pss_cons (ps_set (i := 2) sc_l_signs.nd rfl (Or.inr rfl) (pe_op op_add_str (pv 2) pe_str))
      (pss_cons (ps_set (i := 3) sc_l_signs.nd rfl (Or.inr rfl) (pe_op op_add pe_int (pe_op op_mod (pe_op op_fdiv (pv 0) pe_int) pe_int)))
      (pss_one (ps_ret (pe_bm PySem.F.plainAttrs_str PySem.F.slot_str_join PySem.F.type_str_join mt_join pe_str (pa_cons (pe_lc rfl (lcok (caps := ["number", "some", "step"]) (js := [0, 2, 3]) (cap := ⟨⟨rfl, .inl rfl, rfl, .inl rfl⟩, ⟨⟨rfl, .inl rfl, rfl, .inl rfl⟩, ⟨⟨rfl, .inl rfl, rfl, .inl rfl⟩, trivial⟩⟩⟩)) (pi_range1 rfl z_range (pa_cons (pv 1) pa_nil)) (fun _ _ _ _ => pts_nil) (fun _ _ _ _ => (pe_ix ix_str (pv 2) (pe_op op_mod (pe_op op_add (pv 1) (pe_op op_mul (pv 0) (pv 3))) pe_int) (fun _ _ => rfl)))) pa_nil))))))), ?_⟩
  refine ⟨_, rfl, _, _, rfl, rfl, small lsome, ?_⟩
  rw [csome]
  refine ⟨_, rfl, _, _, rfl, rfl, ⟨by decide, by decide⟩, _, _, rfl, rfl, (by (first | decide | (show (0 : Int) < _; first | decide | omega))), _, _, rfl, rfl, ?_⟩
  have b1 := Int.emod_nonneg (n / 93) (show (92 : Int) ≠ 0 by decide)
  have b2 := Int.emod_lt_of_pos (n / 93) (show (0 : Int) < 92 by decide)
  obtain ⟨k, hk⟩ := Int.eq_ofNat_of_zero_le (show 0 ≤ size by omega)
  subst hk
  refine ⟨rfl, _, rfl, _, rfl, (by omega), (by omega), lc_range (fun i ys H' => H' = H ∧ ∃ cs : List Nat, cs.length = i ∧ (∀ d ∈ cs, 33 ≤ d ∧ d < 127) ∧ ys = cs.map fun d => V.str (tx [d])) ⟨rfl, [], rfl, by simp, rfl⟩ ?_ ?_ ?_⟩
  · rintro i ys H' hi ⟨_, cs, hl, _, rfl⟩
    rw [List.length_map, hl]
    exact Nat.lt_of_lt_of_le (show i < 1000 by simp at hi; omega) (small (Nat.le_refl _))
  · rintro i ys H' hi ⟨rfl, cs, hl, hd, rfl⟩
    refine yes_go ?_
    have hi' : i < 60 := by simp at hi; omega
    obtain ⟨c, ec, hc⟩ := at_sgn (n + (0 + (i : Int)) * (1 + n / 93 % 92))
    refine ⟨_, rfl, _, rfl, _, rfl, _, rfl, _, _, rfl, rfl, .inl ⟨by omega, by omega⟩, _, _, rfl, rfl, _, _, rfl, rfl, (by (first | decide | (show (0 : Int) < _; first | decide | omega))), _, _, _, rfl, rfl, small (by rw [tx_len]; decide), ec, rfl, cs ++ [c], by simp [hl], ?_, by simp⟩
    intro e he
    rcases List.mem_append.mp he with he | he
    · exact hd e he
    · rw [List.mem_singleton.mp he]; exact hc
  · rintro ys H' ⟨rfl, cs, hl, hd, rfl⟩ p hp
    have hl' : cs.length = k := by rw [hl]; simp
    have g1 : Same H' (upd H' p (.lst (cs.map fun d => V.str (tx [d])))) := same_new hp _
    refine ⟨_, p, cs.map (fun d => tx [d]), rfl, rfl, SqL.of (by rw [upd_same, List.map_map]; rfl), by decide, by rw [sum_one, List.length_map]; omega, ?_⟩
    have ej : Txt.join (PySem.Str.ofString "") (cs.map fun d => tx [d]) = tx cs := by
      have := join_tx [] (cs.map fun d => [d])
      rw [List.map_map, join_one] at this
      rw [ce]
      exact this
    rw [ej]
    exact q _ _ g1 (by omega) (by omega) hd
def sp_l_saying (K : PySem.W.Frag) : Sp := fun vs H Q _ => ∃ (n : Int) (many : Nat), vs = [.int n, .int (many : Int)] ∧ 1 ≤ many ∧ ∀ q H' s, Same H H' → SqT K H' q (sayV s) → SayOk many s → Q (.ref q) H'
theorem sc_l_saying : FnScope ["number", "many", "kind", "size"] ["number", "many"] (defScope s_l_saying) := ⟨rfl, rfl, rfl, by decide +kernel, rfl, by decide +kernel, by decide +kernel⟩
theorem ok_l_saying (T : Txt P w K mg a) : FnOk P w K mg base CX0 2 a.f_l_saying a.fd_l_saying ["number", "many"] (sp_l_saying K) := by
  have g_l_signs := ok_l_signs (P := P) (w := w) (base := base) T
  have d_l_signs := T.d_l_signs
  refine T.d_l_saying.fn.ok sc_l_saying (fun vs H Q E h => ?_) (fun cdv A outer s H vs Q E hr h => ?_)
  · obtain ⟨n, many, rfl, _⟩ := h
    rfl
  obtain ⟨n, many, rfl, m1, q⟩ := h
  have hu := Nat.lt_of_succ_lt (hu_of hr)
  refine ⟨_, (pss_cons (ps_set (i := 2) sc_l_saying.nd rfl (Or.inl rfl) (pe_op op_mod (pv 0) pe_int))
      (pss_cons (ps_set (i := 0) sc_l_saying.nd rfl (Or.inl rfl) (pe_op op_fdiv (pv 0) pe_int))
      (pss_cons (ps_if (pt_cmpR op_eq (pv 2) pe_int (nomark _)) (pss_one (ps_ret (pe_tup (pa_cons pe_str (pa_cons (pe_op op_mod (pv 0) (pv 1)) pa_nil))))) pss_nil)
      (pss_cons (ps_if (pt_cmpR op_eq (pv 2) pe_int (nomark _)) (pss_one (ps_ret (pe_tup (pa_cons pe_str (pa_cons (pe_op op_mod (pv 0) (pv 1)) pa_nil))))) pss_nil)
      (pss_cons (ps_set (i := 3) sc_l_saying.nd rfl (Or.inl rfl) (pe_op op_add pe_int (pe_op op_mod (pv 0) pe_int)))
      (pss_cons (ps_if (pt_cmpR op_eq (pe_op op_mod (pe_op op_fdiv (pv 0) pe_int) pe_int) pe_int (nomark _)) (pss_one (ps_set (i := 3) sc_l_saying.nd rfl (Or.inl rfl) (pe_op op_add pe_int (pe_op op_mod (pe_op op_fdiv (pv 0) pe_int) pe_int)))) pss_nil)
      (pss_one (ps_ret (pe_tup (pa_cons pe_str (pa_cons (pe_callD d_l_signs g_l_signs (hr.mono (by decide)) rfl (pa_cons (pe_op op_fdiv (pv 0) pe_int) (pa_cons (pv 3) pa_nil))) pa_nil))))))))))), ?_⟩
  refine ⟨_, rfl, _, _, rfl, rfl, (by (first | decide | (show (0 : Int) < _; first | decide | omega))), ?_⟩
  refine ⟨_, rfl, _, _, rfl, rfl, ⟨by decide, by decide⟩, ?_⟩
  have b1 := Int.emod_nonneg (n / 3) (show (many : Int) ≠ 0 by omega)
  have b2 := Int.emod_lt_of_pos (n / 3) (show 0 < (many : Int) by omega)
  obtain ⟨k, hk⟩ := Int.eq_ofNat_of_zero_le b1
  have hk2 : k < many := by omega
  refine ⟨_, rfl, rfl, _, rfl, ?_⟩
  refine ite2 (fun _ => ?_) (fun _ => ?_)
  · refine ⟨_, rfl, _, rfl, _, _, rfl, rfl, (show 0 < (many : Int) by omega), le2, fun p1 hp1 => ?_⟩
    refine q _ _ (.page k) (same_new hp1 _) (SqT.of ?_) hk2
    rw [upd_same]
    show some (HO.tup [V.str (PySem.Str.ofString "page"), V.int (n / 3 % (many : Int))]) = _
    rw [hk]
    rfl
  refine ⟨_, rfl, rfl, _, rfl, ?_⟩
  refine ite2 (fun _ => ?_) (fun _ => ?_)
  · refine ⟨_, rfl, _, rfl, _, _, rfl, rfl, (show 0 < (many : Int) by omega), le2, fun p1 hp1 => ?_⟩
    refine q _ _ (.row k) (same_new hp1 _) (SqT.of ?_) hk2
    rw [upd_same]
    show some (HO.tup [V.str (PySem.Str.ofString "row"), V.int (n / 3 % (many : Int))]) = _
    rw [hk]
    rfl
  refine ⟨_, rfl, _, _, rfl, rfl, (by (first | decide | (show (0 : Int) < _; first | decide | omega))), _, _, rfl, rfl, ?_⟩
  dsimp only [gName]
  refine cut_seq (fun σ' H' => H' = H ∧ ∃ (z : Int) (v : Option V), 1 ≤ z ∧ z ≤ 60 ∧ σ' = [some (.int (n / 3)), v, some (.int (n % 3)), some (.int z)]) ?_ (fun key => ?_)
  · rintro σ' H' ⟨rfl, z, v, z1, z2, rfl⟩
    refine ⟨_, rfl, _, _, rfl, rfl, ⟨by decide, by decide⟩, _, rfl, _, _, rfl, z1, z2, fun l H2 s2 l1 l2 l3 => ?_⟩
    refine ⟨le2, fun p3 hp3 => ?_⟩
    exact q _ _ (.text l) (s2.trans (same_new hp3 _)) (SqT.of upd_same) ⟨l1, l2, l3⟩
  · refine ⟨_, rfl, _, _, rfl, rfl, ⟨by decide, by decide⟩, _, _, rfl, rfl, (by (first | decide | (show (0 : Int) < _; first | decide | omega))), rfl, _, rfl, ?_⟩
    refine ite2 (fun c => ?_) (fun c => ?_)
    · refine ⟨_, rfl, _, _, rfl, rfl, ⟨by decide, by decide⟩, _, _, rfl, rfl, (by (first | decide | (show (0 : Int) < _; first | decide | omega))), _, _, rfl, rfl, ?_⟩
      exact key _ _ ⟨rfl, _, _, by omega, by omega, rfl⟩
    · exact key _ _ ⟨rfl, _, _, by omega, by omega, rfl⟩
def sp_figures_of : Sp := fun vs H Q _ => ∃ n : Nat, vs = [.int (n : Int)] ∧ n < 10 ^ 100 ∧ Q (.str (tx (figs n))) H
theorem sc_figures_of : FnScope ["number"] ["number"] (defScope s_figures_of) := ⟨rfl, rfl, rfl, by decide +kernel, rfl, by decide +kernel, by decide +kernel⟩
theorem ok_figures_of (T : Txt P w K mg a) : FnOk P w K mg base CX0 1 a.f_figures_of a.fd_figures_of ["number"] sp_figures_of := by
  have z_str := T.z_str
  refine T.d_figures_of.fn.ok sc_figures_of (fun vs H Q E h => ?_) (fun cdv A outer s H vs Q E hr h => ?_)
  · obtain ⟨n, rfl, _⟩ := h
    rfl
  obtain ⟨n, rfl, hn, q⟩ := h
  have hu := Nat.lt_of_succ_lt (hu_of hr)
  refine ⟨_, (pss_one (ps_ret (pe_callTy call_str_int rfl z_str PyProof.Rows.boot_str (pa_cons (pv 0) pa_nil)))), ?_⟩
  refine ⟨_, rfl, _, rfl, log_small hn, ?_⟩
  exact Eq.mpr (congrArg (fun z => Q (.str z) H) (str_figs n)) q
def sp_said (K : PySem.W.Frag) : Sp := fun vs H Q _ => ∃ (fa sa pa : Addr) (w h f m : Int) (s : Say) (as : List Addr) (xs : List (Int × Int)), vs = [.ref fa, .ref sa, .ref pa] ∧ SqT K H fa (fm w h f m) ∧ SqT K H sa (sayV s) ∧ SqL K H pa (as.map V.ref) ∧ PlsA K H as xs ∧ FormOk w h f m ∧ SayOk xs.length s ∧ PlsOk h xs ∧ Q (.str (tx (saidL h f xs s))) H
theorem sc_said : FnScope ["form", "saying", "places", "place"] ["form", "saying", "places"] (defScope s_said) := ⟨rfl, rfl, rfl, by decide +kernel, rfl, by decide +kernel, by decide +kernel⟩
theorem ok_said (T : Txt P w K mg a) : FnOk P w K mg base CX0 2 a.f_said a.fd_said ["form", "saying", "places"] (sp_said K) := by
  have g_figures_of := ok_figures_of (P := P) (w := w) (base := base) T
  have d_figures_of := T.d_figures_of
  refine T.d_said.fn.ok sc_said (fun vs H Q E h => ?_) (fun cdv A outer s H vs Q E hr h => ?_)
  · obtain ⟨fa, sa, pa, w, h, f, m, s, as, xs, rfl, _⟩ := h
    rfl
  obtain ⟨fa, sa, pa, w, h, f, m, s, as, xs, rfl, hf, hs, hp, ha, fo, so, po, q⟩ := h
  have hu := Nat.lt_of_succ_lt (hu_of hr)
  refine ⟨_, (pss_cons (ps_if (pt_cmpR op_eq (pe_ix ix_tup (pv 1) pe_int (fun _ _ => rfl)) pe_str (nomark _)) (pss_one (ps_ret (pe_ix ix_tup (pv 1) pe_int (fun _ _ => rfl)))) pss_nil)
      (pss_cons (ps_set (i := 3) sc_said.nd rfl (Or.inl rfl) (pe_ix ix_list (pv 2) (pe_ix ix_tup (pv 1) pe_int (fun _ _ => rfl)) (fun _ _ => rfl)))
      (pss_cons (ps_if (pt_cmpR op_eq (pe_ix ix_tup (pv 1) pe_int (fun _ _ => rfl)) pe_str (nomark _)) (pss_one (ps_ret (pe_callD d_figures_of g_figures_of (hr.mono (by decide)) rfl (pa_cons (pe_op op_add (pe_ix ix_tup (pv 0) pe_int (fun _ _ => rfl)) (pe_ix ix_tup (pv 3) pe_int (fun _ _ => rfl))) pa_nil)))) pss_nil)
      (pss_one (ps_ret (pe_callD d_figures_of g_figures_of (hr.mono (by decide)) rfl (pa_cons (pe_op op_add (pe_op op_add (pe_op op_mul (pe_ix ix_tup (pv 3) pe_int (fun _ _ => rfl)) (pe_ix ix_tup (pv 0) pe_int (fun _ _ => rfl))) (pe_ix ix_tup (pv 3) pe_int (fun _ _ => rfl))) pe_int) pa_nil))))))), ?_⟩
  cases s with
  | text l =>
    refine ⟨_, rfl, _, _, _, _, rfl, rfl, hs, rfl, rfl, _, rfl, ?_⟩
    rw [decide_eq_true rfl]
    refine iteT ?_
    exact ⟨_, rfl, _, _, _, _, rfl, rfl, hs, rfl, q⟩
  | page k =>
    obtain ⟨a1, e1, h1⟩ := ha.get so
    obtain ⟨i, b⟩ := po.get so
    obtain ⟨n, en, hn⟩ := page_num fo.f1 fo.f2 i.p1 b
    refine ⟨_, rfl, _, _, _, _, rfl, rfl, hs, rfl, rfl, _, rfl, ?_⟩
    rw [ne_page]
    refine iteF ?_
    refine ⟨_, rfl, _, rfl, _, _, _, _, rfl, rfl, hs, rfl, _, _, _, _, rfl, rfl, hp, e1, ?_⟩
    refine ⟨_, rfl, _, _, _, _, rfl, rfl, hs, rfl, rfl, _, rfl, ?_⟩
    rw [decide_eq_true rfl]
    refine iteT ?_
    refine ⟨_, rfl, _, _, _, _, rfl, rfl, hf, rfl, _, rfl, _, _, _, _, rfl, rfl, h1, rfl, _, _, rfl, rfl, n, congrArg (fun z => [V.int z]) en, lt_100 hn, ?_⟩
    simp only [saidL] at q
    rw [en] at q
    exact q
  | row k =>
    obtain ⟨a1, e1, h1⟩ := ha.get so
    obtain ⟨i, b⟩ := po.get so
    obtain ⟨n, en, hn⟩ := row_num fo.h1 fo.h2 i.p1 b i.r1 i.r2
    refine ⟨_, rfl, _, _, _, _, rfl, rfl, hs, rfl, rfl, _, rfl, ?_⟩
    rw [ne_row]
    refine iteF ?_
    refine ⟨_, rfl, _, rfl, _, _, _, _, rfl, rfl, hs, rfl, _, _, _, _, rfl, rfl, hp, e1, ?_⟩
    refine ⟨_, rfl, _, _, _, _, rfl, rfl, hs, rfl, rfl, _, rfl, ?_⟩
    rw [ne_row_page]
    refine iteF ?_
    have h1' := fo.h1
    have h2' := fo.h2
    refine ⟨_, rfl, _, _, _, _, rfl, rfl, h1, rfl, _, rfl, _, _, _, _, rfl, rfl, hf, rfl, _, _, rfl, rfl, .inr ⟨by omega, by omega⟩, _, rfl, _, _, _, _, rfl, rfl, h1, rfl, _, _, rfl, rfl, _, _, rfl, rfl, n, congrArg (fun z => [V.int z]) en, lt_100 hn, ?_⟩
    simp only [saidL] at q
    rw [en] at q
    exact q
def sp_foot_rows (K : PySem.W.Frag) : Sp := fun vs H Q _ => ∃ (fa oa pa : Addr) (w h f m : Int) (bs as : List Addr) (ss : List Say) (xs : List (Int × Int)), vs = [.ref fa, .ref oa, .ref pa] ∧ SqT K H fa (fm w h f m) ∧ SqL K H oa (bs.map V.ref) ∧ SaysA K H bs ss ∧ SqL K H pa (as.map V.ref) ∧ PlsA K H as xs ∧ FormOk w h f m ∧ (∀ s ∈ ss, SayOk xs.length s) ∧ PlsOk h xs ∧ ss.length ≤ 60 ∧ ∀ q H', Same H H' → H q = none → H' q = some (.lst (rowsV (fillW w (ss.map (saidL h f xs))))) → Q (.ref q) H'
theorem sc_foot_rows : FnScope ["form", "foot", "places", "rows", "saying", "text"] ["form", "foot", "places"] (defScope s_foot_rows) := ⟨rfl, rfl, rfl, by decide +kernel, rfl, by decide +kernel, by decide +kernel⟩
theorem ok_foot_rows (T : Txt P w K mg a) : FnOk P w K mg base CX0 3 a.f_foot_rows a.fd_foot_rows ["form", "foot", "places"] (sp_foot_rows K) := by
  have g_said := ok_said (P := P) (w := w) (base := base) T
  have d_said := T.d_said
  have z_len := T.z_len
  refine T.d_foot_rows.fn.ok sc_foot_rows (fun vs H Q E h => ?_) (fun cdv A outer s H vs Q E hr h => ?_)
  · obtain ⟨fa, oa, pa, w, h, f, m, bs, as, ss, xs, rfl, _⟩ := h
    rfl
  obtain ⟨fa, oa, pa, w, h, f, m, bs, as, ss, xs, rfl, hf, ho, hb, hp, ha, fo, so, po, s60, q⟩ := h
  have hu := Nat.lt_of_succ_lt (hu_of hr)
  refine ⟨_, (pss_cons (ps_set (i := 3) sc_foot_rows.nd rfl (Or.inl rfl) (pe_lst pa_nil))
      (pss_cons (ps_for PassesOwn.never rfl (pi_list (pv 1)) (pg_name (i := 4) sc_foot_rows.nd rfl (Or.inl rfl)) (pss_cons (ps_set (i := 5) sc_foot_rows.nd rfl (Or.inl rfl) (pe_callD d_said g_said (hr.mono (by decide)) rfl (pa_cons (pv 0) (pa_cons (pv 4) (pa_cons (pv 2) pa_nil)))))
      (pss_one (ps_if (PW.pt (pw_and (pt_cmpR (op_neL hu) (pv 3) (pe_lst pa_nil) (nomark _)) (pw_and1 (pt_cmpR op_le (pe_op op_add (pe_op op_add (pe_callB call_len_str rfl z_len PySem.boot_len (pa_cons (pe_ix ix_list (pv 3) (pe_un un_neg pe_int) (fun _ _ => rfl)) pa_nil)) pe_int) (pe_callB call_len_str rfl z_len PySem.boot_len (pa_cons (pv 5) pa_nil))) (pe_ix ix_tup (pv 0) pe_int (fun _ _ => rfl)) (nomark _))))) (pss_one (ps_asg (pe_op op_add_str (pe_op op_add_str (pe_ix ix_list (pv 3) (pe_un un_neg pe_int) (fun _ _ => rfl)) pe_str) (pv 5)) (pg_sub (pv 3) (pe_un un_neg pe_int) set_list))) (pss_one (ps_expr (pe_bm PySem.F.plainAttrs_list PySem.F.slot_list_append PySem.F.type_list_append mt_append (pv 3) (pa_cons (pv 5) pa_nil))))))))
      (pss_one (ps_ret (pv 3))))), ?_⟩
  refine ⟨Nat.zero_le _, fun r hr => ?_⟩
  have s0 := same_new hr (.lst [])
  have sl : ∀ s ∈ ss, (saidL h f xs s).length ≤ 62 := fun s hs => (said_len fo po (so s hs)).2.1
  refine ⟨_, rfl, _, rfl, ⟨_, s0.seq ho⟩, for_list (K := K) (a := oa) (xs := bs.map V.ref) (fun i σ H2 => (∃ v1 v2 : Option V, σ = [some (.ref fa), some (.ref oa), some (.ref pa), some (.ref r), v1, v2]) ∧ Same H H2 ∧ H2 r = some (.lst (rowsV (fillW w ((ss.take i).map (saidL h f xs))))))
    ⟨⟨none, none, rfl⟩, s0, upd_same⟩ (fun i σ H2 _ h2 => h2.2.1.seq ho) ?_ ?_⟩
  · rintro i y σ H2 hi ⟨⟨v1, v2, rfl⟩, s2, h2⟩
    obtain ⟨b, s, rfl, eb, es⟩ := foot_at hb.1 hi
    have hs := List.mem_of_getElem? es
    have is : i < ss.length := (List.getElem?_eq_some_iff.mp es).1
    have hts : ∀ t ∈ (ss.take i).map (saidL h f xs), t.length ≤ 62 := fun t ht => by
      obtain ⟨u, hu, rfl⟩ := List.mem_map.mp ht
      exact sl u (List.mem_of_mem_take hu)
    obtain ⟨fs1, fs2⟩ := fill_small fo.w2 _ hts
    rw [List.length_map, List.length_take] at fs2
    rw [take_snoc es, List.map_append, List.map_singleton, fillW_snoc]
    have tl := sl s hs
    generalize fillW w ((ss.take i).map (saidL h f xs)) = rows at h2 fs1 fs2
    refine ⟨_, rfl, _, rfl, _, rfl, _, _, _, _, _, _, _, _, _, _, rfl, s2.tup hf, s2.tup (hb.2 i b s eb es), s2.seq hp, ha.same s2, fo, so s hs, po, ?_⟩
    generalize saidL h f xs s = t at tl
    dsimp only [gName]
    refine ⟨_, rfl, Nat.zero_le _, fun p2 hp2 => ?_⟩
    have s3 := same_new hp2 (.lst [])
    have h3 := s3 _ _ h2
    refine ⟨_, _, _, _, rfl, rfl, SqL.of h3, SqL.of upd_same, flat_rows _, rfl, _, rfl, ?_⟩
    rw [if_pos rfl, rows_nil]
    rcases list_snoc rows with e | ⟨rs, l, e⟩
    · have e : rows = [] ∧ fillStep w rows t = rows ++ [t] := ⟨e, by rw [e]; rfl⟩
      rw [e.1]
      refine iteF (iteF ?_)
      rw [← e.1]
      replace e := e.2
      refine ⟨_, rfl, .inl ⟨rfl, _, SqL.of h3⟩, _, rfl, _, _, _, rfl, rfl, h3, ?_, ?_⟩
      · unfold rowsV
        rw [List.length_map]
        exact Nat.lt_of_lt_of_le (show _ < 1000 by omega) (small (Nat.le_refl _))
      · refine ⟨⟨_, _, rfl⟩, (s2.trans s3).put hr, ?_⟩
        rw [upd_same, e, rowsV_snoc]
    · have ne : (!rows.isEmpty) = true := by rw [e]; simp
      rw [ne]
      refine iteT ?_
      have ll := fs1 l (by rw [e]; simp)
      have h4 := h3
      rw [e, rowsV_snoc] at h4
      refine ⟨_, rfl, _, rfl, _, _, _, _, rfl, rfl, SqL.of h4, at_last _ _, _, rfl, (by rw [tx_len]; exact small (by omega)), _, _, rfl, rfl, _, rfl, _, rfl, (by rw [tx_len]; exact small (by omega)), _, _, rfl, rfl, _, rfl, _, _, _, _, rfl, rfl, s3.tup (s2.tup hf), rfl, _, _, rfl, rfl, _, rfl, ?_⟩
      rw [tx_len, tx_len]
      refine ite2 (fun c => ?_) (fun c => ?_)
      · have c1 : (l.length : Int) + 1 + t.length ≤ w := of_decide_eq_true c
        have w2 := fo.w2
        rw [e, fillStep_snoc, if_pos c1]
        refine ⟨_, rfl, _, rfl, _, _, _, _, rfl, rfl, SqL.of h4, at_last _ _, _, _, rfl, rfl, (by rw [tx_len, cbl, tx_len]; exact small (by simp; omega)), _, rfl, _, _, rfl, rfl, ?_, _, rfl, _, rfl, _, _, _, _, rfl, rfl, h4, ix_last _ (by simp), ?_⟩
        · rw [cbl, tx_app, tx_len, tx_len]
          exact small (by simp; omega)
        · rw [set_last, cbl, tx_app, tx_app]
          refine ⟨⟨_, _, rfl⟩, (s2.trans s3).put hr, ?_⟩
          rw [upd_same, rowsV_snoc, List.append_assoc]
          rfl
      · have c1 : ¬ (l.length : Int) + 1 + t.length ≤ w := fun z => c (decide_eq_true z)
        have e : fillStep w rows t = rows ++ [t] := by rw [e, fillStep_snoc, if_neg c1]
        refine ⟨_, rfl, .inl ⟨rfl, _, SqL.of h3⟩, _, rfl, _, _, _, rfl, rfl, h3, ?_, ?_⟩
        · unfold rowsV
          rw [List.length_map]
          exact Nat.lt_of_lt_of_le (show _ < 1000 by omega) (small (Nat.le_refl _))
        · refine ⟨⟨_, _, rfl⟩, (s2.trans s3).put hr, ?_⟩
          rw [upd_same, e, rowsV_snoc]
  · rintro σ H2 ⟨⟨v1, v2, rfl⟩, s2, h2⟩
    rw [List.length_map, hb.1, List.take_length] at h2
    exact ⟨_, rfl, q _ _ s2 hr h2⟩
theorem SaysA.snoc {K : PySem.W.Frag} {H : Hp} {bs : List Addr} {ss : List Say} {b : Addr} {s : Say} (h : SaysA K H bs ss) (hx : SqT K H b (sayV s)) : SaysA K H (bs ++ [b]) (ss ++ [s]) := h.app (SaysA.one hx)
theorem sc_law : FnScope ["script", "form", "cells", "places", "foot", "number", "handed", "found", "good"] ["script"] (defScope s_law) := ⟨rfl, rfl, rfl, by decide +kernel, rfl, by decide +kernel, by decide +kernel⟩
theorem ok_law (T : Txt P w K mg a) : FnOk P w K mg base CX0 4 a.f_law a.fd_law ["script"] (sp_law K) := by
  have g_l_cell_at := ok_l_cell_at (P := P) (w := w) (base := base) T
  have d_l_cell_at := T.d_l_cell_at
  have g_l_filled := ok_l_filled (P := P) (w := w) (base := base) T
  have d_l_filled := T.d_l_filled
  have g_l_form := ok_l_form (P := P) (w := w) (base := base) T
  have d_l_form := T.d_l_form
  have g_l_mixed := ok_l_mixed (P := P) (w := w) (base := base) T
  have d_l_mixed := T.d_l_mixed
  have g_l_place := ok_l_place (P := P) (w := w) (base := base) T
  have d_l_place := T.d_l_place
  have g_l_said_by := ok_l_said_by (P := P) (w := w) (base := base) T
  have d_l_said_by := T.d_l_said_by
  have g_l_saying := ok_l_saying (P := P) (w := w) (base := base) T
  have d_l_saying := T.d_l_saying
  have g_foot_rows := ok_foot_rows (P := P) (w := w) (base := base) T
  have d_foot_rows := T.d_foot_rows
  have z_isinstance := T.z_isinstance
  have z_len := T.z_len
  have z_list := T.z_list
  refine T.d_law.fn.ok sc_law (fun vs H Q E h => ?_) (fun cdv A outer s H vs Q E hr h => ?_)
  · obtain ⟨a, ns, rfl, _⟩ := h
    rfl
  obtain ⟨sa, ns, rfl, hS, h63, q⟩ := h
  have hu := Nat.lt_of_succ_lt (hu_of hr)
  refine ⟨_, (pss_cons (ps_set (i := 1) sc_law.nd rfl (Or.inr rfl) (pe_callD d_l_form g_l_form (hr.mono (by decide)) rfl (pa_cons (pv 0) pa_nil)))
      (pss_cons (ps_set (i := 2) sc_law.nd rfl (Or.inr rfl) (pe_slice sl_list (pe_op op_catS (pv 0) (pe_lst (pa_cons pe_int pa_nil))) po_none (po_some pe_int)))
      (pss_cons (ps_set (i := 3) sc_law.nd rfl (Or.inr rfl) (pe_lc rfl (lcok (caps := ["form"]) (js := [1]) (cap := ⟨⟨rfl, .inl rfl, rfl, .inl rfl⟩, trivial⟩)) (pi_list (pv 2)) (fun _ _ _ _ => pts_nil) (fun _ _ _ _ => (pe_callD d_l_place g_l_place (hr.mono (by decide)) rfl (pa_cons (pv 0) (pa_cons (pe_callD d_l_mixed g_l_mixed (hr.mono (by decide)) rfl (pa_cons (pv 0) pa_nil)) (pa_cons (pe_ix (r := rIxT K) ix_tup (pv 1) pe_int (fun _ _ => rfl)) pa_nil)))))))
      (pss_cons (ps_lc (k := 4) rfl (lcok (caps := ["cells"]) (js := [2]) (cap := ⟨⟨rfl, .inl rfl, rfl, .inl rfl⟩, trivial⟩)) (pi_list (pv 2)) (fun _ _ _ _ => pts_nil) (fun _ _ _ _ => (pe_callD d_l_saying g_l_saying (hr.mono (by decide)) rfl (pa_cons (pe_op op_fdiv (pe_callD d_l_mixed g_l_mixed (hr.mono (by decide)) rfl (pa_cons (pv 0) pa_nil)) pe_int) (pa_cons (pe_callB (r := rLen K) call_len_seq rfl z_len PySem.boot_len (pa_cons (pv 1) pa_nil)) pa_nil)))) sc_law.nd rfl rfl)
      (pss_cons (ps_set (i := 5) sc_law.nd rfl (Or.inl rfl) (pe_callD d_l_mixed g_l_mixed (hr.mono (by decide)) rfl (pa_cons (pe_op op_add (pe_callD d_l_cell_at g_l_cell_at (hr.mono (by decide)) rfl (pa_cons (pv 0) (pa_cons pe_int pa_nil))) pe_int) pa_nil)))
      (pss_cons (ps_if (pt_cmpR op_eq (pe_op op_mod (pv 5) pe_int) pe_int (nomark _)) (pss_one (ps_set (i := 4) sc_law.nd rfl (Or.inl rfl) (pe_slice sl_list (pv 4) po_none (po_some (pe_op op_mod (pe_op op_fdiv (pv 5) pe_int) pe_int))))) pss_nil)
      (pss_cons (ps_set (i := 6) sc_law.nd rfl (Or.inl rfl) (pe_lst (pa_cons (pe_callTy call_list_of rfl z_list PyProof.Rows.boot_list (pa_cons (pv 4) pa_nil)) (pa_cons (pe_callTy call_list_of rfl z_list PyProof.Rows.boot_list (pa_cons (pv 3) pa_nil)) pa_nil))))
      (pss_cons (ps_set (i := 7) sc_law.nd rfl (Or.inl rfl) (pe_callD d_foot_rows g_foot_rows (hr.mono (by decide)) rfl (pa_cons (pv 1) (pa_cons (pe_ix ix_list (pv 6) pe_int (fun _ _ => rfl)) (pa_cons (pe_ix ix_list (pv 6) pe_int (fun _ _ => rfl)) pa_nil)))))
      (pss_cons (ps_if (PW.pt (pw_or (pt_not (pt_val (pe_callB call_isi rfl z_isinstance PyProof.Rows.boot_isinstance (pa_cons (pv 7) (pa_cons (pe_bltn (v := .ty "list") rfl z_list PyProof.Rows.boot_list rfl) pa_nil))) (fun _ => rfl))) (pw_or (pt_cmpR (op_neS hu) (pe_ix ix_list (pv 6) pe_int (fun _ _ => rfl)) (pv 4) (nomark _)) (pw_or1 (pt_cmpR (op_neS hu) (pe_ix ix_list (pv 6) pe_int (fun _ _ => rfl)) (pv 3) (nomark _)))))) (pss_one (ps_ret pe_bl)) pss_nil)
      (pss_cons (ps_set (i := 8) sc_law.nd rfl (Or.inl rfl) (pe_callD d_l_filled g_l_filled (hr.mono (by decide)) rfl (pa_cons (pv 7) (pa_cons (pe_lc rfl (lcok (caps := ["form", "places"]) (js := [1, 3]) (cap := ⟨⟨rfl, .inl rfl, rfl, .inl rfl⟩, ⟨⟨rfl, .inl rfl, rfl, .inl rfl⟩, trivial⟩⟩)) (pi_list (pv 4)) (fun _ _ _ _ => pts_nil) (fun _ _ _ _ => (pe_callD d_l_said_by g_l_said_by (hr.mono (by decide)) rfl (pa_cons (pv 1) (pa_cons (pv 0) (pa_cons (pv 2) pa_nil)))))) (pa_cons (pe_ix ix_tup (pv 1) pe_int (fun _ _ => rfl)) pa_nil)))))
      (pss_cons (ps_expr (pe_bm PySem.F.plainAttrs_list PySem.F.slot_list_append PySem.F.type_list_append mt_append (pv 7) (pa_cons pe_str pa_nil)))
      (pss_one (ps_ret (pe_and (pv 8) (pe_one (pe_cmpR (op_eqS hu) (pe_ix ix_list (pv 6) pe_int (fun _ _ => rfl)) (pv 4) (nomark _))))))))))))))))), ?_⟩
  refine ⟨_, rfl, _, _, rfl, hS, fun fa H1 w h f m s1 hf fo => ?_⟩
  refine ⟨_, rfl, le1, fun p1 hp1 => ?_⟩
  refine ⟨_, _, ns.map V.int, _, rfl, rfl, (s1.trans (same_new hp1 _)).seq hS, SqL.of upd_same, small (by simp; omega), fun p2 hp2 => ?_⟩
  rw [map_snoc]
  refine ⟨_, rfl, _, _, rfl, SqL.of upd_same, fun p3 hp3 => ?_⟩
  rw [cutV_map]
  have ec : cutL (ns ++ [13]) none (some 40) = (ns ++ [13]).take 40 := L2.cut_to _ 40
  rw [ec]
  have n1 : 1 ≤ ((ns ++ [13]).take 40).length := by simp; omega
  have n2 : ((ns ++ [13]).take 40).length ≤ 40 := by simp; omega
  have sS := s1.trans ((same_new hp1 (.lst [V.int 13])).trans ((same_new hp2 (.lst ((ns ++ [13]).map V.int))).trans (same_new hp3 (.lst (((ns ++ [13]).take 40).map V.int)))))
  have hf2 := ((same_new hp1 (.lst [V.int 13])).trans ((same_new hp2 (.lst ((ns ++ [13]).map V.int))).trans (same_new hp3 (.lst (((ns ++ [13]).take 40).map V.int))))).tup hf
  generalize (ns ++ [13]).take 40 = cs at n1 n2 sS hf2 ⊢
  have hc2 : SqL K (upd (upd (upd H1 p1 (.lst [V.int 13])) p2 (.lst ((ns ++ [13]).map V.int))) p3 (.lst (cs.map V.int))) p3 (cs.map V.int) := SqL.of upd_same
  generalize upd (upd (upd H1 p1 (.lst [V.int 13])) p2 (.lst ((ns ++ [13]).map V.int))) p3 (.lst (cs.map V.int)) = H2 at hf2 hc2 sS ⊢
  have hS2 := sS.seq hS
  refine ⟨_, rfl, _, rfl, ⟨_, hc2⟩, lc_list (K := K) (a := p3) (xs := cs.map V.int) (fun i ys H3 => Same H2 H3 ∧ ∃ (as : List Addr) (xs : List (Int × Int)), xs.length = i ∧ ys = as.map V.ref ∧ PlsA K H3 as xs ∧ PlsOk h xs) ⟨Same.refl _, [], [], rfl, rfl, PlsA.nil, fun x hx => by simp at hx⟩ (fun i ys H3 _ h3 => h3.1.seq hc2) ?_ ?_ ?_⟩
  · rintro i ys H3 hi ⟨_, as, xs, hl, rfl, pa, _⟩
    rw [List.length_map, pa.1, hl]
    exact Nat.lt_of_lt_of_le (show i < 1000 by simp at hi; omega) (small (Nat.le_refl _))
  · rintro i y ys H3 hi ⟨s3, as, xs, hl, rfl, pa, po⟩
    obtain ⟨z, rfl, _⟩ := get_int hi
    refine yes_go ?_
    refine ⟨_, rfl, _, rfl, _, rfl, _, rfl, _, _, _, _, rfl, rfl, s3.tup hf2, rfl, _, _, _, rfl, fo.h1, fo.h2, fun pa4 H4 x s4 hx ok => ?_⟩
    have b := ok.p2
    exact ⟨s3.trans s4, as ++ [pa4], xs ++ [x], by simp [hl], refs_snoc _ _, (pa.same s4).snoc hx, po.snoc ⟨ok.p1, ok.r1, ok.r2⟩ (by omega)⟩
  rintro ys H3 ⟨s3, as, xs, hl, rfl, pa, po⟩ pp hpp
  rw [List.length_map] at hl
  have s4 := same_new hpp (.lst (as.map V.ref))
  have hp4 : SqL K (upd H3 pp (.lst (as.map V.ref))) pp (as.map V.ref) := SqL.of upd_same
  have pa4 := pa.same s4
  have t4 := s3.trans s4
  generalize upd H3 pp (.lst (as.map V.ref)) = H4 at s4 hp4 pa4 t4 ⊢
  try dsimp only [gName]
  refine ⟨_, rfl, _, rfl, ⟨_, t4.seq hc2⟩, lc_list (K := K) (a := p3) (xs := cs.map V.int) (fun i ys H5 => Same H4 H5 ∧ ∃ (bs : List Addr) (ss : List Say), ss.length = i ∧ ys = bs.map V.ref ∧ SaysA K H5 bs ss ∧ ∀ s ∈ ss, SayOk xs.length s) ⟨Same.refl _, [], [], rfl, rfl, SaysA.nil, fun x hx => by simp at hx⟩ (fun i ys H5 _ h5 => h5.1.seq (t4.seq hc2)) ?_ ?_ ?_⟩
  · rintro i ys H5 hi ⟨_, bs, ss, sl, rfl, sa5, _⟩
    rw [List.length_map, sa5.1, sl]
    exact Nat.lt_of_lt_of_le (show i < 1000 by simp at hi; omega) (small (Nat.le_refl _))
  · rintro i y ys H5 hi ⟨s5, bs, ss, sl, rfl, sa5, so⟩
    obtain ⟨z, rfl, _⟩ := get_int hi
    refine yes_go ?_
    refine ⟨_, rfl, _, rfl, _, _, rfl, rfl, ⟨by decide, by decide⟩, _, rfl, _, _, rfl, .inl (s5.seq (t4.seq hc2)), _, cs.length, (by rw [List.length_map]; rfl), n1, fun q6 H6 sy s6 h6 ok => ?_⟩
    refine ⟨s5.trans s6, bs ++ [q6], ss ++ [sy], by simp [sl], refs_snoc _ _, SaysA.snoc (sa5.same s6) h6, fun s hs => ?_⟩
    rcases List.mem_append.mp hs with hs | hs
    · exact so s hs
    · rw [List.mem_singleton.mp hs, hl]
      exact ok
  rintro ys H5 ⟨s5, bs, ss, sl, rfl, sb, so⟩ pf hpf
  rw [List.length_map] at sl
  have s6 := same_new hpf (.lst (bs.map V.ref))
  have hf6 : SqL K (upd H5 pf (.lst (bs.map V.ref))) pf (bs.map V.ref) := SqL.of upd_same
  have sb6 := sb.same s6
  have t6 := s5.trans s6
  generalize upd H5 pf (.lst (bs.map V.ref)) = H6 at s6 hf6 sb6 t6 ⊢
  have w6 := t4.trans t6
  try dsimp only [gName]
  refine ⟨_, rfl, _, _, 2, rfl, w6.seq hS2, _, _, rfl, rfl, _, rfl, ?_⟩
  try dsimp only [gName]
  generalize hnum : mixed (ns.getD 2 0 + 1) = number
  refine cut_seq (fun σ' H' => Same H6 H' ∧ ∃ (pf : Addr) (bs : List Addr) (ss : List Say), σ' = [some (.ref sa), some (.ref fa), some (.ref p3), some (.ref pp), some (.ref pf), some (.int number), none, none, none] ∧ SqL K H' pf (bs.map V.ref) ∧ SaysA K H' bs ss ∧ (∀ s ∈ ss, SayOk xs.length s) ∧ ss.length ≤ 60) ?_ (fun key => ?_)
  rotate_left
  · refine ⟨_, rfl, _, _, rfl, rfl, (by (first | decide | (show (0 : Int) < _; first | decide | omega))), rfl, _, rfl, ?_⟩
    refine ite2 (fun c => ?_) (fun c => key _ _ ⟨Same.refl _, pf, bs, ss, rfl, hf6, sb6, so, by omega⟩)
    have b1 := Int.emod_nonneg (number / 5) (show (3 : Int) ≠ 0 by decide)
    obtain ⟨k, hk⟩ := Int.eq_ofNat_of_zero_le b1
    refine ⟨_, rfl, _, rfl, _, _, rfl, rfl, ⟨by decide, by decide⟩, _, _, rfl, rfl, (by (first | decide | (show (0 : Int) < _; first | decide | omega))), _, rfl, _, _, rfl, hf6, fun p7 hp7 => ?_⟩
    have e : cutV (bs.map V.ref) none (some (number / 5 % 3)) = (bs.take k).map V.ref := by rw [cutV_map, hk, L2.cut_to]
    have s7 := same_new hp7 (.lst (cutV (bs.map V.ref) none (some (number / 5 % 3))))
    refine key _ _ ⟨s7, p7, bs.take k, ss.take k, rfl, SqL.of (by rw [upd_same, e]), (sb6.take k).same s7, fun s hs => so s (List.mem_of_mem_take hs), by rw [List.length_take]; omega⟩
  clear hf6 sb6 so sl s6 hpf
  rintro σ' H7 ⟨s7, pf, bs, ss, rfl, hf7, sb7, so, s60⟩
  have w7 := t6.trans s7
  refine ⟨_, rfl, _, _, rfl, .inl hf7, fun p4 hp4' => ?_⟩
  have s8 := same_new hp4' (.lst (bs.map V.ref))
  refine ⟨_, rfl, _, _, rfl, .inl ((w7.trans s8).seq hp4), fun p5 hp5 => ?_⟩
  have s9 := same_new hp5 (.lst (as.map V.ref))
  refine ⟨le2, fun p6 hp6 => ?_⟩
  have s10 := same_new hp6 (.lst [V.ref p4, V.ref p5])
  have hh : SqL K (upd (upd (upd H7 p4 (.lst (bs.map V.ref))) p5 (.lst (as.map V.ref))) p6 (.lst [V.ref p4, V.ref p5])) p6 [V.ref p4, V.ref p5] := SqL.of upd_same
  have h4 : SqL K (upd (upd (upd H7 p4 (.lst (bs.map V.ref))) p5 (.lst (as.map V.ref))) p6 (.lst [V.ref p4, V.ref p5])) p4 (bs.map V.ref) := (s9.trans s10).seq (SqL.of upd_same)
  have h5 : SqL K (upd (upd (upd H7 p4 (.lst (bs.map V.ref))) p5 (.lst (as.map V.ref))) p6 (.lst [V.ref p4, V.ref p5])) p5 (as.map V.ref) := s10.seq (SqL.of upd_same)
  have t10 := s8.trans (s9.trans s10)
  generalize upd (upd (upd H7 p4 (.lst (bs.map V.ref))) p5 (.lst (as.map V.ref))) p6 (.lst [V.ref p4, V.ref p5]) = H10 at hh h4 h5 t10 ⊢
  have w10 := w7.trans t10
  have hfoot := t10.seq hf7
  have hpl := w10.seq hp4
  have sb10 := sb7.same t10
  have pa10 := pa4.same w10
  have hf10 := (t4.trans w10).tup hf2
  refine ⟨_, rfl, _, rfl, _, _, _, _, rfl, rfl, hh, rfl, _, rfl, _, _, _, _, rfl, rfl, hh, rfl, fa, p4, p5, w, h, f, m, bs, as, ss, xs, rfl, hf10, h4, sb10, h5, pa10, fo, so, po, s60, fun rr H11 s11 nr h11 => ?_⟩
  refine ⟨_, rfl, _, "list", true, rfl, (by (first | decide | (show (0 : Int) < _; first | decide | omega))), .inl ⟨⟨_, SqL.of h11⟩, rfl⟩, _, rfl, ?_⟩
  refine iteF ?_
  refine ⟨_, rfl, _, _, _, _, rfl, rfl, s11.seq hh, rfl, _, rfl, _, _, _, rfl, rfl, s11.seq h4, s11.seq hfoot, ref_same _, _, rfl, ?_⟩
  refine iteF ?_
  refine ⟨_, rfl, _, _, _, _, rfl, rfl, s11.seq hh, rfl, _, rfl, _, _, _, rfl, rfl, s11.seq h5, s11.seq hpl, ref_same _, _, rfl, ?_⟩
  refine iteF ?_
  dsimp only [tNext]
  have t62 : ∀ t ∈ ss.map (saidL h f xs), t.length ≤ 62 := fun t ht => by
    obtain ⟨s, hs, rfl⟩ := List.mem_map.mp ht
    exact (said_len fo po (so s hs)).2.1
  have free : ∀ t ∈ ss.map (saidL h f xs), 32 ∉ t := fun t ht => by
    obtain ⟨s, hs, rfl⟩ := List.mem_map.mp ht
    exact said_free (w := w) (m := m) (so s hs)
  refine ⟨_, rfl, _, rfl, _, rfl, ⟨_, s11.seq hfoot⟩, lc_list (K := K) (a := pf) (xs := bs.map V.ref) (fun i ys H12 => H12 = H11 ∧ ys = rowsV ((ss.take i).map (saidL h f xs))) ⟨rfl, rfl⟩ (fun i ys H12 _ h12 => by rw [h12.1]; exact s11.seq hfoot) ?_ ?_ ?_⟩
  · rintro i ys H12 hi ⟨_, rfl⟩
    rw [rowsV_len, List.length_map, List.length_take]
    exact Nat.lt_of_lt_of_le (show _ < 1000 by omega) (small (Nat.le_refl _))
  · rintro i y ys H12 hi ⟨rfl, rfl⟩
    obtain ⟨b, s, rfl, eb, es⟩ := foot_at sb10.1 hi
    refine yes_go ?_
    refine ⟨_, rfl, _, rfl, _, rfl, fa, b, pp, w, h, f, m, s, as, xs, rfl, s11.tup hf10, s11.tup (sb10.2 i b s eb es), s11.seq hpl, pa10.same s11, fo, so s (List.mem_of_getElem? es), po, rfl, ?_⟩
    rw [take_snoc es, List.map_append, List.map_singleton, rowsV_snoc]
  rintro ys H12 ⟨rfl, rfl⟩ du hdu
  rw [List.length_map, sb10.1, List.take_length]
  have s12 := same_new hdu (.lst (rowsV (ss.map (saidL h f xs))))
  refine ⟨_, rfl, _, _, _, _, rfl, rfl, (s11.trans s12).tup hf10, rfl, rr, du, w, ss.map (saidL h f xs), rfl, SqL.of (s12 _ _ h11), SqL.of upd_same, fo.w2, by rw [List.length_map]; exact s60, t62, free, fun H13 s13 => ?_⟩
  have h13 := (s12.trans s13) _ _ h11
  have u13 := s11.trans (s12.trans s13)
  have fsl := (fill_small fo.w2 (ss.map (saidL h f xs)) t62).2
  rw [List.length_map] at fsl
  refine ⟨_, rfl, .inl ⟨rfl, _, SqL.of h13⟩, _, _, _, rfl, rfl, h13, ?_, ?_⟩
  · rw [rowsV_len]
    exact small1000 (by omega)
  have xH : SameX rr H13 (upd H13 rr (.lst (rowsV (fillW w (ss.map (saidL h f xs))) ++ [V.str (PySem.Str.ofString "-")]))) := (SameX.refl _ _).put
  have nn : ∀ {a : Addr} {zs : List V}, SqL K H10 a zs → SqL K (upd H13 rr (.lst (rowsV (fillW w (ss.map (saidL h f xs))) ++ [V.str (PySem.Str.ofString "-")]))) a zs := fun {a zs} ha => by
    by_cases e : a = rr
    · subst e
      rcases ha with (h1 | ⟨o, h1⟩) | h1
      · exact absurd (h1.symm.trans nr) (Option.some_ne_none _)
      · exact absurd (h1.symm.trans nr) (Option.some_ne_none _)
      · exact .inr h1
    · exact xH.seq e (u13.seq ha)
  refine ⟨_, rfl, _, rfl, ?_⟩
  refine iteT ?_
  exact ⟨_, rfl, _, _, _, _, rfl, rfl, nn hh, rfl, _, rfl, _, _, _, rfl, rfl, nn h4, nn hfoot, ref_same _, q _⟩
end
theorem us1 {us : List Value} (h : us.length = 1) : ∃ a0, us = [a0] := by
  match us, h with
  | [a0], _ => exact ⟨a0, rfl⟩
theorem us2 {us : List Value} (h : us.length = 2) : ∃ a0 a1, us = [a0, a1] := by
  match us, h with
  | [a0, a1], _ => exact ⟨a0, a1, rfl⟩
theorem us3 {us : List Value} (h : us.length = 3) : ∃ a0 a1 a2, us = [a0, a1, a2] := by
  match us, h with
  | [a0, a1, a2], _ => exact ⟨a0, a1, a2, rfl⟩
theorem txt_mk {P : Program} {w : World} {K : PySem.W.Frag} {h : Heap} {mg : Str → Option Value} (X : K.In h) (G : h.Ns mainGlobals mg)
    {od0 an0 : Option Addr} {sl0 : Array (Option Value)} {oc0 kV0 dc0 pm0 cd0 ct0 : Value} {f0 : Addr}
    (a0 : PySem.W.nsIn K mainGlobals "_law_cell_at" = some (some (.ref f0))) (l0 : K.lookup f0 = some ⟨oc0, od0, .func (PySem.W.fnOf "_law_cell_at" "_law_cell_at" (defArgs s_l_cell_at) (defBody s_l_cell_at) (defScope s_l_cell_at) .none kV0 dc0 pm0 an0 cd0 ct0), sl0⟩) (c0 : PySem.W.codeIn K cd0 "_law_cell_at" = true) (k0 : PySem.W.keepIn K (.ref f0) = true)
    {od1 an1 : Option Addr} {sl1 : Array (Option Value)} {oc1 kV1 dc1 pm1 cd1 ct1 : Value} {f1 : Addr}
    (a1 : PySem.W.nsIn K mainGlobals "_law_filled" = some (some (.ref f1))) (l1 : K.lookup f1 = some ⟨oc1, od1, .func (PySem.W.fnOf "_law_filled" "_law_filled" (defArgs s_l_filled) (defBody s_l_filled) (defScope s_l_filled) .none kV1 dc1 pm1 an1 cd1 ct1), sl1⟩) (c1 : PySem.W.codeIn K cd1 "_law_filled" = true) (k1 : PySem.W.keepIn K (.ref f1) = true)
    {od2 an2 : Option Addr} {sl2 : Array (Option Value)} {oc2 kV2 dc2 pm2 cd2 ct2 : Value} {f2 : Addr}
    (a2 : PySem.W.nsIn K mainGlobals "_law_first" = some (some (.ref f2))) (l2 : K.lookup f2 = some ⟨oc2, od2, .func (PySem.W.fnOf "_law_first" "_law_first" (defArgs s_l_first) (defBody s_l_first) (defScope s_l_first) .none kV2 dc2 pm2 an2 cd2 ct2), sl2⟩) (c2 : PySem.W.codeIn K cd2 "_law_first" = true) (k2 : PySem.W.keepIn K (.ref f2) = true)
    {od3 an3 : Option Addr} {sl3 : Array (Option Value)} {oc3 kV3 dc3 pm3 cd3 ct3 : Value} {f3 : Addr}
    (a3 : PySem.W.nsIn K mainGlobals "_law_mixed" = some (some (.ref f3))) (l3 : K.lookup f3 = some ⟨oc3, od3, .func (PySem.W.fnOf "_law_mixed" "_law_mixed" (defArgs s_l_mixed) (defBody s_l_mixed) (defScope s_l_mixed) .none kV3 dc3 pm3 an3 cd3 ct3), sl3⟩) (c3 : PySem.W.codeIn K cd3 "_law_mixed" = true) (k3 : PySem.W.keepIn K (.ref f3) = true)
    {od4 an4 : Option Addr} {sl4 : Array (Option Value)} {oc4 kV4 dc4 pm4 cd4 ct4 : Value} {f4 : Addr}
    (a4 : PySem.W.nsIn K mainGlobals "_law_form" = some (some (.ref f4))) (l4 : K.lookup f4 = some ⟨oc4, od4, .func (PySem.W.fnOf "_law_form" "_law_form" (defArgs s_l_form) (defBody s_l_form) (defScope s_l_form) .none kV4 dc4 pm4 an4 cd4 ct4), sl4⟩) (c4 : PySem.W.codeIn K cd4 "_law_form" = true) (k4 : PySem.W.keepIn K (.ref f4) = true)
    {od5 an5 : Option Addr} {sl5 : Array (Option Value)} {oc5 kV5 dc5 pm5 cd5 ct5 : Value} {f5 : Addr}
    (a5 : PySem.W.nsIn K mainGlobals "_law_place" = some (some (.ref f5))) (l5 : K.lookup f5 = some ⟨oc5, od5, .func (PySem.W.fnOf "_law_place" "_law_place" (defArgs s_l_place) (defBody s_l_place) (defScope s_l_place) .none kV5 dc5 pm5 an5 cd5 ct5), sl5⟩) (c5 : PySem.W.codeIn K cd5 "_law_place" = true) (k5 : PySem.W.keepIn K (.ref f5) = true)
    {od6 an6 : Option Addr} {sl6 : Array (Option Value)} {oc6 kV6 dc6 pm6 cd6 ct6 : Value} {f6 : Addr}
    (a6 : PySem.W.nsIn K mainGlobals "_law_said_by" = some (some (.ref f6))) (l6 : K.lookup f6 = some ⟨oc6, od6, .func (PySem.W.fnOf "_law_said_by" "_law_said_by" (defArgs s_l_said_by) (defBody s_l_said_by) (defScope s_l_said_by) .none kV6 dc6 pm6 an6 cd6 ct6), sl6⟩) (c6 : PySem.W.codeIn K cd6 "_law_said_by" = true) (k6 : PySem.W.keepIn K (.ref f6) = true)
    {od7 an7 : Option Addr} {sl7 : Array (Option Value)} {oc7 kV7 dc7 pm7 cd7 ct7 : Value} {f7 : Addr}
    (a7 : PySem.W.nsIn K mainGlobals "_law_signs" = some (some (.ref f7))) (l7 : K.lookup f7 = some ⟨oc7, od7, .func (PySem.W.fnOf "_law_signs" "_law_signs" (defArgs s_l_signs) (defBody s_l_signs) (defScope s_l_signs) .none kV7 dc7 pm7 an7 cd7 ct7), sl7⟩) (c7 : PySem.W.codeIn K cd7 "_law_signs" = true) (k7 : PySem.W.keepIn K (.ref f7) = true)
    {od8 an8 : Option Addr} {sl8 : Array (Option Value)} {oc8 kV8 dc8 pm8 cd8 ct8 : Value} {f8 : Addr}
    (a8 : PySem.W.nsIn K mainGlobals "_law_saying" = some (some (.ref f8))) (l8 : K.lookup f8 = some ⟨oc8, od8, .func (PySem.W.fnOf "_law_saying" "_law_saying" (defArgs s_l_saying) (defBody s_l_saying) (defScope s_l_saying) .none kV8 dc8 pm8 an8 cd8 ct8), sl8⟩) (c8 : PySem.W.codeIn K cd8 "_law_saying" = true) (k8 : PySem.W.keepIn K (.ref f8) = true)
    {od9 an9 : Option Addr} {sl9 : Array (Option Value)} {oc9 kV9 dc9 pm9 cd9 ct9 : Value} {f9 : Addr}
    (a9 : PySem.W.nsIn K mainGlobals "figures_of" = some (some (.ref f9))) (l9 : K.lookup f9 = some ⟨oc9, od9, .func (PySem.W.fnOf "figures_of" "figures_of" (defArgs s_figures_of) (defBody s_figures_of) (defScope s_figures_of) .none kV9 dc9 pm9 an9 cd9 ct9), sl9⟩) (c9 : PySem.W.codeIn K cd9 "figures_of" = true) (k9 : PySem.W.keepIn K (.ref f9) = true)
    {od10 an10 : Option Addr} {sl10 : Array (Option Value)} {oc10 kV10 dc10 pm10 cd10 ct10 : Value} {f10 : Addr}
    (a10 : PySem.W.nsIn K mainGlobals "said" = some (some (.ref f10))) (l10 : K.lookup f10 = some ⟨oc10, od10, .func (PySem.W.fnOf "said" "said" (defArgs s_said) (defBody s_said) (defScope s_said) .none kV10 dc10 pm10 an10 cd10 ct10), sl10⟩) (c10 : PySem.W.codeIn K cd10 "said" = true) (k10 : PySem.W.keepIn K (.ref f10) = true)
    {od11 an11 : Option Addr} {sl11 : Array (Option Value)} {oc11 kV11 dc11 pm11 cd11 ct11 : Value} {f11 : Addr}
    (a11 : PySem.W.nsIn K mainGlobals "foot_rows" = some (some (.ref f11))) (l11 : K.lookup f11 = some ⟨oc11, od11, .func (PySem.W.fnOf "foot_rows" "foot_rows" (defArgs s_foot_rows) (defBody s_foot_rows) (defScope s_foot_rows) .none kV11 dc11 pm11 an11 cd11 ct11), sl11⟩) (c11 : PySem.W.codeIn K cd11 "foot_rows" = true) (k11 : PySem.W.keepIn K (.ref f11) = true)
    {od12 an12 : Option Addr} {sl12 : Array (Option Value)} {oc12 kV12 dc12 pm12 cd12 ct12 : Value} {f12 : Addr}
    (a12 : PySem.W.nsIn K mainGlobals "law" = some (some (.ref f12))) (l12 : K.lookup f12 = some ⟨oc12, od12, .func (PySem.W.fnOf "law" "law" (defArgs s_law) (defBody s_law) (defScope s_law) .none kV12 dc12 pm12 an12 cd12 ct12), sl12⟩) (c12 : PySem.W.codeIn K cd12 "law" = true) (k12 : PySem.W.keepIn K (.ref f12) = true)
    (z_int : PySem.W.nsIn K mainGlobals "int" = some none)
    (z_isinstance : PySem.W.nsIn K mainGlobals "isinstance" = some none)
    (z_len : PySem.W.nsIn K mainGlobals "len" = some none)
    (z_list : PySem.W.nsIn K mainGlobals "list" = some none)
    (z_max : PySem.W.nsIn K mainGlobals "max" = some none)
    (z_min : PySem.W.nsIn K mainGlobals "min" = some none)
    (z_range : PySem.W.nsIn K mainGlobals "range" = some none)
    (z_str : PySem.W.nsIn K mainGlobals "str" = some none)
    (z_zip : PySem.W.nsIn K mainGlobals "zip" = some none) :
    ∃ a : Adr, Txt P w K mg a := by
  refine ⟨{ f_l_cell_at := f0, fd_l_cell_at := PySem.W.fnOf "_law_cell_at" "_law_cell_at" (defArgs s_l_cell_at) (defBody s_l_cell_at) (defScope s_l_cell_at) .none kV0 dc0 pm0 an0 cd0 ct0, f_l_filled := f1, fd_l_filled := PySem.W.fnOf "_law_filled" "_law_filled" (defArgs s_l_filled) (defBody s_l_filled) (defScope s_l_filled) .none kV1 dc1 pm1 an1 cd1 ct1, f_l_first := f2, fd_l_first := PySem.W.fnOf "_law_first" "_law_first" (defArgs s_l_first) (defBody s_l_first) (defScope s_l_first) .none kV2 dc2 pm2 an2 cd2 ct2, f_l_mixed := f3, fd_l_mixed := PySem.W.fnOf "_law_mixed" "_law_mixed" (defArgs s_l_mixed) (defBody s_l_mixed) (defScope s_l_mixed) .none kV3 dc3 pm3 an3 cd3 ct3, f_l_form := f4, fd_l_form := PySem.W.fnOf "_law_form" "_law_form" (defArgs s_l_form) (defBody s_l_form) (defScope s_l_form) .none kV4 dc4 pm4 an4 cd4 ct4, f_l_place := f5, fd_l_place := PySem.W.fnOf "_law_place" "_law_place" (defArgs s_l_place) (defBody s_l_place) (defScope s_l_place) .none kV5 dc5 pm5 an5 cd5 ct5, f_l_said_by := f6, fd_l_said_by := PySem.W.fnOf "_law_said_by" "_law_said_by" (defArgs s_l_said_by) (defBody s_l_said_by) (defScope s_l_said_by) .none kV6 dc6 pm6 an6 cd6 ct6, f_l_signs := f7, fd_l_signs := PySem.W.fnOf "_law_signs" "_law_signs" (defArgs s_l_signs) (defBody s_l_signs) (defScope s_l_signs) .none kV7 dc7 pm7 an7 cd7 ct7, f_l_saying := f8, fd_l_saying := PySem.W.fnOf "_law_saying" "_law_saying" (defArgs s_l_saying) (defBody s_l_saying) (defScope s_l_saying) .none kV8 dc8 pm8 an8 cd8 ct8, f_figures_of := f9, fd_figures_of := PySem.W.fnOf "figures_of" "figures_of" (defArgs s_figures_of) (defBody s_figures_of) (defScope s_figures_of) .none kV9 dc9 pm9 an9 cd9 ct9, f_said := f10, fd_said := PySem.W.fnOf "said" "said" (defArgs s_said) (defBody s_said) (defScope s_said) .none kV10 dc10 pm10 an10 cd10 ct10, f_foot_rows := f11, fd_foot_rows := PySem.W.fnOf "foot_rows" "foot_rows" (defArgs s_foot_rows) (defBody s_foot_rows) (defScope s_foot_rows) .none kV11 dc11 pm11 an11 cd11 ct11, f_law := f12, fd_law := PySem.W.fnOf "law" "law" (defArgs s_law) (defBody s_law) (defScope s_law) .none kV12 dc12 pm12 an12 cd12 ct12 }, {
    d_l_cell_at := defok_mk X G a0 l0 c0 k0 fun _ _ _ _ _ _ us hl => by obtain ⟨_, ⟨_, rfl⟩⟩ := us2 hl; rfl,
    d_l_filled := defok_mk X G a1 l1 c1 k1 fun _ _ _ _ _ _ us hl => by obtain ⟨_, ⟨_, ⟨_, rfl⟩⟩⟩ := us3 hl; rfl,
    d_l_first := defok_mk X G a2 l2 c2 k2 fun _ _ _ _ _ _ us hl => by obtain ⟨_, rfl⟩ := us1 hl; rfl,
    d_l_mixed := defok_mk X G a3 l3 c3 k3 fun _ _ _ _ _ _ us hl => by obtain ⟨_, rfl⟩ := us1 hl; rfl,
    d_l_form := defok_mk X G a4 l4 c4 k4 fun _ _ _ _ _ _ us hl => by obtain ⟨_, rfl⟩ := us1 hl; rfl,
    d_l_place := defok_mk X G a5 l5 c5 k5 fun _ _ _ _ _ _ us hl => by obtain ⟨_, ⟨_, ⟨_, rfl⟩⟩⟩ := us3 hl; rfl,
    d_l_said_by := defok_mk X G a6 l6 c6 k6 fun _ _ _ _ _ _ us hl => by obtain ⟨_, ⟨_, ⟨_, rfl⟩⟩⟩ := us3 hl; rfl,
    d_l_signs := defok_mk X G a7 l7 c7 k7 fun _ _ _ _ _ _ us hl => by obtain ⟨_, ⟨_, rfl⟩⟩ := us2 hl; rfl,
    d_l_saying := defok_mk X G a8 l8 c8 k8 fun _ _ _ _ _ _ us hl => by obtain ⟨_, ⟨_, rfl⟩⟩ := us2 hl; rfl,
    d_figures_of := defok_mk X G a9 l9 c9 k9 fun _ _ _ _ _ _ us hl => by obtain ⟨_, rfl⟩ := us1 hl; rfl,
    d_said := defok_mk X G a10 l10 c10 k10 fun _ _ _ _ _ _ us hl => by obtain ⟨_, ⟨_, ⟨_, rfl⟩⟩⟩ := us3 hl; rfl,
    d_foot_rows := defok_mk X G a11 l11 c11 k11 fun _ _ _ _ _ _ us hl => by obtain ⟨_, ⟨_, ⟨_, rfl⟩⟩⟩ := us3 hl; rfl,
    d_law := defok_mk X G a12 l12 c12 k12 fun _ _ _ _ _ _ us hl => by obtain ⟨_, rfl⟩ := us1 hl; rfl,
    z_int := PySem.W.mg_none_of X G z_int,
    z_isinstance := PySem.W.mg_none_of X G z_isinstance,
    z_len := PySem.W.mg_none_of X G z_len,
    z_list := PySem.W.mg_none_of X G z_list,
    z_max := PySem.W.mg_none_of X G z_max,
    z_min := PySem.W.mg_none_of X G z_min,
    z_range := PySem.W.mg_none_of X G z_range,
    z_str := PySem.W.mg_none_of X G z_str,
    z_zip := PySem.W.mg_none_of X G z_zip }⟩
theorem walk {l : PySem.W.OpenLaw} {q : Program} {loose : List Str} {XP : (Str → Option Value) → Heap → Prop} {YP : World → Heap → Prop} {d : DefRec} {K : Params → PySem.W.Frag} (hn : l.most = some 63) (hdf : d.params.defaults = []) (hnm : d.name = "law")
    (hY : ∀ (w : World) (h : Heap), YP w h → (K w.params).In h)
    (F : ∀ (w : World) (mg : Str → Option Value) (h : Heap), (K w.params).In h → h.Ns mainGlobals mg → ∃ a : Adr, Txt l.prog w (K w.params) mg a) :
    PySem.W.WalkO q loose XP YP l.row.toRowW d [] (fun f vs => PySem.call f vs) :=
  L2.walk_of (n := 63) (k := 4) (x := "script") (CX := fun _ => CX0) (sp := fun w => sp_law (K w.params)) hn (by decide) hdf ⟨rfl, by decide, by decide⟩ hY (fun w mg fa h KX G hmg => by
    obtain ⟨a, T⟩ := F w mg h KX G
    have e0 := hmg.symm.trans (hnm ▸ T.d_law.mg)
    cases e0
    refine ⟨a.fd_law, fun s u => .of_eq (T.d_law.ba [u] rfl), fun base _ _ => ok_law T⟩) (fun _ _ a ns hl _ hS => ⟨a, ns, rfl, hS, hl, fun _ => rfl⟩) fun _ _ _ _ _ z => z
end K25
open PySem PySem.W PyProof.Rows
set_option maxRecDepth 100000 in
set_option maxHeartbeats 0 in
theorem PySem.Challenge.cw_trueleaf_k25_foot_rows_holds : PySem.Challenge.rw_trueleaf_k25_foot_rows.Holds := by
  w_on; o_law; k_head; (case hw => w_witness2)
  k_fill
  refine K25.walk (l := PySem.Challenge.rw_trueleaf_k25_foot_rows) rfl rfl rfl (fun w h Y => PySem.W.kIn_of Y) ?F
  case F =>
    intro w mg h KX G
    refine' K25.txt_mk KX G ?a0 ?l0 ?c0 ?k0 ?a1 ?l1 ?c1 ?k1 ?a2 ?l2 ?c2 ?k2 ?a3 ?l3 ?c3 ?k3 ?a4 ?l4 ?c4 ?k4 ?a5 ?l5 ?c5 ?k5 ?a6 ?l6 ?c6 ?k6 ?a7 ?l7 ?c7 ?k7 ?a8 ?l8 ?c8 ?k8 ?a9 ?l9 ?c9 ?k9 ?a10 ?l10 ?c10 ?k10 ?a11 ?l11 ?c11 ?k11 ?a12 ?l12 ?c12 ?k12 ?z_int ?z_isinstance ?z_len ?z_list ?z_max ?z_min ?z_range ?z_str ?z_zip
    (case a0 => k_is)
    (case l0 => k_is)
    (case c0 => k_is)
    (case k0 => k_is)
    (case a1 => k_is)
    (case l1 => k_is)
    (case c1 => k_is)
    (case k1 => k_is)
    (case a2 => k_is)
    (case l2 => k_is)
    (case c2 => k_is)
    (case k2 => k_is)
    (case a3 => k_is)
    (case l3 => k_is)
    (case c3 => k_is)
    (case k3 => k_is)
    (case a4 => k_is)
    (case l4 => k_is)
    (case c4 => k_is)
    (case k4 => k_is)
    (case a5 => k_is)
    (case l5 => k_is)
    (case c5 => k_is)
    (case k5 => k_is)
    (case a6 => k_is)
    (case l6 => k_is)
    (case c6 => k_is)
    (case k6 => k_is)
    (case a7 => k_is)
    (case l7 => k_is)
    (case c7 => k_is)
    (case k7 => k_is)
    (case a8 => k_is)
    (case l8 => k_is)
    (case c8 => k_is)
    (case k8 => k_is)
    (case a9 => k_is)
    (case l9 => k_is)
    (case c9 => k_is)
    (case k9 => k_is)
    (case a10 => k_is)
    (case l10 => k_is)
    (case c10 => k_is)
    (case k10 => k_is)
    (case a11 => k_is)
    (case l11 => k_is)
    (case c11 => k_is)
    (case k11 => k_is)
    (case a12 => k_is)
    (case l12 => k_is)
    (case c12 => k_is)
    (case k12 => k_is)
    (case z_int => k_is)
    (case z_isinstance => k_is)
    (case z_len => k_is)
    (case z_list => k_is)
    (case z_max => k_is)
    (case z_min => k_is)
    (case z_range => k_is)
    (case z_str => k_is)
    (case z_zip => k_is)
