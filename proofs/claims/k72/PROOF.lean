import PyProof.Rows.All
import Wide.All
import OpenK.AllK
import Wide.FinOn
import Lean
import PyProof.EqAt
import PyProof.EqKinds
import PyProof.TupleCall
import PyProof.NeKinds
import KE.LcSums
import PyProof.ExcBaseAll.ValueError
import KE.KTryMore
import KE.RegKTryMore
import PyProof.StrLawsRepr
import PyProof.ReprStr
import PyProof.EnumMake
import PyProof.EnumFor
import KE.KEqDict
import PyProof.Rows.Range3
import PyProof.SumWalkG
import PyProof.ZipIter
import KE.KDictOf
import PyProof.IsiH_list
import PyProof.RaisesAny
import PyProof.SumWalkG
import PySem.Challenge.RW_trueleaf_k72_exchanges
set_option Elab.async false
set_option linter.all false
set_option maxRecDepth 100000
set_option maxHeartbeats 4000000
namespace L2
open PySem
def defArgs (s:Stmt) : Arguments:=match s with
 | .FunctionDef _ a _ _ _ _ _ _ _ _=>a
 | _=>{ posonlyargs:=[],args:=[],vararg:=none,kwonlyargs:=[],kw_defaults:=[],kwarg:=none,defaults:=[] }
def defBody (s:Stmt) : List Stmt:=match s with
 | .FunctionDef _ _ b _ _ _ _ _ _ _=>b
 | _=>[]
def defScope (s:Stmt) : Scope:=match s with
 | .FunctionDef _ _ _ _ _ _ sc _ _ _=>sc
 | _=>{ kind:=.function,names:=[],isGenerator:=false,isCoroutine:=false }

end L2
namespace K72
open PySem PySem.W L2 PyProof.Rows
noncomputable def top (i:Nat) : Stmt:=PySem.Challenge.pw_trueleaf_k72_exchanges.main.body.getD i (.Pass ⟨0,0,0,0⟩)
noncomputable abbrev os (s:String) : Str:=Str.ofString s
noncomputable abbrev kh (P:Params) (s:Str) : Int:=PyData.keyHash P s
noncomputable abbrev cO (n:String) (a b c:Nat) (l1 l2 l5:Int) (r0:Addr) (m:Int) (r1 r2 r3 r4:Addr) (x y:Int) (d:Nat) : Obj:=⟨.type "code",none,.fields #[.str (os n) a,.str (os n) b,.str (os "/claim/cut.py") c,.int l1 0,.int l2 0,.int 0 0,.int 0 0,.int l5 0,.ref r0,.bool true,.int m 0,.ref r1,.none,.ref r2,.ref r3,.ref r4,.int x 0,.int y 0,.str (os "/claim/cut.py") d],#[]⟩
noncomputable abbrev fO (n:String) (i:Nat) (d:Value) (m:String) (k:Nat) (r:Addr) : Obj:=⟨.type "function",none,.func (fnOf (os n) (os n) (defArgs (top i)) (defBody (top i)) (defScope (top i)) d .none .none (.str (os m) k) none (.ref r) .none),#[]⟩
noncomputable def kk:Params→Frag:=fun P=>(nat_lit 2,⟨(.none),none,.dict ([]).toArray 0,#[]⟩) ::
 (nat_lit 3,⟨(.type "dict"),none,.dict (List.toArray (⟨kh P (os "__name__"),(.str (os "__name__") 165),(.str (os "law_trueleaf_k72_exchanges") 218)⟩ :: ⟨kh P (os "__doc__"),(.str (os "__doc__") 166),(.none)⟩ :: ⟨kh P (os "__package__"),(.str (os "__package__") 167),(.none)⟩ :: ⟨kh P (os "__loader__"),(.str (os "__loader__") 168),(.builtin "__main__.__loader__#opaque")⟩ :: ⟨kh P (os "__spec__"),(.str (os "__spec__") 169),(.none)⟩ :: ⟨kh P (os "__annotations__"),(.str (os "__annotations__") 170),(.ref 6)⟩ :: ⟨kh P (os "__builtins__"),(.str (os "__builtins__") 171),(.ref 4)⟩ :: ⟨kh P (os "__file__"),(.str (os "__file__") 173),(.str (os "/claim/cut.py") 172)⟩ :: ⟨kh P (os "__cached__"),(.str (os "__cached__") 174),(.none)⟩ :: ⟨kh P (os "filings_between"),(.str (os "filings_between") 198),(.ref 21)⟩ :: ⟨kh P (os "filed"),(.str (os "filed") 210),(.ref 28)⟩ :: ⟨kh P (os "page_copied"),(.str (os "page_copied") 217),(.ref 35)⟩ :: ⟨kh P (os "_law_cell_at"),(.str (os "_law_cell_at") 227),(.ref 42)⟩ :: ⟨kh P (os "_law_whole"),(.str (os "_law_whole") 234),(.ref 49)⟩ :: ⟨kh P (os "_law_mixed"),(.str (os "_law_mixed") 241),(.ref 56)⟩ :: ⟨kh P (os "_law_first"),(.str (os "_law_first") 250),(.ref 63)⟩ :: ⟨kh P (os "_law_row"),(.str (os "_law_row") 259),(.ref 70)⟩ :: ⟨kh P (os "_law_old"),(.str (os "_law_old") 265),(.ref 75)⟩ :: ⟨kh P (os "_law_new"),(.str (os "_law_new") 280),(.ref 82)⟩ :: ⟨kh P (os "_law_pages_copy"),(.str (os "_law_pages_copy") 286),(.ref 87)⟩ :: ⟨kh P (os "_law_due"),(.str (os "_law_due") 296),(.ref 94)⟩ :: ⟨kh P (os "_law_is_exchange"),(.str (os "_law_is_exchange") 303),(.ref 101)⟩ :: ⟨kh P (os "law"),(.str (os "law") 309),(.ref 106)⟩ :: [])) 23,#[]⟩) ::
 (nat_lit 6,⟨(.type "dict"),none,.dict ([]).toArray 0,#[]⟩) ::
 (nat_lit 20,cO "filings_between" 189 190 191 2 2 3 15 181 16 17 18 19 196 2 197) ::
 (nat_lit 21,fO "filings_between" 1 (.none) "trueleaf.filings" 187 20) ::
 (nat_lit 27,cO "filed" 199 200 201 10 2 3 22 181 23 24 25 26 208 10 209) ::
 (nat_lit 28,fO "filed" 2 (.none) "trueleaf.filings" 187 27) ::
 (nat_lit 34,cO "page_copied" 211 212 213 22 1 3 29 181 30 31 32 33 215 22 216) ::
 (nat_lit 35,fO "page_copied" 3 (.none) "trueleaf.filings" 187 34) ::
 (nat_lit 41,cO "_law_cell_at" 220 221 222 25 2 3 36 181 37 38 39 40 225 25 226) ::
 (nat_lit 42,fO "_law_cell_at" 5 (.none) "law_trueleaf_k72_exchanges" 218 41) ::
 (nat_lit 48,cO "_law_whole" 228 229 230 29 1 3 43 181 44 45 46 47 232 29 233) ::
 (nat_lit 49,fO "_law_whole" 6 (.none) "law_trueleaf_k72_exchanges" 218 48) ::
 (nat_lit 55,cO "_law_mixed" 235 236 237 31 1 3 50 181 51 52 53 54 239 31 240) ::
 (nat_lit 56,fO "_law_mixed" 7 (.none) "law_trueleaf_k72_exchanges" 218 55) ::
 (nat_lit 62,cO "_law_first" 242 243 244 33 1 3 57 181 58 59 60 61 248 33 249) ::
 (nat_lit 63,fO "_law_first" 8 (.none) "law_trueleaf_k72_exchanges" 218 62) ::
 (nat_lit 69,cO "_law_row" 251 252 253 43 1 3 64 181 65 66 67 68 257 43 258) ::
 (nat_lit 70,fO "_law_row" 9 (.none) "law_trueleaf_k72_exchanges" 218 69) ::
 (nat_lit 74,⟨(.type "code"),none,(.fields #[.str (os "_law_old") 260,.str (os "_law_old") 261,.str (os "/claim/cut.py") 262,.int 49 0,.int 1 0,.int 0 0,.int 0 0,.int 3 0,.ref 71,.bool true,.int 181 0,.ref 72,.none,.none,.none,.ref 73,.int 263 0,.int 49 0,.str (os "/claim/cut.py") 264]),#[]⟩) ::
 (nat_lit 75,fO "_law_old" 10 (.none) "law_trueleaf_k72_exchanges" 218 74) ::
 (nat_lit 81,cO "_law_new" 266 267 268 57 2 3 76 181 77 78 79 80 278 57 279) ::
 (nat_lit 82,fO "_law_new" 11 (.none) "law_trueleaf_k72_exchanges" 218 81) ::
 (nat_lit 86,⟨(.type "code"),none,(.fields #[.str (os "_law_pages_copy") 281,.str (os "_law_pages_copy") 282,.str (os "/claim/cut.py") 283,.int 73 0,.int 1 0,.int 0 0,.int 0 0,.int 3 0,.ref 83,.bool true,.int 181 0,.ref 84,.none,.none,.none,.ref 85,.int 284 0,.int 73 0,.str (os "/claim/cut.py") 285]),#[]⟩) ::
 (nat_lit 87,fO "_law_pages_copy" 12 (.none) "law_trueleaf_k72_exchanges" 218 86) ::
 (nat_lit 93,cO "_law_due" 287 288 289 75 2 3 88 181 89 90 91 92 294 75 295) ::
 (nat_lit 94,fO "_law_due" 13 (.none) "law_trueleaf_k72_exchanges" 218 93) ::
 (nat_lit 100,cO "_law_is_exchange" 297 298 299 83 1 3 95 181 96 97 98 99 301 83 302) ::
 (nat_lit 101,fO "_law_is_exchange" 14 (.none) "law_trueleaf_k72_exchanges" 218 100) ::
 (nat_lit 105,⟨(.type "code"),none,(.fields #[.str (os "law") 304,.str (os "law") 305,.str (os "/claim/cut.py") 306,.int 91 0,.int 1 0,.int 0 0,.int 0 0,.int 3 0,.ref 102,.bool true,.int 181 0,.ref 103,.none,.none,.none,.ref 104,.int 307 0,.int 91 0,.str (os "/claim/cut.py") 308]),#[]⟩) ::
 (nat_lit 106,fO "law" 15 (.none) "law_trueleaf_k72_exchanges" 218 105) :: []
noncomputable def vw:Program:={ PySem.Challenge.pw_trueleaf_k72_exchanges with main:={ PySem.Challenge.pw_trueleaf_k72_exchanges.main with body:=top 1 :: top 2 :: top 3 :: top 5 :: top 6 :: top 7 :: top 8 :: top 9 :: top 10 :: top 11 :: top 12 :: top 13 :: top 14 :: top 15 :: [] } }
noncomputable abbrev ls:List Str:=[]
noncomputable abbrev hk:Hook:=kHook kk (nat_lit 2 :: nat_lit 3 :: nat_lit 6 :: nat_lit 20 :: nat_lit 21 :: nat_lit 27 :: nat_lit 28 :: nat_lit 34 :: nat_lit 35 :: nat_lit 41 :: nat_lit 42 :: nat_lit 48 :: nat_lit 49 :: nat_lit 55 :: nat_lit 56 :: nat_lit 62 :: nat_lit 63 :: nat_lit 69 :: nat_lit 70 :: nat_lit 74 :: nat_lit 75 :: nat_lit 81 :: nat_lit 82 :: nat_lit 86 :: nat_lit 87 :: nat_lit 93 :: nat_lit 94 :: nat_lit 100 :: nat_lit 101 :: nat_lit 105 :: nat_lit 106 :: []) (fun _=>by kernel_rfl)
noncomputable abbrev rr:RowW:=OpenRow.toRowW (OpenLaw.row PySem.Challenge.rw_trueleaf_k72_exchanges)
noncomputable abbrev xt:Shared→Bool:=fun s=>xlAt vw [] s && recOk (RowW.records rr) s
set_option maxHeartbeats 0 in
theorem left:LeftO PySem.Challenge.pw_trueleaf_k72_exchanges vw ls xt (Hook.obs hk) (Hook.val hk) 1004:=by
 intro w
 kernel_rfl
end K72
set_option maxHeartbeats 4000000
namespace L2
open PySem PySem.Spec PyProof.Rows

abbrev Key:=Sum Int Str
def keyIs:Key→Value→Bool
 | .inl k,v=>Value.isInt k v
 | .inr x,v=>Value.isStrOf x v
def keyH (w:World) : Key→Int
 | .inl k=>hashInt k
 | .inr x=>hashStr w x
theorem keyIs_shape:∀ {k:Key} {v:Value},keyIs k v=true→(∃ i t,k=Sum.inl i∧v=Value.int i t)∨(∃ x t,k=Sum.inr x∧v=Value.str x t)
 | .inl i,v,h=>by
  obtain ⟨t,e⟩:=Value.isInt_shape (k:=i) (v:=v) h
  exact .inl ⟨i,t,rfl,e⟩
 | .inr x,v,h=>by
  obtain ⟨t,e⟩:=Value.isStrOf_shape (x:=x) (v:=v) h
  exact .inr ⟨x,t,rfl,e⟩
theorem keyIs_int (i:Int) (t:Tok) : keyIs (.inl i) (.int i t)=true:=by simp [keyIs,Value.isInt]
theorem keyIs_str (x:Str) (t:Tok) : keyIs (.inr x) (.str x t)=true:=by simp [keyIs,Value.isStrOf]
theorem key_ll (a b:Int) : decide ((Sum.inl a:Key)=Sum.inl b)=(a == b):=by
 by_cases e:a=b
 ·subst e; simp
 ·have h:¬ (Sum.inl a:Key)=Sum.inl b:=fun q=>e (Sum.inl.inj q)
  rw [decide_eq_false h]
  exact (beq_eq_false_iff_ne.mpr e).symm
theorem key_rr (a b:Str) : decide ((Sum.inr a:Key)=Sum.inr b)=decide (a=b):=by
 by_cases e:a=b
 ·subst e; simp
 ·have h:¬ (Sum.inr a:Key)=Sum.inr b:=fun q=>e (Sum.inr.inj q)
  rw [decide_eq_false h,decide_eq_false e]
theorem key_lr (a:Int) (b:Str) : decide ((Sum.inl a:Key)=Sum.inr b)=false:=decide_eq_false (fun q=>nomatch q)
theorem key_rl (a:Str) (b:Int) : decide ((Sum.inr a:Key)=Sum.inl b)=false:=decide_eq_false (fun q=>nomatch q)

def mixKind (prog:Program) (w:World) : PySem.KeyKind prog w Key where
 is:=keyIs
 hash:=keyH w
 inj:=fun v a b ha hb=>by
  rcases keyIs_shape ha with ⟨i,t,rfl,rfl⟩ | ⟨x,t,rfl,rfl⟩
  ·rcases keyIs_shape hb with ⟨j,u,rfl,e⟩ | ⟨y,u,rfl,e⟩
   ·injection e with e1 _; rw [e1]
   ·exact nomatch e
  ·rcases keyIs_shape hb with ⟨j,u,rfl,e⟩ | ⟨y,u,rfl,e⟩
   ·exact nomatch e
   ·injection e with e1 _; rw [e1]
 byValue:=fun k v h=>by
  rcases keyIs_shape h with ⟨i,t,rfl,rfl⟩ | ⟨x,t,rfl,rfl⟩ <;> rfl
 pyHash:=fun hv h=>by
  rcases keyIs_shape hv with ⟨i,t,rfl,rfl⟩ | ⟨x,t,rfl,rfl⟩
  ·exact wpAny_pyHash_int h
  ·exact wpAny_pyHash_str h
 eqBool:=fun hu hv h=>by
  rcases keyIs_shape hu with ⟨i,t,rfl,rfl⟩ | ⟨x,t,rfl,rfl⟩
  ·rcases keyIs_shape hv with ⟨j,u,rfl,rfl⟩ | ⟨y,u,rfl,rfl⟩
   ·rw [key_ll] at h; exact wpAny_eqBool_int h
   ·rw [key_lr] at h; exact SeqAt.EqAt.int_str i t y u _ _ _ _ h
  ·rcases keyIs_shape hv with ⟨j,u,rfl,rfl⟩ | ⟨y,u,rfl,rfl⟩
   ·rw [key_rl] at h; exact SeqAt.EqAt.str_int x t j u _ _ _ _ h
   ·rw [key_rr] at h; exact wpAny_eqBool_str h
 «strs»:=fun k x t v h=>by
  rcases keyIs_shape h with ⟨i,u,rfl,e⟩ | ⟨y,u,rfl,e⟩
  ·exact nomatch e
  ·injection e with e1 _
   subst e1
   cases v <;> rfl

theorem mixKind_int (prog:Program) (w:World) (i:Int) (t:Tok) : (mixKind prog w).is (.inl i) (.int i t)=true:=keyIs_int i t
theorem mixKind_str (prog:Program) (w:World) (x:Str) (t:Tok) : (mixKind prog w).is (.inr x) (.str x t)=true:=keyIs_str x t

inductive V where
 | non | bl (b:Bool) | int (i:Int) | str (x:Str) | byt (b:Array UInt8) | flt (b:UInt64) | ref (a:Addr) | ty (n:String)
 deriving DecidableEq

def RelV:V→Value→Prop
 | .non,u=>u=Value.none
 | .bl b,u=>u=Value.bool b
 | .int i,u=>∃ t,u=Value.int i t
 | .str x,u=>∃ t,u=Value.str x t
 | .byt b,u=>∃ t,u=Value.bytes b t
 | .flt b,u=>∃ t,u=Value.float b t
 | .ref a,u=>u=Value.ref a
 | .ty n,u=>u=Value.type n

abbrev Vals:List V→List Value→Prop:=Paired RelV
theorem Vals.length {xs:List V} {us:List Value} (r:Vals xs us) : xs.length=us.length:=Paired.length r
theorem Vals.get:∀ {xs:List V} {us:List Value} {i:Nat} {x:V},Vals xs us→xs[i]? = some x→∃ u,us[i]? = some u∧RelV x u
 | _,_,_,_,.nil,e=>by simp at e
 | _,_,0,_,.cons r _,e=>by simp at e; subst e; exact ⟨_,rfl,r⟩
 | _,_,i+1,x,.cons _ t,e=>by
  obtain ⟨u,h1,h2⟩:=Vals.get (i:=i) (x:=x) t (by simpa using e)
  exact ⟨u,by simpa using h1,h2⟩
theorem Vals.set {x:V} {u:Value} (r:RelV x u) : ∀ {xs:List V} {us:List Value} (i:Nat),Vals xs us→Vals (xs.set i x) (us.set i u)
 | _,_,_,.nil=>.nil
 | _,_,0,.cons _ t=>.cons r t
 | _,_,i+1,.cons q t=>.cons q (Vals.set r i t)
theorem Vals.append:∀ {xs ys:List V} {us ws:List Value},Vals xs us→Vals ys ws→Vals (xs++ys) (us++ws)
 | _,_,_,_,.nil,s=>s
 | _,_,_,_,.cons r t,s=>.cons r (Vals.append t s)
theorem Vals.take:∀ {xs:List V} {us:List Value} (n:Nat),Vals xs us→Vals (xs.take n) (us.take n)
 | _,_,0,_=>.nil
 | _,_,_+1,.nil=>.nil
 | _,_,n+1,.cons r t=>.cons r (Vals.take n t)
theorem Vals.drop:∀ {xs:List V} {us:List Value} (n:Nat),Vals xs us→Vals (xs.drop n) (us.drop n)
 | _,_,0,r=>r
 | _,_,_+1,.nil=>.nil
 | _,_,n+1,.cons _ t=>Vals.drop n t
def RelO:Option V→Option Value→Prop
 | some v,some u=>RelV v u
 | none,none=>True
 | _,_=>False
def KV {κ:Type} : List (κ × V)→List (κ × Value)→Prop:=Paired fun (p:κ × V) (q:κ × Value)=>p.1=q.1∧RelV p.2 q.2

def kV:Key→V
 | .inl i=>.int i
 | .inr x=>.str x

inductive HO where
  | lst (xs:List V)
  | tup (xs:List V)
  | dK (kvs:List (Key × V)) | dT (kvs:List (List Key × V))
  | set (S:Int→Bool) (n:Nat)
  | ins (C dx:Addr) (fs:List (Str × V))
  | own (x:Addr)
  | xd (fs:List (Str × V))
  | met (f x:Addr)
  | rng (lo hi:Int)
  | frz (o:Obj) (u:HO)
  | tbl (ps:Array Value)
  | ext (φ:Heap→Prop)

abbrev Hp:=Addr→Option HO
def upd (H:Hp) (a:Addr) (o:HO) : Hp:=fun b=>if b=a then some o else H b
theorem upd_same {H:Hp} {a:Addr} {o:HO} : upd H a o a=some o:=by unfold upd; rw [if_pos rfl]
theorem upd_ne {H:Hp} {a b:Addr} {o:HO} (h:b≠a) : upd H a o b=H b:=by unfold upd; rw [if_neg h]
theorem ne_of {H:Hp} {a b:Addr} {o u:HO} (h:H a=some o) (h':H b=some u) (d:o≠u) : a≠b:=by
 intro e; subst e; rw [h] at h'; exact d (Option.some.inj h')
theorem ne_of_none {H:Hp} {a b:Addr} {o:HO} (h:H a=some o) (h':H b=none) : a≠b:=by
 intro e; subst e; rw [h] at h'; cases h'

section
variable (P:Program) (w:World)
def ObjOk (H:Hp) (h:Heap) (a:Addr) : HO→Prop
 | .lst xs=>xs.length≤sizeLine∧∃ (its:List Value) (n:Nat),Vals xs its∧h.get? a=some { cls:=.type "list",data:=.seq its.toArray n }
 | .tup xs=>xs.length≤sizeLine∧∃ its:List Value,Vals xs its∧IsTup h a its.toArray
 | .dK kvs=>kvs.length≤sizeLine∧(a == sysModules)=false∧∃ vs,KV kvs vs∧h.DictOf (mixKind P w) a vs
 | .dT kvs=>kvs.length≤sizeLine∧(a == sysModules)=false∧∃ xs:List (List Key × Addr × Value),
   Paired (fun (p:List Key × V) (q:List Key × Addr × Value)=>p.1=q.1∧H q.2.1=some (.tup (p.1.map kV))∧RelV p.2 q.2.2) kvs xs ∧
   ∃ o es ep,h.get? a=some o∧o.ExactDict∧o.data = .dict es ep∧es.toList=xs.map (entryOfKey (tupleKind (mixKind P w)))∧(xs.map (·.1)).Nodup
 | .set S n=>h.SetOf (intKind P w) a S n
 | .ins C dx fs=>H dx=some (.own a)∧fs.length≤1000∧dx≠a∧h.get? a=some (PySem.W.instObj C dx) ∧
   ∃ mA,h.Ns1 dx mA∧(∀ f,RelO (fs.lookup f) (mA f))∧PySem.Within mA (fs.map (·.1))
 | .own _=>∃ o,h.get? a=some o
 | .xd fs=>∃ mA,h.Ns1 a mA∧∀ f,RelO (fs.lookup f) (mA f)
 | .rng lo hi=>∃ t u v,h.get? a=some { cls:=.type "range",data:=.fields #[.int lo t,.int hi u,.int 1 v] }
 | .frz o u=>h.get? a=some o∧ObjOk H h a u
 | .tbl ps=>h.get? a=some { cls:=.none,data:=.fields ps }
 | .met f x=>h.get? a=some (PySem.W.methodObj (.ref f) (.ref x))
 | .ext φ=>φ h∧(∃ o,h.get? a=some o)∧∀ h1 h2:Heap,φ h1→(∀ o,h1.get? a=some o→h2.get? a=some o)→φ h2
def HOk (H:Hp) (h:Heap) : Prop:=∀ a o,H a=some o→ObjOk P w H h a o
end

section
variable {P:Program} {w:World} {H H':Hp} {h h':Heap} {a:Addr} {o:HO}
theorem ObjOk.lt (x:ObjOk P w H h a o) : a < h.objs.size:=by
 cases o with
 | lst xs=>obtain ⟨_,_,_,_,e⟩:=x; exact Heap.lt_size e
 | tup xs=>obtain ⟨_,_,_,p⟩:=x; exact p.lt
 | dK kvs=>obtain ⟨_,_,_,_,o,_,_,e,_⟩:=x; exact Heap.lt_size e
 | dT kvs=>obtain ⟨_,_,_,_,o,_,_,e,_⟩:=x; exact Heap.lt_size e
 | set S n=>obtain ⟨o,_,_,_,e,_⟩:=x; exact Heap.lt_size e
 | ins C dx fs=>obtain ⟨_,_,_,e,_⟩:=x; exact Heap.lt_size e
 | own y=>obtain ⟨_,e⟩:=x; exact Heap.lt_size e
 | xd fs=>obtain ⟨_,⟨_,_,_,e,_⟩,_⟩:=x; exact Heap.lt_size e
 | rng lo hi=>obtain ⟨_,_,_,e⟩:=x; exact Heap.lt_size e
 | frz ob u=>obtain ⟨e,_⟩:=x; exact Heap.lt_size e
 | tbl ps=>exact Heap.lt_size (show h.get? a=some _ from x)
 | met f y=>exact Heap.lt_size (show h.get? a=some _ from x)
 | ext φ=>obtain ⟨_,⟨_,e⟩,_⟩:=x; exact Heap.lt_size e
theorem Paired.mapP {α β:Type} {F G:α→β→Prop} : ∀ {l₁:List α} {l₂:List β},Paired F l₁ l₂→(∀ a b,F a b→G a b)→Paired G l₁ l₂
 | _,_,.nil,_=>.nil
 | _,_,.cons r t,f=>.cons (f _ _ r) (Paired.mapP t f)
theorem ObjOk.stay (x:ObjOk P w H h a o) (k:∀ b u,(b=a∨H b=some (.own a))→h.get? b=some u→h'.get? b=some u)
  (ho:∀ b,H b=some (.own a)→H' b=some (.own a)) (ht:∀ b xs,H b=some (.tup xs)→H' b=some (.tup xs)) : ObjOk P w H' h' a o:=by
 induction o with
 | lst xs=>obtain ⟨z,its,n,r,e⟩:=x; exact ⟨z,its,n,r,k _ _ (.inl rfl) e⟩
 | tup xs=>obtain ⟨z,its,r,ob,e,c⟩:=x; exact ⟨z,its,r,ob,k _ _ (.inl rfl) e,c⟩
 | dK kvs=>obtain ⟨z,y,vs,r,ob,es,ep,e,c⟩:=x; exact ⟨z,y,vs,r,ob,es,ep,k _ _ (.inl rfl) e,c⟩
 | dT kvs =>
  obtain ⟨z,y,xs,r,ob,es,ep,e,c⟩:=x
  exact ⟨z,y,xs,Paired.mapP r fun p q z=>⟨z.1,ht _ _ z.2.1,z.2.2⟩,ob,es,ep,k _ _ (.inl rfl) e,c⟩
 | set S n=>obtain ⟨ob,es,ep,t,e,c⟩:=x; exact ⟨ob,es,ep,t,k _ _ (.inl rfl) e,c⟩
 | ins C dx fs =>
  obtain ⟨d,z,ne,e,mA,⟨od,es,ep,e2,c⟩,r⟩:=x
  exact ⟨ho _ d,z,ne,k _ _ (.inl rfl) e,mA,⟨od,es,ep,k _ _ (.inr d) e2,c⟩,r⟩
 | own y=>obtain ⟨ob,e⟩:=x; exact ⟨ob,k _ _ (.inl rfl) e⟩
 | xd fs=>obtain ⟨mA,⟨od,es,ep,e,c⟩,r⟩:=x; exact ⟨mA,⟨od,es,ep,k _ _ (.inl rfl) e,c⟩,r⟩
 | rng lo hi=>obtain ⟨t,u,v,e⟩:=x; exact ⟨t,u,v,k _ _ (.inl rfl) e⟩
 | frz ob u ih=>obtain ⟨e,q⟩:=x; exact ⟨k _ _ (.inl rfl) e,ih q⟩
 | tbl ps =>
  have e:h.get? a=some { cls:=.none,data:=.fields ps }:=x
  show h'.get? a=some { cls:=.none,data:=.fields ps }
  exact k a _ (.inl rfl) e
 | met f y =>
  have e:h.get? a=some (PySem.W.methodObj (.ref f) (.ref y)):=x
  show h'.get? a=some (PySem.W.methodObj (.ref f) (.ref y))
  exact k a _ (.inl rfl) e
 | ext φ=>obtain ⟨p,⟨o,e⟩,st⟩:=x; exact ⟨st _ _ p fun o q=>k _ _ (.inl rfl) q,⟨o,k _ _ (.inl rfl) e⟩,st⟩
theorem HOk.lt (x:HOk P w H h) (e:H a=some o) : a < h.objs.size:=(x a o e).lt
theorem HOk.fresh (x:HOk P w H h) (e:h.objs.size≤a) : H a=none:=by
 cases q:H a with
 | none=>rfl
 | some u=>exact absurd (Nat.lt_of_lt_of_le (x.lt q) e) (Nat.lt_irrefl _)
theorem HOk.kept (x:HOk P w H h) (k:∀ b u,h.get? b=some u→h'.get? b=some u) : HOk P w H h':=fun a o e =>
 (x a o e).stay (fun b u _ q=>k b u q) (fun _ q=>q) fun _ _ q=>q
theorem HOk.laid (x:HOk P w H h) (k:∀ b u,h.get? b=some u→h'.get? b=some u) (hp:h.objs.size≤a) (new:ObjOk P w (upd H a o) h' a o) : HOk P w (upd H a o) h':=fun b u e=>by
 have hn:=x.fresh hp
 by_cases hb:b=a
 ·subst hb; rw [upd_same] at e; cases e; exact new
 ·rw [upd_ne hb] at e
  exact (x b u e).stay (fun c v _ q=>k c v q) (fun c q=>by rw [upd_ne (ne_of_none q hn)]; exact q) fun c xs q=>by rw [upd_ne (ne_of_none q hn)]; exact q
end

def Rd (H:Hp) (a:Addr) (u:HO) : Prop:=H a=some u∨∃ o,H a=some (.frz o u)
theorem Rd.of {H:Hp} {a:Addr} {u:HO} (h:H a=some u) : Rd H a u:=.inl h
theorem Rd.ok {P:Program} {w:World} {H:Hp} {h:Heap} {a:Addr} {u:HO} (r:Rd H a u) (x:HOk P w H h) : ObjOk P w H h a u:=by
 rcases r with r | ⟨o,r⟩
 ·exact x a u r
 ·obtain ⟨_,q⟩:=x a _ r
  exact q
def Mut:Option HO→Prop
 | some (.lst _)=>True
 | some (.dK _)=>True
 | some (.dT _)=>True
 | some (.set _ _)=>True
 | some (.ins _ _ _)=>True
 | some (.ext _)=>True
 | _=>False
section
variable {P:Program} {w:World} {H:Hp} {h h':Heap} {x e:Addr} {o':HO}
theorem HOk.write (ok:HOk P w H h) (mu:Mut (H x)) (he:e=x∨H e=some (.own x)) (k:∀ b u,b≠e→h.get? b=some u→h'.get? b=some u) (heo:∃ u,h'.get? e=some u)
  (new:ObjOk P w (upd H x o') h' x o') : HOk P w (upd H x o') h':=fun b u q=>by
 have nown:∀ c y,H c=some (.own y)→c≠x:=fun c y r z=>by subst z; rw [r] at mu; exact mu
 have ntup:∀ c xs,H c=some (.tup xs)→c≠x:=fun c xs r z=>by subst z; rw [r] at mu; exact mu
 by_cases hb:b=x
 ·subst hb; rw [upd_same] at q; cases q; exact new
 ·rw [upd_ne hb] at q
  by_cases hbe:b=e
  ·have q':H b=some (.own x):=by
    rcases he with z | z
    ·exact absurd (hbe.trans z) hb
    ·rw [hbe]; exact z
   rw [q] at q'; cases q'
   obtain ⟨v,hv⟩:=heo
   exact ⟨v,by rw [hbe]; exact hv⟩
  ·refine (ok b u q).stay (fun c v hc r=>k c v ?_ r) (fun c r=>by rw [upd_ne (nown c b r)]; exact r) fun c xs r=>by rw [upd_ne (ntup c xs r)]; exact r
   rcases hc with rfl | hc
   ·exact hbe
   ·rintro rfl
    rcases he with z | z
    ·exact nown c b hc z
    ·rw [hc] at z; cases z; exact hb rfl
end

structure Un (fs ex:List Addr) (H H':Hp) (h h':Heap) : Prop where
 keep:∀ b o,h.get? b=some o→H b=none→b ∉ fs→b ∉ ex→h'.get? b=some o
 slot:∀ b o,h.get? b=some o→H b=none→b ∈ fs→b ∉ ex→∃ sl,h'.get? b=some { o with slots:=sl }
 free:∀ b o,h.get? b=some o→H b=none→b ∉ ex→H' b=none
 there:∀ b o,h.get? b=some o→b ∉ ex→∃ o',h'.get? b=some o'
 tups:∀ b xs,H b=some (.tup xs)→H' b=some (.tup xs)
 frzs:∀ b o u,H b=some (.frz o u)→H' b=some (.frz o u)
 tbls:∀ b ps,H b=some (.tbl ps)→∃ more,H' b=some (.tbl (ps++more))
section
variable {fs fs' ex ex':List Addr} {H H1 H2:Hp} {h h1 h2 h':Heap} {a x e:Addr} {o:HO}
theorem Un.any (u:Un fs ex H H1 h h1) {b:Addr} {ob:Obj} (q:h.get? b=some ob) (n:H b=none) (hx:b ∉ ex) : ∃ sl,h1.get? b=some { ob with slots:=sl }:=by
 by_cases hb:b ∈ fs
 ·exact u.slot b ob q n hb hx
 ·exact ⟨ob.slots,u.keep b ob q n hb hx⟩
theorem Un.trans (a:Un fs ex H H1 h h1) (b:Un fs ex H1 H2 h1 h2) : Un fs ex H H2 h h2 where
 keep:=fun c ob q n hc hx=>b.keep c ob (a.keep c ob q n hc hx) (a.free c ob q n hx) hc hx
 slot:=fun c ob q n hc hx=>by
  obtain ⟨sl,e1⟩:=a.slot c ob q n hc hx
  obtain ⟨sl',e2⟩:=b.slot c _ e1 (a.free c ob q n hx) hc hx
  exact ⟨sl',e2⟩
 free:=fun c ob q n hx=>by
  obtain ⟨o',e1⟩:=a.there c ob q hx
  exact b.free c o' e1 (a.free c ob q n hx) hx
 there:=fun c ob q hx=>by
  obtain ⟨o',e1⟩:=a.there c ob q hx
  exact b.there c o' e1 hx
 tups:=fun c xs q=>b.tups c xs (a.tups c xs q)
 frzs:=fun c ob xs q=>b.frzs c ob xs (a.frzs c ob xs q)
 tbls:=fun c ps q=>by
  obtain ⟨m1,e1⟩:=a.tbls c ps q
  obtain ⟨m2,e2⟩:=b.tbls c _ e1
  exact ⟨m1++m2,by rw [e2,Array.append_assoc]⟩
theorem Un.kept (k:∀ b u,h.get? b=some u→h'.get? b=some u) : Un fs ex H H h h':=
 ⟨fun b ob q _ _ _=>k b ob q,fun b ob q _ _ _=>⟨ob.slots,k b ob q⟩,fun _ _ _ n _=>n,fun b ob q _=>⟨ob,k b ob q⟩,fun _ _ q=>q,fun _ _ _ q=>q,fun _ ps q=>⟨#[],by rw [q]; simp⟩⟩
theorem Un.refl:Un fs ex H H h h:=Un.kept fun _ _ q=>q
theorem Un.laid (k:∀ b u,h.get? b=some u→h'.get? b=some u) (hp:h.objs.size≤a) (hn:H a=none) : Un fs ex H (upd H a o) h h' where
 keep:=fun b u q _ _ _=>k b u q
 slot:=fun b u q _ _ _=>⟨u.slots,k b u q⟩
 free:=fun b u q n _=>by rw [upd_ne (Nat.ne_of_lt (Nat.lt_of_lt_of_le (Heap.lt_size q) hp))]; exact n
 there:=fun b u q _=>⟨u,k b u q⟩
 tups:=fun b xs q=>by rw [upd_ne (ne_of_none q hn)]; exact q
 frzs:=fun b u xs q=>by rw [upd_ne (ne_of_none q hn)]; exact q
 tbls:=fun b ps q=>⟨#[],by rw [upd_ne (ne_of_none q hn),q]; simp⟩
theorem Un.write (mu:Mut (H x)) (he:e=x∨H e=some (.own x)) (k:∀ b u,b≠e→h.get? b=some u→h'.get? b=some u) (heo:∃ u,h'.get? e=some u) : Un fs ex H (upd H x o) h h':=by
 have hx:∀ b,H b=none→b≠x:=fun b n z=>by subst z; rw [n] at mu; exact mu
 have hb:∀ b,H b=none→b≠e:=fun b n z=>by
  subst z
  rcases he with r | r
  ·exact hx b n r
  ·rw [n] at r; cases r
 have hm:∀ b u,H b=some u→¬ Mut (some u)→b≠x:=fun b u q nm z=>by subst z; rw [q] at mu; exact nm mu
 refine ⟨fun b u q n _ _=>k b u (hb b n) q,fun b u q n _ _=>⟨u.slots,k b u (hb b n) q⟩,fun b u q n _=>by rw [upd_ne (hx b n)]; exact n,fun b u q _=>?_,
  fun b xs q=>by rw [upd_ne (hm b _ q fun z=>z)]; exact q,fun b u xs q=>by rw [upd_ne (hm b _ q fun z=>z)]; exact q,fun b ps q=>⟨#[],by rw [upd_ne (hm b _ q fun z=>z),q]; simp⟩⟩
 by_cases hbe:b=e
 ·subst hbe; exact heo
 ·exact ⟨u,k b u hbe q⟩
theorem Un.mono (u:Un fs ex H H1 h h1) (hs:∀ b ∈ fs,b ∈ fs') (hx:∀ b ∈ ex,b ∈ ex') : Un fs' ex' H H1 h h1:=
 ⟨fun b ob q n hb he=>u.keep b ob q n (fun z=>hb (hs b z)) fun z=>he (hx b z),fun _ _ q n _ he=>u.any q n fun z=>he (hx _ z),fun b ob q n he=>u.free b ob q n fun z=>he (hx b z),fun b ob q he=>u.there b ob q fun z=>he (hx b z),u.tups,u.frzs,u.tbls⟩
end

def trk (h:Heap) (H:Hp) : List Addr:=(List.range h.objs.size).filter fun a=>(H a).isSome
def hidT (h:Heap) (H:Hp) : Heap:=PySem.W.hideAll h (trk h H)
theorem hidT_size (h:Heap) (H:Hp) : (hidT h H).objs.size=h.objs.size:=PySem.W.hideAll_size _ _
theorem hidT_get {h:Heap} {H:Hp} {b:Addr} {o:Obj} (e:h.get? b=some o) (n:H b=none) : (hidT h H).get? b=some o:=
 PySem.W.hideAll_get _ e fun hm=>by
  have q:(H b).isSome=true:=(List.mem_filter.mp hm).2
  rw [n] at q; simp at q
theorem of_hidT {h:Heap} {H:Hp} {b:Addr} {o:Obj} (e:(hidT h H).get? b=some o) : h.get? b=some o∧H b=none:=by
 have e':h.get? b=some o:=PySem.W.of_hideAll (trk h H) e
 refine ⟨e',?_⟩
 cases q:H b with
 | none=>rfl
 | some x =>
  have hm:b ∈ trk h H:=List.mem_filter.mpr ⟨List.mem_range.mpr (Heap.lt_size e'),by simp [q]⟩
  have z:(hidT h H).get? b=none:=PySem.W.hideAll_none (trk h H) hm
  rw [z] at e; cases e

def allNews (g h:Heap) (L:Addr) : List (Addr × Obj):=(List.range h.objs.size).filterMap fun a=>if a=L∨(g.get? a).isSome=true then none else (h.get? a).map fun o=>(a,o)
def rest (g h:Heap) (L d:Addr) : List (Addr × Obj):=(allNews g h L).filter fun p=>decide (p.1≠d)

structure Mod (K:PySem.W.Frag) (mg:Str→Option Value) (base:Heap) : Prop where
 kin:K.In base
 glob:base.Ns mainGlobals mg
 blt:∃ mb,base.Ns builtinsNs mb∧∀ x:Str,x≠"__name__"→mb x=bootBuiltins x
 nolimit:base.NoLimit

structure Cx where
 prog:Program
 w:World
 K:PySem.W.Frag
 mg:Str→Option Value
 base:Heap
 A:Around
 N:List Str
 s₀:Shared
 H₀:Hp
 env:Env
 outer:List Env
 stack:List Env
 ex:List Addr
 fn:Str→Bool
 calm:Bool
 pn:List (Addr × Obj)
 xe:Value→Shared→Prop
def frs (l:List Env) : List Addr:=l.filterMap (·.frame)
abbrev Cx.fs (X:Cx) : List Addr:=frs X.outer

def Vis (sc:Scope) (x:Str) : Prop:=sc.names.lookup x=some .local∨sc.names.lookup x=some .cell∨sc.names.lookup x=some .free
def Loc (sc:Scope) (x:Str) : Prop:=sc.names.lookup x=some .local∨sc.names.lookup x=some .cell
def Look (env:Env) (h:Heap) (m:Str→Option Value) (x:Str) (u:Value) : Prop:=
 (env.kindOf x=some .local∧m x=some u)∨((env.kindOf x=some .cell∨env.kindOf x=some .free)∧∃ c,env.cells.lookup x=some c∧h.IsCell c (some u))

structure Cx.Ok (X:Cx) : Prop where
 mod:Mod X.K X.mg X.base
 kind:X.env.scope.kind = .function
 glob:X.env.globals=mainGlobals
 blt:X.env.builtins=builtinsNs
 above:X.s₀.heap.objs.size≤X.env.locals
 inj:∀ x y c,X.env.cells.lookup x=some c→X.env.cells.lookup y=some c→x=y
 has:∀ x,(X.env.kindOf x=some .cell∨X.env.kindOf x=some .free)→∃ c,X.env.cells.lookup x=some c
 cab:∀ x c,X.fn x=true→X.env.cells.lookup x=some c→X.s₀.heap.objs.size≤c
 hd:X.calm=true→X.A.handled=none
 frames:X.A.frames=some X.stack
 stk:X.stack=X.outer∨(X.stack=X.env :: X.outer∧X.env.frame=some X.env.locals)
 exf:∀ b ∈ X.ex,b≠X.env.locals∧∀ x c,X.env.cells.lookup x=some c→c≠b
 bs:∀ b o,X.base.get? b=some o→X.s₀.heap.get? b=some o∧X.H₀ b=none
 bsz:X.base.objs.size≤X.s₀.heap.objs.size
 noex:∀ b o,X.base.get? b=some o→b ∉ X.ex
 exfs:∀ b ∈ X.ex,b ∉ X.fs
 funs:X.s₀.heap.FunFrames X.base X.outer
 frf:∀ b ∈ X.fs,X.H₀ b=none

structure Inv (X:Cx) (pins:List (Addr × Obj)) (σ:List (Option V)) (H:Hp) (s:Shared) : Prop where
 ok:X.Ok
 os:s.os=X.s₀.os
 bare:AllBare s.gens
 base:Un X.fs X.ex X.H₀ H X.s₀.heap s.heap
 loc:∃ m,s.heap.Ns X.env.locals m∧∀ (i:Nat) (x:Str) (v:V),X.N[i]? = some x→σ[i]? = some (some v)→Vis X.env.scope x→∃ u,RelV v u∧Look X.env s.heap m x u
 cell:∀ x c,X.env.cells.lookup x=some c→∃ v,s.heap.IsCell c v
 free:H X.env.locals=none
 freeC:∀ x c,X.env.cells.lookup x=some c→H c=none
 pin:∀ p ∈ X.pn++pins,s.heap.get? p.1=some p.2∧H p.1=none∧p.1≠X.env.locals∧p.1 ∉ X.fs∧∀ v,p.2.data≠.cell v
 hok:HOk X.prog X.w H s.heap
 len:σ.length=X.N.length

section
variable {X:Cx} {pins:List (Addr × Obj)} {σ:List (Option V)} {H H':Hp} {s:Shared} {h':Heap}

theorem Cx.Ok.nofr (ok:X.Ok) {b:Addr} {o:Obj} (e:X.base.get? b=some o) : b ∉ X.fs:=fun hb=>by
 have:=(ok.funs.mem hb).1
 rw [e] at this; cases this
theorem Inv.bs (I:Inv X pins σ H s) : ∀ b o,X.base.get? b=some o→s.heap.get? b=some o∧H b=none:=fun b o e =>
 ⟨I.base.keep b o (I.ok.bs b o e).1 (I.ok.bs b o e).2 (I.ok.nofr e) (I.ok.noex b o e),I.base.free b o (I.ok.bs b o e).1 (I.ok.bs b o e).2 (I.ok.noex b o e)⟩
theorem Inv.bk (I:Inv X pins σ H s) : ∀ b o,X.base.get? b=some o→s.heap.get? b=some o:=fun b o e=>(I.bs b o e).1
theorem Inv.mod (I:Inv X pins σ H s) : Mod X.K X.mg X.base:=I.ok.mod
theorem Inv.kIn (I:Inv X pins σ H s) : X.K.In s.heap:=I.ok.mod.kin.keeps I.bk
theorem Inv.nolimit (I:Inv X pins σ H s) : s.heap.NoLimit:=I.ok.mod.nolimit.keeps I.bk
theorem Inv.fr (I:Inv X pins σ H s) : ∃ m,Fr X.base X.env.locals s.heap m:=
 let ⟨m,hn,_⟩:=I.loc
 ⟨m,hn,I.bk,Nat.le_trans I.ok.bsz I.ok.above⟩
theorem Inv.lt (I:Inv X pins σ H s) : X.env.locals < s.heap.objs.size:=let ⟨_,hn,_⟩:=I.loc; hn.lt
theorem Inv.sz (I:Inv X pins σ H s) : X.s₀.heap.objs.size≤s.heap.objs.size:=Nat.le_trans I.ok.above (Nat.le_of_lt I.lt)
theorem Inv.nofs (I:Inv X pins σ H s) {a:Addr} (h:s.heap.objs.size≤a) : a ∉ X.fs:=fun hb=>by
 obtain ⟨_,o,ho,_⟩:=I.ok.funs.mem hb
 exact absurd (Nat.lt_of_lt_of_le (Heap.lt_size ho) (Nat.le_trans I.sz h)) (Nat.lt_irrefl _)
theorem Inv.cne (I:Inv X pins σ H s) : ∀ x c,X.env.cells.lookup x=some c→c≠X.env.locals:=fun x c e z=>by
 obtain ⟨v,o,ho,hd⟩:=I.cell x c e
 obtain ⟨m,⟨o',es,ep,ho',hd',_⟩,_⟩:=I.loc
 rw [z,ho'] at ho; cases ho; rw [hd'] at hd; cases hd
theorem Inv.funs (I:Inv X pins σ H s) : s.heap.FunFrames X.base X.outer:=by
 have all:∀ (l:List Env),(∀ b ∈ frs l,b ∈ X.fs)→X.s₀.heap.FunFrames X.base l→s.heap.FunFrames X.base l:=by
  intro l
  induction l with
  | nil=>intro _ _; trivial
  | cons env r ih =>
   intro hs hl
   obtain ⟨hk,⟨L,o,hf,hn,ho,hd⟩,hr⟩:=hl
   have hL:L ∈ X.fs:=hs L (by unfold frs; rw [List.filterMap_cons,hf]; exact List.mem_cons_self)
   obtain ⟨sl,e⟩:=I.base.slot L o ho (I.ok.frf L hL) hL fun z=>I.ok.exfs L z hL
   exact ⟨hk,⟨L,_,hf,hn,e,hd⟩,ih (fun b hb=>hs b (by unfold frs; rw [List.filterMap_cons,hf]; exact List.mem_cons_of_mem _ hb)) hr⟩
 exact all X.outer (fun _ hb=>hb) I.ok.funs

theorem Inv.stack (I:Inv X pins σ H s) : s.heap.FunFrames X.base X.stack:=by
 rcases I.ok.stk with e | ⟨e,hf⟩
 ·rw [e]; exact I.funs
 ·rw [e]
  obtain ⟨m,hn,_⟩:=I.loc
  refine .cons (by rw [I.ok.kind]; decide) hf hn ?_ I.funs
  exact Heap.get?_none_of_le (Nat.le_trans I.ok.bsz I.ok.above)
theorem Inv.stkSub (I:Inv X pins σ H s) : ∀ b ∈ frs X.stack,b ∈ X.env.locals :: X.fs:=fun b hb=>by
 rcases I.ok.stk with e | ⟨e,hf⟩
 ·rw [e] at hb; exact List.mem_cons_of_mem _ hb
 ·rw [e] at hb
  unfold frs at hb
  rw [List.filterMap_cons,hf] at hb
  exact hb
theorem Inv.stkFree (I:Inv X pins σ H s) : ∀ b ∈ frs X.stack,H b=none:=fun b hb=>by
 rcases List.mem_cons.mp (I.stkSub b hb) with e | hb
 ·rw [e]; exact I.free
 ·obtain ⟨_,o,ho,_⟩:=I.ok.funs.mem hb
  exact I.base.free b o ho (I.ok.frf b hb) fun z=>I.ok.exfs b z hb

theorem Inv.step {g':Array GenState} {t':Nat} {d':Drawn} {ch:List Addr} (I:Inv X pins σ H s)
  (hch:∀ b ∈ ch,(b ∈ X.ex∨X.s₀.heap.objs.size≤b)∧b≠X.env.locals∧(∀ x c,X.env.cells.lookup x=some c→c≠b)∧∀ p ∈ X.pn++pins,p.1≠b)
  (keep:∀ b o,b≠X.env.locals→b ∉ X.fs→b ∉ ch→s.heap.get? b=some o→H b=none→h'.get? b=some o)
  (slot:∀ b o,b≠X.env.locals→b ∈ X.fs→b ∉ ch→s.heap.get? b=some o→H b=none→∃ sl,h'.get? b=some { o with slots:=sl }) (free:∀ b o,b ∉ ch→s.heap.get? b=some o→H b=none→H' b=none)
  (there:∀ b o,b ∉ ch→s.heap.get? b=some o→∃ o',h'.get? b=some o')
  (tups:∀ b xs,H b=some (.tup xs)→H' b=some (.tup xs)) (frzs:∀ b o u,H b=some (.frz o u)→H' b=some (.frz o u)) (tbls:∀ b ps,H b=some (.tbl ps)→∃ more,H' b=some (.tbl (ps++more)))
  (ns:∀ m,s.heap.Ns X.env.locals m→h'.Ns X.env.locals m) (hok:HOk X.prog X.w H' h') (hg:AllBare g') :
  Inv X pins σ H' { s with heap:=h',gens:=g',drawn:=d',toks:=t' }:=by
 have neL:∀ b o,X.s₀.heap.get? b=some o→b≠X.env.locals:=fun b o e=>Nat.ne_of_lt (Nat.lt_of_lt_of_le (Heap.lt_size e) I.ok.above)
 have neC:∀ b o,X.s₀.heap.get? b=some o→b ∉ X.ex→b ∉ ch:=fun b o e hx hb=>by
  rcases (hch b hb).1 with z | z
  ·exact hx z
  ·exact absurd (Nat.lt_of_lt_of_le (Heap.lt_size e) z) (Nat.lt_irrefl _)
 have cellK:∀ x c,X.env.cells.lookup x=some c→∀ v,s.heap.IsCell c v→h'.IsCell c v:=fun x c e v ⟨o,ho,hd⟩=>by
  have nch:c ∉ ch:=fun z=>(hch c z).2.2.1 x c e rfl
  by_cases hc:c ∈ X.fs
  ·obtain ⟨sl,q⟩:=slot c o (I.cne x c e) hc nch ho (I.freeC x c e)
   exact ⟨_,q,hd⟩
  ·exact ⟨o,keep c o (I.cne x c e) hc nch ho (I.freeC x c e),hd⟩
 refine ⟨I.ok,I.os,hg,⟨fun b o e n hb hx=>?_,fun b o e n hb hx=>?_,fun b o e n hx=>?_,fun b o e hx=>?_,fun b xs e=>tups b xs (I.base.tups b xs e),fun b o xs e=>frzs b o xs (I.base.frzs b o xs e),fun b ps e=>?_⟩,?_,fun x c e=>?_,?_,fun x c e=>?_,fun p hp=>?_,hok,I.len⟩
 ·exact keep b o (neL b o e) hb (neC b o e hx) (I.base.keep b o e n hb hx) (I.base.free b o e n hx)
 ·obtain ⟨sl,e1⟩:=I.base.slot b o e n hb hx
  obtain ⟨sl',e2⟩:=slot b _ (neL b o e) hb (neC b o e hx) e1 (I.base.free b o e n hx)
  exact ⟨sl',e2⟩
 ·obtain ⟨o',e1⟩:=I.base.there b o e hx
  exact free b o' (neC b o e hx) e1 (I.base.free b o e n hx)
 ·obtain ⟨o',e1⟩:=I.base.there b o e hx
  exact there b o' (neC b o e hx) e1
 ·obtain ⟨m1,e1⟩:=I.base.tbls b ps e
  obtain ⟨m2,e2⟩:=tbls b _ e1
  exact ⟨m1++m2,by rw [e2,Array.append_assoc]⟩
 ·obtain ⟨m,hn,hl⟩:=I.loc
  refine ⟨m,ns m hn,fun i x v e1 e2 e3=>?_⟩
  obtain ⟨u,r,l⟩:=hl i x v e1 e2 e3
  refine ⟨u,r,?_⟩
  rcases l with l | ⟨k,c,e,z⟩
  ·exact .inl l
  ·exact .inr ⟨k,c,e,cellK x c e _ z⟩
 ·obtain ⟨v,z⟩:=I.cell x c e
  exact ⟨v,cellK x c e v z⟩
 ·obtain ⟨m,⟨o,_,_,ho,_⟩,_⟩:=I.loc
  exact free _ o (fun z=>(hch _ z).2.1 rfl) ho I.free
 ·obtain ⟨v,o,ho,hd⟩:=I.cell x c e
  exact free c o (fun z=>(hch c z).2.2.1 x c e rfl) ho (I.freeC x c e)
 ·obtain ⟨e,n,ne,nf,d⟩:=I.pin p hp
  have nch:p.1 ∉ ch:=fun z=>(hch p.1 z).2.2.2 p hp rfl
  exact ⟨keep p.1 p.2 ne nf nch e n,free p.1 p.2 nch e n,ne,nf,d⟩
theorem Inv.un {t':Nat} (I:Inv X pins σ H s) (u:Un X.fs [] H H' s.heap h') (hok:HOk X.prog X.w H' h') : Inv X pins σ H' { s with heap:=h',toks:=t' }:=by
 obtain ⟨m,⟨o,es,ep,ho,r⟩,_⟩:=id I.loc
 obtain ⟨sl,hL⟩:=u.any ho I.free (by simp)
 exact I.step (g':=s.gens) (d':=s.drawn) (ch:=[]) (fun _ z=>nomatch z) (fun b o _ hb _ e n=>u.keep b o e n hb (by simp)) (fun b o _ hb _ e n=>u.slot b o e n hb (by simp)) (fun b o _ e n=>u.free b o e n (by simp)) (fun b o _ e=>u.there b o e (by simp)) u.tups u.frzs u.tbls (fun m' hm=>by
  obtain ⟨o',es',ep',ho',r'⟩:=hm
  rw [ho] at ho'; cases ho'
  exact ⟨_,es',ep',hL,r'⟩) hok I.bare
theorem Inv.call {g':Array GenState} {t':Nat} {d':Drawn} {ch:List Addr} (I:Inv X pins σ H s) (u:Un (frs X.stack) ch H H' s.heap h') (hok:HOk X.prog X.w H' h') (hg:AllBare g')
  (hch:∀ b ∈ ch,(b ∈ X.ex∨X.s₀.heap.objs.size≤b)∧b≠X.env.locals∧(∀ x c,X.env.cells.lookup x=some c→c≠b)∧∀ p ∈ X.pn++pins,p.1≠b) :
  Inv X pins σ H' { s with heap:=h',gens:=g',drawn:=d',toks:=t' }:=by
 obtain ⟨m,⟨o,es,ep,ho,r⟩,_⟩:=id I.loc
 obtain ⟨sl,hL⟩:=u.any ho I.free fun z=>(hch _ z).2.1 rfl
 exact I.step (ch:=ch) hch (fun b o hL hb hc e n=>u.keep b o e n (fun z=>(List.mem_cons.mp (I.stkSub b z)).elim hL hb) hc) (fun b o _ _ hc e n=>u.any e n hc) (fun b o hc e n=>u.free b o e n hc) (fun b o hc e=>u.there b o e hc) u.tups u.frzs u.tbls (fun m' hm=>by
  obtain ⟨o',es',ep',ho',r'⟩:=hm
  rw [ho] at ho'; cases ho'
  exact ⟨_,es',ep',hL,r'⟩) hok hg
theorem Inv.turned {t':Nat} {it:Addr} (I:Inv X pins σ H s) (k:∀ b o,b≠it→s.heap.get? b=some o→h'.get? b=some o) (hn:H it=none) (hL:it≠X.env.locals)
  (h1:it ∈ X.ex∨X.s₀.heap.objs.size≤it) (h2:∀ x c,X.env.cells.lookup x=some c→c≠it) (h3:∀ p ∈ X.pn++pins,p.1≠it) : Inv X pins σ H { s with heap:=h',toks:=t' }:=by
 have nit:∀ b u,H b=some u→b≠it:=fun b u e z=>by rw [z,hn] at e; cases e
 refine I.step (g':=s.gens) (d':=s.drawn) (ch:=[it]) (fun b hb=>?_) (fun b o _ _ hc e _=>k b o (fun z=>hc (by simp [z])) e) (fun b o _ _ hc e _=>⟨o.slots,k b o (fun z=>hc (by simp [z])) e⟩) (fun _ _ _ _ n=>n)
  (fun b o hc e=>⟨o,k b o (fun z=>hc (by simp [z])) e⟩) (fun _ _ e=>e) (fun _ _ _ e=>e) (fun b ps e=>⟨#[],by rw [e]; simp⟩) (fun m hm=>?_) (fun b u e=>?_) I.bare
 ·have e:b=it:=by simpa using hb
  subst e
  exact ⟨h1,hL,h2,h3⟩
 ·obtain ⟨o,es,ep,ho,r⟩:=hm
  exact ⟨o,es,ep,k _ o (Ne.symm hL) ho,r⟩
 ·refine (I.hok b u e).stay (fun c v hc q=>k c v ?_ q) (fun _ q=>q) fun _ _ q=>q
  rcases hc with z | z
  ·rw [z]; exact nit b u e
  ·exact nit c _ z
theorem Inv.tok (I:Inv X pins σ H s) (t:Nat) : Inv X pins σ H { s with toks:=t }:=I.un (h':=s.heap) (t':=t) Un.refl I.hok
theorem Inv.kept {t':Nat} (I:Inv X pins σ H s) (k:∀ b u,s.heap.get? b=some u→h'.get? b=some u) : Inv X pins σ H { s with heap:=h',toks:=t' }:=I.un (Un.kept k) (I.hok.kept k)
theorem Inv.laid {a:Addr} {o:HO} {t':Nat} (I:Inv X pins σ H s) (k:∀ b u,s.heap.get? b=some u→h'.get? b=some u) (hp:s.heap.objs.size≤a) (new:ObjOk X.prog X.w (upd H a o) h' a o) :
  Inv X pins σ (upd H a o) { s with heap:=h',toks:=t' }:=I.un (Un.laid k hp (I.hok.fresh hp)) (I.hok.laid k hp new)
theorem Inv.write {x e:Addr} {o:HO} {t':Nat} (I:Inv X pins σ H s) (mu:Mut (H x)) (he:e=x∨H e=some (.own x)) (k:∀ b u,b≠e→s.heap.get? b=some u→h'.get? b=some u) (heo:∃ u,h'.get? e=some u)
  (new:ObjOk X.prog X.w (upd H x o) h' x o) : Inv X pins σ (upd H x o) { s with heap:=h',toks:=t' }:=I.un (Un.write mu he k heo) (I.hok.write mu he k heo new)
theorem Inv.pins_of {pins':List (Addr × Obj)} (I:Inv X pins σ H s) (h:∀ p ∈ pins',s.heap.get? p.1=some p.2∧H p.1=none∧p.1≠X.env.locals∧p.1 ∉ X.fs∧∀ v,p.2.data≠.cell v) : Inv X pins' σ H s:=
 ⟨I.ok,I.os,I.bare,I.base,I.loc,I.cell,I.free,I.freeC,fun p hp=>(List.mem_append.mp hp).elim (fun z=>I.pin p (List.mem_append_left _ z)) (h p),I.hok,I.len⟩

theorem nodup_ix {N:List Str} (hN:N.Nodup) {i j:Nat} {x:Str} (a:N[i]? = some x) (b:N[j]? = some x) : i=j:=by
 obtain ⟨h1,e1⟩:=List.getElem?_eq_some_iff.mp a
 obtain ⟨h2,e2⟩:=List.getElem?_eq_some_iff.mp b
 exact (List.getElem_inj hN).mp (e1.trans e2.symm)

theorem store_ok2 {M:Model} {A:Around} {E:Value→Shared→Prop} {i:Nat} {x:Str} {v:V} {u:Value} {Q:Unit→Shared→Prop} (I:Inv X pins σ H s) (hN:X.N.Nodup) (hi:X.N[i]? = some x) (hx:Loc X.env.scope x) (r:RelV v u)
  (h:∀ s',Inv X pins (σ.set i (some v)) H s'→(∃ a,Heap.SameBut a s.heap s'.heap∧(a=X.env.locals∨X.env.cells.lookup x=some a))→Q () s') (hf:X.fn x=true∨X.env.scope.names.lookup x=some .local:=by first | exact .inl rfl | exact .inr rfl | assumption) : wpAny M A (storeName X.env x u) Q E s:=by
 obtain ⟨m,hn,hl⟩:=id I.loc
 have hcls:(X.env.scope.kind == .class || (X.env.scope.kind == .module && X.env.locals != X.env.globals))=false:=by rw [I.ok.kind]; rfl
 have hiσ:i < σ.length:=by rw [I.len]; exact (List.getElem?_eq_some_iff.mp hi).1
 have cne:=I.cne
 have tracked:∀ {a:Addr} {h':Heap},(∃ o,s.heap.get? a=some o∧H a=none)→Heap.SameBut a s.heap h'→HOk X.prog X.w H h':=fun {a h'} ha hs b ob e=>by
  obtain ⟨_,_,hfree⟩:=ha
  refine (I.hok b ob e).stay (fun c w' hc q=>(hs.2 c ?_).trans q) (fun _ q=>q) fun _ _ q=>q
  rintro rfl
  rcases hc with rfl | hc
  ·rw [hfree] at e; cases e
  ·rw [hfree] at hc; cases hc
 rcases hx with hk | hk
 ·refine wpAny_storeName_local hk hn (fun h' hn' hs=>?_) hcls
  obtain ⟨oL,_,_,hoL,_⟩:=id hn
  refine h _ ⟨I.ok,I.os,I.bare,⟨fun b o e n hb hx=>?_,fun b o e n hb hx=>?_,I.base.free,fun b o e hx=>?_,I.base.tups,I.base.frzs,I.base.tbls⟩,⟨_,hn',fun j y v' e1 e2 e3=>?_⟩,fun y c e=>?_,I.free,I.freeC,fun p hp=>?_,tracked ⟨oL,hoL,I.free⟩ hs,by simpa using I.len⟩ ⟨_,hs,.inl rfl⟩
  ·exact (hs.2 b (Nat.ne_of_lt (Nat.lt_of_lt_of_le (Heap.lt_size e) I.ok.above))).trans (I.base.keep b o e n hb hx)
  ·obtain ⟨sl,e1⟩:=I.base.slot b o e n hb hx
   exact ⟨sl,(hs.2 b (Nat.ne_of_lt (Nat.lt_of_lt_of_le (Heap.lt_size e) I.ok.above))).trans e1⟩
  ·obtain ⟨o',e1⟩:=I.base.there b o e hx
   exact ⟨o',(hs.2 b (Nat.ne_of_lt (Nat.lt_of_lt_of_le (Heap.lt_size e) I.ok.above))).trans e1⟩
  ·by_cases hj:j=i
   ·subst hj
    rw [hi] at e1; cases e1
    rw [List.getElem?_set_self hiσ] at e2
    cases e2
    exact ⟨u,r,.inl ⟨hk,by simp⟩⟩
   ·rw [List.getElem?_set_ne (Ne.symm hj)] at e2
    obtain ⟨u',r',q⟩:=hl j y v' e1 e2 e3
    refine ⟨u',r',?_⟩
    rcases q with ⟨k,e⟩ | ⟨k,c,e,z⟩
    ·refine .inl ⟨k,?_⟩
     have:y≠x:=fun e=>hj (nodup_ix hN e1 (e ▸ hi))
     simp [this,e]
    ·exact .inr ⟨k,c,e,z.sameBut hs (cne y c e)⟩
  ·obtain ⟨w',z⟩:=I.cell y c e
   exact ⟨w',z.sameBut hs (cne y c e)⟩
  ·obtain ⟨e,n,ne,nf,d⟩:=I.pin p hp
   exact ⟨(hs.2 p.1 ne).trans e,n,ne,nf,d⟩
 ·have hfn:X.fn x=true:=by
   rcases hf with z | z
   ·exact z
   ·rw [z] at hk; cases hk
  obtain ⟨c,hc⟩:=I.ok.has x (.inl hk)
  obtain ⟨w',z⟩:=I.cell x c hc
  refine wpAny_storeName_cell I.ok.kind hk hc z (fun h' hc' hs=>?_)
  obtain ⟨oc,hoc,hocd⟩:=id z
  refine h { s with heap:=h' } ⟨I.ok,I.os,I.bare,⟨fun b o e n hb hx=>?_,fun b o e n hb hx=>?_,I.base.free,fun b o e hx=>?_,I.base.tups,I.base.frzs,I.base.tbls⟩,⟨m,hn.sameBut hs (Ne.symm (cne x c hc)),fun j y v' e1 e2 e3=>?_⟩,fun y c' e=>?_,I.free,I.freeC,fun p hp=>?_,tracked ⟨oc,hoc,I.freeC x c hc⟩ hs,by simpa using I.len⟩ ⟨c,hs,.inr hc⟩
  ·exact (hs.2 b (Nat.ne_of_lt (Nat.lt_of_lt_of_le (Heap.lt_size e) (I.ok.cab x c hfn hc)))).trans (I.base.keep b o e n hb hx)
  ·obtain ⟨sl,e1⟩:=I.base.slot b o e n hb hx
   exact ⟨sl,(hs.2 b (Nat.ne_of_lt (Nat.lt_of_lt_of_le (Heap.lt_size e) (I.ok.cab x c hfn hc)))).trans e1⟩
  ·obtain ⟨o',e1⟩:=I.base.there b o e hx
   exact ⟨o',(hs.2 b (Nat.ne_of_lt (Nat.lt_of_lt_of_le (Heap.lt_size e) (I.ok.cab x c hfn hc)))).trans e1⟩
  ·by_cases hj:j=i
   ·subst hj
    rw [hi] at e1; cases e1
    rw [List.getElem?_set_self hiσ] at e2
    cases e2
    exact ⟨u,r,.inr ⟨.inl hk,c,hc,hc'⟩⟩
   ·rw [List.getElem?_set_ne (Ne.symm hj)] at e2
    obtain ⟨u',r',q⟩:=hl j y v' e1 e2 e3
    refine ⟨u',r',?_⟩
    rcases q with q | ⟨k,c',e,z'⟩
    ·exact .inl q
    ·refine .inr ⟨k,c',e,z'.sameBut hs ?_⟩
     rintro rfl
     exact hj (nodup_ix hN e1 (I.ok.inj _ _ _ e hc ▸ hi))
  ·by_cases hcc:c' = c
   ·subst hcc; exact ⟨_,hc'⟩
   ·obtain ⟨w2,z2⟩:=I.cell y c' e
    exact ⟨w2,z2.sameBut hs hcc⟩
  ·obtain ⟨e,n,ne,nf,d⟩:=I.pin p hp
   refine ⟨(hs.2 p.1 ?_).trans e,n,ne,nf,d⟩
   intro q
   rw [q,hoc] at e
   have q':oc=p.2:=Option.some.inj e
   exact d w' (by rw [← q']; exact hocd)
theorem store_ok {M:Model} {A:Around} {E:Value→Shared→Prop} {i:Nat} {x:Str} {v:V} {u:Value} {Q:Unit→Shared→Prop} (I:Inv X pins σ H s) (hN:X.N.Nodup) (hi:X.N[i]? = some x) (hx:Loc X.env.scope x) (r:RelV v u)
  (h:∀ s',Inv X pins (σ.set i (some v)) H s'→Q () s') (hf:X.fn x=true∨X.env.scope.names.lookup x=some .local:=by first | exact .inl rfl | exact .inr rfl | assumption) : wpAny M A (storeName X.env x u) Q E s:=
 store_ok2 I hN hi hx r (fun s' I' _=>h s' I') hf
theorem Inv.call' {s':Shared} {ch:List Addr} (I:Inv X pins σ H s) (ho:s'.os=s.os) (u:Un (frs X.stack) ch H H' s.heap s'.heap) (hok:HOk X.prog X.w H' s'.heap) (hg:AllBare s'.gens)
  (hch:∀ b ∈ ch,(b ∈ X.ex∨X.s₀.heap.objs.size≤b)∧b≠X.env.locals∧(∀ x c,X.env.cells.lookup x=some c→c≠b)∧∀ p ∈ X.pn++pins,p.1≠b) : Inv X pins σ H' s':=by
 obtain ⟨h',g',d',t',o'⟩:=s'
 have e:o' = s.os:=ho
 subst e
 exact I.call (g':=g') (t':=t') (d':=d') u hok hg hch
end

abbrev XK:=Value→Option Addr→Hp→Prop
abbrev St:=List (Option V)
abbrev VK:=V→Hp→Prop
abbrev TE:=St→Hp→VK→Prop
abbrev TT:=St→Hp→(Bool→Hp→Prop)→Prop
abbrev TA:=St→Hp→(List V→Hp→Prop)→Prop
structure Ends where
 nx:St→Hp→Prop
 rt:VK
 bk:St→Hp→Prop:=fun _ _=>False
 ct:St→Hp→Prop:=fun _ _=>False
abbrev TS:=Ends→St→Hp→Prop

def EP (X:Cx) (pins:List (Addr × Obj)) (σ:St) (Q:VK) (u:Value) (s':Shared) : Prop:=∃ v H',Inv X pins σ H' s'∧RelV v u∧Q v H'
def TP (X:Cx) (pins:List (Addr × Obj)) (σ:St) (Q:Bool→Hp→Prop) (b:Bool) (s':Shared) : Prop:=∃ H',Inv X pins σ H' s'∧Q b H'
def AP (X:Cx) (pins:List (Addr × Obj)) (σ:St) (Q:List V→Hp→Prop) (us:List Value) (s':Shared) : Prop:=∃ vs H',Inv X pins σ H' s'∧Vals vs us∧Q vs H'
def SP (X:Cx) (pins:List (Addr × Obj)) (D:Ends) (f:Flow) (s':Shared) : Prop:=
 match f with
 | .next=>∃ σ' H',Inv X pins σ' H' s'∧D.nx σ' H'
 | .brk=>∃ σ' H',Inv X pins σ' H' s'∧D.bk σ' H'
 | .cont=>∃ σ' H',Inv X pins σ' H' s'∧D.ct σ' H'
 | .ret u=>∃ v σ' H',Inv X pins σ' H' s'∧RelV v u∧D.rt v H'

def PE (X:Cx) (e:Expr) (t:TE) : Prop:=
 ∀ (pins:List (Addr × Obj)) (s:Shared) (σ:St) (H:Hp) (Q:VK),Inv X pins σ H s→t σ H Q→wpAny (model X.prog X.w) X.A (eval e X.env) (EP X pins σ Q) X.xe s
def PT (X:Cx) (e:Expr) (t:TT) : Prop:=
 ∀ (pins:List (Addr × Obj)) (s:Shared) (σ:St) (H:Hp) (Q:Bool→Hp→Prop),Inv X pins σ H s→t σ H Q→wpAny (model X.prog X.w) X.A (isTrue e X.env (eval e X.env)) (TP X pins σ Q) X.xe s
def PW (X:Cx) (e:Expr) (t:TT) : Prop:=
 ∀ (whole:Sem Value) (pins:List (Addr × Obj)) (s:Shared) (σ:St) (H:Hp) (Q:Bool→Hp→Prop),Inv X pins σ H s→t σ H Q→wpAny (model X.prog X.w) X.A (isTrue e X.env whole) (TP X pins σ Q) X.xe s
theorem PW.pt {X:Cx} {e:Expr} {t:TT} (h:PW X e t) : PT X e t:=h _
def PA (X:Cx) (es:List Expr) (t:TA) : Prop:=
 ∀ (pos:Pos) (pins:List (Addr × Obj)) (s:Shared) (σ:St) (H:Hp) (Q:List V→Hp→Prop),Inv X pins σ H s→t σ H Q→wpAny (model X.prog X.w) X.A (spliced (backTo pos (starEach es X.env))) (AP X pins σ Q) X.xe s
def PS (X:Cx) (st:Stmt) (t:TS) : Prop:=
 ∀ (pins:List (Addr × Obj)) (s:Shared) (σ:St) (H:Hp) (D:Ends),Inv X pins σ H s→t D σ H→wpAny (model X.prog X.w) X.A (exec st X.env) (SP X pins D) X.xe s
def PSs (X:Cx) (st:List Stmt) (t:TS) : Prop:=
 ∀ (pins:List (Addr × Obj)) (s:Shared) (σ:St) (H:Hp) (D:Ends),Inv X pins σ H s→t D σ H→wpAny (model X.prog X.w) X.A (execs st X.env) (SP X pins D) X.xe s
theorem thn {α:Type} {t:Sem α} {Q Q':α→Shared→Prop} {M:Model} {A:Around} {E:Value→Shared→Prop} {s:Shared} (h:wpAny M A t Q E s) (hQ:∀ a s,Q a s→Q' a s) : wpAny M A t Q' E s:=wpAny_mono h hQ fun _ _ x=>x
section
variable {X:Cx}

def tVar (i:Nat) : TE:=fun σ H Q=>∃ v,σ[i]? = some (some v)∧Q v H
def tC (v:V) : TE:=fun _ H Q=>Q v H
theorem pe_var {i:Nat} {x:Str} {pos:Pos} (hN:X.N[i]? = some x) (hv:Vis X.env.scope x) (hd:(x == ("__debug__" : Str))=false:=by decide) (hcd:(x == ("__classdict__" : Str))=false:=by decide) : PE X (.Name x pos) (tVar i):=by
 intro pins s σ H Q I h
 obtain ⟨v,e,h⟩:=h
 obtain ⟨m,hn,hl⟩:=I.loc
 obtain ⟨u,r,l⟩:=hl i x v hN e hv
 have fin:EP X pins σ Q u s:=⟨v,H,I,r,h⟩
 rcases l with ⟨hk,hm⟩ | ⟨hk,c,hc,hcell⟩
 ·exact wpAny_Name (wpAny_loadName_local I.ok.kind hk hn hm fin) hd
 ·rcases hk with hk | hk
  ·exact wpAny_Name (wpAny_loadName_cell I.ok.kind hk hc hcell fin) hd
  ·exact wpAny_Name (wpAny_loadName_free I.ok.kind hk hc hcell fin hcd) hd
theorem pe_int {i j pos} : PE X (.Constant (.int i) j pos) (tC (.int i)):=fun _ _ _ H _ I h=>wpAny_Constant_int ⟨.int i,H,I.tok _,⟨_,rfl⟩,h⟩
theorem pe_bl {b j pos} : PE X (.Constant (.bool b) j pos) (tC (.bl b)):=fun _ _ _ H _ I h=>Constant_bool ⟨.bl b,H,I,rfl,h⟩
theorem pe_non {j pos} : PE X (.Constant .none j pos) (tC .non):=fun _ _ _ H _ I h=>Constant_none ⟨.non,H,I,rfl,h⟩
theorem pe_str {x j pos} : PE X (.Constant (.str x) j pos) (tC (.str x)):=fun _ _ _ H _ I h=>Calls.Constant_str ⟨.str x,H,I.tok _,⟨_,rfl⟩,h⟩

def Gl (X:Cx) (x:Str) : Prop:=X.env.kindOf x=some .globalImplicit
theorem ld_glob {E:Value→Shared→Prop} {pins:List (Addr × Obj)} {s:Shared} {σ:St} {H:Hp} {x:Str} {u:Value} {pos:Pos} {Q:Value→Shared→Prop} (I:Inv X pins σ H s) (hg:Gl X x) (hm:X.mg x=some u) (h:Q u s)
  (hd:(x == ("__debug__" : Str))=false:=by decide) : wpAny (model X.prog X.w) X.A (eval (.Name x pos) X.env) Q E s:=
 Calls.Name_function_global I.ok.kind hg (Calls.loadGlobal_global (by rw [I.ok.glob]; exact I.mod.glob.keeps I.bk) hm h) hd
theorem ld_blt {E:Value→Shared→Prop} {pins:List (Addr × Obj)} {s:Shared} {σ:St} {H:Hp} {x:Str} {u:Value} {pos:Pos} {Q:Value→Shared→Prop} (I:Inv X pins σ H s) (hg:Gl X x) (hm:X.mg x=none) (hv:bootBuiltins x=some u) (h:Q u s)
  (hn:x≠"__name__":=by decide) (hd:(x == ("__debug__" : Str))=false:=by decide) : wpAny (model X.prog X.w) X.A (eval (.Name x pos) X.env) Q E s:=by
 obtain ⟨mb,h1,h2⟩:=I.mod.blt
 exact Calls.Name_function_global I.ok.kind hg (Calls.loadGlobal_builtin (by rw [I.ok.glob]; exact I.mod.glob.keeps I.bk) hm (by rw [I.ok.blt]; exact h1.keeps I.bk) ((h2 x hn).trans hv) h) hd
theorem pe_bltn {x:Str} {v:V} {u:Value} {pos:Pos} (hg:Gl X x) (hm:X.mg x=none) (hv:bootBuiltins x=some u) (r:RelV v u) (hn:x≠"__name__":=by decide) (hd:(x == ("__debug__" : Str))=false:=by decide) : PE X (.Name x pos) (tC v):=
 fun _ _ _ H _ I h=>ld_blt I hg hm hv ⟨v,H,I,r,h⟩ hn hd

variable {a b:Expr} {ta tb:TE} {pos:Pos}
def tB (t:TE) : TT:=fun σ H Q=>t σ H fun x H1=>∃ c,x = .bl c∧Q c H1
theorem pt_val {e:Expr} {t:TE} (h:PE X e t) (he:∀ whole,isTrue e X.env whole=(do let v ← whole; standAt e.pos; holding [v] (truthy v)):=by intro _; rfl) : PT X e (tB t):=by
 intro pins s σ H Q I hw
 refine isTrue_plain (thn (h pins s σ H _ I hw) fun v s1 ⟨x,H1,I1,r1,q1⟩=>?_) (he _)
 obtain ⟨d,rfl,q⟩:=q1
 cases r1
 exact wpAny_truthy_bool ⟨H1,I1,q⟩

variable {tA tB':TT} {rest:List Expr}
def tOr (t u:TT) : TT:=fun σ H Q=>t σ H fun c H1=>if c=true then Q true H1 else u σ H1 Q
def tNot (t:TT) : TT:=fun σ H Q=>t σ H fun c H1=>Q (!c) H1
theorem pw_or1 (ha:PT X a tA) : PW X (.BoolOp .Or [a] pos) tA:=by
 intro wh pins s σ H Q I h
 refine isTrue_or (thn (ha pins s σ H Q I h) fun c s1 e=>?_)
 cases c with
 | false=>exact isTrue_or_nil e
 | true=>exact e
theorem pw_or (ha:PT X a tA) (hb:PW X (.BoolOp .Or (b :: rest) pos) tB') : PW X (.BoolOp .Or (a :: b :: rest) pos) (tOr tA tB'):=by
 intro wh pins s σ H Q I h
 refine isTrue_or (thn (ha pins s σ H _ I h) fun c s1 ⟨H1,I1,q1⟩=>?_)
 cases c with
 | true=>exact ⟨H1,I1,q1⟩
 | false=>exact hb wh pins s1 σ H1 Q I1 q1
theorem pt_not (ha:PT X a tA) : PT X (.UnaryOp .Not a pos) (tNot tA):=by
 intro pins s σ H Q I h
 exact isTrue_not (ha pins s σ H (fun c H1=>Q (!c) H1) I h)
def tAndV (ta tb:TE) : TE:=fun σ H Q=>ta σ H fun x H1=>∃ c,x = .bl c∧if c=true then tb σ H1 Q else Q (.bl false) H1
def tNotV (ta:TE) : TE:=fun σ H Q=>ta σ H fun x H1=>∃ c,x = .bl c∧Q (.bl (!c)) H1
theorem pe_one {op} {t:TE} (h:PE X a t) : PE X (.BoolOp op [a] pos) t:=fun pins s σ H Q I hw=>BoolOp_one (h pins s σ H Q I hw)
theorem pe_and (ha:PE X a ta) (hb:PE X (.BoolOp .And (b :: rest) pos) tb) : PE X (.BoolOp .And (a :: b :: rest) pos) (tAndV ta tb):=by
 intro pins s σ H Q I h
 refine BoolOp_and (thn (ha pins s σ H _ I h) fun v s1 ⟨x,H1,I1,r1,q1⟩=>?_)
 obtain ⟨c,rfl,q1⟩:=q1
 cases r1
 refine wpAny_truthy_bool ?_
 cases c with
 | true=>exact hb pins s1 σ H1 Q I1 q1
 | false=>exact ⟨.bl false,H1,I1,rfl,q1⟩
theorem pe_not (ha:PE X a ta) : PE X (.UnaryOp .Not a pos) (tNotV ta):=by
 intro pins s σ H Q I h
 refine UnaryOp_ (thn (ha pins s σ H _ I h) fun v s1 ⟨x,H1,I1,r1,q1⟩=>?_)
 obtain ⟨c,rfl,q1⟩:=q1
 cases r1
 exact not_of (wpAny_truthy_bool ⟨.bl (!c),H1,I1,rfl,q1⟩)
end

def SqL (K:PySem.W.Frag) (H:Hp) (a:Addr) (xs:List V) : Prop:=
 Rd H a (.lst xs) ∨
  ∃ (o:Obj) (its:Array Value) (n:Nat),K.lookup a=some o∧o.cls = .type "list"∧o.dict=none∧o.data = .seq its n∧its.size≤sizeLine∧Vals xs its.toList
def SqT (K:PySem.W.Frag) (H:Hp) (a:Addr) (xs:List V) : Prop:=
 Rd H a (.tup xs) ∨
  ∃ (o:Obj) (its:Array Value) (n:Nat),K.lookup a=some o∧o.cls = .type "tuple"∧o.data = .seq its n∧its.size≤sizeLine∧Vals xs its.toList
def absV:Value→Option V
 | .none=>some .non
 | .bool b=>some (.bl b)
 | .int i _=>some (.int i)
 | .str x _=>some (.str x)
 | .bytes b _=>some (.byt b)
 | .float b _=>some (.flt b)
 | .ref a=>some (.ref a)
 | .type n=>some (.ty n)
 | _=>none
theorem RelV.abs {x:V} {u:Value} (r:RelV x u) : absV u=some x:=by
 cases x with
 | non=>cases r; rfl
 | bl _=>cases r; rfl
 | int _=>obtain ⟨t,rfl⟩:=r; rfl
 | str _=>obtain ⟨t,rfl⟩:=r; rfl
 | byt _=>obtain ⟨t,rfl⟩:=r; rfl
 | flt _=>obtain ⟨t,rfl⟩:=r; rfl
 | ref _=>cases r; rfl
 | ty _=>cases r; rfl
theorem RelV.inj {x y:V} {u:Value} (r:RelV x u) (q:RelV y u) : x=y:=Option.some.inj (r.abs.symm.trans q.abs)
theorem Vals.inj:∀ {xs ys:List V} {us:List Value},Vals xs us→Vals ys us→xs=ys
 | _,_,_,.nil,.nil=>rfl
 | _,_,_,.cons r t,.cons r' t'=>by rw [r.inj r',Vals.inj t t']
section
variable {X:Cx} {pins:List (Addr × Obj)} {σ:St} {H:Hp} {s:Shared} {a:Addr} {xs ys:List V}
theorem SqL.of {K:PySem.W.Frag} (h:H a=some (.lst xs)) : SqL K H a xs:=.inl (.inl h)
theorem SqT.of {K:PySem.W.Frag} (h:H a=some (.tup xs)) : SqT K H a xs:=.inl (.inl h)
theorem Inv.list (I:Inv X pins σ H s) (h:SqL X.K H a xs) : ∃ its:List Value,Vals xs its∧PlainL s.heap a its.toArray∧xs.length≤sizeLine:=by
 rcases h with h | ⟨o,its,n,hk,hc,hd,hs,hz,r⟩
 ·obtain ⟨z,its,n,r,e⟩:=h.ok I.hok
  exact ⟨its,r,⟨_,n,e,rfl,rfl,rfl⟩,z⟩
 ·refine ⟨its.toList,r,⟨o,n,I.kIn a o hk,hc,hd,by simpa using hs⟩,?_⟩
  have e:=r.length
  simp only [Array.length_toList] at e
  omega
theorem Inv.tuple (I:Inv X pins σ H s) (h:SqT X.K H a xs) : ∃ its:List Value,Vals xs its∧IsTup s.heap a its.toArray∧xs.length≤sizeLine:=by
 rcases h with h | ⟨o,its,n,hk,hc,hs,hz,r⟩
 ·obtain ⟨z,its,r,p⟩:=h.ok I.hok
  exact ⟨its,r,p,z⟩
 ·refine ⟨its.toList,r,⟨o,I.kIn a o hk,hc,n,by simpa using hs⟩,?_⟩
  have e:=r.length
  simp only [Array.length_toList] at e
  omega
theorem Inv.list_inj (I:Inv X pins σ H s) (h:SqL X.K H a xs) (h':SqL X.K H a ys) : xs=ys:=by
 obtain ⟨its,r,⟨o,n,e,_,_,d⟩,_⟩:=I.list h
 obtain ⟨its',r',⟨o',n',e',_,_,d'⟩,_⟩:=I.list h'
 rw [e] at e'; cases e'
 rw [d] at d'
 injection d' with d1 _
 have:its=its':=by simpa using congrArg Array.toList d1
 subst this
 exact r.inj r'
theorem Inv.tuple_inj (I:Inv X pins σ H s) (h:SqT X.K H a xs) (h':SqT X.K H a ys) : xs=ys:=by
 obtain ⟨its,r,⟨o,e,_,n,d⟩,_⟩:=I.tuple h
 obtain ⟨its',r',⟨o',e',_,n',d'⟩,_⟩:=I.tuple h'
 rw [e] at e'; cases e'
 rw [d] at d'
 injection d' with d1 _
 have:its=its':=by simpa using congrArg Array.toList d1
 subst this
 exact r.inj r'
end

abbrev Cx.wish (X:Cx) (E:Value→Shared→Prop) : Cx:={ X with xe:=E }
abbrev Cx.nox (X:Cx) : Cx:=X.wish fun _ _=>False
theorem Cx.Ok.wish {X:Cx} (ok:X.Ok) (E:Value→Shared→Prop) : (X.wish E).Ok:=
 ⟨ok.mod,ok.kind,ok.glob,ok.blt,ok.above,ok.inj,ok.has,ok.cab,ok.hd,ok.frames,ok.stk,ok.exf,ok.bs,ok.bsz,ok.noex,ok.exfs,ok.funs,ok.frf⟩
theorem Cx.Ok.unwish {X:Cx} {E:Value→Shared→Prop} (ok:(X.wish E).Ok) : X.Ok:=
 ⟨ok.mod,ok.kind,ok.glob,ok.blt,ok.above,ok.inj,ok.has,ok.cab,ok.hd,ok.frames,ok.stk,ok.exf,ok.bs,ok.bsz,ok.noex,ok.exfs,ok.funs,ok.frf⟩
section
variable {X:Cx} {pins:List (Addr × Obj)} {σ:St} {H:Hp} {s:Shared} {E:Value→Shared→Prop}
theorem Inv.wish (I:Inv X pins σ H s) (E:Value→Shared→Prop) : Inv (X.wish E) pins σ H s:=⟨I.ok.wish E,I.os,I.bare,I.base,I.loc,I.cell,I.free,I.freeC,I.pin,I.hok,I.len⟩
theorem Inv.unwish (I:Inv (X.wish E) pins σ H s) : Inv X pins σ H s:=⟨I.ok.unwish,I.os,I.bare,I.base,I.loc,I.cell,I.free,I.freeC,I.pin,I.hok,I.len⟩
theorem SP.unwish {D:Ends} {f:Flow} {s':Shared} (h:SP (X.wish E) pins D f s') : SP X pins D f s':=by
 cases f with
 | next=>obtain ⟨σ',H',I,q⟩:=h; exact ⟨σ',H',I.unwish,q⟩
 | brk=>obtain ⟨σ',H',I,q⟩:=h; exact ⟨σ',H',I.unwish,q⟩
 | cont=>obtain ⟨σ',H',I,q⟩:=h; exact ⟨σ',H',I.unwish,q⟩
 | ret u=>obtain ⟨v,σ',H',I,r,q⟩:=h; exact ⟨v,σ',H',I.unwish,r,q⟩
theorem PE.nox {e:Expr} {t:TE} (h:PE X.nox e t) : PE X e t:=fun pins s σ H Q I hw =>
 wpAny_mono (h pins s σ H Q (I.wish _) hw) (fun _ _ ⟨v,H',I',r,q⟩=>⟨v,H',I'.unwish,r,q⟩) fun _ _ z=>False.elim z
theorem PT.nox {e:Expr} {t:TT} (h:PT X.nox e t) : PT X e t:=fun pins s σ H Q I hw =>
 wpAny_mono (h pins s σ H Q (I.wish _) hw) (fun _ _ ⟨H',I',q⟩=>⟨H',I'.unwish,q⟩) fun _ _ z=>False.elim z
theorem PSs.nox {st:List Stmt} {t:TS} (h:PSs X.nox st t) : PSs X st t:=fun pins s σ H D I hw =>
 wpAny_mono (h pins s σ H D (I.wish _) hw) (fun _ _ q=>q.unwish) fun _ _ z=>False.elim z
end

section
variable {X:Cx} {st:Stmt} {rest:List Stmt} {t u:TS} {e:Expr} {te:TE} {pos:Pos}
def tNext:TS:=fun D σ H=>D.nx σ H
def tSeq (t u:TS) : TS:=fun D σ H=>t { D with nx:=u D } σ H
theorem pss_nil:PSs X [] tNext:=fun _ _ σ H _ I h=>wpAny_execs_nil ⟨σ,H,I,h⟩
theorem pss_cons (h1:PS X st t) (h2:PSs X rest u) : PSs X (st :: rest) (tSeq t u):=by
 intro pins s σ H D I h
 refine wpAny_execs_cons (thn (h1 pins s σ H { D with nx:=u D } I h) fun f s1 q=>?_)
 cases f with
 | next =>
  obtain ⟨σ',H',I',q⟩:=q
  exact h2 pins s1 σ' H' D I' q
 | ret v=>exact q
 | brk=>exact q
 | cont=>exact q
theorem pss_one (h1:PS X st t) : PSs X [st] t:=by
 intro pins s σ H D I h
 refine wpAny_execs_cons (thn (h1 pins s σ H D I h) fun f s1 q=>?_)
 cases f with
 | next=>exact wpAny_execs_nil q
 | ret v=>exact q
 | brk=>exact q
 | cont=>exact q
theorem Inv.quiet {pins:List (Addr × Obj)} {σ:St} {H:Hp} {s:Shared} (I:Inv X pins σ H s) : interactive X.env=false:=by simp [interactive,I.ok.kind]
def tDrop (te:TE) : TS:=fun D σ H=>te σ H fun _ H1=>D.nx σ H1
theorem ps_expr (he:PE X e te) (hs:swapsWith e none pos.line X.env=pure false:=by rfl) : PS X (.Expr e pos) (tDrop te):=by
 intro pins s σ H D I h
 exact wpAny_Expr_any (thn (he pins s σ H _ I h) fun v s1 ⟨x,H1,I1,r1,q1⟩=>⟨σ,H1,I1,q1⟩) I.quiet hs
def tRet (te:TE) : TS:=fun D σ H=>te σ H D.rt
theorem ps_ret (he:PE X e te) : PS X (.Return (some e) pos) (tRet te):=by
 intro pins s σ H D I h
 exact wpAny_Return_some (thn (he pins s σ H _ I h) fun v s1 ⟨x,H1,I1,r1,q1⟩=>⟨x,σ,H1,I1,r1,q1⟩)
def tIfS (c:TT) (t u:TS) : TS:=fun D σ H=>c σ H fun b H1=>if b=true then t D σ H1 else u D σ H1
theorem ps_if {c:Expr} {a b:List Stmt} {tc:TT} (hc:PT X c tc) (ha:PSs X a t) (hb:PSs X b u) : PS X (.If c a b pos) (tIfS tc t u):=by
 intro pins s σ H D I h
 refine wpAny_If (thn (hc pins s σ H _ I h) fun d s1 ⟨H1,I1,q1⟩=>?_)
 cases d with
 | true=>exact ha pins s1 σ H1 D I1 q1
 | false=>exact hb pins s1 σ H1 D I1 q1
end

abbrev TG:=V→St→Hp→(St→Hp→Prop)→Prop
abbrev TGs:=List V→St→Hp→(St→Hp→Prop)→Prop
def PG (X:Cx) (target:Expr) (t:TG) : Prop:=
 ∀ (pins:List (Addr × Obj)) (s:Shared) (σ:St) (H:Hp) (v:V) (u:Value) (Q:St→Hp→Prop),Inv X pins σ H s→RelV v u→t v σ H Q →
  wpAny (model X.prog X.w) X.A (assign target X.env u) (fun _ s'=>∃ σ' H',Inv X pins σ' H' s'∧Q σ' H') X.xe s
def PGs (X:Cx) (ts:List Expr) (t:TGs) : Prop:=
 ∀ (pins:List (Addr × Obj)) (s:Shared) (σ:St) (H:Hp) (vs:List V) (us:List Value) (Q:St→Hp→Prop),Inv X pins σ H s→Vals vs us→t vs σ H Q →
  wpAny (model X.prog X.w) X.A (assignInOrder ((assignEach ts X.env).map (·.2)) us) (fun _ s'=>∃ σ' H',Inv X pins σ' H' s'∧Q σ' H') X.xe s
abbrev TSet:=V→V→V→Hp→(Hp→Prop)→Prop
def PSet (X:Cx) (t:TSet) : Prop:=
 ∀ (pins:List (Addr × Obj)) (s:Shared) (σ:St) (H:Hp) (o i v:V) (ov iv u:Value) (Q:Hp→Prop),Inv X pins σ H s→RelV o ov→RelV i iv→RelV v u→t o i v H Q →
  wpAny (model X.prog X.w) X.A (setItem ov iv u) (fun _ s'=>∃ H',Inv X pins σ H' s'∧Q H') X.xe s
section
variable {X:Cx} {pos:Pos}
def gName (i:Nat) : TG:=fun v σ H Q=>Q (σ.set i (some v)) H
theorem pg_name {i:Nat} {x:Str} (hN:X.N.Nodup) (hi:X.N[i]? = some x) (hx:Loc X.env.scope x) (hf:X.fn x=true∨X.env.scope.names.lookup x=some .local:=by first | exact .inl rfl | exact .inr rfl | assumption) : PG X (.Name x pos) (gName i):=by
 intro pins s σ H v u Q I r h
 exact wpAny_assign_Name (store_ok I hN hi hx r (fun s' I'=>⟨_,H,I',h⟩) hf)
def gNil:TGs:=fun vs σ H Q=>vs=[]∧Q σ H
def gCons (t:TG) (u:TGs) : TGs:=fun vs σ H Q=>∃ v r,vs=v :: r∧t v σ H fun σ' H'=>u r σ' H' Q
theorem pgs_nil:PGs X [] gNil:=by
 intro pins s σ H vs us Q I r h
 obtain ⟨e,h⟩:=h
 subst e
 cases r
 exact assignInOrder_nil ⟨σ,H,I,h⟩
theorem pgs_cons {e:Expr} {es:List Expr} {t:TG} {u:TGs} (h1:PG X e t) (h2:PGs X es u)
  (hs:(assignEach (e :: es) X.env).map (·.2)=assign e X.env :: (assignEach es X.env).map (·.2):=by rfl) : PGs X (e :: es) (gCons t u):=by
 intro pins s σ H vs us Q I r h
 obtain ⟨v,vr,e1,h⟩:=h
 subst e1
 cases r with
 | cons r rr =>
  rw [hs]
  refine assignInOrder_cons (thn (h1 pins s σ H _ _ _ I r h) fun _ s1 ⟨σ1,H1,I1,q1⟩=>?_)
  exact h2 pins s1 σ1 H1 _ _ Q I1 rr q1
def gTup (K:PySem.W.Frag) (n:Nat) (t:TGs) : TG:=fun v σ H Q=>∃ a xs,v = .ref a∧SqT K H a xs∧xs.length=n∧t xs σ H Q
theorem pg_tup {es:List Expr} {k:Nat} {t:TGs} {n:Nat} (hc:X.calm=true) (h:PGs X es t)
  (hn:(assignEach es X.env).length=n:=by rfl) (hst:(assignEach es X.env).findIdx? (·.1)=none:=by rfl) : PG X (.Tuple es k pos) (gTup X.K n t):=by
 intro pins s σ H v u Q I r hw
 obtain ⟨a,xs,e1,hq,hl,hw⟩:=hw
 subst e1
 cases r
 obtain ⟨its,rv,ht,hz⟩:=I.tuple hq
 refine assign_Tuple_tuple (I.ok.hd hc) ht (by simp [hn,← hl,rv.length]) hst fun h' hx=>?_
 have I1:Inv X pins σ H { s with heap:=h' }:=I.kept (t':=s.toks) fun b o e=>hx b o (Nat.ne_of_lt (Heap.lt_size e)) e
 exact h pins _ σ H xs _ Q I1 (by simpa using rv) hw
def gSub (to ti:TE) (t:TSet) : TG:=fun v σ H Q=>to σ H fun o H1=>ti σ H1 fun i H2=>t o i v H2 fun H3=>Q σ H3
theorem pg_sub {o i:Expr} {to ti:TE} {t:TSet} (ho:PE X o to) (hi:PE X i ti) (hs:PSet X t)
  (ha:∀ v,assign (.Subscript o i pos) X.env v=(do
   let ov ← holding [v] (eval o X.env)
   let iv ← holding [v,ov] (eval i X.env)
   standAt pos
   holding [v,ov,iv] (setItem ov iv v)
   release [v,ov,iv] []):=by intro _; rfl) : PG X (.Subscript o i pos) (gSub to ti t):=by
 intro pins s σ H v u Q I r h
 rw [ha]
 refine wpAny_bind (wpAny_holding (thn (ho pins s σ H _ I h) fun ov s1 ⟨x,H1,I1,r1,q1⟩=>?_))
 refine wpAny_bind (wpAny_holding (thn (hi pins s1 σ H1 _ I1 q1) fun iv s2 ⟨y,H2,I2,r2,q2⟩=>?_))
 refine wpAny_bind (wpAny_standAt (wpAny_bind (wpAny_holding (thn (hs pins s2 σ H2 x y v ov iv u _ I2 r1 r2 r q2) fun _ s3 ⟨H3,I3,q3⟩=>?_))))
 exact wpAny_release ⟨σ,H3,I3,q3⟩
def tAsg (te:TE) (g:TG) : TS:=fun D σ H=>te σ H fun x H1=>g x σ H1 D.nx
theorem ps_asg {tg e:Expr} {te:TE} {g:TG} (he:PE X e te) (hg:PG X tg g) (hs:swapsWithSole [tg] e pos.line X.env=pure false:=by rfl) (hw:swappedStores [tg] e X.env=pure none:=by rfl)
  (h1:(assignEach [tg] X.env).map (·.2)=[assign tg X.env]:=by rfl) : PS X (.Assign [tg] e pos) (tAsg te g):=by
 intro pins s σ H D I h
 refine wpAny_Assign_stores (thn (he pins s σ H _ I h) fun v s1 ⟨x,H1,I1,r1,q1⟩=>?_) hs hw
 rw [h1]
 exact thn (hg pins s1 σ H1 x v _ I1 r1 q1) fun _ s2 q=>q
theorem ps_set {i:Nat} {x:Str} {e:Expr} {te:TE} {pos':Pos} (hN:X.N.Nodup) (hi:X.N[i]? = some x) (hx:Loc X.env.scope x) (he:PE X e te) (hs:swapsWith e (some (.Name x pos')) pos.line X.env=pure false:=by rfl) (hf:X.fn x=true∨X.env.scope.names.lookup x=some .local:=by first | exact .inl rfl | exact .inr rfl | assumption) :
  PS X (.Assign [.Name x pos'] e pos) (tAsg te (gName i)):=by
 intro pins s σ H D I h
 refine wpAny_Assign_Name (thn (he pins s σ H _ I h) fun v s1 ⟨y,H1,I1,r1,q1⟩=>?_) hs
 exact store_ok I1 hN hi hx r1 (fun s2 I2=>⟨_,H1,I2,q1⟩) hf
end

section
variable {X:Cx} {pos:Pos}
end

structure It where
 go:Nat→Hp→Prop
 yld:Nat→Hp→V→Hp→Prop
 stop:Nat→Hp→Prop
def FpOk (X:Cx) (pins:List (Addr × Obj)) (H:Hp) (b:Addr) : Prop:=
 H b=none∧b≠X.env.locals∧b ∉ X.fs∧(b ∈ X.ex∨X.s₀.heap.objs.size≤b)∧(∀ x c,X.env.cells.lookup x=some c→c≠b)∧∀ p ∈ X.pn++pins,p.1≠b
theorem Inv.fpOk {X:Cx} {pins:List (Addr × Obj)} {σ:St} {H H':Hp} {s:Shared} {b:Addr} (I:Inv X pins σ H s) (hb:s.heap.objs.size≤b) (hn:H' b=none) : FpOk X pins H' b:=by
 refine ⟨hn,Nat.ne_of_gt (Nat.lt_of_lt_of_le I.lt hb),I.nofs hb,.inr (Nat.le_trans I.sz hb),fun x c e z=>?_,fun p hp z=>?_⟩
 ·obtain ⟨v,q⟩:=I.cell x c e
  exact absurd (Nat.lt_of_lt_of_le q.lt (by rw [z]; exact hb)) (Nat.lt_irrefl _)
 ·exact absurd (Nat.lt_of_lt_of_le (Heap.lt_size (I.pin p hp).1) (by rw [z]; exact hb)) (Nat.lt_irrefl _)
structure Turn (P:Program) (w:World) (K:PySem.W.Frag) (tg:Expr) (J:It) (fp:List Addr) (it:Addr) (tn:Nat→Heap→Prop) : Prop where
 mem:it ∈ fp
 obj:∀ i h,tn i h→∀ b ∈ fp,∃ o,h.get? b=some o∧∀ v,o.data≠.cell v
 keep:∀ i h h',tn i h→(∀ b ∈ fp,∀ o,h.get? b=some o→h'.get? b=some o)→tn i h'
 item:∀ (X:Cx),X.prog=P→X.w=w→X.K=K→X.calm=true→∀ (i:Nat) (pins:List (Addr × Obj)) (s:Shared) (σ:St) (H:Hp) (E:Value→Shared→Prop),Inv X pins σ H s→(∀ b ∈ fp,FpOk X pins H b)→tn i s.heap→J.go i H →
  wpAny (model P w) X.A (pyNext (.ref it)) (fun r s1=>∃ u,r=some u ∧
   wpAny (model P w) X.A (letOwnedTupleGo tg (.ref it) u) (fun _ s2=>∃ x H',Inv X pins σ H' s2∧RelV x u∧J.yld i H x H'∧tn (i+1) s2.heap∧∀ b ∈ fp,H' b=none) E s1) E s
 done:∀ (X:Cx),X.prog=P→X.w=w→X.K=K→X.calm=true→∀ (i:Nat) (pins:List (Addr × Obj)) (s:Shared) (σ:St) (H:Hp) (E:Value→Shared→Prop),Inv X pins σ H s→(∀ b ∈ fp,FpOk X pins H b)→tn i s.heap→J.stop i H →
  wpAny (model P w) X.A (pyNext (.ref it)) (fun r s1=>r=none∧Inv X pins σ H s1) E s
 self:∀ (A:Around) (i:Nat) (s:Shared) (Q:Value→Shared→Prop) (E:Value→Shared→Prop),tn i s.heap→Q (.ref it) s→wpAny (model P w) A (pyIter (.ref it)) Q E s
abbrev TI:=St→Hp→(It→Hp→Prop)→Prop
def PIE (X:Cx) (pins:List (Addr × Obj)) (σ:St) (tg:Expr) (R:It→Hp→Prop) (itv:Value) (s2:Shared) : Prop:=
 ∃ (it:Addr) (fp:List Addr) (tn:Nat→Heap→Prop) (J:It) (H':Hp),itv = .ref it∧Inv X pins σ H' s2∧Turn X.prog X.w X.K tg J fp it tn∧tn 0 s2.heap∧(∀ b ∈ fp,FpOk X pins H' b)∧R J H'
def PI (X:Cx) (tg iter:Expr) (wi:TI) : Prop:=
 ∀ (pins:List (Addr × Obj)) (s:Shared) (σ:St) (H:Hp) (R:It→Hp→Prop),Inv X pins σ H s→wi σ H R →
  wpAny (model X.prog X.w) X.A (eval iter X.env) (fun v s1=>wpAny (model X.prog X.w) X.A (pyIter v) (PIE X pins σ tg R) X.xe s1) X.xe s

theorem go_of {M:Model} {A:Around} {E:Value→Shared→Prop} {s:Shared} {tg:Expr} {it:Addr} {u:Value} {o:Obj} {n:String} {vs:Array Value} {Q:Unit→Shared→Prop} (ho:s.heap.get? it=some o) (hc:o.cls = .type n) (hd:o.data = .fields vs)
  (hn:["enumerate","zip","dict_itemiterator","dict_reverseitemiterator","odict_iterator","itertools.zip_longest","itertools.pairwise"].contains n=false) (hQ:Q () s) : wpAny M A (letOwnedTupleGo tg (.ref it) u) Q E s:=by
 unfold letOwnedTupleGo
 cases tg <;> first
  | exact wpAny_pure hQ
  | (cases u <;> first
    | exact wpAny_pure hQ
    | (refine wpAny_bind (wpAny_load ho ?_)
       rw [hc,hd]
       show wpAny M A (if (["enumerate","zip","dict_itemiterator","dict_reverseitemiterator","odict_iterator","itertools.zip_longest","itertools.pairwise"].contains n && vs[0]? == some (rawInt _))=true then _ else _) Q E s
       rw [if_neg (by intro h; rw [hn,Bool.false_and] at h; cases h)]
       exact wpAny_pure hQ))

def Itl (K:PySem.W.Frag) (a:Addr) : It:=
 ⟨fun i H=>∃ xs x,SqL K H a xs∧xs[i]? = some x,fun i H x H'=>H' = H∧∀ xs,SqL K H a xs→xs[i]? = some x,fun i H=>∃ xs,SqL K H a xs∧xs.length≤i⟩
def Itr (lo:Int) (n:Nat) : It:=⟨fun i _=>i < n,fun i H x H'=>H' = H∧x = .int (lo+i),fun i _=>n≤i⟩
theorem turn_list {P:Program} {w:World} {K:PySem.W.Frag} {tg:Expr} (a it:Addr) : Turn P w K tg (Itl K a) [it] it (fun i h=>h.IsListIter it a i) where
 mem:=by simp
 obj:=fun i h st b hb=>by
  have e:b=it:=by simpa using hb
  subst e
  obtain ⟨o,e,c,d⟩:=st
  exact ⟨o,e,fun v z=>by rw [d] at z; cases z⟩
 keep:=fun i h h' st k=>st.at fun o e=>k it (by simp) o e
 item:=by
  intro X hP hw hK hc i pins s σ H E I hf st hg
  subst hP hw hK
  obtain ⟨xs,x,hq,hx⟩:=hg
  obtain ⟨its,rv,p,hz⟩:=I.list hq
  obtain ⟨u,hu,ru⟩:=rv.get hx
  obtain ⟨f0,f1,f2,f3,f4,f5⟩:=hf it (by simp)
  refine wpAny_pyNext_list_item st p.isList (x:=u) (by simpa using hu) fun h' st' sb=>?_
  have I1:Inv X pins σ H { s with heap:=h' }:=I.turned (t':=s.toks) (fun b o hb e=>(sb.2 b hb).trans e) f0 f1 f3 f4 f5
  obtain ⟨o,e,c,d⟩:=id st'
  exact ⟨u,rfl,go_of (s:={ s with heap:=h' }) e c d (by decide) ⟨x,H,I1,ru,⟨rfl,fun ys hy=>by rw [I.list_inj hy hq]; exact hx⟩,st',fun b hb=>(hf b hb).1⟩⟩
 done:=by
  intro X hP hw hK hc i pins s σ H E I hf st hg
  subst hP hw hK
  obtain ⟨xs,hq,hx⟩:=hg
  obtain ⟨its,rv,p,hz⟩:=I.list hq
  obtain ⟨f0,f1,f2,f3,f4,f5⟩:=hf it (by simp)
  have hl:=rv.length
  exact wpAny_pyNext_list_end (I.ok.hd hc) st p.isList (by simp; omega) fun h' eb=>⟨rfl,I.turned (t':=s.toks) (fun b o hb e=>eb b o hb e) f0 f1 f3 f4 f5⟩
 self:=fun _ _ _ _ _ st h=>wpAny_pyIter_listiter st h
theorem turn_range {P:Program} {w:World} {K:PySem.W.Frag} {tg:Expr} (it:Addr) (lo:Int) (n:Nat) : Turn P w K tg (Itr lo n) [it] it (fun i h=>IsRangeIter h it (lo+(i:Nat) * 1) ((n:Int) - (i:Nat)) 1) where
 mem:=by simp
 obj:=fun i h st b hb=>by
  have e:b=it:=by simpa using hb
  subst e
  exact ⟨_,st,fun v z=>by
   have z':Data.fields _=Data.cell v:=z
   cases z'⟩
 keep:=fun i h h' st k=>k it (by simp) _ st
 item:=by
  intro X hP hw hK hc i pins s σ H E I hf st hg
  subst hP hw hK
  obtain ⟨f0,f1,f2,f3,f4,f5⟩:=hf it (by simp)
  have W:=Walks.range (prog:=X.prog) (w:=X.w) (I.ok.hd hc) it lo 1 n
  refine W.item i s _ _ hg st fun v h' tk hv st' kk=>?_
  obtain ⟨t,rfl⟩:=hv
  have I1:Inv X pins σ H { s with heap:=h',toks:=tk }:=I.turned (fun b o hb e=>kk b o (by simpa using hb) e) f0 f1 f3 f4 f5
  refine ⟨_,rfl,go_of (s:={ s with heap:=h',toks:=tk }) (n := "range_iterator") st' rfl rfl (by decide) ⟨.int (lo+i),H,I1,⟨t,?_⟩,⟨rfl,rfl⟩,st',fun b hb=>(hf b hb).1⟩⟩
  rw [Int.mul_one]
 done:=by
  intro X hP hw hK hc i pins s σ H E I hf st hg
  subst hP hw hK
  obtain ⟨f0,f1,f2,f3,f4,f5⟩:=hf it (by simp)
  exact wpAny_pyNext_range_end (I.ok.hd hc) st (by have:n≤i:=hg; omega) fun h' eb=>⟨rfl,I.turned (t':=s.toks) (fun b o hb e=>eb b o hb e) f0 f1 f3 f4 f5⟩
 self:=fun _ _ _ _ _ st h=>wpAny_pyIter_rangeiter st h
section
variable {X:Cx} {tg:Expr}
def iList (K:PySem.W.Frag) (tl:TE) : TI:=fun σ H R=>tl σ H fun x H1=>∃ a,x = .ref a∧(∃ xs,SqL K H1 a xs)∧R (Itl K a) H1
theorem pi_list {l:Expr} {tl:TE} (hl:PE X l tl) : PI X tg l (iList X.K tl):=by
 intro pins s σ H R I h
 refine thn (hl pins s σ H _ I h) fun v s1 ⟨x,H1,I1,r1,q1⟩=>?_
 obtain ⟨a,e,⟨xs,hq⟩,q⟩:=q1
 subst e
 cases r1
 obtain ⟨its,rv,p,hz⟩:=I1.list hq
 refine wpAny_pyIter_list p.isList ?_
 refine ⟨s1.heap.objs.size,[s1.heap.objs.size],_,_,H1,rfl,I1.kept (t':=s1.toks) fun b o e=>Heap.get?_push_of_some _ e,turn_list a _,⟨_,Heap.get?_push_size _ rfl,rfl,rfl⟩,fun b hb=>?_,q⟩
 have e:b=s1.heap.objs.size:=by simpa using hb
 subst e
 exact I1.fpOk (Nat.le_refl _) (I1.hok.fresh (Nat.le_refl _))
theorem range_it {pins:List (Addr × Obj)} {σ:St} {H:Hp} {s:Shared} {R:It→Hp→Prop} {E:Value→Shared→Prop} {lo hi:Int} {t u v:Tok} {tk:Nat} (I:Inv X pins σ H s) (h1:-(2 ^ 62)≤lo) (h2:lo < 2 ^ 62) (h3:-(2 ^ 62)≤hi) (h4:hi < 2 ^ 62)
  (q:R (Itr lo (hi - lo).toNat) H) : wpAny (model X.prog X.w) X.A (pyIter (.ref s.heap.objs.size)) (PIE X pins σ tg R) E { s with heap:=s.heap.push { cls:=.type "range",data:=.fields #[.int lo t,.int hi u,.int 1 v] },toks:=tk }:=by
 refine wpAny_pyIter_range (IsRange.new ..) (small_one h1 h2 h3 h4) ?_
 have I1:Inv X pins σ H { s with heap:=s.heap.push { cls:=.type "range",data:=.fields #[.int lo t,.int hi u,.int 1 v] },toks:=tk }:=I.kept fun b o e=>Heap.get?_push_of_some _ e
 refine ⟨(s.heap.push { cls:=.type "range",data:=.fields #[.int lo t,.int hi u,.int 1 v] }).objs.size,[(s.heap.push { cls:=.type "range",data:=.fields #[.int lo t,.int hi u,.int 1 v] }).objs.size],_,_,H,rfl,
  I1.kept (t':=tk) fun b o e=>Heap.get?_push_of_some _ e,turn_range _ lo (hi - lo).toNat,?_,fun b hb=>?_,q⟩
 ·have e1:lo+((0:Nat) : Int) * 1=lo:=by simp
  have e2:(((hi - lo).toNat:Nat) : Int) - ((0:Nat) : Int)=Builtin.Range.rangeSize lo hi 1:=by rw [rangeSize_one]; split <;> omega
  show IsRangeIter _ _ (lo+((0:Nat) : Int) * 1) ((((hi - lo).toNat:Nat) : Int) - ((0:Nat) : Int)) 1
  rw [e1,e2]
  exact Heap.get?_push_size _ rfl
 ·have e:b=(s.heap.push { cls:=.type "range",data:=.fields #[.int lo t,.int hi u,.int 1 v] }).objs.size:=by simpa using hb
  subst e
  exact I1.fpOk (Nat.le_refl _) (I1.hok.fresh (Nat.le_refl _))
def iRng1 (ta:TA) : TI:=fun σ H R=>ta σ H fun vs H1=>∃ j:Int,vs=[.int j]∧-(2 ^ 62)≤j∧j < 2 ^ 62∧R (Itr 0 j.toNat) H1
theorem pi_range1 {a:Expr} {ta:TA} {p pos:Pos} (hg:Gl X "range") (hm:X.mg "range" = none) (ha:PA X [a] ta) (hs:starEach [a] X.env=[(false,eval a X.env)]:=by rfl) : PI X tg (.Call (.Name "range" p) [a] [] pos) (iRng1 ta):=by
 intro pins s σ H R I h
 refine Call_ (ld_blt I hg hm boot_range (PyProof.Rows.callWith_type1 (thn (ha pos pins s σ H _ I h) fun us s1 ⟨vs,H1,I1,r1,q1⟩=>?_) hs rfl))
 obtain ⟨j,e,q1,q2,q⟩:=q1
 subst e
 cases r1 with
 | cons r rr =>
  cases rr
  obtain ⟨t,rfl⟩:=r
  exact call_range_1 (range_it I1 (by omega) (by omega) q1 q2 (by simpa using q))
def tFor (wi:TI) (g:TG) (tb:TS) : TS:=fun D σ H=>wi σ H fun J H1=>∃ W:Nat→Nat→St→Hp→Prop,(∃ m,W 0 m σ H1)∧∀ i m σ H,W i m σ H →
 (J.stop i H∧D.nx σ H)∨(J.go i H∧∃ N:St→Hp→Prop,(∀ σ' H',N σ' H'→∃ m',m' < m∧W (i+1) m' σ' H')∧∀ x H',J.yld i H x H'→g x σ H' fun σ2 H2=>tb { D with nx:=N,ct:=N,bk:=D.nx } σ2 H2)
def pinsAt (fp:List Addr) (h:Heap) : List (Addr × Obj):=fp.filterMap fun b=>(h.get? b).map fun o=>(b,o)
theorem mem_pinsAt {fp:List Addr} {h:Heap} {b:Addr} {o:Obj} (hb:b ∈ fp) (e:h.get? b=some o) : (b,o) ∈ pinsAt fp h:=List.mem_filterMap.mpr ⟨b,hb,by rw [e]; rfl⟩
theorem of_pinsAt {fp:List Addr} {h:Heap} {p:Addr × Obj} (hp:p ∈ pinsAt fp h) : p.1 ∈ fp∧h.get? p.1=some p.2:=by
 obtain ⟨b,hb,e⟩:=List.mem_filterMap.mp hp
 cases q:h.get? b with
 | none=>rw [q] at e; cases e
 | some o =>
  rw [q] at e
  have e':(b,o)=p:=Option.some.inj e
  subst e'
  exact ⟨hb,q⟩
theorem Inv.pinned {pins:List (Addr × Obj)} {σ:St} {H:Hp} {s:Shared} {fp:List Addr} (I:Inv X pins σ H s) (hf:∀ b ∈ fp,FpOk X pins H b) (ho:∀ b ∈ fp,∃ o,s.heap.get? b=some o∧∀ v,o.data≠.cell v) : Inv X (pins++pinsAt fp s.heap) σ H s:=
 I.pins_of fun p hp=>(List.mem_append.mp hp).elim (fun z=>I.pin p (List.mem_append_right _ z)) fun z=>by
  obtain ⟨hb,e⟩:=of_pinsAt z
  obtain ⟨f0,f1,f2,_⟩:=hf p.1 hb
  obtain ⟨o,e',d⟩:=ho p.1 hb
  rw [e] at e'; cases e'
  exact ⟨e,f0,f1,f2,d⟩
theorem Inv.unpinned {pins pl:List (Addr × Obj)} {σ:St} {H:Hp} {s:Shared} (I:Inv X (pins++pl) σ H s) : Inv X pins σ H s:=I.pins_of fun p hp=>I.pin p (List.mem_append_right _ (List.mem_append_left _ hp))
theorem ps_for {iter:Expr} {body:List Stmt} {wi:TI} {g:TG} {tb:TS} {pos:Pos} (hp:PassesOwn (model X.prog X.w) X.A X.env X.xe) (hc:X.calm=true) (hi:PI X tg iter wi) (hg:PG X tg g) (hb:PSs X body tb)
  (hs:∀ x,foldedSetIterable iter X.env x=pure x:=by intro _; rfl) : PS X (.For tg iter body [] pos) (tFor wi g tb):=by
 intro pins s σ H D I h
 refine wpAny_For (thn (hi pins s σ H _ I h) fun v s1 h1=>thn h1 fun itv s2 h2=>?_) hs
 obtain ⟨it,fp,tn,J,H2,e,I2,T,st2,f2,W,⟨m0,w0⟩,turn⟩:=h2
 subst e
 -- what stays true of the iterator's objects through the loop
 have stat:∀ {H':Hp},(∀ b ∈ fp,H' b=none)→∀ b ∈ fp,FpOk X pins H' b:=fun hn b hb=>⟨hn b hb,(f2 b hb).2⟩
 refine codeAny_forLoop_any (fun n s'=>∃ i σ' H',Inv X pins σ' H' s'∧tn i s'.heap∧(∀ b ∈ fp,H' b=none)∧W i n σ' H') ?_ m0 ⟨0,σ,H2,I2,st2,fun b hb=>(f2 b hb).1,w0⟩
 rintro n s3 ⟨i,σ3,H3,I3,st3,fr3,w3⟩
 rcases turn i n σ3 H3 w3 with ⟨stop,qn⟩ | ⟨go,N,hN,step⟩
 ·refine wpAny_passesOwn hp (thn (T.done X rfl rfl rfl hc i pins s3 σ3 H3 X.xe I3 (stat fr3) st3 stop) fun r s4 ⟨hr,I4⟩=>?_)
  subst hr
  exact wpAny_execs_nil ⟨σ3,H3,I4,qn⟩
 ·refine wpAny_passesOwn hp (thn (T.item X rfl rfl rfl hc i pins s3 σ3 H3 X.xe I3 (stat fr3) st3 go) fun r s4 ⟨u,hr,h4⟩=>?_)
  subst hr
  refine wpAny_passesOwn hp (thn h4 fun _ s5 ⟨x,H5,I5,r5,y5,st5,fr5⟩=>?_)
  have I5':=I5.pinned (stat fr5) (T.obj _ _ st5)
  refine wpAny_passesOwn hp (thn (hg _ s5 σ3 H5 x u _ I5' r5 (step x H5 y5)) fun _ s6 ⟨σ6,H6,I6,q6⟩=>?_)
  refine wpAny_passesOwn hp (thn (hb _ s6 σ6 H6 _ I6 q6) fun f s7 q7=>?_)
  have again:∀ {σ7:St} {H7:Hp},Inv X (pins++pinsAt fp s5.heap) σ7 H7 s7→N σ7 H7→∃ m,m < n∧∃ i σ' H',Inv X pins σ' H' s7∧tn i s7.heap∧(∀ b ∈ fp,H' b=none)∧W i m σ' H':=fun {σ7 H7} I7 n7=>by
   obtain ⟨m',hm,w7⟩:=hN σ7 H7 n7
   refine ⟨m',hm,i+1,σ7,H7,I7.unpinned,T.keep _ _ _ st5 fun b hb o e=>(I7.pin (b,o) (List.mem_append_right _ (List.mem_append_right _ (mem_pinsAt hb e)))).1,fun b hb=>?_,w7⟩
   obtain ⟨o,e,d⟩:=T.obj _ _ st5 b hb
   exact (I7.pin (b,o) (List.mem_append_right _ (List.mem_append_right _ (mem_pinsAt hb e)))).2.1
  cases f with
  | next=>obtain ⟨σ7,H7,I7,n7⟩:=q7; exact again I7 n7
  | cont=>obtain ⟨σ7,H7,I7,n7⟩:=q7; exact again I7 n7
  | brk=>obtain ⟨σ7,H7,I7,q7⟩:=q7; exact ⟨σ7,H7,I7.unpinned,q7⟩
  | ret v=>obtain ⟨x7,σ7,H7,I7,r7,q7⟩:=q7; exact ⟨x7,σ7,H7,I7.unpinned,r7,q7⟩
end

theorem for_list {K:PySem.W.Frag} {a:Addr} {xs:List V} {g:TG} {tb:TS} {D:Ends} {σ:St} {H:Hp} (Pv:Nat→St→Hp→Prop) (h0:Pv 0 σ H) (hl:∀ i σ H,i≤xs.length→Pv i σ H→SqL K H a xs)
  (hs:∀ i x σ H,xs[i]? = some x→Pv i σ H→g x σ H fun σ2 H2=>tb { D with nx:=Pv (i+1),ct:=Pv (i+1),bk:=D.nx } σ2 H2) (hd:∀ σ H,Pv xs.length σ H→D.nx σ H) :
  ∃ W:Nat→Nat→St→Hp→Prop,(∃ m,W 0 m σ H)∧∀ i m σ H,W i m σ H →
   ((Itl K a).stop i H∧D.nx σ H)∨((Itl K a).go i H∧∃ N:St→Hp→Prop,(∀ σ' H',N σ' H'→∃ m',m' < m∧W (i+1) m' σ' H')∧∀ x H',(Itl K a).yld i H x H'→g x σ H' fun σ2 H2=>tb { D with nx:=N,ct:=N,bk:=D.nx } σ2 H2):=by
 refine ⟨fun i m σ H=>m=xs.length - i∧i≤xs.length∧Pv i σ H,⟨xs.length,by simp,Nat.zero_le _,h0⟩,?_⟩
 rintro i m σ H ⟨rfl,hi,p⟩
 have q:=hl i σ H hi p
 by_cases hlt:i < xs.length
 ·refine .inr ⟨⟨xs,xs[i],q,by simp [hlt]⟩,Pv (i+1),fun σ' H' p'=>⟨xs.length - (i+1),by omega,rfl,hlt,p'⟩,fun x H' y=>?_⟩
  obtain ⟨e,y⟩:=y
  subst e
  exact hs i x σ _ (y xs q) p
 ·have e:i=xs.length:=by omega
  subst e
  exact .inl ⟨⟨xs,q,Nat.le_refl _⟩,hd σ H p⟩
theorem for_range {lo:Int} {n:Nat} {g:TG} {tb:TS} {D:Ends} {σ:St} {H:Hp} (Pv:Nat→St→Hp→Prop) (h0:Pv 0 σ H)
  (hs:∀ i σ H,i < n→Pv i σ H→g (.int (lo+i)) σ H fun σ2 H2=>tb { D with nx:=Pv (i+1),ct:=Pv (i+1),bk:=D.nx } σ2 H2) (hd:∀ σ H,Pv n σ H→D.nx σ H) :
  ∃ W:Nat→Nat→St→Hp→Prop,(∃ m,W 0 m σ H)∧∀ i m σ H,W i m σ H →
   ((Itr lo n).stop i H∧D.nx σ H)∨((Itr lo n).go i H∧∃ N:St→Hp→Prop,(∀ σ' H',N σ' H'→∃ m',m' < m∧W (i+1) m' σ' H')∧∀ x H',(Itr lo n).yld i H x H'→g x σ H' fun σ2 H2=>tb { D with nx:=N,ct:=N,bk:=D.nx } σ2 H2):=by
 refine ⟨fun i m σ H=>m=n - i∧i≤n∧Pv i σ H,⟨n,by simp,Nat.zero_le _,h0⟩,?_⟩
 rintro i m σ H ⟨rfl,hi,p⟩
 by_cases hlt:i < n
 ·refine .inr ⟨hlt,Pv (i+1),fun σ' H' p'=>⟨n - (i+1),by omega,rfl,hlt,p'⟩,fun x H' y=>?_⟩
  obtain ⟨e,y⟩:=y
  subst e y
  exact hs i σ _ hlt p
 ·have e:i=n:=by omega
  subst e
  exact .inl ⟨Nat.le_refl _,hd σ H p⟩

abbrev R2:=V→V→Hp→VK→Prop
def OpR (X:Cx) (f:Value→Value→Sem Value) (r:R2) : Prop:=
 ∀ (pins:List (Addr × Obj)) (s:Shared) (σ:St) (H:Hp) (x y:V) (v u:Value) (Q:VK),Inv X pins σ H s→RelV x v→RelV y u→r x y H Q →
  wpAny (model X.prog X.w) X.A (f v u) (EP X pins σ Q) X.xe s
def CallR (X:Cx) (f:Value) (r:List V→Hp→VK→Prop) : Prop:=
 ∀ (pins:List (Addr × Obj)) (s:Shared) (σ:St) (H:Hp) (xs:List V) (us:List Value) (Q:VK),Inv X pins σ H s→Vals xs us→r xs H Q →
  wpAny (model X.prog X.w) X.A (call f us) (EP X pins σ Q) X.xe s
def tOp (r:R2) (ta tb:TE) : TE:=fun σ H Q=>ta σ H fun x H1=>tb σ H1 fun y H2=>r x y H2 Q
def rI (C:Int→Int→Prop) (g:Int→Int→V) : R2:=fun x y H Q=>∃ i j,x = .int i∧y = .int j∧C i j∧Q (g i j) H
def rI0 (g:Int→Int→V) : R2:=fun x y H Q=>∃ i j,x = .int i∧y = .int j∧Q (g i j) H
section
variable {X:Cx} {a b c:Expr} {ta tb tc:TE} {pos:Pos}

theorem binT (ha:PE X a ta) (hb:PE X b tb) {pins:List (Addr × Obj)} {s:Shared} {σ:St} {H:Hp} {R:V→V→Hp→Prop} (I:Inv X pins σ H s)
  (h:ta σ H fun x H1=>tb σ H1 fun y H2=>R x y H2) {Q:Value→Shared→Prop} {f:Value→Value→Sem Value}
  (hf:∀ v u s2 x y H2,Inv X pins σ H2 s2→RelV x v→RelV y u→R x y H2→wpAny (model X.prog X.w) X.A (f v u) Q X.xe s2) :
  wpAny (model X.prog X.w) X.A (eval a X.env) (fun v s₁=>wpAny (model X.prog X.w) X.A (eval b X.env) (fun u s₂=>wpAny (model X.prog X.w) X.A (f v u) Q X.xe s₂) X.xe s₁) X.xe s:=by
 refine thn (ha pins s σ H _ I h) fun v s1 ⟨x,H1,I1,r1,q1⟩=>?_
 refine thn (hb pins s1 σ H1 _ I1 q1) fun u s2 ⟨y,H2,I2,r2,q2⟩=>?_
 exact hf v u s2 x y H2 I2 r1 r2 q2

theorem pe_op {op:Operator} {r:R2} (ho:OpR X (binaryOp op) r) (ha:PE X a ta) (hb:PE X b tb) : PE X (.BinOp a op b pos) (tOp r ta tb):=by
 intro pins s σ H Q I h
 exact wpAny_BinOp (binT ha hb I h fun v u s2 x y H2 I2 rx ry q=>ho pins s2 σ H2 x y v u Q I2 rx ry q)
theorem opI {f:Value→Value→Sem Value} {C:Int→Int→Prop} {g:Int→Int→Int}
  (rule:∀ (i j:Int) (t u:Tok) (s:Shared) (Q:Value→Shared→Prop) (E:Value→Shared→Prop),C i j→Q (.int (g i j) s.toks) { s with toks:=s.toks+1 }→wpAny (model X.prog X.w) X.A (f (.int i t) (.int j u)) Q E s) :
  OpR X f (rI C fun i j=>.int (g i j)):=by
 intro pins s σ H x y v u Q I rx ry h
 obtain ⟨i,j,rfl,rfl,hc,q⟩:=h
 obtain ⟨t,rfl⟩:=rx
 obtain ⟨t',rfl⟩:=ry
 exact rule i j t t' s _ _ hc ⟨.int (g i j),H,I.tok _,⟨_,rfl⟩,q⟩
theorem opI0 {f:Value→Value→Sem Value} {g:Int→Int→Int}
  (rule:∀ (i j:Int) (t u:Tok) (s:Shared) (Q:Value→Shared→Prop) (E:Value→Shared→Prop),Q (.int (g i j) s.toks) { s with toks:=s.toks+1 }→wpAny (model X.prog X.w) X.A (f (.int i t) (.int j u)) Q E s) :
  OpR X f (rI0 fun i j=>.int (g i j)):=by
 intro pins s σ H x y v u Q I rx ry h
 obtain ⟨i,j,rfl,rfl,q⟩:=h
 obtain ⟨t,rfl⟩:=rx
 obtain ⟨t',rfl⟩:=ry
 exact rule i j t t' s _ _ ⟨.int (g i j),H,I.tok _,⟨_,rfl⟩,q⟩
theorem opB0 {f:Value→Value→Sem Value} {g:Int→Int→Bool}
  (rule:∀ (i j:Int) (t u:Tok) (s:Shared) (Q:Value→Shared→Prop) (E:Value→Shared→Prop),Q (.bool (g i j)) s→wpAny (model X.prog X.w) X.A (f (.int i t) (.int j u)) Q E s) :
  OpR X f (rI0 fun i j=>.bl (g i j)):=by
 intro pins s σ H x y v u Q I rx ry h
 obtain ⟨i,j,rfl,rfl,q⟩:=h
 obtain ⟨t,rfl⟩:=rx
 obtain ⟨t',rfl⟩:=ry
 exact rule i j t t' s _ _ ⟨.bl (g i j),H,I,rfl,q⟩

def CDiv (i j:Int) : Prop:=0 < j∧j < 1073741824
def CPow (i j:Int) : Prop:=0≤j∧j≤1000000∧i.natAbs < 2 ^ 64
def CMul (i j:Int) : Prop:=(-(2 ^ 64) < i∧i < 2 ^ 64)∨(-(2 ^ 64) < j∧j < 2 ^ 64)
theorem CMul.ok {i j:Int} (h:CMul i j) : IntMulOk i j:=by
 rcases h with ⟨h1,h2⟩ | ⟨h1,h2⟩
 ·exact .of_left (intBits_le_64 h1 h2)
 ·exact .of_right (intBits_le_64 h1 h2)
theorem op_add:OpR X (binaryOp .Add) (rI0 fun i j=>.int (i+j)):=opI0 fun _ _ _ _ _ _ _ q=>add_int q
theorem op_sub:OpR X (binaryOp .Sub) (rI0 fun i j=>.int (i - j)):=opI0 fun _ _ _ _ _ _ _ q=>sub_int q
theorem op_mul:OpR X (binaryOp .Mult) (rI CMul fun i j=>.int (i * j)):=opI fun _ _ _ _ _ _ _ hc q=>mul_int q hc.ok
theorem op_fdiv:OpR X (binaryOp .FloorDiv) (rI CDiv fun i j=>.int (i / j)):=opI fun i j _ _ _ _ _ hc q=>by
 have h1:(0:Int) < j:=hc.1
 have h2:j < 1073741824:=hc.2
 exact floordiv_int (by omega) (by rw [Int.fdiv_eq_ediv_of_nonneg i (by omega)]; exact q) (.inl (PyProof.noPylong_small (by omega)))
theorem op_mod:OpR X (binaryOp .Mod) (rI (fun _ j=>0 < j) fun i j=>.int (i % j)):=opI fun i j _ _ _ _ _ hc q=>by
 have h1:(0:Int) < j:=hc
 exact mod_int' (by omega) (by rw [Int.fmod_eq_emod_of_nonneg i (by omega)]; exact q)
theorem op_pow:OpR X (binaryOp .Pow) (rI CPow fun i j=>.int (i ^ j.toNat)):=opI fun _ _ _ _ _ _ _ hc q=>pow_int_small hc.1 hc.2.1 hc.2.2 q
end

def scal:V→V→Bool
 | .non,.non=>true | .non,.int _=>true | .int _,.non=>true | .non,.bl _=>true | .bl _,.non=>true | .non,.str _=>true | .str _,.non=>true
 | .int _,.int _=>true | .bl _,.bl _=>true | .str _,.str _=>true | .byt _,.byt _=>true
 | .int _,.str _=>true | .str _,.int _=>true | .bl _,.str _=>true | .str _,.bl _=>true
 | _,_=>false
def rEq:R2:=fun x y H Q=>scal x y=true∧Q (.bl (decide (x=y))) H
def rNe:R2:=fun x y H Q=>scal x y=true∧Q (.bl (!decide (x=y))) H

theorem dec_int {i j:Int} : decide (V.int i=V.int j)=(i == j):=by
 rw [Bool.eq_iff_iff]
 simp
theorem dec_bl {i j:Bool} : decide (V.bl i=V.bl j)=(i == j):=by
 rw [Bool.eq_iff_iff]
 simp
theorem dec_str {i j:Str} : decide (V.str i=V.str j)=(i == j):=by
 rw [Bool.eq_iff_iff]
 simp
theorem dec_byt {i j:Array UInt8} : decide (V.byt i=V.byt j)=(i.toList == j.toList):=by
 rw [Bool.eq_iff_iff]
 cases i
 cases j
 simp

section
variable {X:Cx} {a b c:Expr} {ta tb tc:TE} {pos:Pos}
theorem fin_bl {pins:List (Addr × Obj)} {σ:St} {H:Hp} {s:Shared} {Q:VK} {k k':Bool} (I:Inv X pins σ H s) (q:Q (.bl k) H) (e:k=k') : EP X pins σ Q (.bool k') s:=by
 subst e
 exact ⟨.bl k,H,I,rfl,q⟩
theorem op_eq:OpR X (compareOp .Eq) rEq:=by
 intro pins s σ H x y v u Q I rx ry h
 obtain ⟨hs,q⟩:=h
 cases x with
 | non =>
  cases rx
  cases y with
  | non=>cases ry; exact PySem.EqNone.eq_none_none (fin_bl I q (by simp))
  | bl j=>cases ry; exact PySem.EqNone.eq_none_bool (fin_bl I q (by simp))
  | int j=>obtain ⟨t',rfl⟩:=ry; exact PySem.EqNone.eq_none_int (fin_bl I q (by simp))
  | str j=>obtain ⟨t',rfl⟩:=ry; exact PySem.EqNone.eq_none_str (fin_bl I q (by simp))
  | _=>exact absurd (show false=true from hs) Bool.false_ne_true
 | bl i =>
  cases rx
  cases y with
  | non=>cases ry; exact PySem.EqNone.eq_bool_none (fin_bl I q (by simp))
  | bl j=>cases ry; exact eq_bool (fin_bl I q dec_bl)
  | str j=>obtain ⟨t',rfl⟩:=ry; exact PySem.EqMixed.eq_bool_str (fin_bl I q (by simp))
  | _=>exact absurd (show false=true from hs) Bool.false_ne_true
 | int i =>
  obtain ⟨t,rfl⟩:=rx
  cases y with
  | non=>cases ry; exact PySem.EqNone.eq_int_none (fin_bl I q (by simp))
  | int j=>obtain ⟨t',rfl⟩:=ry; exact eq_int (fin_bl I q dec_int)
  | str j=>obtain ⟨t',rfl⟩:=ry; exact PySem.EqMixed.eq_int_str (fin_bl I q (by simp))
  | _=>exact absurd (show false=true from hs) Bool.false_ne_true
 | str i =>
  obtain ⟨t,rfl⟩:=rx
  cases y with
  | non=>cases ry; exact PySem.EqNone.eq_str_none (fin_bl I q (by simp))
  | bl j=>cases ry; exact PySem.EqMixed.eq_str_bool (fin_bl I q (by simp))
  | int j=>obtain ⟨t',rfl⟩:=ry; exact PySem.EqMixed.eq_str_int (fin_bl I q (by simp))
  | str j=>obtain ⟨t',rfl⟩:=ry; exact eq_str (fin_bl I q dec_str)
  | _=>exact absurd (show false=true from hs) Bool.false_ne_true
 | byt i =>
  obtain ⟨t,rfl⟩:=rx
  cases y with
  | byt j=>obtain ⟨t',rfl⟩:=ry; exact PySem.W.eq_bytes (fin_bl I q dec_byt)
  | _=>exact absurd (show false=true from hs) Bool.false_ne_true
 | _=>cases y <;> exact absurd (show false=true from hs) Bool.false_ne_true
theorem op_ne:OpR X (compareOp .NotEq) rNe:=by
 intro pins s σ H x y v u Q I rx ry h
 obtain ⟨hs,q⟩:=h
 cases x with
 | non =>
  cases rx
  cases y with
  | non=>cases ry; exact PySem.EqNone.ne_none_none (fin_bl I q (by simp))
  | bl j=>cases ry; exact PySem.EqNone.ne_none_bool (fin_bl I q (by simp))
  | int j=>obtain ⟨t',rfl⟩:=ry; exact PySem.EqNone.ne_none_int (fin_bl I q (by simp))
  | str j=>obtain ⟨t',rfl⟩:=ry; exact PySem.EqNone.ne_none_str (fin_bl I q (by simp))
  | _=>exact absurd (show false=true from hs) Bool.false_ne_true
 | bl i =>
  cases rx
  cases y with
  | non=>cases ry; exact PySem.EqNone.ne_bool_none (fin_bl I q (by simp))
  | bl j=>cases ry; exact ne_bool (fin_bl I q (congrArg not dec_bl))
  | str j=>obtain ⟨t',rfl⟩:=ry; exact PySem.EqMixed.ne_bool_str (fin_bl I q (by simp))
  | _=>exact absurd (show false=true from hs) Bool.false_ne_true
 | int i =>
  obtain ⟨t,rfl⟩:=rx
  cases y with
  | non=>cases ry; exact PySem.EqNone.ne_int_none (fin_bl I q (by simp))
  | int j=>obtain ⟨t',rfl⟩:=ry; exact ne_int (fin_bl I q (congrArg not dec_int))
  | str j=>obtain ⟨t',rfl⟩:=ry; exact PySem.EqMixed.ne_int_str (fin_bl I q (by simp))
  | _=>exact absurd (show false=true from hs) Bool.false_ne_true
 | str i =>
  obtain ⟨t,rfl⟩:=rx
  cases y with
  | non=>cases ry; exact PySem.EqNone.ne_str_none (fin_bl I q (by simp))
  | bl j=>cases ry; exact PySem.EqMixed.ne_str_bool (fin_bl I q (by simp))
  | int j=>obtain ⟨t',rfl⟩:=ry; exact PySem.EqMixed.ne_str_int (fin_bl I q (by simp))
  | str j=>obtain ⟨t',rfl⟩:=ry; exact ne_str (fin_bl I q (congrArg not dec_str))
  | _=>exact absurd (show false=true from hs) Bool.false_ne_true
 | byt i =>
  obtain ⟨t,rfl⟩:=rx
  cases y with
  | byt j=>obtain ⟨t',rfl⟩:=ry; exact PySem.W.ne_bytes (fin_bl I q (congrArg not dec_byt))
  | _=>exact absurd (show false=true from hs) Bool.false_ne_true
 | _=>cases y <;> exact absurd (show false=true from hs) Bool.false_ne_true

theorem op_lt:OpR X (compareOp .Lt) (rI0 fun i j=>.bl (decide (i < j))):=opB0 fun _ _ _ _ _ _ _ q=>lt_int q
theorem op_ge:OpR X (compareOp .GtE) (rI0 fun i j=>.bl (decide (j≤i))):=opB0 fun _ _ _ _ _ _ _ q=>ge_int q
theorem op_isN:OpR X (compareOp .Is) (fun x y H Q=>y = .non∧Q (.bl (decide (x = .non))) H):=by
 intro pins s σ H x y v u Q I rx ry h
 obtain ⟨rfl,q⟩:=h
 cases ry
 refine is_none_gen (fin_bl I q ?_)
 cases x <;> first
  | (cases rx; rfl)
  | (obtain ⟨t,rfl⟩:=rx; rfl)
theorem op_notN:OpR X (compareOp .IsNot) (fun x y H Q=>y = .non∧Q (.bl (!decide (x = .non))) H):=by
 intro pins s σ H x y v u Q I rx ry h
 obtain ⟨rfl,q⟩:=h
 cases ry
 refine isnot_none_gen (fin_bl I q ?_)
 cases x <;> first
  | (cases rx; rfl)
  | (obtain ⟨t,rfl⟩:=rx; rfl)

theorem nomark (b:Expr) {op:CmpOp} (h:op≠.In:=by decide) (h2:op≠.NotIn:=by decide) : behindInMarks op b=false:=by
 have e1:(op == CmpOp.In)=false:=by cases op <;> first | rfl | exact absurd rfl h
 have e2:(op == CmpOp.NotIn)=false:=by cases op <;> first | rfl | exact absurd rfl h2
 cases b <;> simp [behindInMarks,e1,e2]
theorem pe_cmpR {op:CmpOp} {r:R2} (ho:OpR X (compareOp op) r) (ha:PE X a ta) (hb:PE X b tb) (hm:behindInMarks op b=false) : PE X (.Compare a [op] [b] pos) (tOp r ta tb):=by
 intro pins s σ H Q I h
 exact wpAny_Compare1 (binT ha hb I h fun v u s2 x y H2 I2 rx ry q=>ho pins s2 σ H2 x y v u Q I2 rx ry q) hm
def tTest (t:TE) : TT:=fun σ H Q=>t σ H fun x H'=>∃ k,x = .bl k∧Q k H'
theorem pt_cmpR {op:CmpOp} {r:R2} (ho:OpR X (compareOp op) r) (ha:PE X a ta) (hb:PE X b tb) (hm:behindInMarks op b=false) : PT X (.Compare a [op] [b] pos) (tTest (tOp r ta tb)):=by
 intro pins s σ H Q I h
 refine wpAny_isTrue_Compare1 (thn (ha pins s σ H _ I h) fun v s1 ⟨x,H1,I1,r1,q1⟩=>thn (hb pins s1 σ H1 _ I1 q1) fun u s2 ⟨y,H2,I2,r2,q2⟩ =>
  thn (ho pins s2 σ H2 x y v u _ I2 r1 r2 q2) fun c s3 ⟨z,H3,I3,r3,k,e,q3⟩=>?_) hm
 subst e
 cases r3
 exact wpAny_truthy_bool ⟨H3,I3,q3⟩
theorem line63:(sizeLine:Nat) < 2 ^ 63:=by rw [sizeLine_eq]; decide
theorem op_add_str:OpR X (binaryOp .Add) (fun x y H Q=>∃ i j,x = .str i∧y = .str j∧i.length+j.length≤sizeLine∧Q (.str (i++j)) H):=by
 intro pins s σ H x y v u Q I rx ry h
 obtain ⟨i,j,rfl,rfl,hz,q⟩:=h
 obtain ⟨t,rfl⟩:=rx
 obtain ⟨t',rfl⟩:=ry
 exact add_str (fun t' tk=>⟨.str (i++j),H,I.tok _,⟨_,rfl⟩,q⟩) hz
theorem vals1 {x:V} {us:List Value} (r:Vals [x] us) : ∃ u,us=[u]∧RelV x u:=by
 cases r with
 | cons r1 r2=>cases r2; exact ⟨_,rfl,r1⟩
theorem vals2 {x y:V} {us:List Value} (r:Vals [x,y] us) : ∃ u w',us=[u,w']∧RelV x u∧RelV y w':=by
 cases r with
 | cons r1 r2 =>
  cases r2 with
  | cons r3 r4=>cases r4; exact ⟨_,_,rfl,r1,r3⟩
theorem call_max2 (hc:X.calm=true) : CallR X (.builtin "max") (fun xs H Q=>∃ i j,xs=[.int i,.int j]∧Q (.int (if j > i then j else i)) H):=by
 intro pins s σ H xs us Q I r h
 obtain ⟨i,j,rfl,q⟩:=h
 obtain ⟨u,w',rfl,⟨t,rfl⟩,⟨t',rfl⟩⟩:=vals2 r
 refine max_two_ints (I.ok.hd hc) fun h' tk k=>⟨_,H,I.kept k,?_,q⟩
 by_cases hj:j > i
 ·rw [if_pos hj,if_pos hj]; exact ⟨_,rfl⟩
 ·rw [if_neg hj,if_neg hj]; exact ⟨_,rfl⟩
end

section
variable {prog:Program} {w:World} {A:Around} {E:Value→Shared→Prop} {s:Shared} {K:PySem.W.Frag} {x dx C f:Addr} {mA:Str→Option Value} {name:Str} {v:Value}

end

theorem RelO.some_of {v:V} {o:Option Value} (r:RelO (some v) o) : ∃ u,o=some u∧RelV v u:=by
 cases o with
 | none=>exact (show False from r).elim
 | some u=>exact ⟨u,rfl,r⟩
section
variable {P:Program} {w:World} {H H':Hp} {h h':Heap} {a C dx:Addr} {fs fs':List (Str × V)}
end

structure Cls (K:PySem.W.Frag) (C:Addr) : Prop where
 pg:PySem.W.plainGet K C Str.empty=true
 hd:PySem.W.hasDictIn K C=true
 po:PySem.W.plainOver K C=true
 sa:PySem.W.findIn K (.ref C) "__setattr__" = some (some (.builtin "object.__setattr__"))
theorem Cls.get {K:PySem.W.Frag} {C:Addr} (c:Cls K C) (f:Str) : PySem.W.plainGet K C f=true:=c.pg
section
variable {X:Cx} {pins:List (Addr × Obj)} {σ:St} {H:Hp} {s:Shared} {a C dx:Addr} {fs:List (Str × V)} {f:Str} {v:V} {A:Around} {E:Value→Shared→Prop}

end

section
variable {X:Cx} {o e value:Expr} {f:Str} {pos pos' tpos:Pos} {ta tv:TE}
end

section
variable {X:Cx} {pins:List (Addr × Obj)} {σ:St} {H:Hp} {s:Shared} {A:Around} {E:Value→Shared→Prop} {Q:Value→Shared→Prop} {c:Value} {b:Bool}
end

structure Room (k:Nat) (A:Around) : Prop where
 hd:A.handled=none
 dp:A.depth+3 * k+5 < recursionLimit
 un:A.units+16 * k+200 < cLine
theorem Room.mono {j k:Nat} {A:Around} (r:Room k A) (h:j≤k) : Room j A:=⟨r.hd,by have:=r.dp; omega,by have:=r.un; omega⟩
theorem Room.deeper {k:Nat} {A:Around} (r:Room (k+1) A) (env:Env) : Room k (A.deeper env):=
 ⟨r.hd,by have:=r.dp; show A.depth+1+3 * k+5 < _; omega,by have:=r.un; show A.units+3+16 * k+200 < _; omega⟩
theorem Room.in1 {k:Nat} {A:Around} (r:Room (k+1) A) : Room k A.in1:=
 ⟨r.hd,by have:=r.dp; show A.depth+3 * k+5 < _; omega,by have:=r.un; show A.units+1+16 * k+200 < _; omega⟩
theorem Room.depth {k:Nat} {A:Around} (r:Room k A) : A.depth < recursionLimit:=by have:=r.dp; omega
theorem Room.units {k:Nat} {A:Around} (r:Room k A) : A.units+64 < cLine:=by have:=r.un; omega
def tNil:TA:=fun _ H Q=>Q [] H
def tCons (ta:TE) (tr:TA) : TA:=fun σ H Q=>ta σ H fun x H1=>tr σ H1 fun xs H2=>Q (x :: xs) H2
section
variable {X:Cx} {e:Expr} {es:List Expr} {te:TE} {t:TA} {pos:Pos}
theorem pa_nil:PA X [] tNil:=fun _ _ _ _ H Q I h=>Calls.spliced_nil ⟨[],H,I,.nil,h⟩
theorem pa_cons (ha:PE X e te) (hr:PA X es t) (hs:starEach (e :: es) X.env=(false,eval e X.env) :: starEach es X.env:=by rfl) : PA X (e :: es) (tCons te t):=by
 intro pos pins s σ H Q I h
 rw [hs]
 show wpAny _ _ (spliced ((false,eval e X.env) :: backTo pos (starEach es X.env))) _ _ s
 refine Calls.spliced_cons (thn (ha pins s σ H _ I h) fun u s1 ⟨x,H1,I1,r1,q1⟩=>?_)
 exact thn (hr pos pins s1 σ H1 _ I1 q1) fun us s2 ⟨xs,H2,I2,r2,q2⟩=>⟨x :: xs,H2,I2,.cons r1 r2,q2⟩

def tTup (t:TA) : TE:=fun σ H Q=>t σ H fun xs H1=>xs.length≤sizeLine∧∀ p,H1 p=none→Q (.ref p) (upd H1 p (.tup xs))
def tLst (t:TA) : TE:=fun σ H Q=>t σ H fun xs H1=>xs.length≤sizeLine∧∀ p,H1 p=none→Q (.ref p) (upd H1 p (.lst xs))
theorem pe_tup {x1} (h:PA X es t) : PE X (.Tuple es x1 pos) (tTup t):=by
 intro pins s σ H Q I hq
 refine wpAny_Tuple_spliced (thn (h pos pins s σ H _ I hq) fun us s1 ⟨xs,H1,I1,r,z,q⟩=>⟨by rw [← r.length]; exact z,?_⟩)
 have hf:H1 s1.heap.objs.size=none:=I1.hok.fresh (Nat.le_refl _)
 refine ⟨.ref s1.heap.objs.size,upd H1 s1.heap.objs.size (.tup xs),I1.laid (t':=s1.toks) (fun b u e=>Heap.get?_push_of_some _ e) (Nat.le_refl _) ?_,rfl,q _ hf⟩
 exact ⟨z,us,r,⟨_,Heap.get?_push_size _ rfl,rfl,_,rfl⟩⟩
theorem pe_lst (h:PA X es t) : PE X (.List es pos) (tLst t):=by
 intro pins s σ H Q I hq
 refine wpAny_List_spliced (thn (h pos pins s σ H _ I hq) fun us s1 ⟨xs,H1,I1,r,z,q⟩=>⟨by rw [← r.length]; exact z,?_⟩)
 have hf:H1 s1.heap.objs.size=none:=I1.hok.fresh (Nat.le_refl _)
 refine ⟨.ref s1.heap.objs.size,upd H1 s1.heap.objs.size (.lst xs),I1.laid (t':=s1.toks) (fun b u e=>Heap.get?_push_of_some _ e) (Nat.le_refl _) ?_,rfl,q _ hf⟩
 exact ⟨z,us,0,r,Heap.get?_push_size _ rfl⟩
end

abbrev Sp:=List V→Hp→VK→XK→Prop
abbrev CXT:=List Env→Hp→Shared→XK→Value→Shared→Prop

structure Env0 (P:Program) (w:World) (K:PySem.W.Frag) (mg:Str→Option Value) (base:Heap) (A:Around) (outer:List Env) (s:Shared) (H:Hp) : Prop where
 frames:A.frames=some outer
 mod:Mod K mg base
 bs:∀ b o,base.get? b=some o→s.heap.get? b=some o∧H b=none
 bsz:base.objs.size≤s.heap.objs.size
 funs:s.heap.FunFrames base outer
 frf:∀ b ∈ frs outer,H b=none
 hok:HOk P w H s.heap
 bare:AllBare s.gens
def CE (outer:List Env) (P:Program) (w:World) (H:Hp) (s:Shared) (Q:VK) (u:Value) (s':Shared) : Prop:=
 ∃ v H',s'.os=s.os∧AllBare s'.gens∧Un (frs outer) [] H H' s.heap s'.heap∧HOk P w H' s'.heap∧RelV v u∧Q v H'
def CR (CX:CXT) (outer:List Env) (P:Program) (w:World) (H:Hp) (s:Shared) (Q:VK) (E:XK) (r:Result) (s':Shared) : Prop:=
 match r with
 | .ok (.ret u)=>CE outer P w H s Q u s'
 | .ok _=>False
 | .error e=>CX outer H s E e s'
structure FnOk (P:Program) (w:World) (K:PySem.W.Frag) (mg:Str→Option Value) (base:Heap) (CX:CXT) (k:Nat) (f:Addr) (fd:FuncData) (ps:List Str) (sp:Sp) : Prop where
 len:∀ vs H Q E,sp vs H Q E→vs.length=ps.length
 run:∀ (A:Around) (outer:List Env) (s:Shared) (H:Hp) (args:Args) (us:List Value) (vs:List V) (Q:VK) (E:XK),Room k A→Env0 P w K mg base A outer s H→BindsTo s fd args (ps.zip us)→Vals vs us→sp vs H Q E →
  codeAny (model P w) A (.call (.ref f) args) (CR CX outer P w H s Q E) s
theorem FnOk.mono {P:Program} {w:World} {K:PySem.W.Frag} {mg:Str→Option Value} {base:Heap} {CX:CXT} {j k:Nat} {f:Addr} {fd:FuncData} {ps:List Str} {sp:Sp} (F:FnOk P w K mg base CX j f fd ps sp) (h:j≤k) :
  FnOk P w K mg base CX k f fd ps sp:=⟨F.len,fun A outer s H args us vs Q E hr=>F.run A outer s H args us vs Q E (hr.mono h)⟩
theorem Env0.in1 {P:Program} {w:World} {K:PySem.W.Frag} {mg:Str→Option Value} {base:Heap} {A:Around} {outer:List Env} {s:Shared} {H:Hp} (e:Env0 P w K mg base A outer s H) :
  Env0 P w K mg base A.in1 outer s H:=⟨e.frames,e.mod,e.bs,e.bsz,e.funs,e.frf,e.hok,e.bare⟩

section
variable {X:Cx} {pins:List (Addr × Obj)} {σ:St} {H:Hp} {s s':Shared}
theorem Inv.env0 (I:Inv X pins σ H s) : Env0 X.prog X.w X.K X.mg X.base X.A X.stack s H:=
 ⟨I.ok.frames,I.ok.mod,I.bs,Nat.le_trans I.ok.bsz I.sz,I.stack,I.stkFree,I.hok,I.bare⟩
theorem Inv.after {Q:VK} {u:Value} (I:Inv X pins σ H s) (h:CE X.stack X.prog X.w H s Q u s') : EP X pins σ Q u s':=by
 obtain ⟨v,H',os,bare,un,hok,r,q⟩:=h
 obtain ⟨hh,g,d,t,os'⟩:=s'
 obtain rfl:os' = s.os:=os
 exact ⟨v,H',I.call (h':=hh) (g':=g) (d':=d) (t':=t) (ch:=[]) un hok bare (fun b z=>absurd z (by simp)),r,q⟩
end

def tCall (sp:Sp) (dvs:List V) (E:XK) (t:TA) : TE:=fun σ H Q=>t σ H fun vs H1=>sp (vs++dvs) H1 Q E
def Binds (K:PySem.W.Frag) (fd:FuncData) (ps:List Str) (ds:List Value) : Prop:=
 ∀ (s:Shared) (us:List Value),K.In s.heap→(us++ds).length=ps.length→BindsTo s fd ⟨us,[]⟩ (ps.zip (us++ds))
theorem Binds.all {K:PySem.W.Frag} {fd:FuncData} {ps:List Str} (h:∀ us:List Value,us.length=ps.length→bindArgs fd ⟨us,[]⟩=pure (ps.zip us)) : Binds K fd ps []:=fun s us _ hl=>by
 rw [List.append_nil] at hl ⊢
 exact .of_eq (h us hl)

def Passes (CX:CXT) (X:Cx) (E:XK) : Prop:=∀ (pins:List (Addr × Obj)) (σ:St) (H:Hp) (s:Shared) (e:Value) (s':Shared),Inv X pins σ H s→CX X.stack H s E e s'→X.xe e s'

section
variable {X:Cx} {CX:CXT} {k:Nat} {f C:Addr} {fd:FuncData} {ps:List Str} {sp:Sp} {dvs:List V} {ds:List Value} {E:XK} {x m:Str} {p pos apos:Pos} {e o:Expr} {es:List Expr} {ta:TE} {t:TA}

theorem run_fn {pins:List (Addr × Obj)} {σ:St} {H:Hp} {s:Shared} {Q:VK} {us:List Value} {vs:List V} (F:FnOk X.prog X.w X.K X.mg X.base CX k f fd ps sp) (hr:Room k X.A) (hb:Binds X.K fd ps ds) (hd:Vals dvs ds) (hx:Passes CX X E)
  (I:Inv X pins σ H s) (r:Vals vs us) (h:sp (vs++dvs) H Q E) : wpAny (model X.prog X.w) X.A (call (.ref f) us) (EP X pins σ Q) X.xe s:=by
 have r2:Vals (vs++dvs) (us++ds):=r.append hd
 have hl:(us++ds).length=ps.length:=by rw [← r2.length]; exact F.len _ _ _ _ h
 refine wpAny_call (codeAny_mono (F.run X.A X.stack s H ⟨us,[]⟩ (us++ds) (vs++dvs) Q E hr I.env0 (hb s us I.kIn hl) r2 h) fun r s' hq=>?_)
 cases r with
 | error e=>exact hx pins σ H s e s' I hq
 | ok fl =>
  cases fl with
  | ret u=>exact I.after hq
  | next=>exact False.elim hq
  | brk=>exact False.elim hq
  | cont=>exact False.elim hq

theorem pe_call (F:FnOk X.prog X.w X.K X.mg X.base CX k f fd ps sp) (hr:Room k X.A) (hg:Gl X x) (hm:X.mg x=some (.ref f)) (hk:PySem.W.keepIn X.K (.ref f)=true) (hb:Binds X.K fd ps ds) (hd:Vals dvs ds) (hx:Passes CX X E)
  (ha:PA X (e :: es) t) (hdb:(x == ("__debug__" : Str))=false:=by decide) (he:starEach (e :: es) X.env=(false,eval e X.env) :: starEach es X.env:=by rfl) (hpl:(backTo pos (starEach es X.env)).any (·.1)=false:=by rfl) :
  PE X (.Call (.Name x p) (e :: es) [] pos) (tCall sp dvs E t):=by
 intro pins s σ H Q I h
 refine wpAny_Call_Name_kw (ld_glob I hg hm ?_ hdb)
 refine PySem.W.callWith_K (h₀:=X.base) I.ok.mod.kin hk (thn (ha pos pins s σ H _ I h) fun us s1 ⟨vs,H1,I1,r,q⟩=>⟨I1.kIn,?_⟩) he hpl
 exact run_fn F hr hb hd hx I1 r q
end

section
variable {X:Cx} {CX:CXT} {k:Nat} {f C:Addr} {fd:FuncData} {ps ks:List Str} {sp:Sp} {E:XK} {x m:Str} {p pos apos kpos:Pos} {e o:Expr} {es:List Expr} {kws:List Keyword} {te ta:TE} {t tk:TA} {nm:Option Str}
variable {g:List Value→List Value→List Value} {gV:List V→List V→List V}
end

structure FnScope (N P:List Str) (sc:Scope) : Prop where
 kind:sc.kind = .function
 co:sc.isCoroutine=false
 gen:sc.isGenerator=false
 nd:N.Nodup
 pre:N.take P.length=P
 par:∀ x ∈ P,sc.names.lookup x=some .local∨sc.names.lookup x=some .cell
 nofree:∀ y ∈ sc.names,y.2≠.free

theorem bindL_out {kindOf:Str→Option NameKind} {x:Str} : ∀ {binds:List (Str × Value)} {m:Str→Option Value},(∀ v,(x,v) ∉ binds)→bindL kindOf binds m x=m x
 | [],_,_=>rfl
 | (n,v) :: r,m,h=>by
  unfold bindL
  rw [bindL_out fun w hw=>h w (List.mem_cons_of_mem _ hw)]
  split
  ·have:x≠n:=by rintro rfl; exact h v List.mem_cons_self
   simp [this]
  ·rfl
theorem bindC_out {kindOf:Str→Option NameKind} {x:Str} : ∀ {binds:List (Str × Value)} {m:Str→Option Value},(∀ v,(x,v) ∉ binds)→bindC kindOf binds m x=m x
 | [],_,_=>rfl
 | (n,v) :: r,m,h=>by
  unfold bindC
  rw [bindC_out fun w hw=>h w (List.mem_cons_of_mem _ hw)]
  split
  ·rfl
  ·have:x≠n:=by rintro rfl; exact h v List.mem_cons_self
   simp [this]
theorem bindL_get {kindOf:Str→Option NameKind} {x:Str} {v:Value} : ∀ {P:List Str} {vs:List Value} {i:Nat} {m:Str→Option Value},P.Nodup→P[i]? = some x→vs[i]? = some v→kindOf x=some .local →
  bindL kindOf (P.zip vs) m x=some v
 | [],_,_,_,_,h,_,_=>by simp at h
 | _ :: _,[],_,_,_,_,h,_=>by simp at h
 | p :: P,w :: vs,0,m,nd,h1,h2,hk=>by
  simp at h1 h2; subst h1; subst h2
  show bindL kindOf ((p,w) :: P.zip vs) m p=_
  unfold bindL
  rw [bindL_out fun v hv=>(List.nodup_cons.mp nd).1 (List.of_mem_zip hv).1,if_pos hk]
  simp
 | p :: P,w :: vs,i+1,m,nd,h1,h2,hk=>by
  show bindL kindOf ((p,w) :: P.zip vs) m x=_
  unfold bindL
  exact bindL_get (i:=i) (List.nodup_cons.mp nd).2 (by simpa using h1) (by simpa using h2) hk
theorem bindC_get {kindOf:Str→Option NameKind} {x:Str} {v:Value} : ∀ {P:List Str} {vs:List Value} {i:Nat} {m:Str→Option Value},P.Nodup→P[i]? = some x→vs[i]? = some v→kindOf x≠some .local →
  bindC kindOf (P.zip vs) m x=some v
 | [],_,_,_,_,h,_,_=>by simp at h
 | _ :: _,[],_,_,_,_,h,_=>by simp at h
 | p :: P,w :: vs,0,m,nd,h1,h2,hk=>by
  simp at h1 h2; subst h1; subst h2
  show bindC kindOf ((p,w) :: P.zip vs) m p=_
  unfold bindC
  rw [bindC_out fun v hv=>(List.nodup_cons.mp nd).1 (List.of_mem_zip hv).1,if_neg hk]
  simp
 | p :: P,w :: vs,i+1,m,nd,h1,h2,hk=>by
  show bindC kindOf ((p,w) :: P.zip vs) m x=_
  unfold bindC
  exact bindC_get (i:=i) (List.nodup_cons.mp nd).2 (by simpa using h1) (by simpa using h2) hk

def start (N:List Str) (vs:List V) : St:=vs.map some++List.replicate (N.length - vs.length) none

def cxOf (CX:CXT) (P:Program) (w:World) (K:PySem.W.Frag) (mg:Str→Option Value) (base:Heap) (N:List Str) (qual:Str) (scope:Scope) (f:Addr) (cd:Value) (A:Around) (outer:List Env) (s:Shared) (H:Hp) (E:XK) : Cx where
 prog:=P
 w:=w
 K:=K
 mg:=mg
 base:=base
 A:=A.deeper (envOfC qual scope s.heap.objs.size f cd)
 N:=N
 s₀:=s
 H₀:=H
 env:=envOfC qual scope s.heap.objs.size f cd
 outer:=outer
 stack:=envOfC qual scope s.heap.objs.size f cd :: outer
 ex:=[]
 calm:=true
 fn:=fun _=>true
 pn:=[]
 xe:=fun e s'=>wpAny (model P w) (A.deeper (envOfC qual scope s.heap.objs.size f cd)) (leaving (envOfC qual scope s.heap.objs.size f cd) e) (fun _ s''=>CX outer H s E e s'') (fun e' s''=>CX outer H s E e' s'') s'

theorem cell_has {sc:Scope} {n:Nat} {x:Str} (h:sc.names.lookup x=some .cell) : ∃ c,(cellsFrom n sc.names []).lookup x=some c:=by
 have q:=PySem.W.cellsFrom_some sc.names n [] (.inl h)
 exact Option.isSome_iff_exists.mp q

theorem inv_start {CX:CXT} {P:Program} {w:World} {K:PySem.W.Frag} {mg:Str→Option Value} {base:Heap} {N ps:List Str} {qual:Str} {scope:Scope} {f:Addr} {cd:Value} {A:Around} {outer:List Env} {s s1:Shared} {H:Hp} {E:XK} {us:List Value} {vs:List V}
  (S:FnScope N ps scope) (hd:A.handled=none) (e0:Env0 P w K mg base A outer s H) (hl:vs.length=ps.length) (r:Vals vs us)
  (x:InCallC s s.heap.objs.size (bindL (envOfC qual scope s.heap.objs.size f cd).kindOf (ps.zip us) fun _=>none) (cellsFrom (s.heap.objs.size+1) scope.names []) (bindC (envOfC qual scope s.heap.objs.size f cd).kindOf (ps.zip us) fun _=>none) s1) :
  Inv (cxOf CX P w K mg base N qual scope f cd A outer s H E) [] (start N vs) H s1:=by
 have hpl:ps.length≤N.length:=by have:=congrArg List.length S.pre; rw [List.length_take] at this; omega
 obtain ⟨h1,tk,rfl,hk⟩:=x.done
 have noA:∀ b:Addr,b ∉ (cxOf CX P w K mg base N qual scope f cd A outer s H E).ex:=fun b z=>absurd (show b ∈ ([] : List Addr) from z) (by simp)
 refine ⟨⟨e0.mod,S.kind,rfl,rfl,Nat.le_refl _,fun y z c h1 h2=>?_,fun y hy=>?_,fun y c _ h=>?_,fun _=>hd,Around.frames_deeper e0.frames,.inr ⟨rfl,rfl⟩,fun b z=>absurd z (noA b),e0.bs,e0.bsz,fun b _ _=>noA b,fun b z=>absurd z (noA b),e0.funs,e0.frf⟩,
  rfl,e0.bare,Un.kept hk,⟨_,x.toInCall.ns,fun i y v h1 h2 h3=>?_⟩,fun y c h=>⟨_,x.cell y c h⟩,e0.hok.fresh (Nat.le_refl _),fun y c h=>?_,fun p hp=>absurd (show p ∈ ([] : List (Addr × Obj)) from hp) (by simp),e0.hok.kept hk,?_⟩
 ·exact name_of_addr x.apart (PySem.mem_of_lookup h1) (PySem.mem_of_lookup h2)
 ·have hy:scope.names.lookup y=some .cell∨scope.names.lookup y=some .free:=hy
  rcases hy with hy | hy
  ·exact cell_has hy
  ·exact absurd rfl (S.nofree _ (PySem.mem_of_lookup hy))
 ·exact Nat.le_of_lt (x.above y c (PySem.mem_of_lookup h))
 ·have hi:i < vs.length:=by
   unfold start at h2
   by_cases hi:i < vs.length
   ·exact hi
   ·rw [List.getElem?_append_right (by simpa using hi)] at h2
    rw [List.getElem?_replicate] at h2
    split at h2 <;> cases h2
  have ha:vs[i]? = some v:=by
   unfold start at h2
   rw [List.getElem?_append_left (by simpa using hi),List.getElem?_map] at h2
   cases e:vs[i]? with
   | none=>rw [e] at h2; cases h2
   | some a=>rw [e] at h2; cases h2; rfl
  obtain ⟨u,hu,rv⟩:=r.get ha
  have hp:ps[i]? = some y:=by
   rw [← S.pre,List.getElem?_take_of_lt (by omega)]; exact h1
  have ndP:ps.Nodup:=by rw [← S.pre]; exact S.nd.sublist (List.take_sublist _ _)
  refine ⟨u,rv,?_⟩
  rcases S.par y (List.mem_of_getElem? hp) with k | k
  ·exact .inl ⟨k,bindL_get ndP hp hu k⟩
  ·obtain ⟨c,e⟩:=cell_has (n:=s.heap.objs.size+1) k
   refine .inr ⟨.inl k,c,e,?_⟩
   have q:=x.cell y c e
   rw [bindC_get ndP hp hu (by show scope.names.lookup y≠_; rw [k]; decide)] at q
   exact q
 ·exact e0.hok.fresh (Nat.le_of_lt (x.above y c (PySem.mem_of_lookup h)))
 ·unfold start
  show _=N.length
  rw [List.length_append,List.length_map,List.length_replicate]
  omega

theorem fn_of {CX:CXT} {P:Program} {w:World} {K:PySem.W.Frag} {mg:Str→Option Value} {base:Heap} {k:Nat} {f:Addr} {name qual:Str} {params:Arguments} {body:List Stmt} {scope:Scope} {dV kV doc pm cdv ct oc:Value} {an od:Option Addr}
  {osl:Array (Option Value)} {N ps:List Str} {sp:Sp} (lk:K.lookup f=some ⟨oc,od,.func (PySem.W.fnOf name qual params body scope dV kV doc pm an cdv ct),osl⟩) (hcd:PySem.W.codeIn K cdv qual=true) (S:FnScope N ps scope)
  (len:∀ vs H Q E,sp vs H Q E→vs.length=ps.length)
  (hbody:∀ (A:Around) (outer:List Env) (s:Shared) (H:Hp) (vs:List V) (Q:VK) (E:XK),Room k (A.deeper (envOfC qual scope s.heap.objs.size f cdv))→sp vs H Q E →
   ∃ t,PSs (cxOf CX P w K mg base N qual scope f cdv A outer s H E) body t∧t { nx:=fun _ H'=>Q .non H',rt:=Q } (start N vs) H) :
  FnOk P w K mg base CX (k+1) f (PySem.W.fnOf name qual params body scope dV kV doc pm an cdv ct) ps sp:=by
 refine ⟨len,fun A outer s H args us vs Q E hr e0 hb r hsp=>?_⟩
 have hl:=len _ _ _ _ hsp
 have KX:K.In s.heap:=e0.mod.kin.keeps fun b o e=>(e0.bs b o e).1
 have lim:s.heap.NoLimit:=e0.mod.nolimit.keeps fun b o e=>(e0.bs b o e).1
 have hkind:∀ y ∈ ps.zip us,scope.names.lookup y.1=some .local∨(scope.names.lookup y.1=some .cell∧((cellsFrom (s.heap.objs.size+1) scope.names []).lookup y.1).isSome=true):=fun ⟨n,v⟩ hy=>by
  rcases S.par n (List.of_mem_zip hy).1 with q | q
  ·exact .inl q
  ·exact .inr ⟨q,PySem.W.cellsFrom_some _ _ _ (.inl q)⟩
 refine codeAny_call_function hr.depth (KX _ _ lk) rfl S.co S.gen rfl (PySem.W.codeRec_of KX hcd) (hb _ _ _ _ ?_)
 refine wpAny_newFunctionEnv_cells S.kind hkind fun env he s1 x=>?_
 subst he
 refine ⟨lim.keeps x.toInCall.keep,codeAny_func ?_⟩
 obtain ⟨t,ht,hq⟩:=hbody A outer s H vs Q E (hr.deeper _) hsp
 have I:Inv (cxOf CX P w K mg base N qual scope f cdv A outer s H E) [] (start N vs) H s1:=inv_start S hr.hd e0 hl r x
 refine wpAny_mono (ht [] s1 (start N vs) H _ I hq) (fun fl s' hs=>?_) fun e s' hs=>hs
 have fin:∀ {σ':St} {H':Hp} {v:V} {u:Value},Inv (cxOf CX P w K mg base N qual scope f cdv A outer s H E) [] σ' H' s'→RelV v u→Q v H'→CE outer P w H s Q u s':=
  fun {σ' H' v u} J rv q=>⟨v,H',J.os,J.bare,J.base,J.hok,rv,q⟩
 cases fl with
 | ret u =>
  obtain ⟨v,σ',H',J,rv,q⟩:=hs
  exact fin J rv q
 | next =>
  obtain ⟨σ',H',J,q⟩:=hs
  exact fin (v:=V.non) (u:=Value.none) J rfl q
 | brk =>
  obtain ⟨_,_,_,q⟩:=hs
  exact False.elim q
 | cont =>
  obtain ⟨_,_,_,q⟩:=hs
  exact False.elim q
section
variable {X:Cx} {x:Str} {p pos:Pos} {e:Expr} {es:List Expr} {t:TA} {id T:String} {r:List V→Hp→VK→Prop}

def tCB (r:List V→Hp→VK→Prop) (t:TA) : TE:=fun σ H Q=>t σ H fun vs H1=>r vs H1 Q
theorem pe_callB (hc:CallR X (.builtin id) r) (hg:Gl X x) (hm:X.mg x=none) (hv:bootBuiltins x=some (.builtin id)) (ha:PA X (e :: es) t) (hn:x≠"__name__":=by decide) (hdb:(x == ("__debug__" : Str))=false:=by decide)
  (he:starEach (e :: es) X.env=(false,eval e X.env) :: starEach es X.env:=by rfl) (hpl:(backTo pos (starEach es X.env)).any (·.1)=false:=by rfl) : PE X (.Call (.Name x p) (e :: es) [] pos) (tCB r t):=by
 intro pins s σ H Q I h
 refine wpAny_Call_Name_kw (ld_blt I hg hm hv ?_ hn hdb)
 exact PyProof.Rows.callWith_builtin1 (thn (ha pos pins s σ H _ I h) fun us s1 ⟨vs,H1,I1,r1,q1⟩=>hc pins s1 σ H1 vs us Q I1 r1 q1) he hpl
theorem pe_callTy (hc:CallR X (.type T) r) (hg:Gl X x) (hm:X.mg x=none) (hv:bootBuiltins x=some (.type T)) (ha:PA X (e :: es) t) (hn:x≠"__name__":=by decide) (hdb:(x == ("__debug__" : Str))=false:=by decide)
  (he:starEach (e :: es) X.env=(false,eval e X.env) :: starEach es X.env:=by rfl) (hpl:(backTo pos (starEach es X.env)).any (·.1)=false:=by rfl) : PE X (.Call (.Name x p) (e :: es) [] pos) (tCB r t):=by
 intro pins s σ H Q I h
 refine wpAny_Call_Name_kw (ld_blt I hg hm hv ?_ hn hdb)
 exact PyProof.Rows.callWith_type1 (thn (ha pos pins s σ H _ I h) fun us s1 ⟨vs,H1,I1,r1,q1⟩=>hc pins s1 σ H1 vs us Q I1 r1 q1) he hpl
end
end L2

namespace HT
open PySem PyProof.Rows

section
open PySem.SeqAt
open PySem.AutoSeq1 (wpAny_loadPart')
open PySem.MeetsSeq PySem.MeetsSeq2 PySem.MeetsSeq3

end

section
variable {prog:Program} {w:World} {A:Around} {E:Value→Shared→Prop} {s:Shared}

def sIx (n d:Nat) : Option Int→Nat
 | none=>d
 | some v=>if v < 0 then (v+(n:Int)).toNat else min v.toNat n
end
end HT

namespace L2
open PySem PySem.Spec PyProof.Rows

abbrev TO:=St→Hp→(Option Int→Hp→Prop)→Prop
def PO (X:Cx) (e:Option Expr) (t:TO) : Prop:=
 ∀ (pins:List (Addr × Obj)) (s:Shared) (σ:St) (H:Hp) (Q:Option Int→Hp→Prop),Inv X pins σ H s→t σ H Q →
  wpAny (model X.prog X.w) X.A (evalPart e X.env) (fun u s'=>∃ o H',Inv X pins σ H' s'∧IsPart u o∧Q o H') X.xe s
def tPart (t:TE) : TO:=fun σ H Q=>t σ H fun x H1=>∃ i,x = .int i∧Q (some i) H1

section
variable {X:Cx} {e:Expr} {te:TE} {lo hi:Option Expr} {tl th:TO} {pos p2:Pos}

theorem po_some (h:PE X e te) : PO X (some e) (tPart te):=by
 intro pins s σ H Q I hw
 rw [evalPart_some]
 refine thn (h pins s σ H _ I hw) fun u s1 ⟨x,H1,I1,r1,q1⟩=>?_
 obtain ⟨i,rfl,q⟩:=q1
 obtain ⟨t,rfl⟩:=r1
 exact ⟨some i,H1,I1,.int i t,q⟩

def SlR (X:Cx) (r:V→Option Int→Option Int→Hp→VK→Prop) : Prop:=
 ∀ (pins:List (Addr × Obj)) (s:Shared) (σ:St) (H:Hp) (x:V) (v vl vu:Value) (lo hi:Option Int) (sl:Addr) (Q:VK),Inv X pins σ H s→RelV x v→s.heap.IsSliceOf sl vl vu .none→IsPart vl lo→IsPart vu hi→r x lo hi H Q →
  ∃ T id,typeLookup (.type T) "__getitem__" = pure (some (.builtin id))∧s.TypeIs v T∧wpAny (model X.prog X.w) X.A (getItem v (.ref sl)) (EP X pins σ Q) X.xe s
def tSl (r:V→Option Int→Option Int→Hp→VK→Prop) (te:TE) (tl th:TO) : TE:=fun σ H Q=>te σ H fun x H1=>tl σ H1 fun l H2=>th σ H2 fun u H3=>r x l u H3 Q
theorem pe_slice {r:V→Option Int→Option Int→Hp→VK→Prop} (hr:SlR X r) (he:PE X e te) (hl:PO X lo tl) (hu:PO X hi th) : PE X (.Subscript e (.Slice lo hi none p2) pos) (tSl r te tl th):=by
 intro pins s σ H Q I h
 refine Subscript_ (thn (he pins s σ H _ I h) fun v s1 ⟨x,H1,I1,r1,q1⟩=>?_)
 refine wpAny_Slice (thn (hl pins s1 σ H1 _ I1 q1) fun vl s2 ⟨l,H2,I2,pl,q2⟩=>thn (hu pins s2 σ H2 _ I2 q2) fun vu s3 ⟨u,H3,I3,pu,q3⟩=>?_)
 rw [evalPart_none]
 refine wpAny_pure ?_
 have I4:Inv X pins σ H3 { s3 with heap:=s3.heap.push { cls:=.type "slice",data:=.fields #[vl,vu,.none] } }:=I3.kept (t':=s3.toks) fun b ob q=>Heap.get?_push_of_some _ q
 obtain ⟨T,id,hT,ht,hg⟩:=hr pins { s3 with heap:=s3.heap.push { cls:=.type "slice",data:=.fields #[vl,vu,.none] } } σ H3 x v vl vu l u s3.heap.objs.size Q I4 r1 (Heap.IsSliceOf.new ..) pl pu q3
 show wpAny (model X.prog X.w) X.A (subscriptTail e (.Slice lo hi none p2) v (.ref s3.heap.objs.size)) (EP X pins σ Q) X.xe { s3 with heap:=s3.heap.push { cls:=.type "slice",data:=.fields #[vl,vu,.none] } }
 exact tail_any (ops:=[.ref s3.heap.objs.size,v]) ht hT hg (by with_unfolding_all rfl)

def cutV (xs:List V) (lo hi:Option Int) : List V:=(xs.drop (HT.sIx xs.length 0 lo)).take (HT.sIx xs.length xs.length hi - HT.sIx xs.length 0 lo)
theorem cutV_length (xs:List V) (lo hi:Option Int) : (cutV xs lo hi).length≤xs.length:=by
 unfold cutV
 rw [List.length_take,List.length_drop]
 omega
end

def ixN (n:Nat) (i:Int) : Option Nat:=if 0≤i then (if i < n then some i.toNat else none) else if -(n:Int)≤i then some (i+n).toNat else none
def atI {α:Type} (xs:List α) (i:Int) : Option α:=(ixN xs.length i).bind fun j=>xs[j]?
theorem ixN_seq {n:Nat} {i:Int} {j:Nat} (h:ixN n i=some j) : seqIndex? i n=some j∧j < n∧-(n:Int)≤i∧i < n:=by
 unfold ixN at h
 by_cases h0:0≤i
 ·rw [if_pos h0] at h
  by_cases h1:i < n
  ·rw [if_pos h1] at h
   have e:i.toNat=j:=Option.some.inj h
   exact ⟨by rw [seqIndex_of h0 h1,e],by omega,by omega,h1⟩
  ·rw [if_neg h1] at h; cases h
 ·rw [if_neg h0] at h
  by_cases h1:-(n:Int)≤i
  ·rw [if_pos h1] at h
   have e:(i+n).toNat=j:=Option.some.inj h
   exact ⟨by rw [seqIndex_neg (by omega) h1,e],by omega,h1,by omega⟩
  ·rw [if_neg h1] at h; cases h
theorem atI_get {α:Type} {xs:List α} {i:Int} {v:α} (h:atI xs i=some v) : ∃ j,seqIndex? i xs.length=some j∧xs[j]? = some v∧j < xs.length∧-(xs.length:Int)≤i∧i < xs.length:=by
 unfold atI at h
 cases e:ixN xs.length i with
 | none=>rw [e] at h; cases h
 | some j =>
  rw [e] at h
  obtain ⟨h1,h2,h3,h4⟩:=ixN_seq e
  exact ⟨j,h1,h,h2,h3,h4⟩
theorem atI_nat {α:Type} {xs:List α} {j:Nat} {v:α} (h:xs[j]? = some v) : atI xs (j:Int)=some v:=by
 have hj:j < xs.length:=(List.getElem?_eq_some_iff.mp h).1
 have e:ixN xs.length (j:Int)=some j:=by
  unfold ixN
  rw [if_pos (by omega),if_pos (by omega)]; simp
 unfold atI; rw [e]; exact h
def PlainIx (b:Expr) : Prop:=∀ o i,subscripted b false o i=operate [o,i] (getItem o i)
def IxR (X:Cx) (r:R2) : Prop:=
 ∀ (value slice:Expr) (pins:List (Addr × Obj)) (s:Shared) (σ:St) (H:Hp) (x y:V) (v u:Value) (Q:VK),Inv X pins σ H s→RelV x v→RelV y u→r x y H Q →
  subscripted slice false v u=operate [v,u] (getItem v u)→wpAny (model X.prog X.w) X.A (subscriptTail value slice v u) (EP X pins σ Q) X.xe s
def MtR (X:Cx) (id:String) (r:V→List V→Hp→VK→Prop) : Prop:=
 ∀ (pins:List (Addr × Obj)) (s:Shared) (σ:St) (H:Hp) (x:V) (xs:List V) (v:Value) (us:List Value) (Q:VK),Inv X pins σ H s→RelV x v→Vals xs us→r x xs H Q →
  wpAny (model X.prog X.w) X.A (call (.builtin id) (v :: us)) (EP X pins σ Q) X.xe s
section
variable {X:Cx} {a b:Expr} {ta tb:TE} {pos:Pos}
theorem pe_ix {r:R2} (hr:IxR X r) (ha:PE X a ta) (hb:PE X b tb) (hs:PlainIx b) : PE X (.Subscript a b pos) (tOp r ta tb):=by
 intro pins s σ H Q I h
 exact Subscript_ (binT ha hb I h fun v u s2 x y H2 I2 rx ry q=>hr a b pins s2 σ H2 x y v u Q I2 rx ry q (hs _ _))

def rIxL (K:PySem.W.Frag) : R2:=fun x y H Q=>∃ p xs i v,x = .ref p∧y = .int i∧SqL K H p xs∧atI xs i=some v∧Q v H
def rIxT (K:PySem.W.Frag) : R2:=fun x y H Q=>∃ p xs i v,x = .ref p∧y = .int i∧SqT K H p xs∧atI xs i=some v∧Q v H
def rIxS:R2:=fun x y H Q=>∃ z i c,x = .str z∧y = .int i∧z.length≤sizeLine∧atI z.cps.toList i=some c∧Q (.str ⟨#[c]⟩) H
theorem ix_list:IxR X (rIxL X.K):=by
 intro value slice pins s σ H x y v u Q I rx ry h hs
 obtain ⟨p,xs,i,z,rfl,rfl,hq,he,q⟩:=h
 cases rx
 obtain ⟨t,rfl⟩:=ry
 obtain ⟨its,r,pl,hz⟩:=I.list hq
 obtain ⟨j,h1,h2,h3,h4,h5⟩:=atI_get he
 obtain ⟨w,ew,rw'⟩:=r.get h2
 have hl:=r.length
 have hn:=line63
 have fin:EP X pins σ Q w s:=⟨z,H,I,rw',q⟩
 by_cases h0:0≤i
 ·have hj:i.toNat=j:=by
   rw [seqIndex_of h0 h5] at h1
   exact Option.some.inj h1
  exact item_listR pl.isList h0 (by omega) (by rw [hj]; simpa using ew) fin hs
 ·have hj:(i+(its.toArray.size:Int)).toNat=j:=by
   rw [seqIndex_neg (by omega) h4] at h1
   rw [List.size_toArray,← hl]
   exact Option.some.inj h1
  exact subscriptTail_builtinR (x:=w) pl.isList.typeIs slot_list_getitem.lookup
   (wpAny_getItem_list_neg (Q:=fun r s'=>r=w∧EP X pins σ Q r s') pl.isList (by omega) (by rw [List.size_toArray] <;> omega) (by omega) (by rw [hj]; simpa using ew) ⟨rfl,fin⟩) hs
theorem ix_tup:IxR X (rIxT X.K):=by
 intro value slice pins s σ H x y v u Q I rx ry h hs
 obtain ⟨p,xs,i,z,rfl,rfl,hq,he,q⟩:=h
 cases rx
 obtain ⟨t,rfl⟩:=ry
 obtain ⟨its,r,pl,hz⟩:=I.tuple hq
 obtain ⟨j,h1,h2,h3,h4,h5⟩:=atI_get he
 obtain ⟨w,ew,rw'⟩:=r.get h2
 have hl:=r.length
 have hn:=line63
 have fin:EP X pins σ Q w s:=⟨z,H,I,rw',q⟩
 exact subscriptTail_builtinR (x:=w) pl.typeIs slot_tuple_getitem.lookup
  (getItem_tuple (j:=j) (Q:=fun r s'=>r=w∧EP X pins σ Q r s') pl (by omega) (by omega) (by rw [List.size_toArray,← hl]; exact h1) (by simpa using ew) ⟨rfl,fin⟩) hs
theorem ix_str:IxR X rIxS:=by
 intro value slice pins s σ H x y v u Q I rx ry h hs
 obtain ⟨z,i,c,rfl,rfl,hz,he,q⟩:=h
 obtain ⟨t,rfl⟩:=rx
 obtain ⟨t',rfl⟩:=ry
 obtain ⟨j,h1,h2,h3,h4,h5⟩:=atI_get he
 have hl:z.cps.toList.length=z.length:=by simp [Str.length]
 rw [hl] at h1 h4 h5
 have hn:=line63
 exact tail_any (typeIs_str s z t) slot_str_getitem.lookup (getItem_str (c:=c) (by
  have e1:decide (i < -(2 ^ 63:Int))=false:=decide_eq_false (by omega)
  have e2:decide (i ≥ 2 ^ 63)=false:=decide_eq_false (by omega)
  rw [e1,e2,Bool.or_false]) (by rw [h1]; simpa using h2) ⟨.str ⟨#[c]⟩,H,I.tok _,⟨_,rfl⟩,q⟩) hs
theorem mapSeq_set (its:List Value) (n j:Nat) (u:Value) : Obj.mapSeq (·.setIfInBounds j u) { cls:=.type "list",data:=.seq its.toArray n }={ cls:=.type "list",data:=.seq (its.set j u).toArray n }:=by
 simp [Obj.mapSeq]
theorem Inv.lst {pins:List (Addr × Obj)} {σ:St} {H:Hp} {s:Shared} {p:Addr} {xs:List V} (I:Inv X pins σ H s) (h:H p=some (.lst xs)) :
  ∃ (its:List Value) (n:Nat),Vals xs its∧s.heap.get? p=some { cls:=.type "list",data:=.seq its.toArray n }∧xs.length≤sizeLine:=by
 obtain ⟨z,its,n,r,e⟩:=I.hok p _ h
 exact ⟨its,n,r,e,z⟩
theorem Inv.lstUpd {pins:List (Addr × Obj)} {σ:St} {H:Hp} {s:Shared} {p:Addr} {xs ys:List V} {its its':List Value} {n n':Nat} {f:Obj→Obj} (I:Inv X pins σ H s) (h:H p=some (.lst xs))
  (ho:s.heap.get? p=some { cls:=.type "list",data:=.seq its.toArray n }) (hf:f { cls:=.type "list",data:=.seq its.toArray n }={ cls:=.type "list",data:=.seq its'.toArray n' }) (r:Vals ys its') (hz:ys.length≤sizeLine) (t:Nat) :
  Inv X pins σ (upd H p (.lst ys)) { s with heap:=s.heap.update p f,toks:=t }:=by
 have e:(s.heap.update p f).get? p=some { cls:=.type "list",data:=.seq its'.toArray n' }:=by
  rw [Heap.get?_update_self f ho (by rw [hf] <;> rfl),hf]
 refine I.write (x:=p) (e:=p) (by rw [h]; trivial) (.inl rfl) (fun b u hb q=>(Heap.get?_update_other _ _ (Ne.symm hb)).trans q) ⟨_,e⟩ ?_
 exact ⟨hz,its',n',r,e⟩
def rSetL:V→V→V→Hp→(Hp→Prop)→Prop:=fun o i v H Q=>∃ p xs k j,o = .ref p∧i = .int k∧H p=some (.lst xs)∧ixN xs.length k=some j∧Q (upd H p (.lst (xs.set j v)))
theorem set_list:PSet X rSetL:=by
 intro pins s σ H o i v ov iv u Q I ro ri rv h
 obtain ⟨p,xs,k,j,rfl,rfl,hp,hj,q⟩:=h
 cases ro
 obtain ⟨t,rfl⟩:=ri
 obtain ⟨its,n,r,ho,hz⟩:=I.lst hp
 obtain ⟨h1,h2,h3,h4⟩:=ixN_seq hj
 have hl:=r.length
 have hn:=line63
 have I':Inv X pins σ (upd H p (.lst (xs.set j v))) { s with heap:=s.heap.update p (Obj.mapSeq (·.setIfInBounds j u)) }:=
  I.lstUpd hp ho (mapSeq_set its n j u) (r.set rv j) (by rw [List.length_set]; exact hz) s.toks
 by_cases h0:0≤k
 ·have hk:k.toNat=j:=by
   rw [seqIndex_of h0 h4] at h1
   exact Option.some.inj h1
  exact PySem.W.ki_setAt ho h0 (by omega) (by rw [List.size_toArray,← hl]; exact h4) (by rw [hk]; exact ⟨_,I',q⟩)
 ·have hk:(k+(its.toArray.size:Int)).toNat=j:=by
   rw [seqIndex_neg (by omega) h3] at h1
   rw [List.size_toArray,← hl]
   exact Option.some.inj h1
  exact PySem.W.ki_setBack ho (by omega) (by rw [List.size_toArray,← hl]; exact h3) (by omega) (by rw [hk]; exact ⟨_,I',q⟩)

theorem slice_bounds (lo hi:Option Int) (n:Nat) : (sliceBounds lo hi none n).1=((HT.sIx n 0 lo:Nat) : Int)∧(sliceBounds lo hi none n).2.1=((HT.sIx n n hi:Nat) : Int)∧(sliceBounds lo hi none n).2.2=1:=by
 refine ⟨?_,?_,rfl⟩
 ·cases lo with
  | none=>simp [sliceBounds,HT.sIx]
  | some i =>
   simp only [sliceBounds,HT.sIx,Option.getD_none,show (1:Int) > 0 by decide,if_true]
   by_cases h:i < 0
   ·simp only [h,if_true] <;> omega
   ·simp only [h,if_false] <;> omega
 ·cases hi with
  | none=>simp [sliceBounds,HT.sIx]
  | some i =>
   simp only [sliceBounds,HT.sIx,Option.getD_none,show (1:Int) > 0 by decide,if_true]
   by_cases h:i < 0
   ·simp only [h,if_true] <;> omega
   ·simp only [h,if_false] <;> omega
theorem slicePick_cut (its:List Value) (lo hi:Option Int) : slicePick its.toArray lo hi none=((its.drop (HT.sIx its.length 0 lo)).take (HT.sIx its.length its.length hi - HT.sIx its.length 0 lo)).toArray:=by
 obtain ⟨h1,h2,h3⟩:=slice_bounds lo hi its.toArray.size
 unfold slicePick
 rw [h1,h2,h3]
 simp only [sliceRange_one,pick_run,List.size_toArray] <;> rfl
def rSlL (K:PySem.W.Frag) : V→Option Int→Option Int→Hp→VK→Prop:=fun x lo hi H Q=>∃ a xs,x = .ref a∧SqL K H a xs∧∀ p,H p=none→Q (.ref p) (upd H p (.lst (cutV xs lo hi)))
theorem sl_list:SlR X (rSlL X.K):=by
 intro pins s σ H x v vl vu lo hi sl Q I rx hs pl pu h
 obtain ⟨a,xs,rfl,hx,q⟩:=h
 cases rx
 obtain ⟨its,r,ht,hz⟩:=I.list hx
 have hlen:=r.length
 refine ⟨"list",_,slot_list_getitem.lookup,ht.isList.typeIs,?_⟩
 refine wpAny_getItem_list_slice ht.isList hs pl pu .none (by simp) ?_ (by rw [List.size_toArray] <;> omega)
 rw [slicePick_cut,← hlen]
 refine ⟨.ref s.heap.objs.size,_,I.laid (t':=s.toks) (o:=.lst (cutV xs lo hi)) (fun b ob q=>Heap.get?_push_of_some _ q) (Nat.le_refl _) ?_,rfl,q _ (I.hok.fresh (Nat.le_refl _))⟩
 exact ⟨Nat.le_trans (cutV_length xs lo hi) hz,_,0,(r.drop (HT.sIx xs.length 0 lo)).take (HT.sIx xs.length xs.length hi - HT.sIx xs.length 0 lo),Heap.get?_push_size _ rfl⟩

def flatV:V→Bool
 | .non=>true
 | .bl _=>true
 | .int _=>true
 | .str _=>true
 | _=>false
def eqV:V→V→Bool
 | .non,.non=>true
 | .bl a,.bl b=>a == b
 | .bl a,.int b=>(if a then 1 else 0) == b
 | .int a,.bl b=>a == (if b then 1 else 0)
 | .int a,.int b=>a == b
 | .str a,.str b=>a == b
 | _,_=>false
theorem eqAt_V {A:Around} {s:Shared} {y x:V} {u v:Value} (ry:RelV y u) (rx:RelV x v) (fy:flatV y=true) (fx:flatV x=true) : SeqAt.EqAt A s u v (eqV y x):=by
 cases y with
 | non =>
  cases ry
  cases x with
  | non=>cases rx; exact SeqAt.EqAt.same _
  | bl b=>cases rx; exact SeqAt.EqAt.none_bool b
  | int b=>obtain ⟨t,rfl⟩:=rx; exact SeqAt.EqAt.none_int b t
  | str b=>obtain ⟨t,rfl⟩:=rx; exact SeqAt.EqAt.none_str b t
  | _=>exact absurd (show false=true from fx) Bool.false_ne_true
 | bl a =>
  cases ry
  cases x with
  | non=>cases rx; exact SeqAt.EqAt.bool_none a
  | bl b=>cases rx; exact SeqAt.EqAt.bool_bool a b
  | int b=>obtain ⟨t,rfl⟩:=rx; exact SeqAt.EqAt.bool_int a b t
  | str b=>obtain ⟨t,rfl⟩:=rx; exact SeqAt.EqAt.bool_str a b t
  | _=>exact absurd (show false=true from fx) Bool.false_ne_true
 | int a =>
  obtain ⟨t',rfl⟩:=ry
  cases x with
  | non=>cases rx; exact SeqAt.EqAt.int_none a t'
  | bl b=>cases rx; exact SeqAt.EqAt.int_bool a t' b
  | int b=>obtain ⟨t,rfl⟩:=rx; exact SeqAt.EqAt.int_int a t' b t
  | str b=>obtain ⟨t,rfl⟩:=rx; exact SeqAt.EqAt.int_str a t' b t
  | _=>exact absurd (show false=true from fx) Bool.false_ne_true
 | str a =>
  obtain ⟨t',rfl⟩:=ry
  cases x with
  | non=>cases rx; exact SeqAt.EqAt.str_none a t'
  | bl b=>cases rx; exact SeqAt.EqAt.str_bool a t' b
  | int b=>obtain ⟨t,rfl⟩:=rx; exact SeqAt.EqAt.str_int a t' b t
  | str b=>obtain ⟨t,rfl⟩:=rx; exact SeqAt.EqAt.str_str a t' b t
  | _=>exact absurd (show false=true from fx) Bool.false_ne_true
 | _=>exact absurd (show false=true from fy) Bool.false_ne_true
theorem call_len_seq:CallR X (.builtin "len") (fun xs H Q=>∃ p ys,xs=[.ref p]∧(SqL X.K H p ys∨SqT X.K H p ys)∧Q (.int ys.length) H):=by
 intro pins s σ H xs us Q I r h
 obtain ⟨p,ys,rfl,hq,q⟩:=h
 obtain ⟨u,rfl,rx⟩:=vals1 r
 cases rx
 have hn:=line63
 rcases hq with hq | hq
 ·obtain ⟨its,r',pl,hz⟩:=I.list hq
  have hlen:=r'.length
  exact Calls.call_len_list pl.isList (by simp only [List.size_toArray] <;> omega) ⟨.int ys.length,H,I.tok _,⟨s.toks+1,by rw [List.size_toArray,hlen]⟩,q⟩
 ·obtain ⟨its,r',pl,hz⟩:=I.tuple hq
  have hlen:=r'.length
  exact len_tuple pl (by simp only [List.size_toArray] <;> omega) ⟨.int ys.length,H,I.tok _,⟨s.toks+1,by rw [List.size_toArray,hlen]⟩,q⟩
theorem call_list_of:CallR X (.type "list") (fun xs H Q=>∃ p ys,xs=[.ref p]∧(SqL X.K H p ys∨SqT X.K H p ys)∧∀ l,H l=none→Q (.ref l) (upd H l (.lst ys))):=by
 intro pins s σ H xs us Q I r h
 obtain ⟨p,ys,rfl,hq,q⟩:=h
 obtain ⟨u,rfl,rx⟩:=vals1 r
 cases rx
 have fin:∀ (its:List Value),Vals ys its→ys.length≤sizeLine→∀ (h':Heap) (c':Nat),(∀ b o',s.heap.get? b=some o'→h'.get? b=some o') →
   h'.get? s.heap.objs.size=some { cls:=.type "list",dict:=none,data:=.seq its.toArray c',slots:=#[] }→EP X pins σ Q (.ref s.heap.objs.size) { s with heap:=h' }:=fun its r' hz h' c' kp e =>
  ⟨.ref s.heap.objs.size,_,I.laid (t':=s.toks) kp (Nat.le_refl _) (show ObjOk X.prog X.w _ h' _ (.lst ys) from ⟨hz,its,c',r',e⟩),rfl,q _ (I.hok.fresh (Nat.le_refl _))⟩
 rcases hq with hq | hq
 ·obtain ⟨its,r',pl,hz⟩:=I.list hq
  have hlen:=r'.length
  obtain ⟨o,ho,hc,n,hd⟩:=pl.isList
  exact call_list_seq p (.inl rfl) ho hc hd (fun h' c' kp e=>fin its r' hz h' c' kp e) (by simp only [List.size_toArray] <;> omega)
 ·obtain ⟨its,r',pl,hz⟩:=I.tuple hq
  have hlen:=r'.length
  obtain ⟨o,ho,hc,n,hd⟩:=pl
  exact call_list_seq p (.inr rfl) ho hc hd (fun h' c' kp e=>fin its r' hz h' c' kp e) (by simp only [List.size_toArray] <;> omega)
def tyV (K:PySem.W.Frag) (T:String) (x:V) (H:Hp) : Prop:=match x with
 | .str _=>T = "str"
 | .int _=>T = "int"
 | .ref p=>(T = "list"∧∃ xs,SqL K H p xs)∨(T = "tuple"∧∃ o,K.lookup p=some o∧o.cls = .type "tuple"∧o.dict=none) ∨
   (T = "dict"∧((∃ kvs,H p=some (.dK kvs))∨∃ kvs,H p=some (.dT kvs)))∨(T = "set"∧∃ S n,H p=some (.set S n))
 | _=>False
theorem tyV_is {pins:List (Addr × Obj)} {σ:St} {H:Hp} {s:Shared} {T:String} {x:V} {v:Value} (I:Inv X pins σ H s) (r:RelV x v) (ty:tyV X.K T x H) :
  s.TypeIs v T∧∀ a,v = .ref a→∃ ob,s.heap.get? a=some ob∧ob.dict=none:=by
 cases x with
 | str z =>
  obtain ⟨t,rfl⟩:=r
  cases (show T = "str" from ty)
  exact ⟨typeIs_str s z t,fun _ e=>nomatch e⟩
 | int i =>
  obtain ⟨t,rfl⟩:=r
  cases (show T = "int" from ty)
  exact ⟨typeIs_int s i t,fun _ e=>nomatch e⟩
 | ref p =>
  cases r
  rcases ty with ⟨rfl,xs,hq⟩ | ⟨rfl,o,hk,hc,hd⟩ | ⟨rfl,hk⟩ | ⟨rfl,S,n,hk⟩
  ·obtain ⟨its,_,pl,_⟩:=I.list hq
   refine ⟨pl.isList.typeIs,fun a e=>?_⟩
   cases e
   obtain ⟨o,n,e,c,hd,_⟩:=pl
   exact ⟨o,e,hd⟩
  ·refine ⟨⟨o,I.kIn p o hk,hc⟩,fun a e=>?_⟩
   cases e
   exact ⟨o,I.kIn _ o hk,hd⟩
  ·have z:∃ o,s.heap.get? p=some o∧o.ExactDict:=by
    rcases hk with ⟨kvs,hk⟩ | ⟨kvs,hk⟩
    ·obtain ⟨_,_,_,_,o,_,_,e,ex,_⟩:=I.hok p _ hk
     exact ⟨o,e,ex⟩
    ·obtain ⟨_,_,_,_,o,_,_,e,ex,_⟩:=I.hok p _ hk
     exact ⟨o,e,ex⟩
   obtain ⟨o,e,ex⟩:=z
   refine ⟨⟨o,e,ex.1⟩,fun a e2=>?_⟩
   cases e2
   exact ⟨o,e,ex.2.1⟩
  ·obtain ⟨o,_,_,_,e,ex,_⟩:=I.hok p _ hk
   refine ⟨⟨o,e,ex.1⟩,fun a e2=>?_⟩
   cases e2
   exact ⟨o,e,ex.2.1⟩
 | _=>exact False.elim ty
def tBM (K:PySem.W.Frag) (T:String) (r:V→List V→Hp→VK→Prop) (to:TE) (t:TA) : TE:=fun σ H Q=>to σ H fun x H1=>tyV K T x H1∧t σ H1 fun xs H2=>r x xs H2 Q
variable {o e:Expr} {es:List Expr} {to:TE} {t:TA} {name:Str} {apos cpos:Pos} {T id:String} {r:V→List V→Hp→VK→Prop}
theorem pe_bm (pa:PlainAttrs T) (slot:Slot T name id) (hty:typeOf (.builtin id)=pure (.type "method_descriptor")) (hm:MtR X id r) (ho:PE X o to) (ha:PA X (e :: es) t)
  (hbase:attributeBase o name X.env (eval o X.env)=eval o X.env:=by rfl)
  (hfew:((backTo cpos (starEach (e :: es) X.env)).all (fun x=>!x.1) && (backToKw cpos (keywordEach [] X.env)).all (fun x=>x.1.isSome)
   && decide ((e :: es).length+([] : List Keyword).length+(if ([] : List Keyword).isEmpty then 0 else 1) < 30))=true:=by rfl)
  (hline:(apos.endLine == cpos.line)=true:=by rfl) (hs:starEach (e :: es) X.env=(false,eval e X.env) :: starEach es X.env:=by rfl) (hplain:(backTo cpos (starEach es X.env)).any (·.1)=false:=by rfl) :
  PE X (.Call (.Attribute o name apos) (e :: es) [] cpos) (tBM X.K T r to t):=by
 intro pins s σ H Q I h
 refine wpAny_Call_method_late hbase hfew hline rfl (thn (ho pins s σ H _ I h) fun v s1 ⟨x,H1,I1,r1,ty,q1⟩=>?_)
 obtain ⟨h1,h2⟩:=tyV_is I1 r1 ty
 refine ⟨T,id,pa,slot,hty,h1,h2,?_⟩
 have hA:=ha cpos pins s1 σ H1 _ I1 q1
 rw [hs] at hA ⊢
 refine Calls.callWith_builtin (by show (false || (backTo cpos (starEach es X.env)).any (·.1))=false; rw [hplain] <;> rfl) (Calls.evalArgs_plain ?_)
 exact thn hA fun us s2 ⟨vs,H2,I2,r2,q2⟩=>hm pins s2 σ H2 x vs v us Q I2 r1 r2 q2
end

def MtM (X:Cx) (id:String) (r:V→List V→Hp→VK→Prop) : Prop:=
 ∀ (pins:List (Addr × Obj)) (s:Shared) (σ:St) (H:Hp) (x:V) (xs:List V) (v:Value) (us:List Value) (Q:VK),Inv X pins σ H s→RelV x v→Vals xs us→r x xs H Q →
  wpAny (model X.prog X.w) X.A (call (.builtin id) (v :: us)) (EP X pins σ Q) X.xe s

theorem Vals.one:∀ {x:V} {us:List Value},Vals [x] us→∃ u,us=[u]∧RelV x u
 | _,_,.cons r .nil=>⟨_,rfl,r⟩
theorem Vals.zero:∀ {us:List Value},Vals [] us→us=[]
 | _,.nil=>rfl
theorem Vals.dropLast {xs:List V} {us:List Value} (h:Vals xs us) : Vals xs.dropLast us.dropLast:=by
 induction h with
 | nil=>exact .nil
 | cons r t ih =>
  cases t with
  | nil=>exact .nil
  | cons q t'=>exact .cons r ih
theorem Vals.reverse {xs:List V} {us:List Value} (h:Vals xs us) : Vals xs.reverse us.reverse:=by
 induction h with
 | nil=>exact .nil
 | cons r t ih=>rw [List.reverse_cons,List.reverse_cons]; exact Vals.append ih (.cons r .nil)
theorem Vals.rep {xs:List V} {us:List Value} (h:Vals xs us) : ∀ k:Nat,Vals (List.replicate k xs).flatten (List.replicate k us).flatten
 | 0=>.nil
 | k+1=>by
  rw [List.replicate_succ,List.replicate_succ,List.flatten_cons,List.flatten_cons]
  exact Vals.append h (Vals.rep h k)
theorem foldl_rep (its:List Value) : ∀ (k:Nat) (acc:List Value),
  List.foldl (fun x1 x2=>x1++x2) acc.toArray (List.replicate k its.toArray)=(acc++(List.replicate k its).flatten).toArray
 | 0,acc=>by simp
 | k+1,acc=>by
  have e:acc.toArray++its.toArray=(acc++its).toArray:=by simp
  have e2:(acc++its)++(List.replicate k its).flatten=acc++(List.replicate (k+1) its).flatten:=by
   rw [List.replicate_succ,List.flatten_cons,List.append_assoc]
  rw [← e2,← foldl_rep its k (acc++its),← e,List.replicate_succ,List.foldl_cons]

section
variable {X:Cx} {pins:List (Addr × Obj)} {σ:St} {H:Hp} {s:Shared} {l b:Addr} {xs ys zs:List V}

theorem Inv.lset {its its':List Value} {n:Nat} {f:Array Value→Array Value} {t':Nat} (I:Inv X pins σ H s) (hH:H l=some (.lst xs))
  (e:s.heap.get? l=some { cls:=.type "list",data:=.seq its.toArray n }) (hf:f its.toArray=its'.toArray) (hv:Vals ys its') (hz:ys.length≤sizeLine) :
  Inv X pins σ (upd H l (.lst ys)) { s with heap:=s.heap.update l (Obj.mapSeq f),toks:=t' }:=by
 have q:=PySem.IsL.update e f
 rw [hf] at q
 refine I.write (x:=l) (e:=l) (by rw [hH]; exact trivial) (.inl rfl) (fun b' u hb hu=>(Heap.get?_update_other s.heap (Obj.mapSeq f) (Ne.symm hb)).trans hu) ⟨_,q⟩ ?_
 exact ⟨hz,its',_,hv,q⟩
theorem Inv.lnew {its:List Value} {t':Nat} (I:Inv X pins σ H s) (hv:Vals ys its) (hz:ys.length≤sizeLine) :
  Inv X pins σ (upd H s.heap.objs.size (.lst ys)) { s with heap:=s.heap.push { cls:=.type "list",data:=.seq its.toArray },toks:=t' }:=
 I.laid (fun _ _ q=>Heap.get?_push_of_some _ q) (Nat.le_refl _) ⟨hz,its,0,hv,Heap.get?_push_size _ rfl⟩
theorem Inv.fresh (I:Inv X pins σ H s) : H s.heap.objs.size=none:=I.hok.fresh (Nat.le_refl _)
theorem Inv.lstM (I:Inv X pins σ H s) (hH:H l=some (.lst xs)) : xs.length≤sizeLine∧∃ (its:List Value) (n:Nat),Vals xs its∧xs.length=its.length∧s.heap.get? l=some { cls:=.type "list",data:=.seq its.toArray n }:=by
 obtain ⟨z,its,n,r,e⟩:=I.hok l _ hH
 exact ⟨z,its,n,r,r.length,e⟩

theorem notLongL {n:Nat} (h:n≤sizeLine) : Builtin.List.listTooLong n=false:=by
 unfold Builtin.List.listTooLong
 exact decide_eq_false (by omega)
end

section
variable {X:Cx}

def rAppend:V→List V→Hp→VK→Prop:=fun x vs H Q=>∃ l xs y,x = .ref l∧vs=[y]∧H l=some (.lst xs)∧xs.length < sizeLine∧Q .non (upd H l (.lst (xs++[y])))
theorem mt_append:MtM X "list.append" rAppend:=by
 intro pins s σ H x vs v us Q I rx rv h
 obtain ⟨l,xs,y,rfl,rfl,hH,hz,q⟩:=h
 cases rx
 obtain ⟨u,rfl,ru⟩:=rv.one
 obtain ⟨z,its,n,r,hl,e⟩:=I.lstM hH
 refine call_meets F.slot_list_append ⟨_,e,rfl⟩ F.entry_list_append (F.args_list_append_2 _ _) (PySem.list_append l its.toArray n u (by rw [List.size_toArray]; omega)) ⟨e,?_⟩
 refine ⟨.non,_,I.lset (its':=its++[u]) hH e (by simp) (r.append (.cons ru .nil)) ?_,rfl,q⟩
 rw [List.length_append,List.length_singleton]
 omega

def rRep:R2:=fun x y H Q=>∃ l k xs,x = .ref l∧y = .int k∧H l=some (.lst xs)∧-(2 ^ 63)≤k∧k < 2 ^ 63∧xs.length * k.toNat≤sizeLine ∧
 ∀ p,H p=none→Q (.ref p) (upd H p (.lst (List.replicate k.toNat xs).flatten))
theorem len_rep {α:Type} (xs:List α) (k:Nat) : (List.replicate k xs).flatten.length=k * xs.length:=by
 induction k with
 | zero=>simp
 | succ k ih=>rw [List.replicate_succ,List.flatten_cons,List.length_append,ih,Nat.succ_mul,Nat.add_comm]
theorem op_rep:OpR X (binaryOp .Mult) rRep:=by
 intro pins s σ H x y v u Q I rx ry h
 obtain ⟨l,k,xs,rfl,rfl,hH,h1,h2,hz,q⟩:=h
 cases rx
 obtain ⟨t,rfl⟩:=ry
 obtain ⟨z,its,n,r,hl,e⟩:=I.lstM hH
 have hlen:its.toArray.size * k.toNat≤sizeLine:=by rw [List.size_toArray,← hl]; exact hz
 have hcap:¬ its.toArray.size * k.toNat > (2 ^ 63 - 1) / 8:=by
  have:(sizeLine:Nat)≤(2 ^ 63 - 1) / 8:=by decide
  omega
 have hfit:¬ (!Builtin.List.listFitsIndex k)=true:=by
  rw [fitsIndex_both h1 h2]
  exact Bool.false_ne_true
 have hlong:¬ Builtin.List.listTooLong (its.toArray.size * k.toNat)=true:=by
  rw [notLongL hlen]
  exact Bool.false_ne_true
 have hnew:List.foldl (fun x1 x2=>x1++x2) #[] (List.replicate (if its.toArray.isEmpty=true then 0 else k.toNat) its.toArray)=(List.replicate k.toNat its).flatten.toArray:=by
  have f0:∀ m:Nat,List.foldl (fun x1 x2=>x1++x2) #[] (List.replicate m its.toArray)=(List.replicate m its).flatten.toArray:=fun m=>by
   have:=foldl_rep its m []
   rw [List.nil_append] at this
   exact this
  rw [f0]
  cases its with
  | nil=>simp
  | cons a r'=>rw [if_neg (by simp)]
 refine wpAny_binaryOp_repeat_ref (T := "list") (U := "int") (by decide) ⟨_,e,rfl⟩ (fun s'=>typeIs_int s' k t) noFill_list_mul F.fills_int_mul F.slot_int_rmul repeat_list F.slot_int_index.lookup
  (call_meets F.slot_int_rmul (typeIs_int s k t) F.entry_int_rmul (F.args_int_rmul_2 _ _) (int___rmul___int_list k t l its.toArray n)
   ⟨e,rfl,⟨_,e,rfl⟩,call_meets F.slot_list_mul ⟨_,e,rfl⟩ F.entry_list_mul (F.args_list_mul_2 _ _) (AutoListH.list___mul___list_int_3 l its.toArray n k t hfit hcap hlong) ⟨e,?_⟩⟩)
 rw [hnew]
 exact ⟨.ref _,_,I.lnew (t':=s.toks) (r.rep k.toNat) (by rw [len_rep,Nat.mul_comm]; exact hz),rfl,q _ I.fresh⟩

end

section
variable {prog:Program} {w:World} {A:Around} {E:Value→Shared→Prop} {s:Shared}
end

section
variable {X:Cx}
end

section
variable {κ:Type} [DecidableEq κ]
def valV (kvs:List (κ × V)) (k:κ) : Option V:=(kvs.find? fun kv=>decide (kv.1=k)).map (·.2)
def putK (kvs:List (κ × V)) (k:κ) (v:V) : List (κ × V):=
 if (kvs.any fun kv=>decide (kv.1=k))=true then kvs.map (fun kv=>if kv.1=k then (kv.1,v) else kv) else kvs++[(k,v)]
def dropK (kvs:List (κ × V)) (k:κ) : List (κ × V):=kvs.filter fun kv=>decide (kv.1≠k)

theorem valV_pos {p:κ × V} {r:List (κ × V)} {k:κ} (e:p.1=k) : valV (p :: r) k=some p.2:=by simp [valV,List.find?_cons,e]
theorem valV_neg {p:κ × V} {r:List (κ × V)} {k:κ} (e:¬ p.1=k) : valV (p :: r) k=valV r k:=by simp [valV,List.find?_cons,e]
theorem valV_any (k:κ) : ∀ kvs:List (κ × V),(kvs.any fun kv=>decide (kv.1=k))=(valV kvs k).isSome
 | []=>rfl
 | p :: r=>by
  rw [List.any_cons]
  by_cases e:p.1=k
  ·simp only [valV_pos e,decide_eq_true e,Bool.true_or,Option.isSome_some]
  ·rw [valV_neg e,decide_eq_false e,Bool.false_or]; exact valV_any k r
theorem valV_map (k j:κ) (y:V) : ∀ kvs:List (κ × V),valV (kvs.map fun kv=>if kv.1=k then (kv.1,y) else kv) j=(valV kvs j).map fun x=>if j=k then y else x
 | []=>rfl
 | p :: r=>by
  have ih:=valV_map k j y r
  rw [List.map_cons]
  by_cases h:p.1=k
  ·rw [if_pos h]
   by_cases e:p.1=j
   ·rw [valV_pos (p:=(p.1,y)) e,valV_pos e,Option.map_some,if_pos (e.symm.trans h)]
   ·rw [valV_neg (p:=(p.1,y)) e,valV_neg e,ih]
  ·rw [if_neg h]
   by_cases e:p.1=j
   ·rw [valV_pos (p:=p) e,valV_pos e,Option.map_some,if_neg (fun z=>h (e.trans z))]
   ·rw [valV_neg (p:=p) e,valV_neg e,ih]
theorem valV_snoc (k j:κ) (y:V) : ∀ kvs:List (κ × V),valV kvs k=none→valV (kvs++[(k,y)]) j=if j=k then some y else valV kvs j
 | [],_=>by
  by_cases e:k=j
  ·rw [if_pos e.symm]; exact valV_pos (p:=(k,y)) e
  ·rw [if_neg (fun z=>e z.symm)]; exact valV_neg (p:=(k,y)) e
 | p :: r,hn=>by
  rw [List.cons_append]
  have hk:¬ p.1=k:=fun z=>by rw [valV_pos z] at hn; cases hn
  rw [valV_neg hk] at hn
  have ih:=valV_snoc k j y r hn
  by_cases e:p.1=j
  ·rw [valV_pos e,valV_pos e,if_neg (fun z=>hk (e.trans z))]
  ·rw [valV_neg e,valV_neg e,ih]
theorem valV_put (kvs:List (κ × V)) (k j:κ) (y:V) : valV (putK kvs k y) j=if j=k then some y else valV kvs j:=by
 unfold putK
 by_cases a:(kvs.any fun kv=>decide (kv.1=k))=true
 ·rw [if_pos a,valV_map]
  rw [valV_any] at a
  by_cases e:j=k
  ·obtain ⟨x,hx⟩:=Option.isSome_iff_exists.mp a
   rw [if_pos e,e,hx,Option.map_some,if_pos rfl]
  ·rw [if_neg e]
   cases valV kvs j with
   | none=>rfl
   | some x=>rw [Option.map_some,if_neg e]
 ·rw [if_neg a]
  refine valV_snoc k j y kvs ?_
  rw [valV_any] at a
  cases q:valV kvs k with
  | none=>rfl
  | some x=>rw [q] at a; exact (a rfl).elim
theorem length_putK (kvs:List (κ × V)) (k:κ) (v:V) : (putK kvs k v).length≤kvs.length+1:=by
 unfold putK
 split
 ·rw [List.length_map]; omega
 ·rw [List.length_append,List.length_cons,List.length_nil]; omega
theorem RelO.isSome_eq {o:Option V} {u:Option Value} (r:RelO o u) : o.isSome=u.isSome:=by
 cases o with
 | none=>cases u with
  | none=>rfl
  | some _=>exact (show False from r).elim
 | some _=>cases u with
  | none=>exact (show False from r).elim
  | some _=>rfl
theorem RelO.getD {o:Option V} {u:Option Value} {d:V} {d':Value} (r:RelO o u) (rd:RelV d d') : RelV (o.getD d) (u.getD d'):=by
 cases o with
 | none=>cases u with
  | none=>exact rd
  | some _=>exact (show False from r).elim
 | some _=>cases u with
  | none=>exact (show False from r).elim
  | some _=>exact r

theorem KV.val {kvs:List (κ × V)} {vs:List (κ × Value)} (r:KV kvs vs) (k:κ) : RelO (valV kvs k) (valueAt vs k):=by
 unfold KV at r
 induction r with
 | nil=>exact True.intro
 | @cons p q ps qs h t ih =>
  obtain ⟨h1,h2⟩:=h
  by_cases e:p.1=k
  ·have e':q.1=k:=h1.symm.trans e
   have b:valueAt (q :: qs) k=some q.2:=by simp [valueAt,List.find?_cons,e']
   rw [valV_pos e,b]; exact h2
  ·have e':¬ q.1=k:=fun z=>e (h1.trans z)
   have b:valueAt (q :: qs) k=valueAt qs k:=by simp [valueAt,List.find?_cons,e']
   rw [valV_neg e,b]; exact ih
theorem KV.any {kvs:List (κ × V)} {vs:List (κ × Value)} (r:KV kvs vs) (k:κ) : (kvs.any fun kv=>decide (kv.1=k))=vs.any fun kv=>decide (kv.1=k):=by
 unfold KV at r
 induction r with
 | nil=>rfl
 | cons h t ih=>rw [List.any_cons,List.any_cons,ih,h.1]
theorem KV.repl {kvs:List (κ × V)} {vs:List (κ × Value)} (r:KV kvs vs) (k:κ) {y:V} {u:Value} (ry:RelV y u) :
  KV (kvs.map fun kv=>if kv.1=k then (kv.1,y) else kv) (vs.map fun kv=>if kv.1=k then (kv.1,u) else kv):=by
 unfold KV at r ⊢
 induction r with
 | nil=>exact .nil
 | @cons p q ps qs h t ih =>
  rw [List.map_cons,List.map_cons]
  refine .cons ?_ ih
  obtain ⟨h1,h2⟩:=h
  by_cases e:p.1=k
  ·rw [if_pos e,if_pos (h1.symm.trans e)]; exact ⟨h1,ry⟩
  ·rw [if_neg e,if_neg (fun z=>e (h1.trans z))]; exact ⟨h1,h2⟩
theorem KV.put {kvs:List (κ × V)} {vs:List (κ × Value)} (r:KV kvs vs) (k:κ) {y:V} {u:Value} (ry:RelV y u) : KV (putK kvs k y) (stored vs k u):=by
 unfold putK stored
 rw [r.any k]
 by_cases e:(vs.any fun kv=>decide (kv.1=k))=true
 ·rw [if_pos e,if_pos e]; exact r.repl k ry
 ·rw [if_neg e,if_neg e]; exact Paired.snoc r ⟨rfl,ry⟩
theorem KV.drop {kvs:List (κ × V)} {vs:List (κ × Value)} (r:KV kvs vs) (k:κ) : KV (dropK kvs k) (without vs k):=by
 unfold KV at r ⊢
 unfold dropK without
 induction r with
 | nil=>exact .nil
 | @cons p q ps qs h t ih =>
  obtain ⟨h1,h2⟩:=h
  rw [List.filter_cons,List.filter_cons]
  by_cases e:p.1=k
  ·have a:¬ decide (p.1≠k)=true:=by simp [e]
   have b:¬ decide (q.1≠k)=true:=by simp [h1.symm.trans e]
   rw [if_neg a,if_neg b]; exact ih
  ·have e':¬ q.1=k:=fun z=>e (h1.trans z)
   have a:decide (p.1≠k)=true:=by simp [e]
   have b:decide (q.1≠k)=true:=by simp [e']
   rw [if_pos a,if_pos b]; exact .cons ⟨h1,h2⟩ ih
theorem KV.keys {kvs:List (κ × V)} {vs:List (κ × Value)} (r:KV kvs vs) : kvs.map (·.1)=vs.map (·.1):=by
 unfold KV at r
 induction r with
 | nil=>rfl
 | cons h t ih=>rw [List.map_cons,List.map_cons,ih,h.1]
theorem KV.length {kvs:List (κ × V)} {vs:List (κ × Value)} (r:KV kvs vs) : kvs.length=vs.length:=Paired.length r
end


theorem kV_is {P:Program} {w:World} {k:Key} {u:Value} (r:RelV (kV k) u) : (mixKind P w).is k u=true:=by
 cases k with
 | inl i=>obtain ⟨t,e⟩:=(show ∃ t,u=Value.int i t from r); subst e; exact mixKind_int P w i t
 | inr x=>obtain ⟨t,e⟩:=(show ∃ t,u=Value.str x t from r); subst e; exact mixKind_str P w x t
theorem items_are {P:Program} {w:World} : ∀ {ks:List Key} {us:List Value},Vals (ks.map kV) us→ItemsAre (mixKind P w) ks us
 | [],_,r=>by rw [List.map_nil] at r; cases r; exact .nil
 | k :: ks,_,r=>by
  rw [List.map_cons] at r
  cases r with
  | cons h t=>exact .cons (kV_is h) (items_are t)

abbrev KT (H:Hp) : List (List Key × V)→List (List Key × Addr × Value)→Prop:=Paired fun p q=>p.1=q.1∧H q.2.1=some (.tup (p.1.map kV))∧RelV p.2 q.2.2
theorem KT.val {H:Hp} {kvs:List (List Key × V)} {xs:List (List Key × Addr × Value)} (r:KT H kvs xs) (k:List Key) : RelO (valV kvs k) ((atKey xs k).map (·.2)):=by
 induction r with
 | nil=>exact True.intro
 | @cons p q ps qs h t ih =>
  obtain ⟨h1,_,h2⟩:=h
  by_cases e:p.1=k
  ·have e':q.1=k:=h1.symm.trans e
   have b:atKey (q :: qs) k=some q.2:=by simp [atKey,List.find?_cons,e']
   rw [valV_pos e,b]; exact h2
  ·have e':¬ q.1=k:=fun z=>e (h1.trans z)
   have b:atKey (q :: qs) k=atKey qs k:=by simp [atKey,List.find?_cons,e']
   rw [valV_neg e,b]; exact ih
theorem KT.repl {H:Hp} {kvs:List (List Key × V)} {xs:List (List Key × Addr × Value)} (r:KT H kvs xs) (k:List Key) {y:V} {u:Value} (ry:RelV y u) :
  KT H (kvs.map fun kv=>if kv.1=k then (kv.1,y) else kv) (xs.map (putAt k u)):=by
 induction r with
 | nil=>exact .nil
 | @cons p q ps qs h t ih =>
  rw [List.map_cons,List.map_cons]
  refine .cons ?_ ih
  obtain ⟨h1,h2,h3⟩:=h
  unfold putAt
  by_cases e:p.1=k
  ·rw [if_pos e,if_pos (h1.symm.trans e)]; exact ⟨h1,h2,ry⟩
  ·rw [if_neg e,if_neg (fun z=>e (h1.trans z))]; exact ⟨h1,h2,h3⟩
theorem KT.put {H:Hp} {kvs:List (List Key × V)} {xs:List (List Key × Addr × Value)} (r:KT H kvs xs) (k:List Key) {b:Addr} {y:V} {u:Value} (hb:H b=some (.tup (k.map kV))) (ry:RelV y u) :
  KT H (putK kvs k y) (storedH xs k b u):=by
 have e:(kvs.any fun kv=>decide (kv.1=k))=(atKey xs k).isSome:=by
  rw [valV_any,(r.val k).isSome_eq,Option.isSome_map]
 unfold putK storedH
 rw [e]
 by_cases q:(atKey xs k).isSome=true
 ·rw [if_pos q,if_pos q]; exact r.repl k ry
 ·rw [if_neg q,if_neg q]; exact Paired.snoc r ⟨rfl,hb,ry⟩
theorem KT.keeps {H H':Hp} {kvs:List (List Key × V)} {xs:List (List Key × Addr × Value)} (r:KT H kvs xs) (ht:∀ b ys,H b=some (.tup ys)→H' b=some (.tup ys)) : KT H' kvs xs:=
 Paired.mapP r fun _ _ z=>⟨z.1,ht _ _ z.2.1,z.2.2⟩

section
variable {P:Program} {w:World} {H:Hp} {h:Heap} {a:Addr}
theorem rd_of {u:HO} (ok:HOk P w H h) (e:Rd H a u) : ObjOk P w H h a u:=e.ok ok
theorem dk_rd {kvs:List (Key × V)} (ok:HOk P w H h) (e:Rd H a (.dK kvs)) : kvs.length≤sizeLine∧(a == sysModules)=false∧∃ vs,KV kvs vs∧h.DictOf (mixKind P w) a vs:=
 show ObjOk P w H h a (.dK kvs) from rd_of ok e
theorem key_of {ks:List Key} (ok:HOk P w H h) (e:H a=some (.tup (ks.map kV))) : (tupleKind (mixKind P w)).is h ks a:=by
 obtain ⟨_,its,r,o,h1,h2,n,h3⟩:=(show ObjOk P w H h a (.tup (ks.map kV)) from ok a _ e)
 exact ⟨o,its.toArray,n,h1,h2,h3,by simpa using items_are r⟩
theorem dt_rd {kvs:List (List Key × V)} (ok:HOk P w H h) (e:Rd H a (.dT kvs)) : kvs.length≤sizeLine∧(a == sysModules)=false ∧
  ∃ xs,KT H kvs xs∧h.DictOfH (tupleKind (mixKind P w)) a xs:=by
 obtain ⟨z,y,xs,r,o,es,ep,h1,h2,h3,h4,h5⟩:=(show ObjOk P w H h a (.dT kvs) from rd_of ok e)
 refine ⟨z,y,xs,r,o,es,ep,h1,h2,h3,h4,fun x hx=>?_,h5⟩
 have all:∀ {l:List (List Key × V)} {m:List (List Key × Addr × Value)},KT H l m→∀ x ∈ m,(tupleKind (mixKind P w)).is h x.1 x.2.1:=by
  intro l m q
  induction q with
  | nil=>intro x hx; exact nomatch hx
  | @cons p q ps qs hq t ih =>
   intro x hx
   rcases List.mem_cons.mp hx with e | hx
   ·subst e
    exact key_of ok (by rw [← hq.1]; exact hq.2.1)
   ·exact ih x hx
 exact all r x hx
end

def DGet (H:Hp) (a:Addr) (y:V) (r:Option V) : Prop:=
 (∃ kvs k,Rd H a (.dK kvs)∧y=kV k∧r=valV kvs k)∨∃ kvs k b,Rd H a (.dT kvs)∧y = .ref b∧H b=some (.tup (k.map kV))∧r=valV kvs k
def DPut (H:Hp) (a:Addr) (y v:V) (H':Hp) : Prop:=
 (∃ kvs k,H a=some (.dK kvs)∧y=kV k∧kvs.length < sizeLine∧H' = upd H a (.dK (putK kvs k v))) ∨
 ∃ kvs k b,H a=some (.dT kvs)∧y = .ref b∧H b=some (.tup (k.map kV))∧kvs.length < sizeLine∧H' = upd H a (.dT (putK kvs k v))
theorem DGet.k {H:Hp} {a:Addr} {kvs:List (Key × V)} {k:Key} (e:H a=some (.dK kvs)) : DGet H a (kV k) (valV kvs k):=.inl ⟨kvs,k,.inl e,rfl,rfl⟩
theorem DGet.t {H:Hp} {a b:Addr} {kvs:List (List Key × V)} {k:List Key} (e:H a=some (.dT kvs)) (eb:H b=some (.tup (k.map kV))) : DGet H a (.ref b) (valV kvs k):=.inr ⟨kvs,k,b,.inl e,rfl,eb,rfl⟩
theorem DPut.k {H:Hp} {a:Addr} {kvs:List (Key × V)} {k:Key} {v:V} (e:H a=some (.dK kvs)) (hl:kvs.length < sizeLine) : DPut H a (kV k) v (upd H a (.dK (putK kvs k v))):=.inl ⟨kvs,k,e,rfl,hl,rfl⟩
theorem DPut.t {H:Hp} {a b:Addr} {kvs:List (List Key × V)} {k:List Key} {v:V} (e:H a=some (.dT kvs)) (eb:H b=some (.tup (k.map kV))) (hl:kvs.length < sizeLine) :
  DPut H a (.ref b) v (upd H a (.dT (putK kvs k v))):=.inr ⟨kvs,k,b,e,rfl,eb,hl,rfl⟩


section
variable {X:Cx} {pins:List (Addr × Obj)} {σ:St} {H:Hp} {s:Shared} {a:Addr} {y v:V} {u r:Value} {o:Option V} {A:Around} {E:Value→Shared→Prop}

theorem Inv.big (I:Inv X pins σ H s) : sysModules < s.heap.objs.size:=by
 have h:mainGlobals < s.heap.objs.size:=(I.mod.glob.keeps I.bk).lt
 exact Nat.lt_trans (by decide) h

theorem d_getItem {Q:Value→Shared→Prop} (hu:A.units+1 < cLine) (I:Inv X pins σ H s) (g:DGet H a y (some v)) (ry:RelV y u) (h:∀ w' s',Inv X pins σ H s'→RelV v w'→Q w' s') :
  wpAny (model X.prog X.w) A (getItem (.ref a) u) Q E s:=by
 rcases g with ⟨kvs,k,e,ey,l⟩ | ⟨kvs,k,b,e,ey,eb,l⟩
 ·subst ey
  obtain ⟨z,hd,vs,rel,dd⟩:=dk_rd I.hok e
  obtain ⟨w',hw,rw'⟩:=RelO.some_of (v:=v) (o:=valueAt vs k) (by rw [l]; exact rel.val k)
  exact wpAny_getItem_of (kV_is ry) dd.mapOf hw (h w' _ (I.tok _) rw')
 ·subst ey
  cases (show u=Value.ref b from ry)
  obtain ⟨z,hd,xs,rel,dd⟩:=dt_rd I.hok e
  obtain ⟨w',hw,rw'⟩:=RelO.some_of (v:=v) (o:=(atKey xs k).map (·.2)) (by rw [l]; exact rel.val k)
  obtain ⟨p,hp,hp2⟩:=Option.map_eq_some_iff.mp hw
  refine wpAny_getItem_heap (tupleKind_room_in1 hu) (key_of I.hok eb) dd hp ?_
  rw [hp2]
  exact h w' _ (I.tok _) rw'
theorem d_in {Q:Value→Shared→Prop} (hu:A.units+1 < cLine) (I:Inv X pins σ H s) (g:DGet H a y o) (ry:RelV y u) (h:∀ s',Inv X pins σ H s'→Q (.bool o.isSome) s') :
  wpAny (model X.prog X.w) A (compareOp .In u (.ref a)) Q E s:=by
 rcases g with ⟨kvs,k,e,ey,l⟩ | ⟨kvs,k,b,e,ey,eb,l⟩
 ·subst ey
  obtain ⟨z,hd,vs,rel,dd⟩:=dk_rd I.hok e
  refine wpAny_in_of (kV_is ry) hd dd.mapOf ?_
  rw [← (rel.val k).isSome_eq,← l]
  exact h _ (I.tok _)
 ·subst ey
  cases (show u=Value.ref b from ry)
  obtain ⟨z,hd,xs,rel,dd⟩:=dt_rd I.hok e
  refine wpAny_in_heap (tupleKind_room_in1 hu) (key_of I.hok eb) hd dd ?_
  have q:=(rel.val k).isSome_eq
  rw [Option.isSome_map] at q
  rw [← q,← l]
  exact h _ (I.tok _)
theorem dk_new {P:Program} {w:World} {H':Hp} {h':Heap} {kvs:List (Key × V)} {vs:List (Key × Value)} (z:kvs.length≤sizeLine) (hd:(a == sysModules)=false) (rel:KV kvs vs) (dd:h'.DictOf (mixKind P w) a vs) :
  ObjOk P w H' h' a (.dK kvs):=⟨z,hd,vs,rel,dd⟩
end

section
variable {X:Cx} {pins:List (Addr × Obj)} {σ:St} {H:Hp} {s:Shared} {a:Addr} {kvs:List (Key × V)} {k:Key} {u:Value} {A:Around} {E:Value→Shared→Prop}
end


def NoSl (i:Expr) : Prop:=∀ ov iv,subscripted i false ov iv=operate [ov,iv] (getItem ov iv)
theorem subD_of {prog:Program} {w:World} {A:Around} {E:Value→Shared→Prop} {s:Shared} {env:Env} {value slice:Expr} {pos:Pos} {T id:String} {Q:Value→Shared→Prop}
  (hl:typeLookup (.type T) "__getitem__" = pure (some (.builtin id))) (hs:NoSl slice)
  (h:wpAny (model prog w) A (eval value env) (fun o s₁=>wpAny (model prog w) A (eval slice env) (fun i s₂=>s₂.TypeIs o T∧wpAny (model prog w) A (getItem o i) Q E s₂) E s₁) E s) :
  wpAny (model prog w) A (eval (.Subscript value slice pos) env) Q E s:=by
 refine Subscript_ (wpAny_mono h (fun o s₁ h₁=>wpAny_mono h₁ (fun i s₂ h₂=>?_) fun _ _ x=>x) fun _ _ x=>x)
 obtain ⟨hT,h₂⟩:=h₂
 unfold subscriptTail
 refine wpAny_bind ?_
 rw [getitemInPython_of_ne hT.not_modules]
 refine wpAny_bind (wpAny_specialOf hT hl ?_)
 have fin:wpAny (model prog w) A (subscripted slice false o i) (fun r s₃=>wpAny (model prog w) A (letTemporaryGo value o r >>= fun _=>pure r) Q E s₃) E s₂:=by
  rw [hs o i]
  exact wpAny_operating (wpAny_mono h₂ (fun r s₃ h₃=>wpAny_bind (wpAny_letTemporaryGo (wpAny_pure h₃))) fun _ _ x=>x)
 first
  | exact wpAny_pure (wpAny_bind fin)
  | exact wpAny_bind (wpAny_pure (wpAny_bind fin))
  | exact wpAny_bind fin

theorem dict_typeIs {X:Cx} {pins:List (Addr × Obj)} {σ:St} {H:Hp} {s:Shared} {a:Addr} {y:V} {o:Option V} (I:Inv X pins σ H s) (g:DGet H a y o) : s.TypeIs (.ref a) "dict":=by
 rcases g with ⟨kvs,k,e,_,_⟩ | ⟨kvs,k,b,e,_,_,_⟩
 ·obtain ⟨_,_,vs,_,dd⟩:=dk_rd I.hok e
  exact dd.typeIs
 ·obtain ⟨_,_,xs,_,dd⟩:=dt_rd I.hok e
  exact dd.typeIs
def tDGet (td ty:TE) : TE:=fun σ H Q=>td σ H fun x H1=>ty σ H1 fun y H2=>∃ a v,x = .ref a∧DGet H2 a y (some v)∧Q v H2
section
variable {X:Cx} {o i e value:Expr} {pos pos' tpos:Pos} {td ty tv:TE}
theorem pe_dget (hu:X.A.units+1 < cLine) (ho:PE X o td) (hi:PE X i ty) (hs:NoSl i) : PE X (.Subscript o i pos) (tDGet td ty):=by
 intro pins s σ H Q I h
 refine subD_of PySem.F.slot_dict_getitem.lookup hs (thn (ho pins s σ H _ I h) fun u s1 ⟨x,H1,I1,rx,q1⟩=>thn (hi pins s1 σ H1 _ I1 q1) fun iv s2 ⟨y,H2,I2,ry,a,v,ex,g,q2⟩=>?_)
 subst ex
 obtain rfl:u=Value.ref a:=rx
 exact ⟨dict_typeIs I2 g,d_getItem hu I2 g ry fun w' s3 I3 rw'=>⟨v,H2,I3,rw',q2⟩⟩
end


section
variable {X:Cx} {pos:Pos}
end

section
variable {X:Cx} {pins:List (Addr × Obj)} {σ:St} {H:Hp} {s:Shared} {a:Addr} {y d:V} {u r:Value} {o:Option V} {A:Around} {E:Value→Shared→Prop}
end

section
variable {X:Cx} {o e f:Expr} {apos cpos:Pos} {td ty tx:TE}
end

section
variable {X:Cx} {pins:List (Addr × Obj)} {σ:St} {H:Hp} {s:Shared} {a:Addr} {kvs:List (Key × V)} {A:Around} {E:Value→Shared→Prop}
end


section
variable {X:Cx} {pins:List (Addr × Obj)} {σ:St} {H:Hp} {s:Shared} {a:Addr} {y:V} {u:Value} {A:Around} {E:Value→Shared→Prop}
end
end L2

namespace Att
open PySem PySem.W PySem.Calls PyProof.Rows

theorem ints_of_wellAll {P:Params} {h:Heap} : ∀ (ns:List Int) (vs:List Value),WellAll P h vs (ns.map WData.int)→IntsAre vs ns:=by
 intro ns
 induction ns with
 | nil =>
  intro vs w
  rw [List.map_nil] at w
  cases w
  exact .nil
 | cons n ns ih =>
  intro vs w
  rw [List.map_cons] at w
  cases w with
  | cons a b =>
   cases a
   exact .cons _ _ (ih _ b)

theorem script_of {l:OpenLaw} {n:Nat} (hn:l.most=some n) {P:Params} {h:Heap} {args:List WData} {vals:List Value}
  (hpre:l.row.toRowW.claim.pre args=true) (hwl:WellAll P h vals args) :
  ∃ a vs ns,vals=[Value.ref a]∧args=[WData.list (ns.map WData.int)]∧h.get? a=some { cls:=.type "list",data:=.seq vs.toArray }∧IntsAre vs ns∧ns.length≤n:=by
 have hsh:WShape.hasAll [] args [.list .int]=true:=(pre_splitW hpre).1
 have hc:l.pre.holds [] { args:=args }=true:=(pre_splitW hpre).2
 obtain ⟨d,r,rfl,h1,h2⟩:=hasAllW_cons hsh
 obtain rfl:=hasAllW_nil h2
 obtain ⟨xs,rfl,h3⟩:=hasW_list h1
 obtain ⟨ns,rfl⟩:=items_int h3
 have hlen:ns.length≤n:=by
  unfold OpenLaw.pre at hc
  have h4:(WTm.not (.lt (.lit (.int (n:Int))) (.len (.arg 0)))).holds [] { args:=[.list (ns.map .int)] }=true:=by
   have h4:=(holds_andW hc).1
   rw [hn] at h4
   exact h4
  have h5:=condW_of h4 (w_not (w_lt w_lit (w_len_list (w_arg rfl))))
  rw [List.length_map] at h5
  refine Nat.le_of_not_lt fun q=>?_
  have q':(n:Int) < ((ns.length:Nat) : Int):=by omega
  first
   | (rw [decide_eq_true q'] at h5; exact absurd h5 (by decide))
   | (simp at h5; omega)
 cases hwl with
 | cons w1 w2 =>
  cases w2
  cases w1 with
  | list ho hall=>exact ⟨_,_,ns,rfl,rfl,ho,ints_of_wellAll ns _ hall,hlen⟩

theorem post_true (l:OpenLaw) (args:List WData) : l.row.toRowW.claim.post args (.bool true) args=true:=
 postW_of (r:=l.row.toRowW) (X:=(true == true))
  (show WShape.has [] (.bool true) .bool=true by first | rfl | decide | simp [WShape.has,WShape.arms,WShape.armsAll])
  (show (WTm.eq .res (.lit (.bool true))).value [] { args:=args,res:=some (.bool true),after:=args }=some (.bool (true == true)) from w_eq_bool (w_res rfl) w_lit) rfl

theorem attach_call {l:OpenLaw} {n:Nat} {q:Program} {loose:List Str} {XP:(Str→Option Value)→Heap→Prop} {YP:World→Heap→Prop} {d:DefRec}
  (hn:l.most=some n) (hdf:d.params.defaults=[])
  (call:∀ (w:World) (s₀ s₁:Shared) (mg mb:Str→Option Value) (fa:Addr) (o:Obj) (pm cd doc:Value) (a:Addr) (vs:List Value) (ns:List Int),
   Ground q loose [] XP w s₀ mg mb s₁.heap→YP w s₁.heap →
   s₁.heap.get? fa=some o→o.data = .func (docDef d.name d.params d.body d.scope pm cd doc)→s₁.heap.CodeRec cd d.name→mg d.name=some (.ref fa) →
   s₁.heap.get? a=some { cls:=.type "list",data:=.seq vs.toArray }→IntsAre vs ns→ns.length≤n→s₁.gens = #[] →
   codeAny (model l.prog w) callerA (.call (.ref fa) ⟨[.ref a],[]⟩) (fun r s'=>r = .ok (.ret (.bool true))∧OldK s₁.heap s'.heap∧s'.os=s₁.os∧AllBare s'.gens) s₁) :
  WalkO q loose XP YP l.row.toRowW d [] (fun f vs=>PySem.call f vs):=by
 intro w s₀ s₁ mg mb G Y fa o pm cd doc dV kV ho hd hcd hD hmg hg args vals as hpre hlay hrd hwl hlo
 obtain rfl:dV = .none:=Dflts.none hD hdf
 obtain rfl:kV = .none:=Dflts.noKw hD
 obtain ⟨a,vs,ns,rfl,rfl,hobj,hints,hlen⟩:=script_of hn hpre hwl
 refine enter_call (codeAny_mono (call w s₀ s₁ mg mb fa o pm cd doc a vs ns G Y ho (fd_plain hd) hcd hmg hobj hints hlen hg) fun r s' hq=>?_)
 obtain ⟨rfl,h2,h3,h4⟩:=hq
 exact ⟨.inl ⟨.bool true,.bool true,[],rfl,fun _=>rfl,.bool true,post_true l _,fun _=>⟨List.Pairwise.nil,fun _ hm=>(nomatch hm)⟩⟩,h2,h3,h4⟩

section
variable {prog:Program} {w:World} {A:Around} {E:Value→Shared→Prop} {s:Shared} {K:Frag}

end
end Att

namespace L2
open PySem PySem.Spec PyProof.Rows

theorem vals_ints:∀ {vs:List Value} {ns:List Int},IntsAre vs ns→Vals (ns.map V.int) vs
 | _,_,.nil=>.nil
 | _,_,.cons n t h=>.cons ⟨t,rfl⟩ (vals_ints h)

def Only (H:Hp) : Prop:=∀ b,H b=none∨∃ o xs,H b=some (.frz o (.lst xs))

theorem law_call {P:Program} {w:World} {K:PySem.W.Frag} {mg mb:Str→Option Value} {CX:CXT} {k:Nat} {fa a:Addr} {fd:FuncData} {x:Str} {sp:Sp} {s₁:Shared} {vs:List Value} {ns:List Int}
  (KX:K.In s₁.heap) (hns:s₁.heap.Ns mainGlobals mg) (hb:s₁.heap.Ns builtinsNs mb) (hbb:∀ x:Str,x≠"__name__"→mb x=bootBuiltins x) (hlim:s₁.heap.NoLimit) (hg:s₁.gens = #[])
  (ha:s₁.heap.get? a=some { cls:=.type "list",data:=.seq vs.toArray }) (hi:IntsAre vs ns) (hl:ns.length≤sizeLine) (hr:Room k callerA)
  (F:∀ base:Heap,K.In base→base.Ns mainGlobals mg→FnOk P w K mg base CX k fa fd [x] sp) (hbind:∀ (s:Shared) (u:Value),BindsTo s fd ⟨[u],[]⟩ [(x,u)])
  (hsp:∀ H:Hp,Only H→SqL K H a (ns.map V.int)→sp [.ref a] H (fun v _=>v = .bl true) fun _ _ _=>False)
  (hCX:∀ H e s',CX [] H s₁ (fun _ _ _=>False) e s'→False) :
  codeAny (model P w) callerA (.call (.ref fa) ⟨[.ref a],[]⟩) (fun r s'=>r = .ok (.ret (.bool true))∧OldK s₁.heap s'.heap∧s'.os=s₁.os∧AllBare s'.gens) s₁:=by
 have rv:=vals_ints hi
 have lenV:=hi.length
 -- from an abstract heap in which nothing but the script may be tracked
 have core:∀ H:Hp,Only H→SqL K H a (ns.map V.int)→HOk P w H s₁.heap→(∀ b,H b≠none→b=a)→(H a≠none→K.lookup a=none) →
   codeAny (model P w) callerA (.call (.ref fa) ⟨[.ref a],[]⟩) (fun r s'=>r = .ok (.ret (.bool true))∧OldK s₁.heap s'.heap∧s'.os=s₁.os∧AllBare s'.gens) s₁:=by
  intro H hO hS hok hA hK
  have base_of:∀ {b:Addr} {o:Obj},s₁.heap.get? b=some o→H b=none→(hidT s₁.heap H).get? b=some o:=fun e n=>hidT_get e n
  have noA:∀ {b:Addr} {o:Obj} {es:Array DictEntry} {ep:Nat},s₁.heap.get? b=some o→o.data = .dict es ep→H b=none:=fun {b o es ep} e d=>by
   cases q:H b with
   | none=>rfl
   | some u =>
    have e':b=a:=hA b (by rw [q]; simp)
    subst e'
    rw [ha] at e; cases e
    have d':Data.seq vs.toArray _=Data.dict es ep:=d
    cases d'
  have nsK:∀ {b:Addr} {m:Str→Option Value},s₁.heap.Ns b m→(hidT s₁.heap H).Ns b m:=fun {b m} ⟨o,es,ep,e,d,r⟩=>⟨o,es,ep,base_of e (noA e d),d,r⟩
  have hKb:K.In (hidT s₁.heap H):=fun b o e=>base_of (KX b o e) (by
   cases q:H b with
   | none=>rfl
   | some u =>
    have e':b=a:=hA b (by rw [q]; simp)
    subst e'
    rw [hK (by rw [q]; simp)] at e; cases e)
  have hM:Mod K mg (hidT s₁.heap H):=⟨hKb,nsK hns,⟨mb,nsK hb,hbb⟩,let ⟨mc,h1,h2⟩:=hlim; ⟨mc,nsK h1,h2⟩⟩
  have e0:Env0 P w K mg (hidT s₁.heap H) callerA [] s₁ H:=⟨rfl,hM,fun b o e=>of_hidT e,Nat.le_of_eq (hidT_size _ _),trivial,fun b hb=>absurd (show b ∈ ([] : List Addr) from hb) (by simp),hok,.of_eq hg⟩
  refine codeAny_mono ((F _ hKb (nsK hns)).run callerA [] s₁ H ⟨[.ref a],[]⟩ [.ref a] [.ref a] _ _ hr e0 (hbind s₁ (.ref a)) (.cons rfl .nil) (hsp H hO hS)) fun r s' h=>?_
  cases r with
  | error e=>exact (hCX H e s' h).elim
  | ok fl =>
   cases fl with
   | next=>exact False.elim h
   | brk=>exact False.elim h
   | cont=>exact False.elim h
   | ret u =>
    obtain ⟨v,H',os,bare,un,hok',r',q⟩:=h
    have q':v = .bl true:=q
    subst q'
    obtain rfl:u=Value.bool true:=r'
    refine ⟨rfl,OldK.of_keep fun b o e=>?_,os,bare⟩
    cases q:H b with
    | none=>exact un.keep b o e q (by intro z; exact absurd (show b ∈ ([] : List Addr) from z) (by simp)) (by simp)
    | some u =>
     rcases hO b with z | ⟨ob,xs,z⟩
     ·rw [q] at z; cases z
     ·have z2:=un.frzs b ob _ z
      obtain ⟨e1,_⟩:=hok b _ z
      obtain ⟨e2,_⟩:=hok' b _ z2
      rw [e] at e1; cases e1
      exact e2
 cases hk:K.lookup a with
 | some o =>
  -- the script is one of the module's own objects
  have e:=KX a o hk
  rw [ha] at e
  cases e
  refine core (fun _=>none) (fun _=>.inl rfl) (.inr ⟨_,vs.toArray,_,hk,rfl,rfl,rfl,by rw [List.size_toArray,lenV]; exact hl,by simpa using rv⟩) (fun b u z=>by have z':(none:Option HO)=some u:=z; cases z') (fun b z=>absurd rfl z) fun z=>absurd rfl z
 | none =>
  refine core (fun b=>if b=a then some (.frz { cls:=.type "list",data:=.seq vs.toArray } (.lst (ns.map V.int))) else none) (fun b=>?_) (.inl (.inr ⟨{ cls:=.type "list",data:=.seq vs.toArray },if_pos rfl⟩)) (fun b u z=>?_) (fun b z=>?_) fun _=>hk
  ·by_cases hb:b=a
   ·exact .inr ⟨_,_,if_pos hb⟩
   ·exact .inl (if_neg hb)
  ·by_cases hb:b=a
   ·have z':=(if_pos hb).symm.trans z
    cases z'
    subst hb
    exact ⟨ha,by rw [List.length_map]; exact hl,vs,_,rv,ha⟩
   ·have z':=(if_neg hb).symm.trans z
    cases z'
  ·by_cases hb:b=a
   ·exact hb
   ·exact absurd (if_neg hb) z

theorem walk_of {l:PySem.W.OpenLaw} {n k:Nat} {q:Program} {loose:List Str} {XP:(Str→Option Value)→Heap→Prop} {YP:World→Heap→Prop} {d:DefRec} {K:Params→PySem.W.Frag} {CX:World→CXT} {sp:World→Sp} {x:Str}
  (hn:l.most=some n) (hn2:n≤sizeLine) (hdf:d.params.defaults=[]) (hr:Room k callerA)
  (hY:∀ (w:World) (h:Heap),YP w h→(K w.params).In h)
  (F:∀ (w:World) (mg:Str→Option Value) (fa:Addr) (h:Heap),(K w.params).In h→h.Ns mainGlobals mg→mg d.name=some (.ref fa) →
   ∃ fd:FuncData,(∀ (s:Shared) (u:Value),BindsTo s fd ⟨[u],[]⟩ [(x,u)]) ∧
    ∀ base:Heap,(K w.params).In base→base.Ns mainGlobals mg→FnOk l.prog w (K w.params) mg base (CX w) k fa fd [x] (sp w))
  (hsp:∀ (w:World) (H:Hp) (a:Addr) (ns:List Int),ns.length≤n→Only H→SqL (K w.params) H a (ns.map V.int)→sp w [.ref a] H (fun v _=>v = .bl true) fun _ _ _=>False)
  (hCX:∀ (w:World) (H:Hp) (s:Shared) (e:Value) (s':Shared),CX w [] H s (fun _ _ _=>False) e s'→False) :
  PySem.W.WalkO q loose XP YP l.row.toRowW d [] (fun f vs=>PySem.call f vs):=by
 refine Att.attach_call hn hdf fun w s₀ s₁ mg mb fa o pm cd doc a vs ns G Y ho hd hcd hmg hobj hints hlen hg=>?_
 have KX:=hY w _ Y
 obtain ⟨fd,hb,hF⟩:=F w mg fa _ KX G.T.g hmg
 exact law_call KX G.T.g G.T.b G.T.builtins G.T.nolimit hg hobj hints (Nat.le_trans hlen hn2) hr hF hb (fun H hO hS=>hsp w H a ns hlen hO hS) fun H e s'=>hCX w H s₁ e s'

abbrev CX0:CXT:=fun _ _ _ _ _ _=>False
abbrev E0:XK:=fun _ _ _=>False
theorem pass0 {X:Cx} : Passes CX0 X E0:=fun _ _ _ _ _ _ _ h=>h.elim

structure Fun (K:PySem.W.Frag) (x qual:Str) (st:Stmt) (f:Addr) (fd:FuncData) : Prop where
 ex:∃ (oc:Value) (od:Option Addr) (kV doc pm:Value) (an:Option Addr) (cdv ct:Value) (osl:Array (Option Value)),
  fd=PySem.W.fnOf x qual (defArgs st) (defBody st) (defScope st) .none kV doc pm an cdv ct∧K.lookup f=some ⟨oc,od,.func fd,osl⟩∧PySem.W.codeIn K cdv qual=true
 kp:PySem.W.keepIn K (.ref f)=true
section
variable {P:Program} {w:World} {K:PySem.W.Frag} {mg:Str→Option Value} {base:Heap}
theorem Fun.ok {x qual:Str} {st:Stmt} {f:Addr} {fd:FuncData} {N ps:List Str} {k:Nat} {sp:Sp} (F:Fun K x qual st f fd) (S:FnScope N ps (defScope st)) (len:∀ vs H Q E,sp vs H Q E→vs.length=ps.length)
  (hbody:∀ (cdv:Value) (A:Around) (outer:List Env) (s:Shared) (H:Hp) (vs:List V) (Q:VK) (E:XK),Room k (A.deeper (envOfC qual (defScope st) s.heap.objs.size f cdv))→sp vs H Q E →
   ∃ t,PSs (cxOf CX0 P w K mg base N qual (defScope st) f cdv A outer s H E).nox (defBody st) t∧t { nx:=fun _ H'=>Q .non H',rt:=Q } (start N vs) H) : FnOk P w K mg base CX0 (k+1) f fd ps sp:=by
 obtain ⟨oc,od,kV,doc,pm,an,cdv,ct,osl,rfl,lk,hcd⟩:=F.ex
 refine fn_of lk hcd S len fun A outer s H vs Q E hr hsp=>?_
 obtain ⟨t,h,q⟩:=hbody cdv A outer s H vs Q E hr hsp
 exact ⟨t,h.nox,q⟩
theorem Fun.binds {x qual:Str} {st:Stmt} {f:Addr} {fd:FuncData} {ps:List Str} (F:Fun K x qual st f fd)
  (h:∀ (kV doc pm:Value) (an:Option Addr) (cdv ct:Value) (us:List Value),us.length=ps.length→bindArgs (PySem.W.fnOf x qual (defArgs st) (defBody st) (defScope st) .none kV doc pm an cdv ct) ⟨us,[]⟩=pure (ps.zip us)) : Binds K fd ps []:=by
 obtain ⟨oc,od,kV,doc,pm,an,cdv,ct,osl,rfl,lk,hcd⟩:=F.ex
 exact .all (h kV doc pm an cdv ct)
theorem fun_mk {x qual:Str} {st:Stmt} {f:Addr} {oc:Value} {od an:Option Addr} {osl:Array (Option Value)} {kV doc pm cdv ct:Value} (l:K.lookup f=some ⟨oc,od,.func (PySem.W.fnOf x qual (defArgs st) (defBody st) (defScope st) .none kV doc pm an cdv ct),osl⟩)
  (c:PySem.W.codeIn K cdv qual=true) (k:PySem.W.keepIn K (.ref f)=true) : Fun K x qual st f (PySem.W.fnOf x qual (defArgs st) (defBody st) (defScope st) .none kV doc pm an cdv ct):=⟨⟨oc,od,kV,doc,pm,an,cdv,ct,osl,rfl,l,c⟩,k⟩
end
theorem hu_of {A:Around} {k:Nat} (hr:Room k A) : A.units+1 < cLine:=Nat.lt_of_le_of_lt (Nat.add_le_add_left (by decide:1≤64) _) hr.units
theorem small1000 {n:Nat} (h:n≤1000) : n < sizeLine:=Nat.lt_of_le_of_lt h (by decide)

section
variable {X:Cx}
theorem pv (i:Nat) {x:Str} {pos:Pos} (hN:X.N[i]? = some x:=by rfl) (hv:Vis X.env.scope x:=by first | exact Or.inl rfl | exact Or.inr (Or.inl rfl) | exact Or.inr (Or.inr rfl)) (hd:(x == ("__debug__" : Str))=false:=by decide)
  (hcd:(x == ("__classdict__" : Str))=false:=by decide) : PE X (.Name x pos) (tVar i):=pe_var hN hv hd hcd
end

theorem iteF {A B:Prop} (h:B) : if false=true then A else B:=by
 rw [if_neg Bool.false_ne_true]
 exact h
theorem iteT {A B:Prop} (h:A) : if true=true then A else B:=by
 rw [if_pos rfl]
 exact h
theorem ite2 {c A B:Prop} [Decidable c] (h1:c→A) (h2:¬ c→B) : if c then A else B:=by
 by_cases h:c
 ·rw [if_pos h]
  exact h1 h
 ·rw [if_neg h]
  exact h2 h
def Same (H H':Hp) : Prop:=∀ b o,H b=some o→H' b=some o
theorem Same.refl (H:Hp) : Same H H:=fun _ _ h=>h
theorem Same.trans {H H1 H2:Hp} (a:Same H H1) (b:Same H1 H2) : Same H H2:=fun c o h=>b c o (a c o h)
theorem Same.free {H H':Hp} (e:Same H H') {l:Addr} (h:H' l=Option.none) : H l=Option.none:=by
 cases q:H l with
 | none=>rfl
 | some o =>
  rw [e l o q] at h
  cases h
theorem Same.seq {K:PySem.W.Frag} {H H':Hp} {a:Addr} {xs:List V} (e:Same H H') (h:SqL K H a xs) : SqL K H' a xs:=by
 rcases h with (h | ⟨o,h⟩) | h
 ·exact .inl (.inl (e _ _ h))
 ·exact .inl (.inr ⟨o,e _ _ h⟩)
 ·exact .inr h

section
variable {κ:Type} [DecidableEq κ]
end

section
variable {prog:Program} {w:World} {A:Around} {R:Result→Shared→Prop} {s:Shared}
theorem compLoop_any {elt target iter:Expr} {ifs:List Expr} {scope:Scope} {pos:Pos} {it acc:Value} {env:Env} (I:Nat→Shared→Prop)
  (turn:∀ n s,I n s→wpAny (model prog w) A (pyNext it) (fun r s₁=>match r with
   | none=>R (.ok .next) s₁
   | some v=>wpAny (model prog w) A (letOwnedTupleGo target it v) (fun _ s₀=>wpAny (model prog w) A (assign target env v) (fun _ s₂ =>
     wpAny (model prog w) A (forIn ifs true fun c r=>if r=true then do let ok ← isTrue c env (eval c env); pure (ForInStep.yield ok) else pure (ForInStep.yield r)) (fun ok s₃ =>
      if ok=true then wpAny (model prog w) A (eval elt env) (fun x s₄ =>
       wpAny (model prog w) A (call (.builtin "list.append") [acc,x]) (fun _ s₅=>∃ m,m < n∧I m s₅) (fun _ _=>False) s₄) (fun _ _=>False) s₃
      else ∃ m,m < n∧I m s₃) (fun _ _=>False) s₂) (fun _ _=>False) s₀) (fun _ _=>False) s₁) (fun _ _=>False) s)
  (n:Nat) (h:I n s) : codeAny (model prog w) A (.compLoop (.ListComp elt [⟨target,iter,ifs,0⟩] scope pos) 0 it acc env) R s:=by
 refine codeAny_loop rfl I (fun n s hI=>?_) n h
 show wpAny _ A ((compTurn (.ListComp elt [⟨target,iter,ifs,0⟩] scope pos) 0 it acc env).onRaise (fun x=>do noteFrame x env; theTreesLotGoes x)) _ _ s
 refine wpAny_noted ?_
 rw [compTurn_list]
 refine wpAny_bind (wpAny_standAt (wpAny_bind (wpAny_mono (turn n s hI) (fun r s₁ h₁=>?_) fun _ _ h'=>h'.elim)))
 cases r with
 | none=>exact wpAny_pure h₁
 | some v =>
  refine wpAny_bind (wpAny_mono h₁ (fun _ s₀ h₀=>?_) fun _ _ h'=>h'.elim)
  refine wpAny_bind (wpAny_mono h₀ (fun _ s₂ h₂=>wpAny_bind (wpAny_mono h₂ (fun ok s₃ h₃=>?_) fun _ _ h'=>h'.elim)) fun _ _ h'=>h'.elim)
  cases ok with
  | false=>exact wpAny_pure ⟨rfl,h₃⟩
  | true =>
   exact wpAny_bind (wpAny_bind (wpAny_mono h₃ (fun x s₄ h₄=>wpAny_bind (wpAny_mono h₄ (fun _ s₅ h₅=>wpAny_pure (wpAny_pure ⟨rfl,h₅⟩)) fun _ _ h'=>h'.elim)) fun _ _ h'=>h'.elim))
end

def PTs (X:Cx) (ifs:List Expr) (t:TT) : Prop:=
 ∀ (pins:List (Addr × Obj)) (s:Shared) (σ:St) (H:Hp) (Q:Bool→Hp→Prop),Inv X pins σ H s→t σ H Q →
  wpAny (model X.prog X.w) X.A (forIn ifs true fun c r=>if r=true then do let ok ← isTrue c X.env (eval c X.env); pure (ForInStep.yield ok) else pure (ForInStep.yield r)) (TP X pins σ Q) X.xe s
def tYes:TT:=fun _ H Q=>Q true H
theorem pts_nil {X:Cx} : PTs X [] tYes:=fun _ _ _ H _ I h=>wpAny_tests_nil ⟨H,I,h⟩
abbrev Cx.blk (X:Cx) (N:List Str) (s:Shared) (H:Hp) (scope:Scope) (cl:List (Str × Addr)) (C:Addr) (ex:List Addr) : Cx:=
 { X with N:=N,s₀:=s,H₀:=H,env:=compEnvC scope cl C X.env,outer:=X.stack,stack:=X.stack,ex:=ex,fn:=fun _=>false,pn:=[],xe:=fun _ _=>False }

def AllC (env:Env) : List (Str × Addr)→Prop
 | []=>True
 | p :: r=>env.cells.lookup p.1=some p.2∧AllC env r
theorem lookup_mem {α:Type} : ∀ {l:List (Str × α)} {x:Str} {k:α},l.lookup x=some k→(x,k) ∈ l
 | [],_,_,h=>by simp at h
 | (n,k') :: r,x,k,h=>by
  rw [List.lookup_cons] at h
  cases hx:x == n with
  | true =>
   rw [hx] at h
   have e:x=n:=eq_of_beq hx
   have e2:k' = k:=Option.some.inj h
   rw [e,e2]; exact List.mem_cons_self
  | false =>
   rw [hx] at h
   exact List.mem_cons_of_mem _ (lookup_mem h)
theorem AllC.get {env:Env} : ∀ {cl:List (Str × Addr)} {x:Str} {c:Addr},AllC env cl→cl.lookup x=some c→env.cells.lookup x=some c:=fun {cl x c} h e=>by
 have go:∀ (l:List (Str × Addr)),AllC env l→∀ p ∈ l,env.cells.lookup p.1=some p.2:=by
  intro l
  induction l with
  | nil=>intro _ p hp; cases hp
  | cons q r ih =>
   intro ha p hp
   rcases List.mem_cons.mp hp with rfl | hp
   ·exact ha.1
   ·exact ih ha.2 p hp
 exact go cl h (x,c) (lookup_mem e)
def CapOk (X:Cx) (scope:Scope) (cl:List (Str × Addr)) : List Str→List Nat→Prop
 | [],[]=>True
 | y :: ys,j :: js=>(X.N[j]? = some y∧(X.env.kindOf y=some .cell∨X.env.kindOf y=some .free)∧(cl.lookup y).isSome=true∧((relabel scope X.env).names.lookup y=some .cell∨(relabel scope X.env).names.lookup y=some .free))∧CapOk X scope cl ys js
 | _,_=>False
theorem CapOk.get {X:Cx} {scope:Scope} {cl:List (Str × Addr)} : ∀ {ys:List Str} {js:List Nat} {i:Nat} {y:Str},CapOk X scope cl ys js→ys[i]? = some y →
  ∃ j,js[i]? = some j∧X.N[j]? = some y∧(X.env.kindOf y=some .cell∨X.env.kindOf y=some .free)∧(cl.lookup y).isSome=true∧((relabel scope X.env).names.lookup y=some .cell∨(relabel scope X.env).names.lookup y=some .free)
 | [],_,_,_,_,e=>by simp at e
 | _ :: _,[],_,_,h,_=>h.elim
 | y :: ys,j :: js,0,z,h,e=>by
  have e':y=z:=by simpa using e
  subst e'
  exact ⟨j,rfl,h.1⟩
 | y :: ys,j :: js,i+1,z,h,e=>by
  obtain ⟨k,e1,e2⟩:=CapOk.get (i:=i) h.2 (by simpa using e)
  exact ⟨k,by simpa using e1,e2⟩
theorem CapOk.len {X:Cx} {scope:Scope} {cl:List (Str × Addr)} : ∀ {ys:List Str} {js:List Nat},CapOk X scope cl ys js→ys.length=js.length
 | [],[],_=>rfl
 | [],_ :: _,h=>h.elim
 | _ :: _,[],h=>h.elim
 | _ :: _,_ :: _,h=>by rw [List.length_cons,List.length_cons,CapOk.len h.2]
def capv (σ:St) (js:List Nat) : St:=js.map fun j=>(σ[j]?).join
theorem relabel_free {scope:Scope} {env:Env} {x:Str} (hcell:∀ y ∈ scope.names,y.2≠.cell) (h:(relabel scope env).names.lookup x=some .cell∨(relabel scope env).names.lookup x=some .free) : (x,NameKind.free) ∈ scope.names:=by
 have hm:∃ k,(k=NameKind.cell∨k=NameKind.free)∧(x,k) ∈ (relabel scope env).names:=by
  rcases h with h | h
  ·exact ⟨_,.inl rfl,lookup_mem h⟩
  ·exact ⟨_,.inr rfl,lookup_mem h⟩
 obtain ⟨k,hk,hm⟩:=hm
 obtain ⟨⟨n,k'⟩,hin,e⟩:=List.mem_map.mp hm
 dsimp only at e
 by_cases hc:(k' == NameKind.free && env.scope.kind == .function && env.kindOf n == some .cell)=true
 ·rw [if_pos hc] at e
  cases e
  have:k' = NameKind.free:=by
   rw [Bool.and_eq_true,Bool.and_eq_true] at hc
   exact eq_of_beq hc.1.1
  rw [← this]; exact hin
 ·rw [if_neg hc] at e
  cases e
  rcases hk with hk | hk
  ·exact absurd hk (hcell _ hin)
  ·rw [← hk]; exact hin
section
variable {X:Cx} {pins:List (Addr × Obj)} {σ:St} {H:Hp} {s:Shared}
theorem Inv.adopt {D:Addr} {ys:List V} {its:List Value} {n:Nat} (I:Inv X pins σ H s) (hn:H D=none) (hnew:X.s₀.heap.objs.size≤D) (hL:D≠X.env.locals) (hc:∀ x c,X.env.cells.lookup x=some c→c≠D) (hp:∀ p ∈ X.pn++pins,p.1≠D)
  (e:s.heap.get? D=some { cls:=.type "list",data:=.seq its.toArray n }) (hv:Vals ys its) (hz:ys.length≤sizeLine) : Inv X pins σ (upd H D (.lst ys)) s:=by
 have ne:∀ b u,H b=some u→b≠D:=fun b u q=>ne_of_none q hn
 refine ⟨I.ok,I.os,I.bare,⟨I.base.keep,I.base.slot,fun b o q nn hx=>?_,I.base.there,fun b xs q=>?_,fun b o u q=>?_,fun b ps q=>?_⟩,I.loc,I.cell,?_,fun x c q=>?_,fun p hq=>?_,fun b u q=>?_,I.len⟩
 ·rw [upd_ne (Nat.ne_of_lt (Nat.lt_of_lt_of_le (Heap.lt_size q) hnew))]; exact I.base.free b o q nn hx
 ·have z:=I.base.tups b xs q
  rw [upd_ne (ne b _ z)]; exact z
 ·have z:=I.base.frzs b o u q
  rw [upd_ne (ne b _ z)]; exact z
 ·obtain ⟨more,z⟩:=I.base.tbls b ps q
  exact ⟨more,by rw [upd_ne (ne b _ z)]; exact z⟩
 ·rw [upd_ne (Ne.symm hL)]; exact I.free
 ·rw [upd_ne (hc x c q)]; exact I.freeC x c q
 ·obtain ⟨a1,a2,a3⟩:=I.pin p hq
  exact ⟨a1,by rw [upd_ne (hp p hq)]; exact a2,a3⟩
 ·by_cases hb:b=D
  ·subst hb
   rw [upd_same] at q; cases q
   exact ⟨hz,its,n,hv,e⟩
  ·rw [upd_ne hb] at q
   exact (I.hok b u q).stay (fun c v _ r=>r) (fun c r=>by rw [upd_ne (ne c _ r)]; exact r) fun c xs r=>by rw [upd_ne (ne c _ r)]; exact r
structure Outed (X:Cx) (pins:List (Addr × Obj)) (σ:St) (C D:Addr) (H:Hp) (s:Shared) : Prop where
 inv:Inv X pins σ H s
 ns:∃ m,s.heap.Ns C m
 nL:C≠X.env.locals
 new:X.s₀.heap.objs.size≤C
 nc:∀ x c,X.env.cells.lookup x=some c→c≠C
 np:∀ p ∈ X.pn++pins,p.1≠C
 free:H C=none
theorem Outed.gone {C D:Addr} {h':Heap} (O:Outed X pins σ C D H s) (sb:Heap.SameBut C s.heap h') : Inv X pins σ H { s with heap:=h' }:=
 O.inv.turned (t':=s.toks) (it:=C) (fun b o hb e=>(sb.2 b hb).trans e) O.free O.nL (.inr O.new) O.nc O.np
end

def gLC (J:It) (g:TG) (tc:TT) (te:TE) (n:Nat) (cv:St) (Fin:List V→Hp→Prop) (H1:Hp) : Prop:=
 ∃ W:Nat→Nat→List V→Hp→Prop,(∃ m,W 0 m [] H1)∧∀ i m ys H,W i m ys H →
  (J.stop i H∧Fin ys H) ∨
  (J.go i H∧ys.length < sizeLine∧∃ N:List V→Hp→Prop,(∀ ys' H',N ys' H'→∃ m',m' < m∧W (i+1) m' ys' H')∧∀ x H',J.yld i H x H'→∀ own:St,own.length=n→g x (own++cv) H' fun σ2 H2=>(∃ own2:St,own2.length=n∧σ2=own2++cv) ∧
   tc σ2 H2 fun b H3=>if b=true then te σ2 H3 fun y H4=>N (ys++[y]) H4 else N ys H3)

def clOf (env:Env) : List (Str × NameKind)→List (Str × Addr)→List (Str × Addr)
 | [],acc=>acc
 | (n,k) :: r,acc=>clOf env r (if k == .free then (match env.cells.lookup n with | some c=>(n,c) :: acc | none=>acc) else acc)
theorem clOf_all (env:Env) : ∀ (names:List (Str × NameKind)) (acc:List (Str × Addr)),AllC env acc→AllC env (clOf env names acc)
 | [],_,h=>h
 | (n,k) :: r,acc,h=>by
  refine clOf_all env r _ ?_
  split
  ·split
   ·exact ⟨by assumption,h⟩
   ·exact h
  ·exact h
structure LcOk (X:Cx) (scope:Scope) (cl:List (Str × Addr)) (own caps:List Str) (js:List Nat) : Prop where
 clos:closureFor scope X.env=pure cl
 cell:∀ y ∈ scope.names,y.2≠.cell
 kind:scope.kind = .function
 names:∀ y ∈ scope.names,y.2 = .local→scope.names.lookup y.1=some .local
 allc:AllC X.env cl
 free:(scope.names.all fun y=>y.2 != .free || (cl.lookup y.1).isSome)=true
 cap:CapOk X scope cl caps js

theorem lcok {X:Cx} {scope:Scope} {own caps:List Str} {js:List Nat} (clos:closureFor scope X.env=pure (clOf X.env scope.names []):=by with_unfolding_all rfl) (cell:∀ y ∈ scope.names,y.2≠.cell:=by decide +kernel) (kind:scope.kind = .function:=by rfl)
  (names:∀ y ∈ scope.names,y.2 = .local→scope.names.lookup y.1=some .local:=by decide +kernel) (free:(scope.names.all fun y=>y.2 != .free || ((clOf X.env scope.names []).lookup y.1).isSome)=true:=by with_unfolding_all rfl)
  (cap:CapOk X scope (clOf X.env scope.names []) caps js) : LcOk X scope (clOf X.env scope.names []) own caps js:=⟨clos,cell,kind,names,clOf_all _ _ _ trivial,free,cap⟩
section
variable {X:Cx} {elt iter target:Expr} {ifs:List Expr} {scope:Scope} {cl:List (Str × Addr)} {pos:Pos} {own caps:List Str} {js:List Nat} {g:TG} {tc:TT} {te:TE}
theorem lc_block {pins:List (Addr × Obj)} {σ:St} {s₂:Shared} {H1:Hp} {it:Addr} {fp:List Addr} {tn:Nat→Heap→Prop} {J:It} {Fin:List V→Hp→Prop} {RR:Value→Addr→Result→Shared→Prop} {E:Value→Shared→Prop}
  (hc:X.calm=true) (L:LcOk X scope cl own caps js)
  (hg:∀ s H C ex,PG (X.blk (own++caps) s H scope cl C ex) target g) (ht:∀ s H C ex,PTs (X.blk (own++caps) s H scope cl C ex) ifs tc) (he:∀ s H C ex,PE (X.blk (own++caps) s H scope cl C ex) elt te)
  (I2:Inv X pins σ H1 s₂) (T:Turn X.prog X.w X.K target J fp it tn) (st2:tn 0 s₂.heap) (f2:∀ b ∈ fp,FpOk X pins H1 b)
  (G:gLC J g tc te own.length (capv σ js) Fin H1)
  (hRR:∀ D C H ys s',H D=none→Outed X pins σ C D (upd H D (.lst ys)) s'→Fin ys H→RR (.ref D) C (.ok .next) s') :
  wpAny (model X.prog X.w) X.A (newList []) (fun acc s₃=>wpAny (model X.prog X.w) X.A (newFunctionEnv scope X.env.globals cl [] X.env.qual none .none (some X.env)) (fun cenv s₄ =>
   codeAny (model X.prog X.w) X.A (.compStart (.ListComp elt [⟨target,iter,ifs,0⟩] scope pos) 0 (.ref it) acc { cenv with scope:=relabel scope X.env }) (RR acc cenv.locals) s₄) E s₃) E s₂:=by
 refine wpAny_newObj_type (wpAny_newFunctionEnv L.cell (by intro y hy; simp at hy) (fun h₁ hns₁ hsb₁=>?_) L.kind)
 dsimp only at hns₁ hsb₁ ⊢
 generalize hH2:s₂.heap.push { cls:=.type "list",dict:=none,data:=.seq ([] : List Value).toArray }=G2 at hns₁ hsb₁ ⊢
 have hC:G2.objs.size=s₂.heap.objs.size+1:=by rw [← hH2,Heap.size_push]
 have up2:∀ b o,s₂.heap.get? b=some o→G2.get? b=some o:=fun b o e=>hH2 ▸ Heap.get?_push_of_some _ e
 have hDC:s₂.heap.objs.size≠G2.objs.size:=by rw [hC]; exact Nat.ne_of_lt (Nat.lt_succ_self _)
 have hD2:G2.get? s₂.heap.objs.size=some { cls:=.type "list",data:=.seq ([] : List Value).toArray ([] : List Value).length }:=hH2 ▸ Heap.get?_push_size _ rfl
 -- the state with the list laid
 have I3:Inv X pins σ H1 { s₂ with heap:=G2 }:=I2.kept (t':=s₂.toks) up2
 have up3:∀ b o,G2.get? b=some o→h₁.get? b=some o:=fun b o e=>hsb₁.extBut b o (Nat.ne_of_lt (Heap.lt_size e)) (Heap.get?_push_of_some _ e)
 have DH:H1 s₂.heap.objs.size=none:=I2.fresh
 have CH:H1 G2.objs.size=none:=I3.fresh
 have fpl:∀ b ∈ fp,b < s₂.heap.objs.size:=fun b hb=>by
  obtain ⟨o,e,_⟩:=T.obj 0 _ st2 b hb
  exact Heap.lt_size e
 have celllt:∀ x c,X.env.cells.lookup x=some c→c < s₂.heap.objs.size:=fun x c e=>by
  obtain ⟨v,q⟩:=I2.cell x c e
  exact q.lt
 have locl:X.env.locals < s₂.heap.objs.size:=I2.lt
 generalize hD:s₂.heap.objs.size=D at *
 generalize hCC:G2.objs.size=C at *
 have hDltC:D < C:=by omega
 have noF:∀ b,b ∈ frs X.stack→b < D:=fun b hb=>by
  rcases List.mem_cons.mp (I2.stkSub b hb) with e | hb
  ·rw [e]; exact locl
  ·obtain ⟨_,o,ho,_⟩:=I2.ok.funs.mem hb
   exact Nat.lt_of_lt_of_le (Heap.lt_size ho) (hD ▸ I2.sz)
 have fpF:∀ b ∈ fp,b ∉ frs X.stack:=fun b hb z=>by
  obtain ⟨_,e1,e2,_⟩:=f2 b hb
  rcases List.mem_cons.mp (I2.stkSub b z) with e | z
  ·exact e1 e
  ·exact e2 z
 have ok':(X.blk (own++caps) { s₂ with heap:=G2 } H1 scope cl C (D :: fp)).Ok:={
  mod:=I2.ok.mod
  kind:=L.kind
  glob:=I2.ok.glob
  blt:=I2.ok.blt
  above:=Nat.le_of_eq hCC
  inj:=fun x y c e1 e2=>I2.ok.inj x y c (L.allc.get e1) (L.allc.get e2)
  has:=fun x hx=>by
   have hm:=relabel_free L.cell hx
   have q:=List.all_eq_true.mp L.free _ hm
   have q':(cl.lookup x).isSome=true:=by simpa using q
   exact Option.isSome_iff_exists.mp q'
  cab:=fun x c e=>nomatch e
  hd:=I2.ok.hd
  frames:=I2.ok.frames
  stk:=.inl rfl
  exf:=fun b hb=>by
   rcases List.mem_cons.mp hb with rfl | hb
   ·exact ⟨Nat.ne_of_lt hDltC,fun x c e=>Nat.ne_of_lt (celllt x c (L.allc.get e))⟩
   ·obtain ⟨_,e1,e2,_,e4,_⟩:=f2 b hb
    exact ⟨Nat.ne_of_lt (Nat.lt_trans (fpl b hb) hDltC),fun x c e=>e4 x c (L.allc.get e)⟩
  bs:=fun b o e=>⟨up2 b o (I2.bs b o e).1,(I2.bs b o e).2⟩
  bsz:=by
   show X.base.objs.size≤G2.objs.size
   have:=I2.ok.bsz
   have:=I2.sz
   omega
  noex:=fun b o e hb=>by
   have hlt:=Heap.lt_size (I2.bs b o e).1
   rcases List.mem_cons.mp hb with z | hb
   ·exact absurd (show b < D from hD ▸ hlt) (by rw [z]; exact Nat.lt_irrefl _)
   ·obtain ⟨_,_,_,e3,_⟩:=f2 b hb
    rcases e3 with e3 | e3
    ·exact I2.ok.noex b o e e3
    ·exact absurd (Nat.lt_of_lt_of_le (Heap.lt_size (I2.ok.bs b o e).1) e3) (Nat.lt_irrefl _)
  exfs:=fun b hb z=>by
   rcases List.mem_cons.mp hb with e | hb
   ·exact absurd (noF b z) (by rw [e]; exact Nat.lt_irrefl _)
   ·exact fpF b hb z
  funs:=I3.stack
  frf:=I3.stkFree }
 have hns:h₁.Ns C (fun x=>([] : List (Str × Value)).reverse.lookup x):=hns₁
 have start:Inv (X.blk (own++caps) { s₂ with heap:=G2 } H1 scope cl C (D :: fp)) [(D,LCg.lst [])] (List.replicate own.length none++capv σ js) H1 { s₂ with heap:=h₁,toks:=s₂.toks+([] : List (Str × Value)).length }:=by
  refine ⟨ok',rfl,I2.bare,Un.kept up3,⟨_,hns,fun i x v e1 e2 e3=>?_⟩,fun x c e=>?_,CH,fun x c e=>I2.freeC x c (L.allc.get e),fun p hp=>?_,I3.hok.kept up3,?_⟩
  ·have hlo:own.length≤i:=by
    refine Nat.le_of_not_lt fun hlt=>?_
    rw [List.getElem?_append_left (by rw [List.length_replicate]; exact hlt),List.getElem?_replicate,if_pos hlt] at e2
    cases e2
   have e1':caps[i - own.length]? = some x:=by rw [← List.getElem?_append_right hlo]; exact e1
   obtain ⟨j,j1,j2,j3,j4,j5⟩:=L.cap.get e1'
   have e2':(capv σ js)[i - own.length]? = some (some v):=by
    rw [← e2,List.getElem?_append_right (by rw [List.length_replicate]; exact hlo),List.length_replicate]
   have e4:σ[j]? = some (some v):=by
    unfold capv at e2'
    rw [List.getElem?_map,j1] at e2'
    have e5:(σ[j]?).join=some v:=Option.some.inj e2'
    cases hq:σ[j]? with
    | none=>rw [hq] at e5; cases e5
    | some q=>rw [hq] at e5; exact congrArg some e5
   obtain ⟨m,hn,hl⟩:=I2.loc
   obtain ⟨u,ru,lk⟩:=hl j x v j2 e4 (.inr j3)
   refine ⟨u,ru,.inr ⟨j5,?_⟩⟩
   rcases lk with ⟨k,_⟩ | ⟨_,c,ec,o,ho,hd⟩
   ·rcases j3 with z | z <;> (rw [k] at z; cases z)
   ·obtain ⟨c',ec'⟩:=Option.isSome_iff_exists.mp j4
    have:=L.allc.get ec'
    rw [ec] at this
    cases this
    exact ⟨c,ec',o,up3 _ _ (up2 _ _ ho),hd⟩
  ·obtain ⟨v,o,ho,hd⟩:=I2.cell x c (L.allc.get e)
   exact ⟨v,o,up3 _ _ (up2 _ _ ho),hd⟩
  ·have e:p=(D,LCg.lst []):=by simpa using hp
   subst e
   exact ⟨up3 _ _ hD2,DH,Nat.ne_of_lt hDltC,fun z=>absurd (noF D z) (Nat.lt_irrefl _),fun v z=>by cases z⟩
  ·rw [List.length_append,List.length_append,List.length_replicate]
   unfold capv
   rw [List.length_map,L.cap.len]
 obtain ⟨W,⟨m0,w0⟩,turn⟩:=G
 have loop:codeAny (model X.prog X.w) X.A (.compLoop (.ListComp elt [⟨target,iter,ifs,0⟩] scope pos) 0 (.ref it) (.ref D) (compEnvC scope cl C X.env)) (RR (.ref D) C) { s₂ with heap:=h₁,toks:=s₂.toks+([] : List (Str × Value)).length }:=by
  refine compLoop_any (fun n s'=>∃ i ys its ow H',Inv (X.blk (own++caps) { s₂ with heap:=G2 } H1 scope cl C (D :: fp)) [(D,LCg.lst its)] (ow++capv σ js) H' s'∧ow.length=own.length∧tn i s'.heap∧(∀ b ∈ fp,H' b=none)∧Vals ys its∧ys.length≤sizeLine∧W i n ys H') ?_ m0
   ⟨0,[],[],List.replicate own.length none,H1,start,List.length_replicate,T.keep _ _ _ st2 fun b _ o e=>up3 _ _ (up2 _ _ e),fun b hb=>(f2 b hb).1,.nil,Nat.zero_le _,w0⟩
  rintro n s' ⟨i,ys,its,ow,H',I',hlo,st,fr,hv,hz,wv⟩
  have fpok:∀ {H'':Hp},(∀ b ∈ fp,H'' b=none)→∀ b ∈ fp,FpOk (X.blk (own++caps) { s₂ with heap:=G2 } H1 scope cl C (D :: fp)) [(D,LCg.lst its)] H'' b:=fun hn b hb=>by
   obtain ⟨_,e1,e2,e3,e4,e5⟩:=f2 b hb
   refine ⟨hn b hb,Nat.ne_of_lt (Nat.lt_trans (fpl b hb) hDltC),fpF b hb,.inl (List.mem_cons_of_mem _ hb),fun x c e=>e4 x c (L.allc.get e),fun p hp=>?_⟩
   have e:p=(D,LCg.lst its):=by simpa using hp
   subst e
   exact Nat.ne_of_gt (fpl b hb)
  rcases turn i n ys H' wv with ⟨stop,fin⟩ | ⟨go,hlt,N,hN,step⟩
  ·refine wpAny_mono (T.done (X.blk (own++caps) { s₂ with heap:=G2 } H1 scope cl C (D :: fp)) rfl rfl rfl hc i _ s' _ H' (fun _ _=>False) I' (fpok fr) st stop) (fun r s4 ⟨hr,I4⟩=>?_) fun _ _ f=>f
   subst hr
   have pD:=I4.pin (D,LCg.lst its) (by simp)
   have hch:∀ b ∈ D :: fp,(b ∈ X.ex∨X.s₀.heap.objs.size≤b)∧b≠X.env.locals∧(∀ x c,X.env.cells.lookup x=some c→c≠b)∧∀ p ∈ X.pn++pins,p.1≠b:=fun b hb=>by
    rcases List.mem_cons.mp hb with rfl | hb
    ·exact ⟨.inr (hD ▸ I2.sz),Nat.ne_of_gt locl,fun x c e=>Nat.ne_of_lt (celllt x c e),fun p hp=>Nat.ne_of_lt (hD ▸ Heap.lt_size (I2.pin p hp).1)⟩
    ·obtain ⟨_,e1,e2,e3,e4,e5⟩:=f2 b hb
     exact ⟨e3,e1,e4,e5⟩
   have IX:Inv X pins σ H' s4:=I2.call' (ch:=D :: fp) I4.os ((Un.kept up2).trans I4.base) I4.hok I4.bare hch
   have cD:=hch D List.mem_cons_self
   have IA:Inv X pins σ (upd H' D (.lst ys)) s4:=IX.adopt pD.2.1 (hD ▸ I2.sz) cD.2.1 cD.2.2.1 cD.2.2.2 pD.1 hv hz
   obtain ⟨mm,hmm,_⟩:=I4.loc
   refine hRR D C H' ys s4 pD.2.1 ⟨IA,⟨mm,hmm⟩,Nat.ne_of_gt (Nat.lt_trans locl hDltC),?_,fun x c e=>Nat.ne_of_lt (Nat.lt_trans (celllt x c e) hDltC),fun p hp=>?_,?_⟩ fin
   ·have:=I2.sz
    omega
   ·exact Nat.ne_of_lt (Nat.lt_trans (show p.1 < D from hD ▸ Heap.lt_size (I2.pin p hp).1) hDltC)
   ·rw [upd_ne (Nat.ne_of_gt hDltC)]; exact I4.free
  ·refine wpAny_mono (T.item (X.blk (own++caps) { s₂ with heap:=G2 } H1 scope cl C (D :: fp)) rfl rfl rfl hc i _ s' _ H' (fun _ _=>False) I' (fpok fr) st go) (fun r s4 ⟨u,hr,h4⟩=>?_) fun _ _ f=>f
   subst hr
   refine wpAny_mono h4 (fun _ s5 ⟨x,H5,I5,r5,y5,st5,fr5⟩=>?_) fun _ _ f=>f
   have I5':=I5.pinned (fpok fr5) (T.obj _ _ st5)
   have keepT:∀ {σ8:St} {H8:Hp} {s8:Shared},Inv (X.blk (own++caps) { s₂ with heap:=G2 } H1 scope cl C (D :: fp)) ([(D,LCg.lst its)]++pinsAt fp s5.heap) σ8 H8 s8→tn (i+1) s8.heap∧∀ b ∈ fp,H8 b=none:=fun {σ8 H8 s8} I8 =>
    ⟨T.keep _ _ _ st5 fun b hb o e=>(I8.pin (b,o) (List.mem_append_right _ (List.mem_append_right _ (mem_pinsAt hb e)))).1,fun b hb=>by
     obtain ⟨o,e,d⟩:=T.obj _ _ st5 b hb
     exact (I8.pin (b,o) (List.mem_append_right _ (List.mem_append_right _ (mem_pinsAt hb e)))).2.1⟩
   refine wpAny_mono (hg _ _ _ _ _ s5 _ H5 x u _ I5' r5 (step x H5 y5 ow hlo)) (fun _ s6 ⟨σ6,H6,I6,⟨own2,hl2,e6⟩,q6⟩=>?_) fun _ _ f=>f
   subst e6
   refine wpAny_mono (ht _ _ _ _ _ s6 _ H6 _ I6 q6) (fun b s7 ⟨H7,I7,q7⟩=>?_) fun _ _ f=>f
   cases b with
   | false =>
    rw [if_neg Bool.false_ne_true]
    rw [if_neg Bool.false_ne_true] at q7
    obtain ⟨m',hm,w7⟩:=hN _ _ q7
    obtain ⟨k1,k2⟩:=keepT I7
    exact ⟨m',hm,i+1,ys,its,own2,H7,I7.unpinned,hl2,k1,k2,hv,hz,w7⟩
   | true =>
    rw [if_pos rfl]
    rw [if_pos rfl] at q7
    refine wpAny_mono (he _ _ _ _ _ s7 _ H7 _ I7 q7) (fun y s8 ⟨vy,H8,I8,r8,n8⟩=>?_) fun _ _ f=>f
    obtain ⟨m',hm,w8⟩:=hN _ _ n8
    obtain ⟨k1,k2⟩:=keepT I8
    have pD:=I8.pin (D,LCg.lst its) (by simp)
    have hyl:=hv.length
    refine append_at (hsz:=by show its.toArray.size≤sizeLine; rw [List.size_toArray]; omega) pD.1 fun h9 hs9 hD9=>?_
    have I9:Inv (X.blk (own++caps) { s₂ with heap:=G2 } H1 scope cl C (D :: fp)) [] (own2++capv σ js) H8 { s8 with heap:=h9 }:=by
     refine (I8.pins_of (pins':=[]) fun p hp=>nomatch hp).turned (t':=s8.toks) (it:=D) (fun b o hb e=>(hs9.2 b hb).trans e) pD.2.1 (Nat.ne_of_lt hDltC) (.inl List.mem_cons_self) (fun x c e=>Nat.ne_of_lt (celllt x c (L.allc.get e))) fun p hp=>?_
     simp at hp
    refine ⟨m',hm,i+1,ys++[vy],its++[y],own2,H8,I9.pins_of fun p hp=>?_,hl2,T.keep _ _ _ k1 fun b hb o e=>(hs9.2 b (Nat.ne_of_lt (fpl b hb))).trans e,k2,hv.append (.cons r8 .nil),?_,w8⟩
    ·have e:p=(D,LCg.lst (its++[y])):=by simpa using hp
     subst e
     exact ⟨hD9.trans (congrArg some (LCg.lst_snoc its y)),pD.2.1,Nat.ne_of_lt hDltC,fun z=>absurd (noF D z) (Nat.lt_irrefl _),fun v z=>by cases z⟩
    ·rw [List.length_append,List.length_singleton]; omega
 exact codeAny_compStart_list loop (T.self _ _ _ _ _ (T.keep _ _ _ st2 fun b _ o e=>up3 _ _ (up2 _ _ e)) loop)

def tLCg (wi:TI) (g:TG) (tc:TT) (te:TE) (n:Nat) (js:List Nat) : TE:=fun σ H Q=>wi σ H fun J H1=>gLC J g tc te n (capv σ js) (fun ys H=>∀ p,H p=none→Q (.ref p) (upd H p (.lst ys))) H1
variable {wi:TI}
theorem pe_lcg (hc:X.calm=true) (L:LcOk X scope cl own caps js) (hi:PI X target iter wi)
  (hg:∀ s H C ex,PG (X.blk (own++caps) s H scope cl C ex) target g) (ht:∀ s H C ex,PTs (X.blk (own++caps) s H scope cl C ex) ifs tc) (he:∀ s H C ex,PE (X.blk (own++caps) s H scope cl C ex) elt te)
  (hs:∀ x,foldedSetIterable iter X.env x=pure x:=by intro _; rfl) : PE X (.ListComp elt [⟨target,iter,ifs,0⟩] scope pos) (tLCg wi g tc te own.length js):=by
 intro pins s σ H Q I h
 rw [eval_ListComp]
 refine wpAny_comprehension_free (use:=none) rfl hs L.clos L.kind L.names (thn (hi pins s σ H _ I h) fun v s1 h1=>thn h1 fun itv s2 h2=>?_)
 obtain ⟨it,fp,tn,J,H2,e,I2,T,st2,f2,G⟩:=h2
 subst e
 refine lc_block hc L hg ht he I2 T st2 f2 G ?_
 intro D C H3 ys s' hD O fin
 obtain ⟨m,hn⟩:=O.ns
 exact ⟨m,hn,fun h' sb=>⟨.ref D,_,O.gone sb,rfl,fin D hD⟩⟩
end

section
variable {X:Cx} {elt iter:Expr} {ifs:List Expr} {scope:Scope} {cl:List (Str × Addr)} {pos:Pos} {caps:List Str} {js:List Nat} {tc:TT} {te:TE} {wi:TI} {x:Str} {px:Pos}
theorem gLC1 {J:It} {cv:St} {Fin:List V→Hp→Prop} {H1:Hp} (h:∃ W:Nat→Nat→List V→Hp→Prop,(∃ m,W 0 m [] H1)∧∀ i m ys H,W i m ys H →
  (J.stop i H∧Fin ys H) ∨
  (J.go i H∧ys.length < sizeLine∧∃ N:List V→Hp→Prop,(∀ ys' H',N ys' H'→∃ m',m' < m∧W (i+1) m' ys' H')∧∀ x H',J.yld i H x H' →
   tc (some x :: cv) H' fun b H3=>if b=true then te (some x :: cv) H3 fun y H4=>N (ys++[y]) H4 else N ys H3)) : gLC J (gName 0) tc te 1 cv Fin H1:=by
 obtain ⟨W,w0,turn⟩:=h
 refine ⟨W,w0,fun i m ys H w=>?_⟩
 rcases turn i m ys H w with ⟨a,b⟩ | ⟨a,b,N,hN,c⟩
 ·exact .inl ⟨a,b⟩
 ·refine .inr ⟨a,b,N,hN,fun v H' y own ho=>?_⟩
  match own,ho with
  | [τ],_=>exact ⟨⟨[some v],rfl,rfl⟩,c v H' y⟩
def tLC (wi:TI) (tc:TT) (te:TE) (js:List Nat) : TE:=tLCg wi (gName 0) tc te 1 js
theorem pe_lc (hc:X.calm=true) (L:LcOk X scope cl [x] caps js) (hi:PI X (.Name x px) iter wi)
  (ht:∀ s H C ex,PTs (X.blk (x :: caps) s H scope cl C ex) ifs tc) (he:∀ s H C ex,PE (X.blk (x :: caps) s H scope cl C ex) elt te)
  (hN:(x :: caps).Nodup:=by decide +kernel) (hx:(relabel scope X.env).names.lookup x=some .local:=by with_unfolding_all rfl)
  (hs:∀ x,foldedSetIterable iter X.env x=pure x:=by intro _; rfl) : PE X (.ListComp elt [⟨.Name x px,iter,ifs,0⟩] scope pos) (tLC wi tc te js):=
 pe_lcg (own:=[x]) (g:=gName 0) hc L hi (fun s H C ex=>pg_name (i:=0) hN rfl (.inl hx) (.inr hx)) ht he hs
theorem lc_list {K:PySem.W.Frag} {a:Addr} {xs:List V} {cv:St} {Fin:List V→Hp→Prop} {H1:Hp} (Pv:Nat→List V→Hp→Prop) (h0:Pv 0 [] H1) (hl:∀ i ys H,i≤xs.length→Pv i ys H→SqL K H a xs) (hz:∀ i ys H,i < xs.length→Pv i ys H→ys.length < sizeLine)
  (hs:∀ i x ys H,xs[i]? = some x→Pv i ys H→tc (some x :: cv) H fun b H3=>if b=true then te (some x :: cv) H3 fun y H4=>Pv (i+1) (ys++[y]) H4 else Pv (i+1) ys H3)
  (hd:∀ ys H,Pv xs.length ys H→Fin ys H) : gLC (Itl K a) (gName 0) tc te 1 cv Fin H1:=by
 refine gLC1 ⟨fun i m ys H=>m=xs.length - i∧i≤xs.length∧Pv i ys H,⟨xs.length,by simp,Nat.zero_le _,h0⟩,?_⟩
 rintro i m ys H ⟨rfl,hi,p⟩
 have q:=hl i ys H hi p
 by_cases hlt:i < xs.length
 ·refine .inr ⟨⟨xs,xs[i],q,by simp [hlt]⟩,hz i ys H hlt p,Pv (i+1),fun ys' H' p'=>⟨xs.length - (i+1),by omega,rfl,hlt,p'⟩,fun v H' y=>?_⟩
  obtain ⟨e,y⟩:=y
  subst e
  exact hs i v ys _ (y xs q) p
 ·have e:i=xs.length:=by omega
  subst e
  exact .inl ⟨⟨xs,q,Nat.le_refl _⟩,hd ys H p⟩
theorem lc_range {lo:Int} {n:Nat} {cv:St} {Fin:List V→Hp→Prop} {H1:Hp} (Pv:Nat→List V→Hp→Prop) (h0:Pv 0 [] H1) (hz:∀ i ys H,i < n→Pv i ys H→ys.length < sizeLine)
  (hs:∀ i ys H,i < n→Pv i ys H→tc (some (.int (lo+i)) :: cv) H fun b H3=>if b=true then te (some (.int (lo+i)) :: cv) H3 fun y H4=>Pv (i+1) (ys++[y]) H4 else Pv (i+1) ys H3)
  (hd:∀ ys H,Pv n ys H→Fin ys H) : gLC (Itr lo n) (gName 0) tc te 1 cv Fin H1:=by
 refine gLC1 ⟨fun i m ys H=>m=n - i∧i≤n∧Pv i ys H,⟨n,by simp,Nat.zero_le _,h0⟩,?_⟩
 rintro i m ys H ⟨rfl,hi,p⟩
 by_cases hlt:i < n
 ·refine .inr ⟨hlt,hz i ys H hlt p,Pv (i+1),fun ys' H' p'=>⟨n - (i+1),by omega,rfl,hlt,p'⟩,fun v H' y=>?_⟩
  obtain ⟨e,y⟩:=y
  subst e y
  exact hs i ys _ hlt p
 ·have e:i=n:=by omega
  subst e
  exact .inl ⟨Nat.le_refl _,hd ys H p⟩
end

theorem yes_go {A B:Hp→Prop} {σ:St} {H:Hp} (h:A H) : tYes σ H (fun b H3=>if b=true then A H3 else B H3):=by
 show if true=true then A H else B H
 rw [if_pos rfl]
 exact h
section
variable {X:Cx} {tg:Expr}
end
section
variable {X:Cx}
theorem op_mul_str:OpR X (binaryOp .Mult) (fun x y H Q=>∃ z n,x = .str z∧y = .int n∧MulOk z n∧Q (.str (Txt.mul z n)) H):=by
 intro pins s σ H x y v u Q I rx ry h
 obtain ⟨z,n,rfl,rfl,hm,q⟩:=h
 obtain ⟨t,rfl⟩:=rx
 obtain ⟨t',rfl⟩:=ry
 exact SB.mul hm fun t'' k=>⟨.str _,H,I.tok k,⟨t'',rfl⟩,q⟩
theorem call_int_text:CallR X (.type "int") (fun xs H Q=>∃ x n,xs=[.str x]∧PySem.intText? x=some n∧x.length≤640∧Q (.int n) H):=by
 intro pins s σ H xs us Q I r h
 obtain ⟨x,n,rfl,hn,hl,q⟩:=h
 obtain ⟨u,rfl,t,rfl⟩:=vals1 r
 exact PySem.W.KIN.call_text hn hl ⟨.int _,H,I.tok _,⟨_,rfl⟩,q⟩
end
end L2

namespace Tl
open PySem PySem.Builtin PySem.Builtin.Str L2

abbrev tx (l:List Nat) : Str:=⟨l.toArray⟩
theorem tx_app (a b:List Nat) : tx a++tx b=tx (a++b):=by
 show (⟨a.toArray++b.toArray⟩ : Str)=⟨(a++b).toArray⟩
 rw [List.append_toArray]
theorem tx_len (l:List Nat) : (tx l).length=l.length:=by show l.toArray.size=_; simp
theorem tx_inj {a b:List Nat} (h:tx a=tx b) : a=b:=by
 have e:a.toArray=b.toArray:=congrArg Str.cps h
 have e2:=congrArg Array.toList e
 simpa using e2
def cutL {α:Type} (l:List α) (lo hi:Option Int) : List α:=(l.drop (HT.sIx l.length 0 lo)).take (HT.sIx l.length l.length hi - HT.sIx l.length 0 lo)
def repL {α:Type} (l:List α) (n:Nat) : List α:=(List.replicate n l).flatten
theorem repL_succ {α:Type} (l:List α) (n:Nat) : repL l (n+1)=l++repL l n:=by unfold repL; rw [List.replicate_succ,List.flatten_cons]
theorem repL_len {α:Type} (l:List α) : ∀ n:Nat,(repL l n).length=n * l.length
 | 0=>by simp [repL]
 | n+1=>by rw [repL_succ,List.length_append,repL_len l n,Nat.add_mul]; omega
theorem fold_rep (l:List Nat) : ∀ (n:Nat) (acc:List Nat),(List.replicate n l.toArray).foldl (·++·) acc.toArray=(acc++repL l n).toArray
 | 0,acc=>by simp [repL]
 | n+1,acc=>by
  rw [List.replicate_succ,List.foldl_cons,List.append_toArray,fold_rep l n,repL_succ,List.append_assoc]
theorem mul_tx (l:List Nat) (n:Nat) : Txt.mul (tx l) (n:Int)=tx (repL l n):=by
 unfold Txt.mul
 by_cases h1:(n:Int) < 1
 ·have e:n=0:=by omega
  subst e
  rw [if_pos h1]; rfl
 ·rw [if_neg h1]
  by_cases h2:((n:Int) == 1 || (tx l).length == 0)=true
  ·rw [if_pos h2]
   rcases Bool.or_eq_true _ _ ▸ h2 with h | h
   ·have e:n=1:=by have:=eq_of_beq h; omega
    subst e
    rw [repL_succ]; simp [repL]
   ·have e:l=[]:=by
     have:=eq_of_beq h
     rw [tx_len] at this
     exact List.eq_nil_of_length_eq_zero this
    subst e
    have:∀ k,repL ([] : List Nat) k=[]:=fun k=>by
     induction k with
     | zero=>rfl
     | succ k ih=>rw [repL_succ,ih]; rfl
    rw [this]
  ·rw [if_neg h2]
   have:=fold_rep l n []
   have e:((n:Int)).toNat=n:=by omega
   rw [e]
   show (⟨(List.replicate n l.toArray).foldl (·++·) #[]⟩ : Str)=_
   rw [show (#[] : Array Nat)=([] : List Nat).toArray from rfl,this,List.nil_append]
theorem mulOk_small {l:List Nat} {n:Nat} (h1:n≤100000) (h2:l.length≤100) : MulOk (tx l) (n:Int):=by
 have hb:l.length * n≤10000000:=by
  have:=Nat.mul_le_mul h2 h1
  omega
 refine ⟨?_,fun _ _=>?_,fun _ _=>?_⟩
 ·rw [decide_eq_false (by omega),decide_eq_false (by omega)]; rfl
 ·rw [tx_len]
  have:(100:Int)≤(2 ^ 63 - 1) / (n:Int):=by
   by_cases e:n=0
   ·omega
   ·exact (Int.le_ediv_iff_mul_le (by omega)).mpr (by omega)
  omega
 ·rw [tx_len]
  unfold tooLong
  have e:((n:Int)).toNat=n:=by omega
  rw [e]
  exact decide_eq_false (by show ¬ (_ > 16777216); omega)

def joinL (sep:List Nat) : List (List Nat)→List Nat
 | []=>[]
 | [x]=>x
 | x :: y :: r=>x++sep++joinL sep (y :: r)
end Tl

namespace L2
open PySem PySem.Spec PyProof.Rows

def isiV (K:PySem.W.Frag) (T:String) (x:V) (H:Hp) (b:Bool) : Prop:=match x with
 | .non=>b=false
 | .bl _=>b=(T == "bool" || T == "int")
 | .int _=>b=(T == "int")
 | .str _=>b=(T == "str")
 | .ref p=>((∃ xs,SqL K H p xs)∧b=(T == "list"))∨((∃ xs,SqT K H p xs)∧b=(T == "tuple"))
 | _=>False
section
variable {X:Cx}
theorem call_isi:CallR X (.builtin "isinstance") (fun xs H Q=>∃ x T b,xs=[x,.ty T]∧(T = "bool"∨T = "int"∨T = "str"∨T = "tuple"∨T = "list")∧isiV X.K T x H b∧Q (.bl b) H):=by
 intro pins s σ H xs us Q I r h
 obtain ⟨x,T,b,rfl,hT,hv,q⟩:=h
 obtain ⟨u,w',rfl,r1,r2⟩:=vals2 r
 cases r2
 have no:b=false→EP X pins σ Q (.bool false) { s with toks:=s.toks+1 }:=fun e=>⟨.bl false,H,I.tok _,rfl,e ▸ q⟩
 have yes:b=true→EP X pins σ Q (.bool true) s:=fun e=>⟨.bl true,H,I,rfl,e ▸ q⟩
 cases x with
 | non =>
  cases r1
  have hv':b=false:=hv
  rcases hT with rfl | rfl | rfl | rfl | rfl
  ·exact IsiPair.NoneType_bool (no hv')
  ·exact IsiPair.NoneType_int (no hv')
  ·exact IsiPair.NoneType_str (no hv')
  ·exact IsiPair.NoneType_tuple (no hv')
  ·exact IsiPair.NoneType_list (no hv')
 | bl c =>
  cases r1
  rcases hT with rfl | rfl | rfl | rfl | rfl
  ·exact IsiPair.bool_bool (yes (hv.trans (by decide)))
  ·exact IsiPair.bool_int (yes (hv.trans (by decide)))
  ·exact IsiPair.bool_str (no (hv.trans (by decide)))
  ·exact IsiPair.bool_tuple (no (hv.trans (by decide)))
  ·exact IsiPair.bool_list (no (hv.trans (by decide)))
 | int c =>
  obtain ⟨t,rfl⟩:=r1
  rcases hT with rfl | rfl | rfl | rfl | rfl
  ·exact IsiPair.int_bool (no (hv.trans (by decide)))
  ·exact IsiPair.int_int (yes (hv.trans (by decide)))
  ·exact IsiPair.int_str (no (hv.trans (by decide)))
  ·exact IsiPair.int_tuple (no (hv.trans (by decide)))
  ·exact IsiPair.int_list (no (hv.trans (by decide)))
 | str c =>
  obtain ⟨t,rfl⟩:=r1
  rcases hT with rfl | rfl | rfl | rfl | rfl
  ·exact IsiPair.str_bool (no (hv.trans (by decide)))
  ·exact IsiPair.str_int (no (hv.trans (by decide)))
  ·exact IsiPair.str_str (yes (hv.trans (by decide)))
  ·exact IsiPair.str_tuple (no (hv.trans (by decide)))
  ·exact IsiPair.str_list (no (hv.trans (by decide)))
 | ref p =>
  cases r1
  rcases hv with ⟨⟨xs,hq⟩,hb⟩ | ⟨⟨xs,hq⟩,hb⟩
  ·obtain ⟨its,_,p',_⟩:=I.list hq
   obtain ⟨o,n,e,c,_⟩:=p'
   rcases hT with rfl | rfl | rfl | rfl | rfl
   ·exact IsiPair.list_bool e c (no (hb.trans (by decide)))
   ·exact IsiPair.list_int e c (no (hb.trans (by decide)))
   ·exact IsiPair.list_str e c (no (hb.trans (by decide)))
   ·exact IsiPair.list_tuple e c (no (hb.trans (by decide)))
   ·exact IsiPair.list_list e c (yes (hb.trans (by decide)))
  ·obtain ⟨its,_,p',_⟩:=I.tuple hq
   obtain ⟨o,e,c,_⟩:=p'
   rcases hT with rfl | rfl | rfl | rfl | rfl
   ·exact IsiPair.tuple_bool e c (no (hb.trans (by decide)))
   ·exact IsiPair.tuple_int e c (no (hb.trans (by decide)))
   ·exact IsiPair.tuple_str e c (no (hb.trans (by decide)))
   ·exact IsiPair.tuple_tuple e c (yes (hb.trans (by decide)))
   ·exact IsiPair.tuple_list e c (no (hb.trans (by decide)))
 | byt c=>exact hv.elim
 | flt c=>exact hv.elim
 | ty c=>exact hv.elim
end

section
variable {X:Cx}
end
structure DefOk (K:PySem.W.Frag) (mg:Str→Option Value) (x:Str) (st:Stmt) (ps:List Str) (f:Addr) (fd:FuncData) : Prop where
 fn:Fun K x x st f fd
 bd:Binds K fd ps []
 mg:mg x=some (.ref f)
 ba:∀ us:List Value,us.length=ps.length→bindArgs fd ⟨us,[]⟩=pure (ps.zip us)
section
variable {X:Cx} {x:Str} {st:Stmt} {ps:List Str} {f:Addr} {fd:FuncData} {k:Nat} {sp:Sp} {e:Expr} {es:List Expr} {t:TA} {p pos:Pos}
theorem pe_callD (D:DefOk X.K X.mg x st ps f fd) (G:FnOk X.prog X.w X.K X.mg X.base CX0 k f fd ps sp) (hr:Room k X.A) (hg:Gl X x) (ha:PA X (e :: es) t) (hd:(x == ("__debug__" : Str))=false:=by decide)
  (he:starEach (e :: es) X.env=(false,eval e X.env) :: starEach es X.env:=by rfl) (hpl:(backTo pos (starEach es X.env)).any (·.1)=false:=by rfl) : PE X (.Call (.Name x p) (e :: es) [] pos) (tCall sp [] E0 t):=pe_call G hr hg D.mg D.fn.kp D.bd .nil pass0 ha hd he hpl
theorem defok_mk {K:PySem.W.Frag} {h:Heap} {mg:Str→Option Value} (KX:K.In h) (G:h.Ns mainGlobals mg) {od an:Option Addr} {sl:Array (Option Value)} {oc kV dc pm cd ct:Value} (a:PySem.W.nsIn K mainGlobals x=some (some (.ref f)))
  (l:K.lookup f=some ⟨oc,od,.func (PySem.W.fnOf x x (defArgs st) (defBody st) (defScope st) .none kV dc pm an cd ct),sl⟩) (c:PySem.W.codeIn K cd x=true) (k:PySem.W.keepIn K (.ref f)=true)
  (b:∀ (kV doc pm:Value) (an:Option Addr) (cdv ct:Value) (us:List Value),us.length=ps.length→bindArgs (PySem.W.fnOf x x (defArgs st) (defBody st) (defScope st) .none kV doc pm an cdv ct) ⟨us,[]⟩=pure (ps.zip us)) :
  DefOk K mg x st ps f (PySem.W.fnOf x x (defArgs st) (defBody st) (defScope st) .none kV dc pm an cd ct):=
 ⟨fun_mk l c k,(fun_mk l c k).binds b,PySem.W.mg_of KX G a,fun us hl=>b _ _ _ _ _ _ us hl⟩
end

theorem cut_seq {t u:TS} {D:Ends} {σ:St} {H:Hp} (Mid:St→Hp→Prop) (h2:∀ σ' H',Mid σ' H'→u D σ' H') (h1:(∀ σ' H',Mid σ' H'→u D σ' H')→t { D with nx:=u D } σ H) : tSeq t u D σ H:=h1 h2

def eqVs:List V→List V→Bool
 | [],[]=>true
 | a :: r,b :: s=>eqV a b && eqVs r s
 | _,_=>false
theorem eqVs_len:∀ {xs ys:List V},xs.length≠ys.length→eqVs xs ys=false
 | [],[],h=>absurd rfl h
 | [],_ :: _,_=>rfl
 | _ :: _,[],_=>rfl
 | a :: r,b :: s,h=>by
  show (eqV a b && eqVs r s)=false
  rw [eqVs_len (xs:=r) (ys:=s) (fun e=>h (by rw [List.length_cons,List.length_cons,e])),Bool.and_false]
theorem eqVs_range:∀ {xs ys:List V},xs.length=ys.length→(List.range xs.length).all (fun j=>eqV ((xs[j]?).getD .non) ((ys[j]?).getD .non))=eqVs xs ys
 | [],[],_=>rfl
 | [],_ :: _,h=>by simp at h
 | _ :: _,[],h=>by simp at h
 | a :: r,b :: s,h=>by
  have ih:=eqVs_range (xs:=r) (ys:=s) (by simpa using h)
  rw [List.length_cons,List.range_succ_eq_map,List.all_cons,List.all_map]
  show (eqV a b && _)=(eqV a b && eqVs r s)
  rw [← ih]
  rfl
theorem eqV_refl:∀ {x:V},flatV x=true→eqV x x=true:=by
 intro x f
 cases x with
 | non=>rfl
 | bl b=>show (b == b)=true; simp
 | int i=>show (i == i)=true; simp
 | str s=>show (s == s)=true; simp
 | _=>exact absurd (show false=true from f) Bool.false_ne_true
section
variable {X:Cx}
theorem flat_get {xs:List V} (f:xs.all flatV=true) {j:Nat} {x:V} (h:xs[j]? = some x) : flatV x=true:=List.all_eq_true.mp f x (List.mem_of_getElem? h)
theorem items_eq {A:Around} {s:Shared} {xs ys:List V} {its its2:List Value} (r:Vals xs its) (r2:Vals ys its2) (fx:xs.all flatV=true) (fy:ys.all flatV=true) (j:Nat) (h1:j < its.toArray.size) (h2:j < its2.toArray.size) :
  SeqAt.EqAt A s its.toArray[j] its2.toArray[j] (eqV ((xs[j]?).getD .non) ((ys[j]?).getD .non)):=by
 have l1:=r.length
 have l2:=r2.length
 have h1':j < its.length:=by simpa using h1
 have h2':j < its2.length:=by simpa using h2
 have e1:xs[j]? = some xs[j]:=List.getElem?_eq_getElem (by omega)
 have e2:ys[j]? = some ys[j]:=List.getElem?_eq_getElem (by omega)
 obtain ⟨u,hu,ru⟩:=r.get e1
 obtain ⟨v,hv,rv⟩:=r2.get e2
 have eu:its.toArray[j]=u:=by
  have:its[j]? = some its[j]:=List.getElem?_eq_getElem h1'
  rw [hu] at this
  simpa using this.symm
 have ev:its2.toArray[j]=v:=by
  have:its2[j]? = some its2[j]:=List.getElem?_eq_getElem h2'
  rw [hv] at this
  simpa using this.symm
 rw [eu,ev,e1,e2]
 exact eqAt_V ru rv (flat_get fx e1) (flat_get fy e2)
def rEqL (K:PySem.W.Frag) (neg:Bool) : R2:=fun x y H Q=>∃ a b xs ys,x = .ref a∧y = .ref b∧SqL K H a xs∧SqL K H b ys∧xs.all flatV=true∧ys.all flatV=true∧Q (.bl (if neg then !eqVs xs ys else eqVs xs ys)) H
theorem op_neL (hu:X.A.units < cLine) : OpR X (compareOp .NotEq) (rEqL X.K true):=by
 intro pins s σ H x y v u Q I rx ry h
 obtain ⟨a,b,xs,ys,rfl,rfl,ha,hb,fx,fy,q⟩:=h
 cases rx
 cases ry
 obtain ⟨its,r,p,z⟩:=I.list ha
 obtain ⟨its2,r2,p2,z2⟩:=I.list hb
 have l1:=r.length
 have l2:=r2.length
 by_cases hl:xs.length=ys.length
 ·refine SeqAt.RcNeAt.lists (e:=fun j=>eqV ((xs[j]?).getD .non) ((ys[j]?).getD .non)) p.isList p2.isList (by simp; omega) hu (fun j h1 h2=>items_eq r r2 fx fy j h1 h2) _ _ _ _ ⟨.bl _,H,I,rfl,?_⟩
  have e:its.toArray.size=xs.length:=by simp; omega
  rw [e,eqVs_range hl]
  exact q
 ·refine SeqAt.RcNeAt.lists_lengths p.isList p2.isList (by simp; omega) hu _ _ _ _ ⟨.bl true,H,I,rfl,?_⟩
  have q':Q (.bl (!eqVs xs ys)) H:=q
  rw [eqVs_len hl] at q'
  exact q'

theorem call_all (hc:X.calm=true) : CallR X (.builtin "all") (fun xs H Q=>∃ (l:Addr) (bs:List Bool),xs=[.ref l]∧SqL X.K H l (bs.map V.bl)∧Q (.bl (bs.all id)) H):=by
 intro pins s σ H xs us Q I r h
 obtain ⟨l,bs,rfl,hl,q⟩:=h
 obtain ⟨u,rfl,ru⟩:=vals1 r
 cases ru
 obtain ⟨its,rv,p,z⟩:=I.list hl
 have hlt:l < s.heap.objs.size:=by obtain ⟨_,_,e,_⟩:=p; exact Heap.lt_size e
 have len:=rv.length
 refine call_all_walk (wpAny_pyIter_list p.isList ?_)
 refine ⟨s.heap.objs.size,[s.heap.objs.size,l],[s.heap.objs.size],its.toArray.size,_,_,fun i=>(bs[i]?).getD true,rfl,Walks.list (A:=X.A.in1) (I.ok.hd hc) _ l (Nat.ne_of_lt hlt) its.toArray,
  ⟨⟨_,Heap.get?_push_size _ rfl,rfl,rfl⟩,p.isList.push _⟩,fun i v s' Q' E' hP hQ=>?_,fun h' tk hk=>?_⟩
 ·have hi:its[i]? = some v:=by simpa using hP
  have hlt2:i < bs.length:=by
   have:=(List.getElem?_eq_some_iff.mp hi).1
   rw [List.length_map] at len
   omega
  have eb:(bs.map V.bl)[i]? = some (V.bl bs[i]):=by rw [List.getElem?_map,List.getElem?_eq_getElem hlt2]; rfl
  obtain ⟨w',hw,rw'⟩:=rv.get eb
  rw [hi] at hw
  cases hw
  cases rw'
  have e2:(bs[i]?).getD true=bs[i]:=by rw [List.getElem?_eq_getElem hlt2]; rfl
  have hQ2:Q' ((bs[i]?).getD true) s':=hQ
  rw [e2] at hQ2
  exact wpAny_truthy_bool hQ2
 ·have e:((List.range its.toArray.size).all fun i=>(bs[i]?).getD true)=bs.all id:=by
   have:its.toArray.size=bs.length:=by rw [List.length_map] at len; simp; omega
   rw [this]
   exact LSm.range_all bs
  rw [e]
  exact ⟨.bl _,H,I.kept fun b x e=>hk b x (fun hm=>by rw [List.mem_singleton.mp hm] at e; exact Nat.lt_irrefl _ (Heap.lt_size e)) (Heap.get?_push_of_some _ e),rfl,q⟩

theorem op_in_dict (hu:X.A.units+1 < cLine) : OpR X (compareOp .In) (fun y x H Q=>∃ a o,x = .ref a∧DGet H a y o∧Q (.bl o.isSome) H):=by
 intro pins s σ H y x u v Q I ry rx h
 obtain ⟨a,o,rfl,g,q⟩:=h
 cases rx
 exact d_in hu I g ry fun s' I'=>⟨.bl _,H,I',rfl,q⟩
end

inductive DD where
 | bl (b:Bool)
 | int (i:Int)
 | str (s:Str)
 | tup (l:List DD)
 | lst (l:List DD)
mutual
def Rep (K:PySem.W.Frag) (H:Hp) : DD→V→Prop
 | .bl b,v=>v = .bl b
 | .int i,v=>v = .int i
 | .str s,v=>v = .str s
 | .tup l,v=>∃ a xs,v = .ref a∧SqT K H a xs∧l.length≤1000∧Reps K H l xs
 | .lst l,v=>∃ a xs,v = .ref a∧SqL K H a xs∧l.length≤1000∧Reps K H l xs
def Reps (K:PySem.W.Frag) (H:Hp) : List DD→List V→Prop
 | [],xs=>xs=[]
 | d :: l,xs=>∃ x r,xs=x :: r∧Rep K H d x∧Reps K H l r
end
theorem Reps.len {K:PySem.W.Frag} {H:Hp} : ∀ {l:List DD} {xs:List V},Reps K H l xs→xs.length=l.length
 | [],xs,h=>by
  unfold Reps at h
  rw [h]; rfl
 | d :: l,xs,h=>by
  unfold Reps at h
  obtain ⟨x,r,rfl,_,h⟩:=h
  rw [List.length_cons,List.length_cons,h.len]
theorem Reps.get {K:PySem.W.Frag} {H:Hp} : ∀ {l:List DD} {xs:List V} {i:Nat} {d:DD},Reps K H l xs→l[i]? = some d→∃ x,xs[i]? = some x∧Rep K H d x
 | [],_,_,_,_,e=>by simp at e
 | d :: l,xs,0,d',h,e=>by
  unfold Reps at h
  obtain ⟨x,r,rfl,hx,h⟩:=h
  have:d=d':=by simpa using e
  subst this
  exact ⟨x,rfl,hx⟩
 | d :: l,xs,i+1,d',h,e=>by
  unfold Reps at h
  obtain ⟨x,r,rfl,hx,h⟩:=h
  obtain ⟨y,ey,hy⟩:=h.get (i:=i) (by simpa using e)
  exact ⟨y,by simpa using ey,hy⟩
theorem Reps.strs {K:PySem.W.Frag} {H:Hp} : ∀ (l:List Str),Reps K H (l.map DD.str) (l.map V.str)
 | []=>by unfold Reps; rfl
 | s :: r=>by
  show Reps K H (DD.str s :: r.map DD.str) (V.str s :: r.map V.str)
  unfold Reps
  exact ⟨_,_,rfl,by unfold Rep; rfl,Reps.strs r⟩

section
variable {X:Cx} {o i:Expr} {pos:Pos} {td ty:TE}
end

section
variable {P:Program} {w:World} {K:PySem.W.Frag} {mg:Str→Option Value} {base:Heap} {N:List Str} {qual:Str} {scope:Scope} {f:Addr} {cd:Value} {A:Around} {outer:List Env} {s:Shared} {H:Hp} {E:XK}
end

section
variable {X:Cx} {E:XK} {c:Str} {C:Addr} {e:Expr} {es:List Expr} {t:TA} {np cpos pos:Pos}
end
theorem FnOk.calm {P:Program} {w:World} {K:PySem.W.Frag} {mg:Str→Option Value} {base:Heap} {k:Nat} {f:Addr} {fd:FuncData} {ps:List Str} {sp:Sp} (F:FnOk P w K mg base CX0 k f fd ps sp) (CX:CXT) : FnOk P w K mg base CX k f fd ps sp:=
 ⟨F.len,fun A outer s H args us vs Q E hr e0 hb r hs=>codeAny_mono (F.run A outer s H args us vs Q E hr e0 hb r hs) fun r s' h=>by
  cases r with
  | error e=>exact False.elim h
  | ok fl=>cases fl <;> exact h⟩
section
variable {X:Cx} {k:Nat} {f T:Addr} {fd:FuncData} {ps:List Str} {sp:Sp} {fx c:Str} {st:Stmt} {e:Expr} {es:List Expr} {t:TA} {b₀:Stmt} {suite:List Stmt} {th:TS} {np pf cpos apos hpos pos:Pos}
end
end L2

set_option maxHeartbeats 4000000
namespace L2
open PySem PySem.Spec PyProof.Rows Tl

section
variable {X:Cx}
end

theorem Inv.track {X:Cx} {pins:List (Addr × Obj)} {σ:St} {H:Hp} {s:Shared} {D:Addr} {o:HO} (I:Inv X pins σ H s) (hn:H D=none) (hnew:X.s₀.heap.objs.size≤D) (hL:D≠X.env.locals) (hc:∀ x c,X.env.cells.lookup x=some c→c≠D) (hp:∀ p ∈ X.pn++pins,p.1≠D)
  (ok:ObjOk X.prog X.w (upd H D o) s.heap D o) : Inv X pins σ (upd H D o) s:=by
 have ne:∀ b u,H b=some u→b≠D:=fun b u q=>ne_of_none q hn
 refine ⟨I.ok,I.os,I.bare,⟨I.base.keep,I.base.slot,fun b o q nn hx=>?_,I.base.there,fun b xs q=>?_,fun b o u q=>?_,fun b ps q=>?_⟩,I.loc,I.cell,?_,fun x c q=>?_,fun p hq=>?_,fun b u q=>?_,I.len⟩
 ·rw [upd_ne (Nat.ne_of_lt (Nat.lt_of_lt_of_le (Heap.lt_size q) hnew))]; exact I.base.free b o q nn hx
 ·have z:=I.base.tups b xs q
  rw [upd_ne (ne b _ z)]; exact z
 ·have z:=I.base.frzs b o u q
  rw [upd_ne (ne b _ z)]; exact z
 ·obtain ⟨more,z⟩:=I.base.tbls b ps q
  exact ⟨more,by rw [upd_ne (ne b _ z)]; exact z⟩
 ·rw [upd_ne (Ne.symm hL)]; exact I.free
 ·rw [upd_ne (hc x c q)]; exact I.freeC x c q
 ·obtain ⟨a1,a2,a3⟩:=I.pin p hq
  exact ⟨a1,by rw [upd_ne (hp p hq)]; exact a2,a3⟩
 ·by_cases hb:b=D
  ·subst hb
   rw [upd_same] at q; cases q
   exact ok
  ·rw [upd_ne hb] at q
   exact (I.hok b u q).stay (fun c v _ r=>r) (fun c r=>by rw [upd_ne (ne c _ r)]; exact r) fun c xs r=>by rw [upd_ne (ne c _ r)]; exact r
def Ite (K:PySem.W.Frag) (a:Addr) : It:=
 ⟨fun i H=>∃ xs x,SqL K H a xs∧xs[i]? = some x,fun i H x H'=>∃ p,H p=none∧x = .ref p∧∀ xs y,SqL K H a xs→xs[i]? = some y→H' = upd H p (.tup [.int (i:Int),y]),fun i H=>∃ xs,SqL K H a xs∧xs.length≤i⟩
theorem turn_enum {P:Program} {w:World} {K:PySem.W.Frag} {elts:List Expr} {k1} {tp:Pos} (a e it:Addr) (hei:e≠it) : Turn P w K (.Tuple elts k1 tp) (Ite K a) [e,it] e (fun i h=>(∃ old,IsEnum h e it (i:Nat) old)∧h.IsListIter it a i) where
 mem:=by simp
 obj:=fun i h st b hb=>by
  have hb':b=e∨b=it:=by simpa using hb
  rcases hb' with rfl | rfl
  ·obtain ⟨⟨old,h1⟩,_⟩:=st
   exact ⟨_,h1,fun v z=>by cases z⟩
  ·obtain ⟨_,o,h1,c,d⟩:=st
   exact ⟨o,h1,fun v z=>by rw [d] at z; cases z⟩
 keep:=fun i h h' st k=>⟨let ⟨old,h1⟩:=st.1; ⟨old,k e (by simp) _ h1⟩,st.2.at fun o h1=>k it (by simp) o h1⟩
 item:=by
  intro X hP hw hK hc i pins s σ H E I hf st hg
  subst hP hw hK
  obtain ⟨xs,x,hq,hx⟩:=hg
  obtain ⟨its,rv,p,hz⟩:=I.list hq
  obtain ⟨u,hu,ru⟩:=rv.get hx
  obtain ⟨f0,f1,f2,f3,f4,f5⟩:=hf e (by simp)
  obtain ⟨g0,g1,g2,g3,g4,g5⟩:=hf it (by simp)
  obtain ⟨⟨old,he⟩,hit⟩:=st
  refine wpAny_pyNext_enum_item he hit p.isList (x:=u) (by simpa using hu) hei fun h' heo hit' hT hz' hk=>?_
  have kk:∀ b o,b ∉ [e,it]→s.heap.get? b=some o→h'.get? b=some o:=fun b o hb q=>hk b o (fun z=>hb (by simp [z])) (fun z=>hb (by simp [z])) q
  have nit:∀ b v,H b=some v→b ∉ [e,it]:=fun b v q z=>by
   have z':b=e∨b=it:=by simpa using z
   rcases z' with rfl | rfl
   ·rw [f0] at q; cases q
   ·rw [g0] at q; cases q
  have I1:Inv X pins σ H { s with heap:=h',toks:=s.toks+1 }:=by
   refine I.step (g':=s.gens) (d':=s.drawn) (ch:=[e,it]) (fun b hb=>?_) (fun b o _ _ hb q _=>kk b o hb q) (fun b o _ _ hb q _=>⟨o.slots,kk b o hb q⟩) (fun _ _ _ _ n=>n)
    (fun b o hb q=>⟨o,kk b o hb q⟩) (fun _ _ q=>q) (fun _ _ _ q=>q) (fun b ps q=>⟨#[],by rw [q]; simp⟩) (fun m hm=>?_) (fun b v q=>?_) I.bare
   ·have z':b=e∨b=it:=by simpa using hb
    rcases z' with rfl | rfl
    ·exact ⟨f3,f1,f4,f5⟩
    ·exact ⟨g3,g1,g4,g5⟩
   ·obtain ⟨o,es,ep,ho,r⟩:=hm
    exact ⟨o,es,ep,kk _ o (fun z=>by
     have z':X.env.locals=e∨X.env.locals=it:=by simpa using z
     rcases z' with z' | z'
     ·exact f1 z'.symm
     ·exact g1 z'.symm) ho,r⟩
   ·refine (I.hok b v q).stay (fun c o hc r=>kk c o ?_ r) (fun _ r=>r) fun _ _ r=>r
    rcases hc with rfl | hc
    ·exact nit _ _ q
    ·exact nit _ _ hc
  have hsz:s.heap.objs.size < h'.objs.size:=by rw [hz']; exact Nat.lt_succ_self _
  have hTn:H s.heap.objs.size=none:=I.fresh
  have elt:e < s.heap.objs.size:=Heap.lt_size he
  have I2:Inv X pins σ (upd H s.heap.objs.size (.tup [.int (i:Int),x])) { s with heap:=h',toks:=s.toks+1 }:=by
   refine I1.track hTn I.sz (Nat.ne_of_gt I.lt) (fun y c q=>?_) (fun p hp=>?_) ⟨by show 2≤sizeLine; decide,[.int i s.toks,u],.cons ⟨_,rfl⟩ (.cons ru .nil),⟨_,hT,rfl,_,rfl⟩⟩
   ·obtain ⟨v,q2⟩:=I.cell y c q
    exact Nat.ne_of_lt q2.lt
   ·exact Nat.ne_of_lt (Heap.lt_size (I.pin p hp).1)
  refine ⟨_,rfl,wpAny_letOwnedTupleGo_enum (s:={ s with heap:=h',toks:=s.toks+1 }) heo fun h'' he'' hs''=>?_⟩
  have I3:Inv X pins σ (upd H s.heap.objs.size (.tup [.int (i:Int),x])) { s with heap:=h'',toks:=s.toks+1 }:=Inv.turned (s:={ s with heap:=h',toks:=s.toks+1 }) (h':=h'') (t':=s.toks+1) (it:=e) I2 (fun b o hb q=>(hs''.2 b hb).trans q) (by rw [upd_ne (Nat.ne_of_lt elt)]; exact f0) f1 f3 f4 f5
  refine ⟨.ref s.heap.objs.size,_,I3,rfl,⟨_,hTn,rfl,fun ys y hy hy2=>?_⟩,⟨⟨_,he''⟩,?_⟩,fun b hb=>?_⟩
  ·rw [I.list_inj hy hq,hx] at hy2
   cases hy2
   rfl
  ·exact hit'.at fun o h1=>(hs''.2 it (Ne.symm hei)).trans h1
  ·have z':b=e∨b=it:=by simpa using hb
   rcases z' with rfl | rfl
   ·rw [upd_ne (Nat.ne_of_lt elt)]; exact f0
   ·have ilt:b < s.heap.objs.size:=by
     obtain ⟨o,h1,_⟩:=hit
     exact Heap.lt_size h1
    rw [upd_ne (Nat.ne_of_lt ilt)]; exact g0
 done:=by
  intro X hP hw hK hc i pins s σ H E I hf st hg
  subst hP hw hK
  obtain ⟨xs,hq,hx⟩:=hg
  obtain ⟨its,rv,p,hz⟩:=I.list hq
  obtain ⟨g0,g1,g2,g3,g4,g5⟩:=hf it (by simp)
  obtain ⟨⟨old,he⟩,hit⟩:=st
  have hl:=rv.length
  exact wpAny_pyNext_enum_end (I.ok.hd hc) he hit p.isList (by simp; omega) fun h' eb=>⟨rfl,I.turned (t':=s.toks) (fun b o hb e=>eb b o hb e) g0 g1 g3 g4 g5⟩
 self:=fun _ _ _ _ _ st h=>by
  obtain ⟨⟨old,he⟩,_⟩:=st
  exact wpAny_pyIter_enum he h
section
variable {X:Cx} {elts:List Expr} {k1:Nat} {tp:Pos}
def iEnum (K:PySem.W.Frag) (tl:TE) : TI:=fun σ H R=>tl σ H fun x H1=>∃ a,x = .ref a∧(∃ xs,SqL K H1 a xs)∧R (Ite K a) H1
theorem pi_enum {l:Expr} {k1} {tl:TE} {p pos:Pos} (hg:Gl X "enumerate") (hm:X.mg "enumerate" = none) (hl:PE X l tl) (hs:starEach [l] X.env=[(false,eval l X.env)]:=by rfl) : PI X (.Tuple elts k1 tp) (.Call (.Name "enumerate" p) [l] [] pos) (iEnum X.K tl):=by
 intro pins s σ H R I h
 have ha:PA X [l] (tCons tl tNil):=pa_cons hl pa_nil hs
 refine Call_ (ld_blt I hg hm (by decide +kernel:bootBuiltins "enumerate" = some (.type "enumerate")) (PyProof.Rows.callWith_type1 (thn (ha pos pins s σ H (fun vs H1=>match vs with | [x]=>∃ a,x = .ref a∧(∃ xs,SqL X.K H1 a xs)∧R (Ite X.K a) H1 | _=>False) I h) fun us s1 ⟨vs,H1,I1,r1,q1⟩=>?_) hs rfl))
 match vs,r1,q1 with
 | [x],r1,q1 =>
 obtain ⟨a,rfl,⟨xs,hq⟩,q⟩:=q1
 obtain ⟨u,rfl,ru⟩:=vals1 r1
 cases ru
 obtain ⟨its,rv,p,hz⟩:=I1.list hq
 refine call_enumerate_list p.isList fun h' he hit hz' hk=>?_
 refine wpAny_pyIter_enum he ?_
 refine ⟨s1.heap.objs.size+1,[s1.heap.objs.size+1,s1.heap.objs.size],_,_,H1,rfl,I1.kept (t':=s1.toks) hk,turn_enum a _ _ (Nat.succ_ne_self _),⟨⟨_,he⟩,hit⟩,fun b hb=>?_,q⟩
 have z':b=s1.heap.objs.size+1∨b=s1.heap.objs.size:=by simpa using hb
 have I2:=I1.kept (h':=h') (t':=s1.toks) hk
 rcases z' with rfl | rfl
 ·exact I1.fpOk (Nat.le_succ _) (I1.hok.fresh (Nat.le_succ _))
 ·exact I1.fpOk (Nat.le_refl _) (I1.hok.fresh (Nat.le_refl _))
end
theorem for_enum {K:PySem.W.Frag} {a:Addr} {xs:List V} {g:TG} {tb:TS} {D:Ends} {σ:St} {H:Hp} (Pv:Nat→St→Hp→Prop) (h0:Pv 0 σ H) (hl:∀ i σ H,i≤xs.length→Pv i σ H→SqL K H a xs)
  (hs:∀ i x σ H p,xs[i]? = some x→Pv i σ H→H p=none→g (.ref p) σ (upd H p (.tup [.int (i:Int),x])) fun σ2 H2=>tb { D with nx:=Pv (i+1),ct:=Pv (i+1),bk:=D.nx } σ2 H2) (hd:∀ σ H,Pv xs.length σ H→D.nx σ H) :
  ∃ W:Nat→Nat→St→Hp→Prop,(∃ m,W 0 m σ H)∧∀ i m σ H,W i m σ H →
   ((Ite K a).stop i H∧D.nx σ H)∨((Ite K a).go i H∧∃ N:St→Hp→Prop,(∀ σ' H',N σ' H'→∃ m',m' < m∧W (i+1) m' σ' H')∧∀ x H',(Ite K a).yld i H x H'→g x σ H' fun σ2 H2=>tb { D with nx:=N,ct:=N,bk:=D.nx } σ2 H2):=by
 refine ⟨fun i m σ H=>m=xs.length - i∧i≤xs.length∧Pv i σ H,⟨xs.length,by simp,Nat.zero_le _,h0⟩,?_⟩
 rintro i m σ H ⟨rfl,hi,p⟩
 have q:=hl i σ H hi p
 by_cases hlt:i < xs.length
 ·refine .inr ⟨⟨xs,xs[i],q,by simp [hlt]⟩,Pv (i+1),fun σ' H' p'=>⟨xs.length - (i+1),by omega,rfl,hlt,p'⟩,fun x H' y=>?_⟩
  obtain ⟨t,ht,e,y⟩:=y
  subst e
  have e2:=y xs xs[i] q (by simp [hlt])
  subst e2
  exact hs i xs[i] σ H t (by simp [hlt]) p ht
 ·have e:i=xs.length:=by omega
  subst e
  exact .inl ⟨⟨xs,q,Nat.le_refl _⟩,hd σ H p⟩

section
variable {X:Cx} {tg:Expr}
end
end L2

namespace L2
open PySem PySem.Spec PyProof.Rows

section
variable {X:Cx}
theorem all_true {n:Nat} : (List.range n).all (fun _=>true)=true:=List.all_eq_true.mpr fun _ _=>rfl
theorem same_new {H:Hp} {p:Addr} (h:H p=none) (o:HO) : Same H (upd H p o):=fun b u q=>by rw [upd_ne (ne_of_none q h)]; exact q
theorem Same.tup {K:PySem.W.Frag} {H H':Hp} {a:Addr} {xs:List V} (e:Same H H') (h:SqT K H a xs) : SqT K H' a xs:=by
 rcases h with (h | ⟨o,h⟩) | h
 ·exact .inl (.inl (e _ _ h))
 ·exact .inl (.inr ⟨o,e _ _ h⟩)
 ·exact .inr h
theorem SqT.lst {K:PySem.W.Frag} {H:Hp} {a l:Addr} {xs ys zs:List V} (e:H l=some (.lst ys)) (h:SqT K H a xs) : SqT K (upd H l (.lst zs)) a xs:=by
 rcases h with (h | ⟨o,h⟩) | h
 ·exact .inl (.inl (by rw [upd_ne (ne_of h e (fun z=>nomatch z))]; exact h))
 ·exact .inl (.inr ⟨o,by rw [upd_ne (ne_of h e (fun z=>nomatch z))]; exact h⟩)
 ·exact .inr h
def SameX (l:Addr) (H H':Hp) : Prop:=∀ b o,b≠l→H b=some o→H' b=some o
theorem SameX.refl (l:Addr) (H:Hp) : SameX l H H:=fun _ _ _ h=>h
theorem SameX.trans {l:Addr} {H H1 H2:Hp} (a:SameX l H H1) (b:SameX l H1 H2) : SameX l H H2:=fun c o n h=>b c o n (a c o n h)
theorem SameX.put {l:Addr} {H H1:Hp} {o:HO} (a:SameX l H H1) : SameX l H (upd H1 l o):=fun c u n h=>by rw [upd_ne n]; exact a c u n h
theorem Same.x {l:Addr} {H H':Hp} (e:Same H H') : SameX l H H':=fun b o _ h=>e b o h
theorem SameX.seq {K:PySem.W.Frag} {H H':Hp} {a l:Addr} {xs:List V} (e:SameX l H H') (n:a≠l) (h:SqL K H a xs) : SqL K H' a xs:=by
 rcases h with (h | ⟨o,h⟩) | h
 ·exact .inl (.inl (e _ _ n h))
 ·exact .inl (.inr ⟨o,e _ _ n h⟩)
 ·exact .inr h
theorem SameX.tup {K:PySem.W.Frag} {H H':Hp} {a l:Addr} {xs:List V} (e:SameX l H H') (n:a≠l) (h:SqT K H a xs) : SqT K H' a xs:=by
 rcases h with (h | ⟨o,h⟩) | h
 ·exact .inl (.inl (e _ _ n h))
 ·exact .inl (.inr ⟨o,e _ _ n h⟩)
 ·exact .inr h
def sp_law (K:PySem.W.Frag) : Sp:=fun vs H Q _=>∃ (a:Addr) (ns:List Int),vs=[.ref a]∧SqL K H a (ns.map V.int)∧ns.length≤63∧∀ H',Q (.bl true) H'
theorem small {n:Nat} (h:n≤1000) : n≤sizeLine:=Nat.le_of_lt (small1000 h)
theorem le1:1≤sizeLine:=by decide
theorem le2:2≤sizeLine:=by decide
theorem orG {a:Prop} {_inst:Decidable a} {X A B:Prop} (ha:a→A) (hx:¬ a→X) : if a then (if true=true then A else B) else X:=by
 by_cases h:a
 ·rw [if_pos h]; exact ha h
 ·rw [if_neg h]; exact hx h
theorem get_int {ns:List Int} {i:Nat} {y:V} (h:(ns.map V.int)[i]? = some y) : ∃ z,y=V.int z∧ns[i]? = some z:=by
 rw [List.getElem?_map] at h
 cases e:ns[i]? with
 | none=>rw [e] at h; cases h
 | some z=>rw [e] at h; exact ⟨z,(Option.some.inj h).symm,rfl⟩
end
end L2

namespace HT
open PySem PyProof.Rows
section
open PySem.SeqAt
open PySem.AutoSeq1 (wpAny_loadPart')
open PySem.MeetsSeq PySem.MeetsSeq2 PySem.MeetsSeq3

end
end HT

namespace L2
open PySem PySem.Spec PyProof.Rows
section
variable {X:Cx}

end
end L2

set_option maxHeartbeats 4000000
namespace L2
open PySem PySem.Spec PyProof.Rows Tl
def figs (n:Nat) : List Nat:=(Nat.toDigits 10 n).map Char.toNat
theorem digit_char:∀ d:Nat,d < 10→(Nat.digitChar d).toNat=d+48:=by decide
theorem figs_small {n:Nat} (h:n < 10) : figs n=[n+48]:=by
 unfold figs
 rw [Nat.toDigits_of_lt_base h,List.map_singleton,digit_char n h]
theorem figs_step {n:Nat} (h:10≤n) : figs n=figs (n / 10)++[n % 10+48]:=by
 have hm:n % 10 < 10:=Nat.mod_lt n (by decide)
 have t:Nat.toDigits 10 (n / 10)++Nat.toDigits 10 (n % 10)=Nat.toDigits 10 (10 * (n / 10)+n % 10):=Nat.toDigits_append_toDigits (by decide) (by omega) hm
 rw [Nat.div_add_mod] at t
 unfold figs
 rw [← t,List.map_append,Nat.toDigits_of_lt_base hm,List.map_singleton,digit_char _ hm]
theorem figs_pos (n:Nat) : 1≤(figs n).length:=by
 by_cases h:n < 10
 ·rw [figs_small h]; simp
 ·rw [figs_step (by omega),List.length_append,List.length_singleton]
  omega
theorem figs_mono:∀ (m n:Nat),n≤m→(figs n).length≤(figs m).length:=by
 intro m
 induction m using Nat.strongRecOn with
 | _ m ih =>
  intro n h
  by_cases hn:n < 10
  ·rw [figs_small hn]
   exact figs_pos m
  ·rw [figs_step (n:=n) (by omega),figs_step (n:=m) (by omega),List.length_append,List.length_append,List.length_singleton,List.length_singleton]
   have:=ih (m / 10) (by omega) (n / 10) (by omega)
   omega
def valF (l:List Nat) : Nat:=l.foldl (fun acc c=>acc * 10+(c - 48)) 0
theorem valF_snoc (l:List Nat) (c:Nat) : valF (l++[c])=valF l * 10+(c - 48):=by unfold valF; rw [List.foldl_append]; rfl
theorem snoc_of {l:List Nat} (h:l≠[]) : ∃ r c,l=r++[c]:=⟨l.dropLast,l.getLast h,(List.dropLast_concat_getLast h).symm⟩
theorem val_lt:∀ (n:Nat) (l:List Nat),l.length=n→(∀ c ∈ l,48≤c∧c≤57)→valF l < 10 ^ n:=by
 intro n
 induction n with
 | zero =>
  intro l hl _
  rw [List.eq_nil_of_length_eq_zero hl]
  decide
 | succ n ih =>
  intro l hl f
  obtain ⟨r,c,rfl⟩:=snoc_of (l:=l) (fun e=>by rw [e] at hl; cases hl)
  have hl':r.length=n:=by rw [List.length_append,List.length_singleton] at hl; omega
  have:=ih r hl' fun d hd=>f d (List.mem_append_left _ hd)
  have hc:=f c (by simp)
  rw [valF_snoc,Nat.pow_succ]
  omega
theorem read_digits {l:List Nat} (f:∀ c ∈ l,48≤c∧c≤57) (ne:l≠[]) (h:l.length≤100) : PySem.intText? (tx l)=some ((valF l:Nat) : Int):=by
 have e:(tx l).cps.toList=l:=by simp
 have:=PySem.intText_digits (x:=tx l) (by rw [e]; exact f) (by rw [e]; exact ne) (by rw [tx_len]; omega)
 rw [e] at this
 exact this
theorem rep_mem {α:Type} (x c:α) : ∀ n:Nat,c ∈ repL [x] n→c=x
 | 0,h=>by simp [repL] at h
 | n+1,h=>by
  rw [repL_succ] at h
  rcases List.mem_append.mp h with h | h
  ·simpa using h
  ·exact rep_mem x c n h
abbrev pl (x:Int × Int) : List V:=[.int x.1,.int x.2]
abbrev fm (w h f m:Int) : List V:=[.int w,.int h,.int f,.int m]
structure FormOk (w h f m:Int) : Prop where
 w1:1≤w
 w2:w≤4000
 h1:1≤h
 h2:h≤60
 f1:0≤f
 f2:f≤10 ^ 60
 m1:1≤m
 m2:m≤60
def nextTop (x:Int × Int) : Int × Int:=(x.1+1,0)
def rowsOn (h:Int) (x:Int × Int) (k:Int) : Int × Int:=if h≤x.2+k then nextTop x else (x.1,x.2+k)
def firstFrom (f:Int) (x:Int × Int) (l:Int) : Int × Int:=if l=4∧(f+x.1) % 2=0 then nextTop x else x
def behindI (h f:Int) (x:Int × Int) (l:Int) : Int × Int:=if l=0 then x else if l=1 then rowsOn h x 1 else if l=2 then rowsOn h x 2 else firstFrom f (nextTop x) l
def sooner (x y:Int × Int) : Bool:=decide (x.1 < y.1) || (decide (x.1=y.1) && decide (x.2 < y.2))
theorem sooner_iff {x y:Int × Int} : sooner x y=true↔x.1 < y.1∨(x.1=y.1∧x.2 < y.2):=by simp [sooner]
theorem not_sooner {x y:Int × Int} : sooner x y=false↔¬ (x.1 < y.1∨(x.1=y.1∧x.2 < y.2)):=by rw [← sooner_iff]; simp
structure RowIn (h:Int) (x:Int × Int) : Prop where
 p1:0≤x.1
 r1:0≤x.2
 r2:x.2 < h
theorem behind_desc (h f l p r:Int) (h0:0≤l) (h1:l≤4) : ∃ q s,behindI h f (p,r) l=(q,s)∧(l=0∧q=p∧s=r∨l=1∧(h≤r+1∧q=p+1∧s=0∨r+1 < h∧q=p∧s=r+1) ∨
  l=2∧(h≤r+2∧q=p+1∧s=0∨r+2 < h∧q=p∧s=r+2)∨l=3∧q=p+1∧s=0∨l=4∧s=0∧((f+p) % 2=1∧q=p+2∨(f+p) % 2=0∧q=p+1)):=by
 have hc:l=0∨l=1∨l=2∨l=3∨l=4:=by omega
 rcases hc with rfl | rfl | rfl | rfl | rfl
 ·exact ⟨p,r,rfl,.inl ⟨rfl,rfl,rfl⟩⟩
 ·by_cases c:h≤r+1
  ·exact ⟨p+1,0,by show (if h≤r+1 then (p+1,(0:Int)) else (p,r+1))=_; rw [if_pos c],.inr (.inl ⟨rfl,.inl ⟨c,rfl,rfl⟩⟩)⟩
  ·exact ⟨p,r+1,by show (if h≤r+1 then (p+1,(0:Int)) else (p,r+1))=_; rw [if_neg c],.inr (.inl ⟨rfl,.inr ⟨Int.not_le.mp c,rfl,rfl⟩⟩)⟩
 ·by_cases c:h≤r+2
  ·exact ⟨p+1,0,by show (if h≤r+2 then (p+1,(0:Int)) else (p,r+2))=_; rw [if_pos c],.inr (.inr (.inl ⟨rfl,.inl ⟨c,rfl,rfl⟩⟩))⟩
  ·exact ⟨p,r+2,by show (if h≤r+2 then (p+1,(0:Int)) else (p,r+2))=_; rw [if_neg c],.inr (.inr (.inl ⟨rfl,.inr ⟨Int.not_le.mp c,rfl,rfl⟩⟩))⟩
 ·exact ⟨p+1,0,by show (if (3:Int)=4∧(f+(p+1)) % 2=0 then (p+1+1,(0:Int)) else (p+1,0))=_; rw [if_neg (fun z=>absurd z.1 (by decide))],.inr (.inr (.inr (.inl ⟨rfl,rfl,rfl⟩)))⟩
 ·by_cases c:(f+(p+1)) % 2=0
  ·exact ⟨p+1+1,0,by show (if (4:Int)=4∧(f+(p+1)) % 2=0 then (p+1+1,(0:Int)) else (p+1,0))=_; rw [if_pos ⟨rfl,c⟩],.inr (.inr (.inr (.inr ⟨rfl,rfl,.inl ⟨by omega,by omega⟩⟩)))⟩
  ·exact ⟨p+1,0,by show (if (4:Int)=4∧(f+(p+1)) % 2=0 then (p+1+1,(0:Int)) else (p+1,0))=_; rw [if_neg (fun z=>c z.2)],.inr (.inr (.inr (.inr ⟨rfl,rfl,.inr ⟨by omega,rfl⟩⟩)))⟩
theorem first_desc (f l p r:Int) : ∃ q s,firstFrom f (p,r) l=(q,s)∧(l=4∧(f+p) % 2=0∧q=p+1∧s=0∨(l≠4∨(f+p) % 2=1)∧q=p∧s=r):=by
 unfold firstFrom nextTop
 dsimp only
 split
 all_goals exact ⟨_,_,rfl,by omega⟩
theorem behind_in {h f l:Int} {x:Int × Int} (i:RowIn h x) (h0:0≤l) (h1:l≤4) : RowIn h (behindI h f x l):=by
 obtain ⟨p,r⟩:=x
 obtain ⟨a,b,c⟩:=i
 simp only at a b c
 obtain ⟨q,s,e,d⟩:=behind_desc h f l p r h0 h1
 rw [e]
 constructor <;> simp only <;> omega
theorem behind_self {h f l:Int} {x:Int × Int} (i:RowIn h x) (h0:0≤l) (h1:l≤4) : sooner (behindI h f x l) x=false:=by
 obtain ⟨p,r⟩:=x
 obtain ⟨a,b,c⟩:=i
 simp only at a b c
 obtain ⟨q,s,e,d⟩:=behind_desc h f l p r h0 h1
 rw [e,not_sooner]
 simp only
 omega
theorem behind_grows {h f l k:Int} {x y:Int × Int} (i:RowIn h x) (j:RowIn h y) (le:sooner y x=false) (h0:0≤l) (h1:l≤k) (h2:k≤4) : sooner (behindI h f y k) (behindI h f x l)=false:=by
 obtain ⟨p,r⟩:=x
 obtain ⟨p',r'⟩:=y
 obtain ⟨a,b,c⟩:=i
 obtain ⟨a',b',c'⟩:=j
 rw [not_sooner] at le ⊢
 simp only at a b c a' b' c' le
 obtain ⟨q,s,e,d⟩:=behind_desc h f l p r h0 (by omega)
 obtain ⟨q',s',e',d'⟩:=behind_desc h f k p' r' (by omega) h2
 rw [e,e']
 simp only
 rcases d with d | d | d | d | d <;> rcases d' with d' | d' | d' | d' | d' <;> omega
theorem first_grows {h f l k:Int} {x y:Int × Int} (i:RowIn h x) (j:RowIn h y) (le:sooner y x=false) (h1:l≤k) (h2:k≤4) : sooner (firstFrom f y k) (firstFrom f x l)=false:=by
 obtain ⟨p,r⟩:=x
 obtain ⟨p',r'⟩:=y
 obtain ⟨a,b,c⟩:=i
 obtain ⟨a',b',c'⟩:=j
 rw [not_sooner] at le ⊢
 simp only at a b c a' b' c' le
 obtain ⟨q,s,e,d⟩:=first_desc f l p r
 obtain ⟨q',s',e',d'⟩:=first_desc f k p' r'
 rw [e,e']
 simp only
 rcases d with d | d <;> rcases d' with d' | d' <;> omega
theorem sooner_refl (x:Int × Int) : sooner x x=false:=by rw [not_sooner]; omega
inductive Say where
 | text (l:List Nat)
 | page (k:Nat)
 | row (k:Nat)
def sayV:Say→List V
 | .text l=>[.str (PySem.Str.ofString "text"),.str (tx l)]
 | .page k=>[.str (PySem.Str.ofString "page"),.int (k:Int)]
 | .row k=>[.str (PySem.Str.ofString "row"),.int (k:Int)]
def saidL (h f:Int) (xs:List (Int × Int)) : Say→List Nat
 | .text l=>l
 | .page k=>figs (f+(xs.getD k (0,0)).1).toNat
 | .row k=>figs ((xs.getD k (0,0)).1 * h+(xs.getD k (0,0)).2+1).toNat
def SayOk (n:Nat) : Say→Prop
 | .text l=>1≤l.length∧l.length≤60∧∀ c ∈ l,33≤c∧c < 127
 | .page k=>k < n
 | .row k=>k < n
def PlsOk (h:Int) (xs:List (Int × Int)) : Prop:=∀ x ∈ xs,RowIn h x∧x.1 < 10 ^ 60
def PlsA (K:PySem.W.Frag) (H:Hp) (as:List Addr) (xs:List (Int × Int)) : Prop:=as.length=xs.length∧∀ (i:Nat) a x,as[i]? = some a→xs[i]? = some x→SqT K H a (pl x)
theorem PlsA.same {K:PySem.W.Frag} {H H':Hp} {as:List Addr} {xs:List (Int × Int)} (s:Same H H') (h:PlsA K H as xs) : PlsA K H' as xs:=⟨h.1,fun i a x e e'=>s.tup (h.2 i a x e e')⟩
theorem PlsA.lst {K:PySem.W.Frag} {H:Hp} {l:Addr} {ys zs:List V} {as:List Addr} {xs:List (Int × Int)} (e:H l=some (.lst ys)) (h:PlsA K H as xs) : PlsA K (upd H l (.lst zs)) as xs:=⟨h.1,fun i a x e1 e'=>SqT.lst e (h.2 i a x e1 e')⟩
theorem PlsA.nil {K:PySem.W.Frag} {H:Hp} : PlsA K H [] []:=⟨rfl,fun i a x e _=>by simp at e⟩
theorem PlsA.snoc {K:PySem.W.Frag} {H:Hp} {as:List Addr} {xs:List (Int × Int)} {a:Addr} {x:Int × Int} (h:PlsA K H as xs) (hx:SqT K H a (pl x)) : PlsA K H (as++[a]) (xs++[x]):=by
 refine ⟨by simp [h.1],fun i b y e e'=>?_⟩
 by_cases hi:i < as.length
 ·rw [List.getElem?_append_left hi] at e
  rw [List.getElem?_append_left (by rw [← h.1]; exact hi)] at e'
  exact h.2 i b y e e'
 ·rw [List.getElem?_append_right (by omega)] at e
  rw [List.getElem?_append_right (by rw [← h.1]; omega)] at e'
  have:i - as.length=0:=by
   rcases Nat.eq_zero_or_pos (i - as.length) with z | z
   ·exact z
   ·rw [List.getElem?_eq_none (by simp; omega)] at e; cases e
  rw [this] at e
  rw [← h.1,this] at e'
  cases e
  cases e'
  exact hx
theorem PlsA.get {K:PySem.W.Frag} {H:Hp} {as:List Addr} {xs:List (Int × Int)} (h:PlsA K H as xs) {k:Nat} (hk:k < xs.length) : ∃ a,atI (as.map V.ref) (k:Int)=some (V.ref a)∧SqT K H a (pl (xs.getD k (0,0))):=by
 have hk2:k < as.length:=by rw [h.1]; exact hk
 refine ⟨as[k],atI_nat (by rw [List.getElem?_map,List.getElem?_eq_getElem hk2]; rfl),?_⟩
 rw [List.getD_eq_getElem?_getD,List.getElem?_eq_getElem hk]
 exact h.2 k _ _ (List.getElem?_eq_getElem hk2) (List.getElem?_eq_getElem hk)
theorem PlsOk.get {h:Int} {xs:List (Int × Int)} (o:PlsOk h xs) {k:Nat} (hk:k < xs.length) : RowIn h (xs.getD k (0,0))∧(xs.getD k (0,0)).1 < 10 ^ 60:=by
 rw [List.getD_eq_getElem?_getD,List.getElem?_eq_getElem hk]
 exact o _ (List.getElem_mem hk)
theorem PlsOk.snoc {h:Int} {xs:List (Int × Int)} {x:Int × Int} (o:PlsOk h xs) (i:RowIn h x) (b:x.1 < 10 ^ 60) : PlsOk h (xs++[x]):=by
 intro y hy
 rcases List.mem_append.mp hy with hy | hy
 ·exact o y hy
 ·rw [List.mem_singleton.mp hy]
  exact ⟨i,b⟩
theorem refs_snoc (as:List Addr) (a:Addr) : as.map V.ref++[V.ref a]=(as++[a]).map V.ref:=by simp
def PlsLe (xs ys:List (Int × Int)) : Prop:=xs.length=ys.length∧∀ k,k < xs.length→sooner (ys.getD k (0,0)) (xs.getD k (0,0))=false
theorem getD_app {α:Type} (xs ys:List α) (d:α) (k:Nat) : (xs++ys).getD k d=if k < xs.length then xs.getD k d else ys.getD (k - xs.length) d:=by
 rw [List.getD_eq_getElem?_getD]
 by_cases e:k < xs.length
 ·rw [if_pos e,List.getElem?_append_left e,List.getD_eq_getElem?_getD]
 ·rw [if_neg e,List.getElem?_append_right (by omega),List.getD_eq_getElem?_getD]
theorem PlsLe.snoc {xs ys:List (Int × Int)} {x y:Int × Int} (h:PlsLe xs ys) (l:sooner y x=false) : PlsLe (xs++[x]) (ys++[y]):=by
 refine ⟨by simp [h.1],fun k hk=>?_⟩
 rw [getD_app,getD_app]
 by_cases e:k < xs.length
 ·rw [if_pos e,if_pos (by rw [← h.1]; exact e)]
  exact h.2 k e
 ·have hk2:k=xs.length:=by simp at hk; omega
  rw [if_neg e,if_neg (by rw [← h.1]; exact e),← h.1,hk2,Nat.sub_self]
  exact l
theorem row_le {h:Int} {x y:Int × Int} (i:RowIn h x) (j:RowIn h y) (le:sooner y x=false) : x.1 * h+x.2≤y.1 * h+y.2:=by
 rw [not_sooner] at le
 obtain ⟨p,r⟩:=x
 obtain ⟨p',r'⟩:=y
 obtain ⟨a,b,c⟩:=i
 obtain ⟨a',b',c'⟩:=j
 simp only at *
 by_cases e:p=p'
 ·subst e
  omega
 ·have h1:(p+1) * h≤p' * h:=Int.mul_le_mul_of_nonneg_right (by omega) (by omega)
  rw [Int.add_mul] at h1
  omega
theorem said_grows {w h f m:Int} {xs ys:List (Int × Int)} {s:Say} (fo:FormOk w h f m) (po:PlsOk h xs) (qo:PlsOk h ys) (le:PlsLe xs ys) (so:SayOk xs.length s) : (saidL h f xs s).length≤(saidL h f ys s).length:=by
 cases s with
 | text l=>exact Nat.le_refl _
 | page k =>
  have lk:=le.2 k so
  rw [not_sooner] at lk
  exact figs_mono _ _ (Int.toNat_le_toNat (by omega))
 | row k =>
  have:=row_le (po.get so).1 (qo.get (le.1 ▸ so)).1 (le.2 k so)
  exact figs_mono _ _ (Int.toNat_le_toNat (by omega))
def Dq (K:PySem.W.Frag) (H:Hp) : Nat→V→V→Prop
 | 0,x,y=>(flatV x=true∧flatV y=true∧eqV x y=true)∨∃ a,x = .ref a∧y = .ref a
 | n+1,x,y=>((flatV x=true∧flatV y=true∧eqV x y=true)∨∃ a,x = .ref a∧y = .ref a) ∨
   ∃ a b xs ys,x = .ref a∧y = .ref b∧((SqL K H a xs∧SqL K H b ys)∨(SqT K H a xs∧SqT K H b ys))∧xs.length=ys.length∧∀ (i:Nat) x y,xs[i]? = some x→ys[i]? = some y→Dq K H n x y
theorem items_deep {X:Cx} {pins:List (Addr × Obj)} {σ:St} {H:Hp} {s:Shared} {xs ys:List V} {its its2:List Value} {n:Nat} {A:Around} (r:Vals xs its) (r2:Vals ys its2)
  (d:∀ (i:Nat) x y,xs[i]? = some x→ys[i]? = some y→∀ u v,RelV x u→RelV y v→SeqAt.EqAt A s u v true) (j:Nat) (h1:j < its.toArray.size) (h2:j < its2.toArray.size) : SeqAt.EqAt A s its.toArray[j] its2.toArray[j] true:=by
 have l1:=r.length
 have l2:=r2.length
 have h1':j < its.length:=by simpa using h1
 have h2':j < its2.length:=by simpa using h2
 have hx:j < xs.length:=by omega
 have hy:j < ys.length:=by omega
 have e1:xs[j]? = some xs[j]:=List.getElem?_eq_getElem hx
 have e2:ys[j]? = some ys[j]:=List.getElem?_eq_getElem hy
 obtain ⟨u,hu,ru⟩:=r.get e1
 obtain ⟨v,hv,rv⟩:=r2.get e2
 have eu:its.toArray[j]=u:=by
  have:its[j]? = some its[j]:=List.getElem?_eq_getElem h1'
  rw [hu] at this
  simpa using this.symm
 have ev:its2.toArray[j]=v:=by
  have:its2[j]? = some its2[j]:=List.getElem?_eq_getElem h2'
  rw [hv] at this
  simpa using this.symm
 rw [eu,ev]
 exact d j _ _ e1 e2 u v ru rv
theorem min_true {n m:Nat} (h:n=m) : ((List.range (min n m)).all (fun _=>true) && (n == m))=true:=by
 rw [all_true,h]
 simp
theorem deep_eq {X:Cx} {pins:List (Addr × Obj)} {σ:St} {H:Hp} {s:Shared} (I:Inv X pins σ H s) : ∀ (n:Nat) (A:Around) (x y:V) (u v:Value),Dq X.K H n x y→RelV x u→RelV y v→A.units+n < cLine→SeqAt.EqAt A s u v true
 | 0,A,x,y,u,v,d,ru,rv,hu=>by
  rcases d with ⟨f,g,e⟩ | ⟨a,rfl,rfl⟩
  ·have:=eqAt_V (A:=A) (s:=s) ru rv f g
   rw [e] at this
   exact this
  ·cases ru
   cases rv
   exact SeqAt.EqAt.same _
 | n+1,A,x,y,u,v,d,ru,rv,hu=>by
  rcases d with (⟨f,g,e⟩ | ⟨a,rfl,rfl⟩) | ⟨a,b,xs,ys,rfl,rfl,hab,hl,hd⟩
  ·have:=eqAt_V (A:=A) (s:=s) ru rv f g
   rw [e] at this
   exact this
  ·cases ru
   cases rv
   exact SeqAt.EqAt.same _
  ·cases ru
   cases rv
   by_cases e:a=b
   ·subst e
    exact SeqAt.EqAt.same _
   have hrec:=fun i x y (e1:xs[i]? = some x) (e2:ys[i]? = some y) u v (ru:RelV x u) (rv:RelV y v)=>deep_eq I n A.in1 x y u v (hd i x y e1 e2) ru rv (by show A.units+1+n < cLine; omega)
   rcases hab with ⟨ha,hb⟩ | ⟨ha,hb⟩
   ·obtain ⟨its,r,p,z⟩:=I.list ha
    obtain ⟨its2,r2,p2,z2⟩:=I.list hb
    have l1:=r.length
    have l2:=r2.length
    have:=SeqAt.RcAt.lists (A:=A) (e:=fun _=>true) p.isList p2.isList (by simp; omega) (by omega) (fun j h1 h2=>items_deep (X:=X) (pins:=pins) (σ:=σ) (H:=H) (n:=n) r r2 hrec j h1 h2)
    rw [all_true] at this
    exact SeqAt.EqAt.of_refs e this
   ·obtain ⟨its,r,p,z⟩:=I.tuple ha
    obtain ⟨its2,r2,p2,z2⟩:=I.tuple hb
    have l1:=r.length
    have l2:=r2.length
    have:=SeqAt.RcAt.tuples (A:=A) (e:=fun _=>true) p p2 (by omega) (fun j h1 h2=>items_deep (X:=X) (pins:=pins) (σ:=σ) (H:=H) (n:=n) r r2 hrec j h1 h2)
    rw [min_true (by simp; omega)] at this
    exact SeqAt.EqAt.of_refs e this
section
variable {X:Cx}
def rEqQ (K:PySem.W.Frag) (neg:Bool) : R2:=fun x y H Q=>∃ n a b xs ys,n≤90∧x = .ref a∧y = .ref b∧((SqL K H a xs∧SqL K H b ys)∨(SqT K H a xs∧SqT K H b ys))∧xs.length=ys.length∧(∀ (i:Nat) x y,xs[i]? = some x→ys[i]? = some y→Dq K H n x y)∧Q (.bl (!neg)) H
theorem op_eqQ (hu:X.A.units+100 < cLine) : OpR X (compareOp .Eq) (rEqQ X.K false):=by
 intro pins s σ H x y v u Q I rx ry h
 obtain ⟨n,a,b,xs,ys,hn,rfl,rfl,hab,hl,hd,q⟩:=h
 cases rx
 cases ry
 have hrec:=fun i x y (e1:xs[i]? = some x) (e2:ys[i]? = some y) u v (ru:RelV x u) (rv:RelV y v)=>deep_eq I n X.A.in1 x y u v (hd i x y e1 e2) ru rv (by show X.A.units+1+n < cLine; omega)
 rcases hab with ⟨ha,hb⟩ | ⟨ha,hb⟩
 ·obtain ⟨its,r,p,z⟩:=I.list ha
  obtain ⟨its2,r2,p2,z2⟩:=I.list hb
  have l1:=r.length
  have l2:=r2.length
  refine SeqAt.eq_listAt (e:=fun _=>true) p.isList p2.isList (by simp; omega) (by omega) (fun j h1 h2=>items_deep (X:=X) (pins:=pins) (σ:=σ) (H:=H) (n:=n) r r2 hrec j h1 h2) ⟨.bl _,H,I,rfl,?_⟩
  rw [all_true]
  exact q
 ·obtain ⟨its,r,p,z⟩:=I.tuple ha
  obtain ⟨its2,r2,p2,z2⟩:=I.tuple hb
  have l1:=r.length
  have l2:=r2.length
  refine SeqAt.eq_tupleAt (e:=fun _=>true) p p2 (by omega) (fun j h1 h2=>items_deep (X:=X) (pins:=pins) (σ:=σ) (H:=H) (n:=n) r r2 hrec j h1 h2) ⟨.bl _,H,I,rfl,?_⟩
  rw [min_true (by simp; omega)]
  exact q
theorem op_neQ (hu:X.A.units+100 < cLine) : OpR X (compareOp .NotEq) (rEqQ X.K true):=by
 intro pins s σ H x y v u Q I rx ry h
 obtain ⟨n,a,b,xs,ys,hn,rfl,rfl,hab,hl,hd,q⟩:=h
 cases rx
 cases ry
 have hrec:=fun i x y (e1:xs[i]? = some x) (e2:ys[i]? = some y) u v (ru:RelV x u) (rv:RelV y v)=>deep_eq I n X.A.in1 x y u v (hd i x y e1 e2) ru rv (by show X.A.units+1+n < cLine; omega)
 rcases hab with ⟨ha,hb⟩ | ⟨ha,hb⟩
 ·obtain ⟨its,r,p,z⟩:=I.list ha
  obtain ⟨its2,r2,p2,z2⟩:=I.list hb
  have l1:=r.length
  have l2:=r2.length
  refine SeqAt.RcNeAt.lists (e:=fun _=>true) p.isList p2.isList (by simp; omega) (by omega) (fun j h1 h2=>items_deep (X:=X) (pins:=pins) (σ:=σ) (H:=H) (n:=n) r r2 hrec j h1 h2) _ _ _ _ ⟨.bl _,H,I,rfl,?_⟩
  rw [all_true]
  exact q
 ·obtain ⟨its,r,p,z⟩:=I.tuple ha
  obtain ⟨its2,r2,p2,z2⟩:=I.tuple hb
  have l1:=r.length
  have l2:=r2.length
  refine SeqAt.RcNeAt.tuples (e:=fun _=>true) p p2 (by omega) (fun j h1 h2=>items_deep (X:=X) (pins:=pins) (σ:=σ) (H:=H) (n:=n) r r2 hrec j h1 h2) _ _ _ _ ⟨.bl _,H,I,rfl,?_⟩
  rw [min_true (by simp; omega)]
  exact q
end
def fillStep (w:Int) (rows:List (List Nat)) (t:List Nat) : List (List Nat):=
 match rows.getLast? with
 | none=>[t]
 | some l=>if (l.length:Int)+1+t.length≤w then rows.dropLast++[l++32 :: t] else rows++[t]
theorem fillStep_nil (w:Int) (t:List Nat) : fillStep w [] t=[t]:=rfl
theorem fillStep_snoc (w:Int) (rs:List (List Nat)) (l t:List Nat) : fillStep w (rs++[l]) t=if (l.length:Int)+1+t.length≤w then rs++[l++32 :: t] else rs++[l]++[t]:=by simp [fillStep]
def fillW (w:Int) (ts:List (List Nat)) : List (List Nat):=ts.foldl (fillStep w) []
theorem fillW_snoc (w:Int) (ts:List (List Nat)) (t:List Nat) : fillW w (ts++[t])=fillStep w (fillW w ts) t:=by simp [fillW,List.foldl_append]
theorem list_snoc {α:Type} (l:List α) : l=[]∨∃ r c,l=r++[c]:=by
 by_cases h:l=[]
 ·exact .inl h
 ·exact .inr ⟨l.dropLast,l.getLast h,(List.dropLast_concat_getLast h).symm⟩
theorem snoc_ind {α:Type} {P:List α→Prop} (h0:P []) (h1:∀ l a,P l→P (l++[a])) : ∀ l,P l:=by
 intro l
 have:∀ n (l:List α),l.length=n→P l:=by
  intro n
  induction n with
  | zero=>intro l hl; rw [List.eq_nil_of_length_eq_zero hl]; exact h0
  | succ n ih =>
   intro l hl
   rcases list_snoc l with rfl | ⟨r,c,rfl⟩
   ·exact h0
   ·exact h1 r c (ih r (by simp at hl; exact hl))
 exact this _ l rfl
def numStep (w:Int) (x:Int × Int) (t:Int) : Int × Int:=if 0 < x.1∧x.2+1+t≤w then (x.1,x.2+1+t) else (x.1+1,t)
def numW (w:Int) (ts:List Int) : Int × Int:=ts.foldl (numStep w) (0,0)
theorem numW_snoc (w:Int) (ts:List Int) (t:Int) : numW w (ts++[t])=numStep w (numW w ts) t:=by simp [numW,List.foldl_append]
theorem fill_num (w:Int) (ts:List (List Nat)) : (numW w (ts.map fun t=>(t.length:Int))).1=(fillW w ts).length∧((fillW w ts=[]∧ts=[])∨∃ rs l,fillW w ts=rs++[l]∧(numW w (ts.map fun t=>(t.length:Int))).2=l.length):=by
 refine snoc_ind (P:=fun ts=>(numW w (ts.map fun t=>(t.length:Int))).1=(fillW w ts).length∧((fillW w ts=[]∧ts=[])∨∃ rs l,fillW w ts=rs++[l]∧(numW w (ts.map fun t=>(t.length:Int))).2=l.length)) ⟨rfl,.inl ⟨rfl,rfl⟩⟩ ?_ ts
 intro ts t ih
 rw [List.map_append,List.map_singleton,numW_snoc,fillW_snoc]
 obtain ⟨h1,h2⟩:=ih
 rcases h2 with ⟨h2,h3⟩ | ⟨rs,l,h2,h3⟩
 ·rw [h2] at h1 ⊢
  rw [fillStep_nil,numStep,if_neg (by simp at h1; omega)]
  exact ⟨by simp at h1 ⊢; omega,.inr ⟨[],t,rfl,rfl⟩⟩
 ·rw [h2] at h1 ⊢
  rw [fillStep_snoc,numStep]
  by_cases e:(l.length:Int)+1+t.length≤w
  ·rw [if_pos e,if_pos ⟨by simp at h1; omega,by rw [h3]; exact e⟩]
   refine ⟨by simp at h1 ⊢; omega,.inr ⟨rs,_,rfl,?_⟩⟩
   simp
   omega
  ·rw [if_neg e,if_neg (by rw [h3]; omega)]
   exact ⟨by simp at h1 ⊢; omega,.inr ⟨rs++[l],t,rfl,rfl⟩⟩
theorem fill_wide (w:Int) (ts:List (List Nat)) : (fillW w ts).any (fun r=>decide (w < r.length))=ts.any (fun t=>decide (w < t.length)):=by
 refine snoc_ind (P:=fun ts=>(fillW w ts).any (fun r=>decide (w < r.length))=ts.any (fun t=>decide (w < t.length))) rfl ?_ ts
 intro ts t ih
 rw [fillW_snoc,List.any_append,← ih]
 rcases list_snoc (fillW w ts) with e | ⟨rs,l,e⟩
 ·rw [e,fillStep_nil]
  rfl
 ·rw [e,fillStep_snoc]
  by_cases c:(l.length:Int)+1+t.length≤w
  ·rw [if_pos c,List.any_append,List.any_append]
   have c1:¬ w < ((l++32 :: t).length:Int):=by simp; omega
   have c2:¬ w < (l.length:Int):=by omega
   have c3:¬ w < (t.length:Int):=by omega
   simp [c2,c3]
   all_goals omega
  ·rw [if_neg c,List.any_append]
def highF (w h:Int) (ts:List (List Nat)) : Int:=if (fillW w ts).any (fun r=>decide (w < r.length)) then h else if h < (fillW w ts).length then h else (fillW w ts).length
def highN (w h:Int) (ts:List Int) : Int:=if ts.any (fun t=>decide (w < t)) then h else if h < (numW w ts).1 then h else (numW w ts).1
theorem high_eq (w h:Int) (ts:List (List Nat)) : highF w h ts=highN w h (ts.map fun t=>(t.length:Int)):=by
 unfold highF highN
 rw [fill_wide,(fill_num w ts).1,List.any_map]
 rfl
def lexLe (x y:Int × Int) : Prop:=x.1 < y.1∨(x.1=y.1∧x.2≤y.2)
theorem step_grows {w t u:Int} {x y:Int × Int} (h:lexLe x y) (hx:0≤x.1) (hx2:0≤x.2) (hy2:0≤y.2) (ht:t≤u) (t0:0≤t) : lexLe (numStep w x t) (numStep w y u):=by
 obtain ⟨a,b⟩:=x
 obtain ⟨c,d⟩:=y
 unfold lexLe numStep at *
 simp only at *
 repeat' split
 all_goals (simp only; omega)
theorem lexLe.refl (x:Int × Int) : lexLe x x:=.inr ⟨rfl,Int.le_refl _⟩
theorem lexLe.trans {x y z:Int × Int} (a:lexLe x y) (b:lexLe y z) : lexLe x z:=by
 unfold lexLe at *
 omega
theorem fold_grows {w:Int} : ∀ {ts us:List Int} {x y:Int × Int},ts.length=us.length→(∀ k,k < ts.length→ts.getD k 0≤us.getD k 0)→(∀ t ∈ ts,0≤t)→lexLe x y→0≤x.1→0≤x.2→0≤y.2→lexLe (ts.foldl (numStep w) x) (us.foldl (numStep w) y)
 | [],[],x,y,_,_,_,h,_,_,_=>h
 | [],_ :: _,_,_,e,_,_,_,_,_,_=>by simp at e
 | _ :: _,[],_,_,e,_,_,_,_,_,_=>by simp at e
 | t :: ts,u :: us,x,y,e,hk,h0,h,a,b,c=>by
  have t0:=h0 t (by simp)
  have tu:t≤u:=hk 0 (by simp)
  rw [List.foldl_cons,List.foldl_cons]
  refine fold_grows (by simpa using e) (fun k hk2=>?_) (fun v hv=>h0 v (List.mem_cons_of_mem _ hv)) (step_grows h a b c tu t0) ?_ ?_ ?_
  ·have:=hk (k+1) (by simp; omega)
   simpa using this
  ·unfold numStep; split <;> simp only <;> omega
  ·unfold numStep; split <;> simp only <;> omega
  ·unfold numStep; split <;> simp only <;> omega
theorem any_grows {w:Int} : ∀ {ts us:List Int},ts.length=us.length→(∀ k,k < ts.length→ts.getD k 0≤us.getD k 0)→ts.any (fun t=>decide (w < t))=true→us.any (fun t=>decide (w < t))=true
 | [],[],_,_,h=>h
 | [],_ :: _,e,_,_=>by simp at e
 | _ :: _,[],e,_,_=>by simp at e
 | t :: ts,u :: us,e,hk,h=>by
  have tu:t≤u:=hk 0 (by simp)
  rw [List.any_cons,Bool.or_eq_true] at h ⊢
  rcases h with h | h
  ·exact .inl (decide_eq_true (by have:=of_decide_eq_true h; omega))
  ·exact .inr (any_grows (by simpa using e) (fun k hk2=>by have:=hk (k+1) (by simp; omega); simpa using this) h)
theorem high_grows {w h:Int} {ts us:List Int} (e:ts.length=us.length) (hk:∀ k,k < ts.length→ts.getD k 0≤us.getD k 0) (h0:∀ t ∈ ts,0≤t) : highN w h ts≤highN w h us:=by
 have a:=fold_grows (w:=w) e hk h0 (lexLe.refl (0,0)) (by decide) (by decide) (by decide)
 have b:=any_grows (w:=w) e hk
 have c:lexLe (numW w ts) (numW w us):=a
 unfold highN
 by_cases x:ts.any (fun t=>decide (w < t))=true
 ·rw [if_pos x,if_pos (b x)]
  exact Int.le_refl _
 ·rw [if_neg x]
  unfold lexLe at c
  repeat' split
  all_goals omega
def rowsV (rows:List (List Nat)) : List V:=rows.map fun t=>V.str (tx t)
def SaysA (K:PySem.W.Frag) (H:Hp) (bs:List Addr) (ss:List Say) : Prop:=bs.length=ss.length∧∀ (i:Nat) b s,bs[i]? = some b→ss[i]? = some s→SqT K H b (sayV s)
theorem SaysA.same {K:PySem.W.Frag} {H H':Hp} {bs:List Addr} {ss:List Say} (s:Same H H') (h:SaysA K H bs ss) : SaysA K H' bs ss:=⟨h.1,fun i a x e e'=>s.tup (h.2 i a x e e')⟩
theorem SaysA.lst {K:PySem.W.Frag} {H:Hp} {l:Addr} {ys zs:List V} {bs:List Addr} {ss:List Say} (e:H l=some (.lst ys)) (h:SaysA K H bs ss) : SaysA K (upd H l (.lst zs)) bs ss:=⟨h.1,fun i a x e1 e'=>SqT.lst e (h.2 i a x e1 e')⟩
theorem SaysA.nil {K:PySem.W.Frag} {H:Hp} : SaysA K H [] []:=⟨rfl,fun i a x e _=>by simp at e⟩
theorem SaysA.app {K:PySem.W.Frag} {H:Hp} {bs cs:List Addr} {ss ts:List Say} (h:SaysA K H bs ss) (g:SaysA K H cs ts) : SaysA K H (bs++cs) (ss++ts):=by
 refine ⟨by simp [h.1,g.1],fun i b y e e'=>?_⟩
 by_cases hi:i < bs.length
 ·rw [List.getElem?_append_left hi] at e
  rw [List.getElem?_append_left (by rw [← h.1]; exact hi)] at e'
  exact h.2 i b y e e'
 ·rw [List.getElem?_append_right (by omega)] at e
  rw [List.getElem?_append_right (by rw [← h.1]; omega),← h.1] at e'
  exact g.2 _ b y e e'
theorem SaysA.one {K:PySem.W.Frag} {H:Hp} {b:Addr} {s:Say} (h:SqT K H b (sayV s)) : SaysA K H [b] [s]:=by
 refine ⟨rfl,fun i a x e e'=>?_⟩
 match i,e,e' with
 | 0,e,e' =>
  cases e
  cases e'
  exact h
theorem SaysA.take {K:PySem.W.Frag} {H:Hp} {bs:List Addr} {ss:List Say} (h:SaysA K H bs ss) (n:Nat) : SaysA K H (bs.take n) (ss.take n):=by
 refine ⟨by simp [h.1],fun i b y e e'=>?_⟩
 rw [List.getElem?_take] at e e'
 split at e
 ·rename_i c
  rw [if_pos c] at e'
  exact h.2 i b y e e'
 ·cases e
theorem SaysA.drop {K:PySem.W.Frag} {H:Hp} {bs:List Addr} {ss:List Say} (h:SaysA K H bs ss) (n:Nat) : SaysA K H (bs.drop n) (ss.drop n):=by
 refine ⟨by simp [h.1],fun i b y e e'=>?_⟩
 rw [List.getElem?_drop] at e e'
 exact h.2 _ b y e e'
theorem Same.put {H H2:Hp} {r:Addr} {o:HO} (s:Same H H2) (hr:H r=none) : Same H (upd H2 r o):=fun b u q=>by rw [upd_ne (ne_of_none q hr)]; exact s b u q
theorem rowsV_snoc (rs:List (List Nat)) (t:List Nat) : rowsV (rs++[t])=rowsV rs++[V.str (tx t)]:=by simp [rowsV]
theorem cutV_map {α:Type} (f:α→V) (ns:List α) (lo hi:Option Int) : cutV (ns.map f) lo hi=(cutL ns lo hi).map f:=by
 unfold cutV cutL
 rw [List.length_map,List.map_take,List.map_drop]
theorem pick {α:Type} (xs:List α) (m k:Int) (h:m=(xs.length:Int)) (h0:0 < m) : ∃ z,z ∈ xs∧atI xs (k % m)=some z:=by
 have b1:=Int.emod_nonneg k (show m≠0 by omega)
 have b2:=Int.emod_lt_of_pos k h0
 obtain ⟨d,hd⟩:=Int.eq_ofNat_of_zero_le b1
 have hl:d < xs.length:=by omega
 refine ⟨xs[d],List.getElem_mem hl,?_⟩
 rw [hd]
 exact atI_nat (List.getElem?_eq_getElem hl)
theorem at_int {xs:List Int} (k:Nat) (h:k < xs.length) : atI (xs.map V.int) (k:Int)=some (V.int (xs.getD k 0)):=by
 refine atI_nat ?_
 rw [List.getElem?_map,List.getD_eq_getElem?_getD,List.getElem?_eq_getElem h]
 rfl
def StrOk (n:Nat) (xs:List Int) : Prop:=xs.length=n∧∀ x ∈ xs,0≤x∧x < 2147483647
theorem StrOk.get {n k:Nat} {xs:List Int} (h:StrOk n xs) (hk:k < n) : 0≤xs.getD k 0∧xs.getD k 0 < 2147483647:=by
 have hk2:k < xs.length:=by rw [h.1]; exact hk
 rw [List.getD_eq_getElem?_getD,List.getElem?_eq_getElem hk2]
 exact h.2 _ (List.getElem_mem hk2)
theorem StrOk.at {n k:Nat} {xs:List Int} (h:StrOk n xs) (hk:k < n) : atI (xs.map V.int) (k:Int)=some (V.int (xs.getD k 0)):=at_int k (by rw [h.1]; exact hk)
structure Wd where
 lead:Int
 kept:Bool
 say:Say
 foot:List Say
structure WdOk (n:Nat) (d:Wd) : Prop where
 l0:0≤d.lead
 l1:d.lead≤4
 s:SayOk n d.say
 f:∀ s ∈ d.foot,SayOk n s
 n:d.foot.length≤40
def WdAt (K:PySem.W.Frag) (H:Hp) (a:Addr) (d:Wd) : Prop:=∃ (sa fo:Addr) (bs:List Addr),SqT K H a [.int d.lead,.bl d.kept,.ref sa,.ref fo]∧SqT K H sa (sayV d.say)∧SqL K H fo (bs.map V.ref)∧SaysA K H bs d.foot
theorem WdAt.same {K:PySem.W.Frag} {H H':Hp} {a:Addr} {d:Wd} (s:Same H H') (h:WdAt K H a d) : WdAt K H' a d:=by
 obtain ⟨sa,fo,bs,h1,h2,h3,h4⟩:=h
 exact ⟨sa,fo,bs,s.tup h1,s.tup h2,s.seq h3,h4.same s⟩
def WdsA (K:PySem.W.Frag) (H:Hp) (as:List Addr) (ds:List Wd) : Prop:=as.length=ds.length∧∀ (i:Nat) a d,as[i]? = some a→ds[i]? = some d→WdAt K H a d
theorem WdsA.same {K:PySem.W.Frag} {H H':Hp} {as:List Addr} {ds:List Wd} (s:Same H H') (h:WdsA K H as ds) : WdsA K H' as ds:=⟨h.1,fun i a d e e'=>(h.2 i a d e e').same s⟩
theorem WdsA.nil {K:PySem.W.Frag} {H:Hp} : WdsA K H [] []:=⟨rfl,fun i a x e _=>by simp at e⟩
theorem WdsA.snoc {K:PySem.W.Frag} {H:Hp} {as:List Addr} {ds:List Wd} {a:Addr} {d:Wd} (h:WdsA K H as ds) (hx:WdAt K H a d) : WdsA K H (as++[a]) (ds++[d]):=by
 refine ⟨by simp [h.1],fun i b y e e'=>?_⟩
 by_cases hi:i < as.length
 ·rw [List.getElem?_append_left hi] at e
  rw [List.getElem?_append_left (by rw [← h.1]; exact hi)] at e'
  exact h.2 i b y e e'
 ·rw [List.getElem?_append_right (by omega)] at e
  rw [List.getElem?_append_right (by rw [← h.1]; omega)] at e'
  have:i - as.length=0:=by
   rcases Nat.eq_zero_or_pos (i - as.length) with z | z
   ·exact z
   ·rw [List.getElem?_eq_none (by simp; omega)] at e; cases e
  rw [this] at e
  rw [← h.1,this] at e'
  cases e
  cases e'
  exact hx
def BkAt (K:PySem.W.Frag) (H:Hp) (b:Addr) (w h f m:Int) (ds:List Wd) : Prop:=∃ (fa wa:Addr) (as:List Addr),SqT K H b [.ref fa,.ref wa]∧SqT K H fa (fm w h f m)∧SqL K H wa (as.map V.ref)∧WdsA K H as ds
theorem BkAt.same {K:PySem.W.Frag} {H H':Hp} {b:Addr} {w h f m:Int} {ds:List Wd} (s:Same H H') (g:BkAt K H b w h f m ds) : BkAt K H' b w h f m ds:=by
 obtain ⟨fa,wa,as,h1,h2,h3,h4⟩:=g
 exact ⟨fa,wa,as,s.tup h1,s.tup h2,s.seq h3,h4.same s⟩
def LwAt (K:PySem.W.Frag) (H:Hp) (a:Addr) (xs:List (Int × Int)) : Prop:=∃ as:List Addr,SqL K H a (as.map V.ref)∧PlsA K H as xs
theorem LwAt.same {K:PySem.W.Frag} {H H':Hp} {a:Addr} {xs:List (Int × Int)} (s:Same H H') (h:LwAt K H a xs) : LwAt K H' a xs:=by
 obtain ⟨as,h1,h2⟩:=h
 exact ⟨as,s.seq h1,h2.same s⟩
theorem StrOk.cut {n a:Nat} {xs:List Int} (h:StrOk n xs) (b:Nat) (hb:a+b≤n) : StrOk b ((xs.drop a).take b):=by
 refine ⟨by simp [h.1]; omega,fun x hx=>h.2 x (List.mem_of_mem_drop (List.mem_of_mem_take hx))⟩

section
variable {prog:Program} {w:World} {A:Around} {R:Result→Shared→Prop} {I:Addr} {fp wr:List Addr} {P:Nat→Value→Prop} {St:Nat→Heap→Prop}
end
section
variable {prog:Program} {w:World} {A:Around} {R:Result→Shared→Prop} {I:Addr} {fp wr:List Addr} {P:Nat→Value→Prop} {St:Nat→Heap→Prop}
end
def laterI (x y:Int × Int) : Int × Int:=if sooner x y then y else x
structure Frm where
 w:Int
 h:Int
 f:Int
 m:Int
structure BkOk (F:Frm) (ds:List Wd) (xs:List (Int × Int)) : Prop where
 fo:FormOk F.w F.h F.f F.m
 len:ds.length=xs.length
 wd:∀ d ∈ ds,WdOk ds.length d
 po:PlsOk F.h xs
 n:ds.length≤400
def wd0:Wd:=⟨0,false,.text [],[]⟩
abbrev dAt (ds:List Wd) (i:Nat) : Wd:=ds.getD i wd0
abbrev xAt (xs:List (Int × Int)) (i:Nat) : Int × Int:=xs.getD i (0,0)
def wideW (F:Frm) (xs:List (Int × Int)) (d:Wd) : Int:=((saidL F.h F.f xs d.say).length:Int)
def highW (F:Frm) (xs:List (Int × Int)) (d:Wd) : Int:=highF F.w F.h (d.foot.map (saidL F.h F.f xs))
def toldBehind (F:Frm) (ds:List Wd) (xs:List (Int × Int)) (i:Nat) : Int × Int:=
 firstFrom F.f (if 0 < i then laterI (xAt xs i) (behindI F.h F.f (xAt xs (i - 1)) (dAt ds i).lead) else xAt xs i) (dAt ds i).lead
def toldWide (F:Frm) (xs:List (Int × Int)) (j:Nat) (wide:Int) : Option (Int × Int):=if wide≤F.w then none else some (behindI F.h F.f (xAt xs j) 1)
def toldHigh (F:Frm) (xs:List (Int × Int)) (i j:Nat) (high:Int) : Option (Int × Int):=if (xAt xs j).1 < (xAt xs i).1∨(xAt xs i).2+1+high≤F.h then none else some ((xAt xs i).1+1,0)
def toldKept (ds:List Wd) (xs:List (Int × Int)) (i:Nat) : Option (Int × Int):=if i+1=ds.length∨(dAt ds (i+1)).kept=false then none else some ((xAt xs (i+1)).1,0)
def toldNever (F:Frm) (ds:List Wd) (xs:List (Int × Int)) (i:Nat) : Option (Int × Int):=if wideW F xs (dAt ds i)≤F.w∧highW F xs (dAt ds i)+1≤F.h then none else some (F.m,0)
def segD (ds:List Wd) (j i:Nat) : List Wd:=(ds.drop j).take (i+1 - j)
def wides (F:Frm) (ds:List Wd) (xs:List (Int × Int)) (j i:Nat) : List Int:=(segD ds j i).map (wideW F xs)
def highs (F:Frm) (ds:List Wd) (xs:List (Int × Int)) (j i:Nat) : List Int:=(segD ds j i).map (highW F xs)
def together (l:List Int) : Int:=l.sum+l.length - 1
def PlO (K:PySem.W.Frag) (H:Hp) (v:V) : Option (Int × Int)→Prop
 | none=>v = .non
 | some x=>∃ q,v = .ref q∧SqT K H q (pl x)
theorem PlO.same {K:PySem.W.Frag} {H H':Hp} {v:V} {o:Option (Int × Int)} (s:Same H H') (h:PlO K H v o) : PlO K H' v o:=by
 cases o with
 | none=>exact h
 | some x=>obtain ⟨q,e,hq⟩:=h; exact ⟨q,e,s.tup hq⟩
theorem BkOk.d {F:Frm} {ds:List Wd} {xs:List (Int × Int)} (B:BkOk F ds xs) {i:Nat} (h:i < ds.length) : ds[i]? = some (dAt ds i)∧WdOk xs.length (dAt ds i):=by
 have e:ds[i]? = some ds[i]:=List.getElem?_eq_getElem h
 have e2:dAt ds i=ds[i]:=by show ds.getD i wd0=_; rw [List.getD_eq_getElem?_getD,e]; rfl
 rw [e2]
 exact ⟨e,B.len ▸ B.wd _ (List.getElem_mem h)⟩
theorem BkOk.x {F:Frm} {ds:List Wd} {xs:List (Int × Int)} (B:BkOk F ds xs) {i:Nat} (h:i < ds.length) : RowIn F.h (xAt xs i)∧(xAt xs i).1 < 10 ^ 60:=B.po.get (B.len ▸ h)
theorem WdsA.get {K:PySem.W.Frag} {H:Hp} {as:List Addr} {ds:List Wd} (h:WdsA K H as ds) {k:Nat} (hk:k < ds.length) : ∃ a,atI (as.map V.ref) (k:Int)=some (V.ref a)∧WdAt K H a (dAt ds k):=by
 have hk2:k < as.length:=by rw [h.1]; exact hk
 refine ⟨as[k],atI_nat (by rw [List.getElem?_map,List.getElem?_eq_getElem hk2]; rfl),?_⟩
 have e:ds[k]? = some (dAt ds k):=by
  show _=some (ds.getD k wd0)
  rw [List.getD_eq_getElem?_getD,List.getElem?_eq_getElem hk]
  rfl
 exact h.2 k _ _ (List.getElem?_eq_getElem hk2) e
theorem WdsA.drop {K:PySem.W.Frag} {H:Hp} {as:List Addr} {ds:List Wd} (h:WdsA K H as ds) (n:Nat) : WdsA K H (as.drop n) (ds.drop n):=by
 refine ⟨by simp [h.1],fun i b y e e'=>?_⟩
 rw [List.getElem?_drop] at e e'
 exact h.2 _ b y e e'
theorem WdsA.take {K:PySem.W.Frag} {H:Hp} {as:List Addr} {ds:List Wd} (h:WdsA K H as ds) (n:Nat) : WdsA K H (as.take n) (ds.take n):=by
 refine ⟨by simp [h.1],fun i b y e e'=>?_⟩
 rw [List.getElem?_take] at e e'
 split at e
 ·rename_i c
  rw [if_pos c] at e'
  exact h.2 i b y e e'
 ·cases e
theorem LwAt.get {K:PySem.W.Frag} {H:Hp} {a:Addr} {xs:List (Int × Int)} {as:List Addr} (h:PlsA K H as xs) {k:Nat} (hk:k < xs.length) : ∃ b,atI (as.map V.ref) (k:Int)=some (V.ref b)∧SqT K H b (pl (xAt xs k)):=h.get hk
def PlOs (K:PySem.W.Frag) (H:Hp) (vs:List V) (os:List (Option (Int × Int))) : Prop:=vs.length=os.length∧∀ (k:Nat) v o,vs[k]? = some v→os[k]? = some o→PlO K H v o
theorem PlOs.same {K:PySem.W.Frag} {H H':Hp} {vs:List V} {os:List (Option (Int × Int))} (s:Same H H') (h:PlOs K H vs os) : PlOs K H' vs os:=⟨h.1,fun k v o e e'=>(h.2 k v o e e').same s⟩
theorem PlO.lst {K:PySem.W.Frag} {H:Hp} {l:Addr} {ys zs:List V} {v:V} {o:Option (Int × Int)} (e:H l=some (.lst ys)) (h:PlO K H v o) : PlO K (upd H l (.lst zs)) v o:=by
 cases o with
 | none=>exact h
 | some x=>obtain ⟨q,e1,hq⟩:=h; exact ⟨q,e1,SqT.lst e hq⟩
theorem PlOs.lst {K:PySem.W.Frag} {H:Hp} {l:Addr} {ys zs:List V} {vs:List V} {os:List (Option (Int × Int))} (e:H l=some (.lst ys)) (h:PlOs K H vs os) : PlOs K (upd H l (.lst zs)) vs os:=⟨h.1,fun k v o e1 e'=>(h.2 k v o e1 e').lst e⟩
theorem PlOs.nil {K:PySem.W.Frag} {H:Hp} : PlOs K H [] []:=⟨rfl,fun k v o e _=>by simp at e⟩
theorem PlOs.snoc {K:PySem.W.Frag} {H:Hp} {vs:List V} {os:List (Option (Int × Int))} {v:V} {o:Option (Int × Int)} (h:PlOs K H vs os) (hx:PlO K H v o) : PlOs K H (vs++[v]) (os++[o]):=by
 refine ⟨by simp [h.1],fun i b y e e'=>?_⟩
 by_cases hi:i < vs.length
 ·rw [List.getElem?_append_left hi] at e
  rw [List.getElem?_append_left (by rw [← h.1]; exact hi)] at e'
  exact h.2 i b y e e'
 ·rw [List.getElem?_append_right (by omega)] at e
  rw [List.getElem?_append_right (by rw [← h.1]; omega)] at e'
  have:i - vs.length=0:=by
   rcases Nat.eq_zero_or_pos (i - vs.length) with z | z
   ·exact z
   ·rw [List.getElem?_eq_none (by simp; omega)] at e; cases e
  rw [this] at e
  rw [← h.1,this] at e'
  cases e
  cases e'
  exact hx
def allTold (F:Frm) (ds:List Wd) (xs:List (Int × Int)) (i:Nat) : List (Option (Int × Int)):=
 [some (toldBehind F ds xs i),toldKept ds xs i,toldNever F ds xs i]++(List.range i).map (fun j=>toldWide F xs j (together (wides F ds xs j i)))++(List.range (i+1)).map (fun j=>toldHigh F xs i j (highs F ds xs j i).sum)
def bestOf (b:Int × Int) (os:List (Option (Int × Int))) : Int × Int:=os.foldl (fun b o=>match o with | none=>b | some x=>laterI b x) b
def raisedI (F:Frm) (ds:List Wd) (xs:List (Int × Int)) (i:Nat) : Int × Int:=bestOf (xAt xs i) (allTold F ds xs i)
theorem op_neNil {X:Cx} (hu:X.A.units < cLine) : OpR X (compareOp .NotEq) (fun x y H Q=>∃ a b xs,x = .ref a∧y = .ref b∧SqL X.K H a xs∧SqL X.K H b []∧Q (.bl (!xs.isEmpty)) H):=by
 intro pins s σ H x y v u Q I rx ry h
 obtain ⟨a,b,xs,rfl,rfl,ha,hb,q⟩:=h
 cases rx
 cases ry
 obtain ⟨its,r,p,z⟩:=I.list ha
 obtain ⟨its2,r2,p2,z2⟩:=I.list hb
 have l1:=r.length
 have l2:=r2.length
 cases xs with
 | nil =>
  refine SeqAt.RcNeAt.lists (e:=fun _=>true) p.isList p2.isList (by simp at l1 l2 ⊢; omega) hu (fun j h1 h2=>absurd h1 (by simp at l1 ⊢; omega)) _ _ _ _ ⟨.bl _,H,I,rfl,?_⟩
  have e:its.toArray.size=0:=by rw [List.size_toArray]; exact l1.symm
  rw [e]
  exact q
 | cons x r=>exact SeqAt.RcNeAt.lists_lengths p.isList p2.isList (by simp at l1 l2 ⊢; omega) hu _ _ _ _ ⟨.bl true,H,I,rfl,q⟩
theorem PlsA.set {K:PySem.W.Frag} {H:Hp} {as:List Addr} {xs:List (Int × Int)} {a:Addr} {x:Int × Int} (h:PlsA K H as xs) (k:Nat) (hx:SqT K H a (pl x)) : PlsA K H (as.set k a) (xs.set k x):=by
 refine ⟨by simp [h.1],fun i b y e e'=>?_⟩
 rw [List.getElem?_set] at e e'
 by_cases c:k=i
 ·rw [if_pos c] at e e'
  split at e
  ·split at e'
   ·cases e; cases e'; exact hx
   ·cases e'
  ·cases e
 ·rw [if_neg c] at e e'
  exact h.2 i b y e e'
theorem PlsOk.set {h:Int} {xs:List (Int × Int)} {x:Int × Int} (o:PlsOk h xs) (k:Nat) (i:RowIn h x) (b:x.1 < 10 ^ 60) : PlsOk h (xs.set k x):=by
 intro y hy
 rcases List.mem_or_eq_of_mem_set hy with hy | rfl
 ·exact o y hy
 ·exact ⟨i,b⟩
def Cp (K:PySem.W.Frag) (H:Hp) (a b:Addr) : Prop:=∃ (l:Int) (k:Bool) (sa fo fo':Addr) (bs:List Addr),SqT K H a [.int l,.bl k,.ref sa,.ref fo]∧SqT K H b [.int l,.bl k,.ref sa,.ref fo']∧SqL K H fo (bs.map V.ref)∧SqL K H fo' (bs.map V.ref)
theorem Cp.same {K:PySem.W.Frag} {H H':Hp} {a b:Addr} (s:Same H H') (h:Cp K H a b) : Cp K H' a b:=by
 obtain ⟨l,k,sa,fo,fo',bs,h1,h2,h3,h4⟩:=h
 exact ⟨l,k,sa,fo,fo',bs,s.tup h1,s.tup h2,s.seq h3,s.seq h4⟩
def CpA (K:PySem.W.Frag) (H:Hp) (as bs:List Addr) : Prop:=as.length=bs.length∧∀ (i:Nat) a b,as[i]? = some a→bs[i]? = some b→Cp K H a b
theorem CpA.same {K:PySem.W.Frag} {H H':Hp} {as bs:List Addr} (s:Same H H') (h:CpA K H as bs) : CpA K H' as bs:=⟨h.1,fun i a b e e'=>(h.2 i a b e e').same s⟩
theorem CpA.snoc {K:PySem.W.Frag} {H:Hp} {as bs:List Addr} {a b:Addr} (h:CpA K H as bs) (hx:Cp K H a b) : CpA K H (as++[a]) (bs++[b]):=by
 refine ⟨by simp [h.1],fun i c y e e'=>?_⟩
 by_cases hi:i < as.length
 ·rw [List.getElem?_append_left hi] at e
  rw [List.getElem?_append_left (by rw [← h.1]; exact hi)] at e'
  exact h.2 i c y e e'
 ·rw [List.getElem?_append_right (by omega)] at e
  rw [List.getElem?_append_right (by rw [← h.1]; omega)] at e'
  have:i - as.length=0:=by
   rcases Nat.eq_zero_or_pos (i - as.length) with z | z
   ·exact z
   ·rw [List.getElem?_eq_none (by simp; omega)] at e; cases e
  rw [this] at e
  rw [← h.1,this] at e'
  cases e
  cases e'
  exact hx
section
variable (F:Frm) (ds:List Wd) (xs:List (Int × Int)) (k:Str) (i:Nat) (j:Int)
end
def rList (K:PySem.W.Frag) : List V→Hp→VK→Prop:=fun xs H Q=>∃ p ys,xs=[.ref p]∧(SqL K H p ys∨SqT K H p ys)∧∀ l,H l=none→Q (.ref l) (upd H l (.lst ys))
theorem hu100 {A:Around} {k:Nat} (hr:Room k A) : A.units+100 < cLine:=by have:=hr.un; omega
theorem le_tr {x y z:Int × Int} (a:sooner y x=false) (b:sooner z y=false) : sooner z x=false:=by
 rw [not_sooner] at a b ⊢
 omega
theorem later_ge1 (x y:Int × Int) : sooner (laterI x y) x=false:=by
 unfold laterI
 cases e:sooner x y with
 | true =>
  rw [if_pos rfl]
  rw [sooner_iff] at e
  rw [not_sooner]
  omega
 | false=>rw [if_neg (by decide)]; exact sooner_refl x
theorem later_ge2 (x y:Int × Int) : sooner (laterI x y) y=false:=by
 unfold laterI
 cases e:sooner x y with
 | true=>rw [if_pos rfl]; exact sooner_refl y
 | false=>rw [if_neg (by decide)]; exact e
theorem later_le {x y z:Int × Int} (a:sooner z x=false) (b:sooner z y=false) : sooner z (laterI x y)=false:=by
 unfold laterI
 cases e:sooner x y with
 | true=>rw [if_pos rfl]; exact b
 | false=>rw [if_neg (by decide)]; exact a
theorem best_ge:∀ (os:List (Option (Int × Int))) (b:Int × Int),sooner (bestOf b os) b=false∧∀ x,some x ∈ os→sooner (bestOf b os) x=false
 | [],b=>⟨sooner_refl b,fun x h=>by cases h⟩
 | none :: r,b=>by
  obtain ⟨h1,h2⟩:=best_ge r b
  refine ⟨h1,fun x h=>h2 x ?_⟩
  rcases List.mem_cons.mp h with h | h
  ·cases h
  ·exact h
 | some y :: r,b=>by
  obtain ⟨h1,h2⟩:=best_ge r (laterI b y)
  refine ⟨le_tr (later_ge1 b y) h1,fun x h=>?_⟩
  rcases List.mem_cons.mp h with h | h
  ·have e:x=y:=by cases h; rfl
   rw [e]
   exact le_tr (later_ge2 b y) h1
  ·exact h2 x h
theorem best_le:∀ (os:List (Option (Int × Int))) (b z:Int × Int),sooner z b=false→(∀ x,some x ∈ os→sooner z x=false)→sooner z (bestOf b os)=false
 | [],b,z,h,_=>h
 | none :: r,b,z,h,h2=>best_le r b z h fun x hx=>h2 x (List.mem_cons_of_mem _ hx)
 | some y :: r,b,z,h,h2=>best_le r (laterI b y) z (later_le h (h2 y List.mem_cons_self)) fun x hx=>h2 x (List.mem_cons_of_mem _ hx)
theorem sum_le {α:Type} {f g:α→Int} : ∀ (l:List α),(∀ d ∈ l,f d≤g d)→(l.map f).sum≤(l.map g).sum
 | [],_=>Int.le_refl _
 | a :: r,h=>by
  have h1:=h a List.mem_cons_self
  have h2:=sum_le r fun d hd=>h d (List.mem_cons_of_mem _ hd)
  rw [List.map_cons,List.map_cons,List.sum_cons,List.sum_cons]
  omega
section
variable {F:Frm} {ds:List Wd} {xs ys:List (Int × Int)}
theorem wide_grows (B:BkOk F ds xs) (C:BkOk F ds ys) (le:PlsLe xs ys) {d:Wd} (hd:d ∈ ds) : wideW F xs d≤wideW F ys d:=by
 have wk:=B.wd d hd
 rw [B.len] at wk
 have:=said_grows B.fo B.po C.po le wk.s
 unfold wideW
 omega
theorem foot_grows (B:BkOk F ds xs) (C:BkOk F ds ys) (le:PlsLe xs ys) {d:Wd} (hd:d ∈ ds) : highW F xs d≤highW F ys d:=by
 have wk:=B.wd d hd
 rw [B.len] at wk
 unfold highW
 rw [high_eq,high_eq]
 refine high_grows (by simp) (fun k hk=>?_) (fun t ht=>?_)
 ·rw [List.length_map,List.length_map] at hk
  have hs:=wk.f (d.foot[k]) (List.getElem_mem hk)
  have:=said_grows B.fo B.po C.po le hs
  simp only [List.getD_eq_getElem?_getD,List.getElem?_map,List.getElem?_eq_getElem hk,Option.map_some,Option.getD_some]
  omega
 ·obtain ⟨u,_,rfl⟩:=List.mem_map.mp ht
  omega
theorem seg_mem {j i:Nat} {d:Wd} (h:d ∈ segD ds j i) : d ∈ ds:=List.mem_of_mem_drop (List.mem_of_mem_take h)
theorem wides_grow (B:BkOk F ds xs) (C:BkOk F ds ys) (le:PlsLe xs ys) (j i:Nat) : together (wides F ds xs j i)≤together (wides F ds ys j i):=by
 have:=sum_le (f:=wideW F xs) (g:=wideW F ys) (segD ds j i) fun d hd=>wide_grows B C le (seg_mem hd)
 unfold together wides
 rw [List.length_map,List.length_map]
 omega
theorem highs_grow (B:BkOk F ds xs) (C:BkOk F ds ys) (le:PlsLe xs ys) (j i:Nat) : (highs F ds xs j i).sum≤(highs F ds ys j i).sum:=
 sum_le (segD ds j i) fun d hd=>foot_grows B C le (seg_mem hd)
theorem all_mem {i:Nat} {x:Int × Int} : some x ∈ allTold F ds xs i↔(x=toldBehind F ds xs i∨toldKept ds xs i=some x∨toldNever F ds xs i=some x∨(∃ j,j < i∧toldWide F xs j (together (wides F ds xs j i))=some x)∨∃ j,j < i+1∧toldHigh F xs i j (highs F ds xs j i).sum=some x):=by
 unfold allTold
 simp only [List.mem_append,List.mem_cons,List.mem_map,List.mem_range,List.not_mem_nil,or_false,Option.some.injEq]
 constructor
 ·rintro (((h | h | h) | ⟨j,h1,h2⟩) | ⟨j,h1,h2⟩)
  ·exact .inl h
  ·exact .inr (.inl h.symm)
  ·exact .inr (.inr (.inl h.symm))
  ·exact .inr (.inr (.inr (.inl ⟨j,h1,h2⟩)))
  ·exact .inr (.inr (.inr (.inr ⟨j,h1,h2⟩)))
 ·rintro (h | h | h | ⟨j,h1,h2⟩ | ⟨j,h1,h2⟩)
  ·exact .inl (.inl (.inl h))
  ·exact .inl (.inl (.inr (.inl h.symm)))
  ·exact .inl (.inl (.inr (.inr h.symm)))
  ·exact .inl (.inr ⟨j,h1,h2⟩)
  ·exact .inr ⟨j,h1,h2⟩
theorem behind_told_grows (B:BkOk F ds xs) (C:BkOk F ds ys) (le:PlsLe xs ys) {i:Nat} (hi:i < ds.length) : sooner (toldBehind F ds ys i) (toldBehind F ds xs i)=false:=by
 have wk:=(B.d hi).2
 have rx:=(B.x hi).1
 have ry:=(C.x hi).1
 have l0:sooner (xAt ys i) (xAt xs i)=false:=le.2 i (by rw [← B.len]; exact hi)
 unfold toldBehind
 by_cases c:0 < i
 ·rw [if_pos c,if_pos c]
  have rx1:=(B.x (show i - 1 < ds.length by omega)).1
  have ry1:=(C.x (show i - 1 < ds.length by omega)).1
  have l1:sooner (xAt ys (i - 1)) (xAt xs (i - 1))=false:=le.2 (i - 1) (by rw [← B.len]; omega)
  have g:=behind_grows (f:=F.f) rx1 ry1 l1 wk.l0 (Int.le_refl _) wk.l1
  have bx:=behind_in (f:=F.f) rx1 wk.l0 wk.l1
  have byy:=behind_in (f:=F.f) ry1 wk.l0 wk.l1
  have li:∀ {a b:Int × Int},RowIn F.h a→RowIn F.h b→RowIn F.h (laterI a b):=fun {a b} ha hb=>by
   unfold laterI
   split
   ·exact hb
   ·exact ha
  refine first_grows (li rx bx) (li ry byy) ?_ (Int.le_refl _) wk.l1
  exact later_le (le_tr l0 (later_ge1 _ _)) (le_tr g (later_ge2 _ _))
 ·rw [if_neg c,if_neg c]
  exact first_grows rx ry l0 (Int.le_refl _) wk.l1
theorem raised_grows (B:BkOk F ds xs) (C:BkOk F ds ys) (le:PlsLe xs ys) {i:Nat} (hi:i < ds.length) : sooner (raisedI F ds ys i) (raisedI F ds xs i)=false:=by
 have l0:sooner (xAt ys i) (xAt xs i)=false:=le.2 i (by rw [← B.len]; exact hi)
 obtain ⟨g1,g2⟩:=best_ge (allTold F ds ys i) (xAt ys i)
 have gi:sooner (raisedI F ds ys i) (xAt ys i)=false:=g1
 have gm:∀ x,some x ∈ allTold F ds ys i→sooner (raisedI F ds ys i) x=false:=g2
 have hmem:dAt ds i ∈ ds:=List.mem_of_getElem? (B.d hi).1
 refine best_le _ _ _ (le_tr l0 gi) fun x hx=>?_
 rcases all_mem.mp hx with h | h | h | ⟨j,hj,h⟩ | ⟨j,hj,h⟩
 ·rw [h]
  exact le_tr (behind_told_grows B C le hi) (gm _ (all_mem.mpr (.inl rfl)))
 ·unfold toldKept at h
  split at h
  ·cases h
  ·rename_i c
   cases h
   have hi1:i+1 < ds.length:=by omega
   refine le_tr (y:=((xAt ys (i+1)).1,0)) ?_ (gm _ (all_mem.mpr (.inr (.inl ?_))))
   ·have l1:sooner (xAt ys (i+1)) (xAt xs (i+1))=false:=le.2 (i+1) (by rw [← B.len]; exact hi1)
    rw [not_sooner] at l1 ⊢
    simp only
    omega
   ·unfold toldKept
    rw [if_neg c]
 ·unfold toldNever at h
  split at h
  ·cases h
  ·rename_i c
   cases h
   refine gm _ (all_mem.mpr (.inr (.inr (.inl ?_))))
   unfold toldNever
   have w1:=wide_grows B C le hmem
   have w2:=foot_grows B C le hmem
   rw [if_neg (by omega)]
 ·unfold toldWide at h
  split at h
  ·cases h
  ·rename_i c
   cases h
   have w1:=wides_grow B C le j i
   have hj2:j < ds.length:=by omega
   have l1:sooner (xAt ys j) (xAt xs j)=false:=le.2 j (by rw [← B.len]; exact hj2)
   refine le_tr (behind_grows (f:=F.f) (B.x hj2).1 (C.x hj2).1 l1 (by decide) (Int.le_refl _) (by decide)) (gm _ (all_mem.mpr (.inr (.inr (.inr (.inl ⟨j,hj,?_⟩))))))
   unfold toldWide
   rw [if_neg (by omega)]
 ·unfold toldHigh at h
  split at h
  ·cases h
  ·rename_i c
   cases h
   have w1:=highs_grow B C le j i
   have hj2:j < ds.length:=by omega
   have l1:sooner (xAt ys j) (xAt xs j)=false:=le.2 j (by rw [← B.len]; exact hj2)
   have rx:=(C.x hi).1.r1
   by_cases c2:(xAt xs i).1 < (xAt ys i).1
   ·refine le_tr ?_ gi
    rw [not_sooner]
    simp only
    omega
   ·rw [not_sooner] at l0 l1
    have e1:(xAt ys i).1=(xAt xs i).1:=by omega
    refine gm _ (all_mem.mpr (.inr (.inr (.inr (.inr ⟨j,hj,?_⟩)))))
    unfold toldHigh
    rw [if_neg (by omega),e1]
end
def PlsB (h:Int) (xs:List (Int × Int)) : Prop:=∀ x ∈ xs,RowIn h x∧x.1 < 10 ^ 60 - 900
theorem PlsB.ok {h:Int} {xs:List (Int × Int)} (o:PlsB h xs) : PlsOk h xs:=fun x hx=>⟨(o x hx).1,by have:=(o x hx).2; omega⟩
theorem PlsB.get {h:Int} {xs:List (Int × Int)} (o:PlsB h xs) {k:Nat} (hk:k < xs.length) : RowIn h (xs.getD k (0,0))∧(xs.getD k (0,0)).1 < 10 ^ 60 - 900:=by
 rw [List.getD_eq_getElem?_getD,List.getElem?_eq_getElem hk]
 exact o _ (List.getElem_mem hk)
theorem PlsB.snoc {h:Int} {xs:List (Int × Int)} {x:Int × Int} (o:PlsB h xs) (i:RowIn h x) (b:x.1 < 10 ^ 60 - 900) : PlsB h (xs++[x]):=by
 intro y hy
 rcases List.mem_append.mp hy with hy | hy
 ·exact o y hy
 ·rw [List.mem_singleton.mp hy]
  exact ⟨i,b⟩
theorem PlsB.set {h:Int} {xs:List (Int × Int)} {x:Int × Int} (o:PlsB h xs) (k:Nat) (i:RowIn h x) (b:x.1 < 10 ^ 60 - 900) : PlsB h (xs.set k x):=by
 intro y hy
 rcases List.mem_or_eq_of_mem_set hy with hy | rfl
 ·exact o y hy
 ·exact ⟨i,b⟩
section
variable {prog:Program} {w:World} {A:Around} {R:Result→Shared→Prop} {I:Addr} {fp wr:List Addr} {n:Nat} {P:Nat→Value→Prop} {St:Nat→Heap→Prop}
end
def Cov (ps:List (Int × Int)) (x:Int × Int) : Prop:=∃ p ∈ ps,sooner p x=false
theorem Cov.app {ps:List (Int × Int)} {x:Int × Int} (h:Cov ps x) (y:Int × Int) : Cov (ps++[y]) x:=by
 obtain ⟨p,hp,e⟩:=h
 exact ⟨p,List.mem_append_left _ hp,e⟩
theorem Cov.last (ps:List (Int × Int)) (y:Int × Int) : Cov (ps++[y]) y:=⟨y,by simp,sooner_refl y⟩
def CovO (ps:List (Int × Int)) (o:Option (Int × Int)) : Prop:=∀ x,o=some x→Cov ps x
theorem CovO.app {ps:List (Int × Int)} {o:Option (Int × Int)} (h:CovO ps o) (y:Int × Int) : CovO (ps++[y]) o:=fun x e=>(h x e).app y
section
variable {F:Frm} {ds:List Wd} {xs:List (Int × Int)} {i:Nat}
def told3 (F:Frm) (ds:List Wd) (xs:List (Int × Int)) (i:Nat) : Nat→Option (Int × Int)
 | 0=>some (toldBehind F ds xs i)
 | 1=>toldKept ds xs i
 | _=>toldNever F ds xs i
structure Lat1 (F:Frm) (ds:List Wd) (xs:List (Int × Int)) (i n:Nat) (ps:List (Int × Int)) : Prop where
 und:∀ p ∈ ps,sooner (raisedI F ds xs i) p=false
 c0:Cov ps (xAt xs i)
 c:∀ k,k < n→CovO ps (told3 F ds xs i k)
structure Lat2 (F:Frm) (ds:List Wd) (xs:List (Int × Int)) (i t:Nat) (ps:List (Int × Int)) : Prop where
 base:Lat1 F ds xs i 3 ps
 cw:∀ j,i+1≤t+j→j < i→CovO ps (toldWide F xs j (together (wides F ds xs j i)))
 ch:∀ j,i+1≤t+j→j≤i→CovO ps (toldHigh F xs i j (highs F ds xs j i).sum)
theorem Lat1.start:Lat1 F ds xs i 0 [xAt xs i]:=by
 refine ⟨fun p hp=>?_,⟨_,List.mem_singleton.mpr rfl,sooner_refl _⟩,fun k hk=>absurd hk (Nat.not_lt_zero _)⟩
 rw [List.mem_singleton.mp hp]
 exact (best_ge _ _).1
theorem in_raised {x:Int × Int} (h:some x ∈ allTold F ds xs i) : sooner (raisedI F ds xs i) x=false:=(best_ge _ _).2 x h
theorem told3_mem {k:Nat} {x:Int × Int} (h:told3 F ds xs i k=some x) : some x ∈ allTold F ds xs i:=by
 rw [all_mem]
 match k,h with
 | 0,h=>exact .inl (Option.some.inj h).symm
 | 1,h=>exact .inr (.inl h)
 | k+2,h=>exact .inr (.inr (.inl h))
theorem Lat1.no {n:Nat} {ps:List (Int × Int)} (h:Lat1 F ds xs i n ps) (e:∀ x,told3 F ds xs i n=some x→sooner (xAt xs i) x=false) : Lat1 F ds xs i (n+1) ps:=by
 refine ⟨h.und,h.c0,fun k hk x ex=>?_⟩
 by_cases c:k=n
 ·subst c
  obtain ⟨p,hp,e0⟩:=h.c0
  exact ⟨p,hp,le_tr (e x ex) e0⟩
 ·exact h.c k (by omega) x ex
theorem Lat1.yes {n:Nat} {ps:List (Int × Int)} {y:Int × Int} (h:Lat1 F ds xs i n ps) (e:told3 F ds xs i n=some y) : Lat1 F ds xs i (n+1) (ps++[y]):=by
 refine ⟨fun p hp=>?_,h.c0.app y,fun k hk x ex=>?_⟩
 ·rcases List.mem_append.mp hp with hp | hp
  ·exact h.und p hp
  ·rw [List.mem_singleton.mp hp]
   exact in_raised (told3_mem e)
 ·by_cases c:k=n
  ·subst c
   rw [e] at ex
   cases ex
   exact Cov.last ps _
  ·exact (h.c k (by omega)).app y x ex
theorem Lat1.snoc {n:Nat} {ps:List (Int × Int)} {y:Int × Int} (h:Lat1 F ds xs i n ps) (hy:some y ∈ allTold F ds xs i) : Lat1 F ds xs i n (ps++[y]):=by
 refine ⟨fun p hp=>?_,h.c0.app y,fun k hk=>(h.c k hk).app y⟩
 rcases List.mem_append.mp hp with hp | hp
 ·exact h.und p hp
 ·rw [List.mem_singleton.mp hp]
  exact in_raised hy
theorem Lat2.start {ps:List (Int × Int)} (h:Lat1 F ds xs i 3 ps) : Lat2 F ds xs i 0 ps:=⟨h,fun j a b=>by omega,fun j a b=>by omega⟩
end
section
variable {F:Frm} {ds:List Wd} {xs ys:List (Int × Int)} {i:Nat}
def Fixd (F:Frm) (ds:List Wd) (xs:List (Int × Int)) : Prop:=∀ i,i < ds.length→raisedI F ds xs i=xAt xs i
def Pages (m:Int) (xs:List (Int × Int)) : Prop:=∀ x ∈ xs,x.1 < m
def LowX (F:Frm) (ds:List Wd) (xs:List (Int × Int)) : Prop:=∀ X,BkOk F ds X→Fixd F ds X→PlsLe xs X
theorem xAt_set {k:Nat} {y:Int × Int} (hi:i < xs.length) : xAt (xs.set i y) k=if k=i then y else xAt xs k:=by
 show (xs.set i y).getD k (0,0)=if k=i then y else xs.getD k (0,0)
 rw [List.getD_eq_getElem?_getD,List.getElem?_set]
 by_cases c:i=k
 ·subst c
  rw [if_pos rfl,if_pos rfl,if_pos hi]
  rfl
 ·rw [if_neg c,if_neg (Ne.symm c),← List.getD_eq_getElem?_getD]
theorem xAt_mem {k:Nat} (hk:k < xs.length) : xAt xs k ∈ xs:=by
 show xs.getD k (0,0) ∈ xs
 rw [List.getD_eq_getElem?_getD,List.getElem?_eq_getElem hk]
 exact List.getElem_mem hk
theorem BkOk.set (B:BkOk F ds xs) {y:Int × Int} (r:RowIn F.h y) (b:y.1 < 10 ^ 60) : BkOk F ds (xs.set i y):=⟨B.fo,by rw [List.length_set]; exact B.len,B.wd,B.po.set i r b,B.n⟩
theorem LowX.set (L:LowX F ds xs) (B:BkOk F ds xs) (hi:i < ds.length) : LowX F ds (xs.set i (raisedI F ds xs i)):=by
 intro X C fx
 have le:=L X C fx
 refine ⟨by rw [List.length_set]; exact le.1,fun k hk=>?_⟩
 rw [List.length_set] at hk
 have e:=xAt_set (k:=k) (y:=raisedI F ds xs i) (show i < xs.length by rw [← B.len]; exact hi)
 show sooner (xAt X k) (xAt (xs.set i (raisedI F ds xs i)) k)=false
 rw [e]
 by_cases c:k=i
 ·rw [if_pos c,c,← fx i hi]
  exact raised_grows B C le hi
 ·rw [if_neg c]
  exact le.2 k hk
theorem LowX.zero (e:xs.length=ds.length) (z:∀ x ∈ xs,x=(0,0)) : LowX F ds xs:=by
 intro X C _
 refine ⟨by rw [e,C.len],fun k hk=>?_⟩
 have h1:=z _ (xAt_mem hk)
 show sooner (xAt X k) (xAt xs k)=false
 rw [h1]
 have r:=(C.x (i:=k) (by omega)).1
 have p:=r.p1
 have q:=r.r1
 rw [not_sooner]
 simp only
 omega
def rank (h:Int) (x:Int × Int) : Int:=x.1 * h+x.2
theorem sum_bound {f:Int × Int→Int} {c:Int} : ∀ (xs:List (Int × Int)),(∀ x ∈ xs,f x≤c)→(xs.map f).sum≤xs.length * c
 | [],_=>by simp
 | x :: r,h=>by
  have h1:=h x List.mem_cons_self
  have h2:=sum_bound r fun y hy=>h y (List.mem_cons_of_mem _ hy)
  rw [List.map_cons,List.sum_cons,List.length_cons,Int.natCast_succ,Int.add_mul]
  omega
theorem rank_small {h m:Int} {x:Int × Int} (r:RowIn h x) (p:x.1 < m) : rank h x≤h * m:=by
 unfold rank
 have h0:0≤h:=by have:=r.r1; have:=r.r2; omega
 have:=Int.mul_le_mul_of_nonneg_right (show x.1+1≤m by omega) h0
 rw [Int.add_mul] at this
 have e:=Int.mul_comm m h
 have a:=r.r2
 omega
end
theorem PlsA.rep {K:PySem.W.Frag} {H:Hp} {a:Addr} {x:Int × Int} (n:Nat) (h:SqT K H a (pl x)) : PlsA K H (List.replicate n a) (List.replicate n x):=by
 refine ⟨by simp,fun i b y e e'=>?_⟩
 rw [List.getElem?_replicate] at e e'
 split at e
 ·rename_i c
  rw [if_pos c] at e'
  cases e
  cases e'
  exact h
 ·cases e
section
variable {X:Cx} {elts:List Expr} {k1:Nat} {tp:Pos}
end
end L2

set_option maxHeartbeats 4000000
namespace PySem
abbrev IsZ2 (h:Heap) (z TI TO:Addr) (f0 f1:Value) : Prop:=
 h.get? z=some { cls:=.type "zip",dict:=none,data:=.fields #[f0,f1,.bool false,.ref TI,.ref TO],slots:=#[] }
section
variable {prog:Program} {w:World} {A:Around} {E:Value→Shared→Prop} {s:Shared}
def ZAt (z TI TO:Addr) (i:Nat) (h:Heap) : Prop:=(i=0∧IsZip h z TI TO .none)∨(0 < i∧∃ (T:Addr) (b:Bool) (oT:Obj),IsZ2 h z TI TO (rawInt T) (.bool b)∧h.get? T=some oT∧T ∉ [z,TO]∧oT.cls = .type "tuple")
end
section
variable {prog:Program} {w:World} {A:Around} {R:Result→Shared→Prop}
theorem ZAt.keep {z TI TO S:Addr} {i:Nat} {h h':Heap} {acc:Array Value} {c:Nat} (hz:ZAt z TI TO i h) (nz:S≠z) (hS:h.get? S=some { cls:=.type "list",dict:=none,data:=.seq acc c,slots:=#[] }) (k:∀ b o,b≠S→h.get? b=some o→h'.get? b=some o) : ZAt z TI TO i h':=by
 rcases hz with ⟨i0,hz⟩ | ⟨i0,T,b,oT,hz,hT,nT,cT⟩
 ·exact .inl ⟨i0,k z _ (Ne.symm nz) hz⟩
 ·refine .inr ⟨i0,T,b,oT,k z _ (Ne.symm nz) hz,k T _ (fun e=>?_) hT,nT,cT⟩
  rw [e,hS] at hT
  cases hT
  simp at cT
end
namespace F
end F
section
variable {prog:Program} {w:World} {A:Around} {s:Shared} {R:Result→Shared→Prop}
end
section
variable {prog:Program} {w:World} {A:Around} {E:Value→Shared→Prop} {s:Shared}
end
end PySem

set_option maxHeartbeats 4000000
namespace L2
open PySem PySem.Spec PyProof.Rows Tl
def trkP (H:Hp) (N:Nat) : List (V × V)→Hp
 | []=>H
 | p :: r=>trkP (upd H N (.tup [p.1,p.2])) (N+1) r
theorem Inv.tups {X:Cx} {pins:List (Addr × Obj)} {σ:St} {s:Shared} : ∀ {ps:List (V × V)} {H:Hp} {N:Nat},Inv X pins σ H s→(∀ a,N≤a→H a=none)→X.s₀.heap.objs.size≤N→X.env.locals < N→(∀ x c,X.env.cells.lookup x=some c→c < N)→(∀ p ∈ X.pn++pins,p.1 < N) →
  (∀ (j:Nat) p,ps[j]? = some p→∃ u v,RelV p.1 u∧RelV p.2 v∧IsPair s.heap (N+j) u v)→Inv X pins σ (trkP H N ps) s
 | [],H,N,I,_,_,_,_,_,_=>I
 | p :: r,H,N,I,hf,h0,h1,h2,h3,ok=>by
  obtain ⟨u,v,ru,rv,hp⟩:=ok 0 p rfl
  have I1:Inv X pins σ (upd H N (.tup [p.1,p.2])) s:=I.track (hf N (Nat.le_refl _)) h0 (Nat.ne_of_gt h1) (fun x c q=>Nat.ne_of_lt (h2 x c q)) (fun p hp=>Nat.ne_of_lt (h3 p hp)) ⟨by show 2≤sizeLine; decide,[u,v],.cons ru (.cons rv .nil),⟨_,hp,rfl,_,rfl⟩⟩
  refine Inv.tups (ps:=r) (N:=N+1) I1 (fun a ha=>?_) (Nat.le_succ_of_le h0) (Nat.lt_succ_of_lt h1) (fun x c q=>Nat.lt_succ_of_lt (h2 x c q)) (fun p hp=>Nat.lt_succ_of_lt (h3 p hp)) (fun j q e=>?_)
  ·rw [upd_ne (Nat.ne_of_gt ha)]
   exact hf a (Nat.le_of_succ_le ha)
  ·have:=ok (j+1) q (by simpa using e)
   rw [show N+(j+1)=N+1+j by rw [Nat.add_assoc,Nat.add_comm 1]] at this
   exact this
structure FunV (K:PySem.W.Frag) (x qual:Str) (st:Stmt) (f:Addr) (fd:FuncData) : Prop where
 ex:∃ (oc:Value) (od:Option Addr) (dV kV doc pm:Value) (an:Option Addr) (cdv ct:Value) (osl:Array (Option Value)),fd=PySem.W.fnOf x qual (defArgs st) (defBody st) (defScope st) dV kV doc pm an cdv ct∧K.lookup f=some ⟨oc,od,.func fd,osl⟩∧PySem.W.codeIn K cdv qual=true
 kp:PySem.W.keepIn K (.ref f)=true
theorem FunV.ok {P:Program} {w:World} {K:PySem.W.Frag} {mg:Str→Option Value} {base:Heap} {x qual:Str} {st:Stmt} {f:Addr} {fd:FuncData} {N ps:List Str} {k:Nat} {sp:Sp} (F:FunV K x qual st f fd) (S:FnScope N ps (defScope st)) (len:∀ vs H Q E,sp vs H Q E→vs.length=ps.length) (hbody:∀ (cdv:Value) (A:Around) (outer:List Env) (s:Shared) (H:Hp) (vs:List V) (Q:VK) (E:XK),Room k (A.deeper (envOfC qual (defScope st) s.heap.objs.size f cdv))→sp vs H Q E →
   ∃ t,PSs (cxOf CX0 P w K mg base N qual (defScope st) f cdv A outer s H E).nox (defBody st) t∧t { nx:=fun _ H'=>Q .non H',rt:=Q } (start N vs) H) : FnOk P w K mg base CX0 (k+1) f fd ps sp:=by
 obtain ⟨oc,od,dV,kV,doc,pm,an,cdv,ct,osl,rfl,lk,hcd⟩:=F.ex
 exact fn_of lk hcd S len fun A outer s H vs Q E hr hsp=>let ⟨t,h,q⟩:=hbody cdv A outer s H vs Q E hr hsp; ⟨t,h.nox,q⟩
section
variable {X:Cx} {x:Str} {st:Stmt} {ps:List Str} {f:Addr} {fd:FuncData} {dv:Value} {k:Nat} {sp:Sp} {e:Expr} {es:List Expr} {t:TA} {p pos:Pos}
end
def sizesL (F:Frm) (ds:List Wd) (xs:List (Int × Int)) : List (Int × Int):=ds.map fun d=>(wideW F xs d,highW F xs d)
def LeZ (zs ys:List (Int × Int)) : Prop:=zs.length=ys.length∧∀ k,k < zs.length→(xAt zs k).1≤(xAt ys k).1∧(xAt zs k).2≤(xAt ys k).2
section
variable {F:Frm} {ds:List Wd} {xs ys zs:List (Int × Int)} {i j:Nat}
theorem chain_le (h:∀ k,0 < k→k≤i→sooner (xAt xs k) (xAt xs (k - 1))=false) : ∀ (d n:Nat),n+d≤i→sooner (xAt xs (n+d)) (xAt xs n)=false
 | 0,n,_=>sooner_refl _
 | d+1,n,e=>le_tr (chain_le h d n (by omega)) (h (n+(d+1)) (by omega) e)
def LowF (F:Frm) (ds:List Wd) (x0 xs:List (Int × Int)) : Prop:=∀ X,BkOk F ds X→Fixd F ds X→PlsLe x0 X→PlsLe xs X
theorem LowF.set {x0:List (Int × Int)} {y:Int × Int} (L:LowF F ds x0 xs) (B:BkOk F ds xs) (hi:i < ds.length) (hy:some y ∈ allTold F ds xs i) : LowF F ds x0 (xs.set i y):=by
 intro X C fx l0
 have le:=L X C fx l0
 refine ⟨by rw [List.length_set]; exact le.1,fun k hk=>?_⟩
 rw [List.length_set] at hk
 have e:=xAt_set (k:=k) (y:=y) (show i < xs.length by rw [← B.len]; exact hi)
 show sooner (xAt X k) (xAt (xs.set i y) k)=false
 rw [e]
 by_cases c:k=i
 ·rw [if_pos c,c]
  have g:=raised_grows B C le hi
  rw [fx i hi] at g
  exact le_tr ((best_ge _ _).2 y hy) g
 ·rw [if_neg c]
  exact le.2 k hk
end
theorem LeZ.trans {a b c:List (Int × Int)} (h:LeZ a b) (g:LeZ b c) : LeZ a c:=⟨h.1.trans g.1,fun k hk=>by
 have h1:=h.2 k hk
 have h2:=g.2 k (by rw [← h.1]; exact hk)
 omega⟩
theorem PlsLe.trans {a b c:List (Int × Int)} (h:PlsLe a b) (g:PlsLe b c) : PlsLe a c:=⟨h.1.trans g.1,fun k hk=>le_tr (h.2 k hk) (g.2 k (by rw [← h.1]; exact hk))⟩
theorem PlsLe.refl (a:List (Int × Int)) : PlsLe a a:=⟨rfl,fun k _=>sooner_refl _⟩
structure RunOk (F:Frm) (ds:List Wd) (x0 zs xs:List (Int × Int)) (np:Nat) : Prop where
 B:BkOk F ds xs
 low:LowF F ds x0 xs
 le0:PlsLe x0 xs
 lz:LeZ zs (sizesL F ds xs)
 pg:∀ k,k < ds.length→(xAt xs k).1≤F.m+2
 ps:(np:Int)≤(xs.map (rank F.h)).sum
section
variable {F:Frm} {ds:List Wd} {x0 xs zs:List (Int × Int)} {np i:Nat}
theorem RunOk.sum_le (R:RunOk F ds x0 zs xs np) : (xs.map (rank F.h)).sum≤1512000:=by
 have h1:=R.B.fo.h1
 have h2:=R.B.fo.h2
 have m1:=R.B.fo.m1
 have m2:=R.B.fo.m2
 have n:=R.B.n
 have b:=sum_bound (f:=rank F.h) (c:=3780) xs (fun x hx=>by
  obtain ⟨k,hk,rfl⟩:=List.mem_iff_getElem.mp hx
  have hk2:k < ds.length:=by rw [R.B.len]; exact hk
  have p:=R.pg k hk2
  have r:=(R.B.x hk2).1
  have e:xAt xs k=xs[k]:=by
   show xs.getD k (0,0)=_
   rw [List.getD_eq_getElem?_getD,List.getElem?_eq_getElem hk]
   rfl
  rw [e] at p r
  have s:=rank_small (m:=F.m+3) r (by omega)
  have t:F.h * (F.m+3)≤60 * 63:=Int.mul_le_mul h2 (by omega) (by omega) (by decide)
  omega)
 have l:(xs.length:Int)≤400:=by rw [← R.B.len]; omega
 have t:(xs.length:Int) * 3780≤400 * 3780:=Int.mul_le_mul_of_nonneg_right l (by decide)
 omega
end
theorem WdsA.set {K:PySem.W.Frag} {H:Hp} {as:List Addr} {ds:List Wd} {a:Addr} {d:Wd} (h:WdsA K H as ds) (k:Nat) (hx:WdAt K H a d) : WdsA K H (as.set k a) (ds.set k d):=by
 refine ⟨by simp [h.1],fun i b y e e'=>?_⟩
 rw [List.getElem?_set] at e e'
 by_cases c:k=i
 ·rw [if_pos c] at e e'
  split at e
  ·split at e'
   ·cases e; cases e'; exact hx
   ·cases e'
  ·cases e
 ·rw [if_neg c] at e e'
  exact h.2 i b y e e'
theorem SaysA.rep {K:PySem.W.Frag} {H:Hp} {a:Addr} {s:Say} (n:Nat) (h:SqT K H a (sayV s)) : SaysA K H (List.replicate n a) (List.replicate n s):=by
 refine ⟨by simp,fun i b y e e'=>?_⟩
 rw [List.getElem?_replicate] at e e'
 split at e
 ·rename_i c
  rw [if_pos c] at e'
  cases e
  cases e'
  exact h
 ·cases e
structure SpotsOk (h f:Int) (xs:List (Int × Int)) (ls:List Int) : Prop where
 len:xs.length=ls.length
 l:∀ i,i < xs.length→0≤ls.getD i 0∧ls.getD i 0≤4
 r:∀ i,i < xs.length→RowIn h (xAt xs i)
 ff:∀ i,i < xs.length→firstFrom f (xAt xs i) (ls.getD i 0)=xAt xs i
 bh:∀ i,0 < i→i < xs.length→sooner (xAt xs i) (behindI h f (xAt xs (i - 1)) (ls.getD i 0))=false
theorem SpotsOk.nil {h f:Int} : SpotsOk h f [] []:=⟨rfl,fun i hi=>absurd hi (Nat.not_lt_zero _),fun i hi=>absurd hi (Nat.not_lt_zero _),fun i hi=>absurd hi (Nat.not_lt_zero _),fun i _ hi=>absurd hi (Nat.not_lt_zero _)⟩
theorem getD_snoc {α:Type} (xs:List α) (x d:α) (k:Nat) : (xs++[x]).getD k d=if k < xs.length then xs.getD k d else if k=xs.length then x else d:=by
 rw [getD_app]
 split
 ·rfl
 ·rename_i c
  split
  ·rename_i e
   rw [e,Nat.sub_self]
   rfl
  ·rename_i e
   obtain ⟨m,hm⟩ : ∃ m,k - xs.length=m+1:=⟨k - xs.length - 1,by omega⟩
   rw [hm]
   rfl
theorem SpotsOk.snoc {h f l:Int} {xs:List (Int × Int)} {ls:List Int} {x:Int × Int} (S:SpotsOk h f xs ls) (l0:0≤l) (l1:l≤4) (r:RowIn h x) (ff:firstFrom f x l=x) (bh:0 < xs.length→sooner x (behindI h f (xAt xs (xs.length - 1)) l)=false) : SpotsOk h f (xs++[x]) (ls++[l]):=by
 have ex:∀ k,xAt (xs++[x]) k=if k < xs.length then xAt xs k else if k=xs.length then x else (0,0):=fun k=>getD_snoc xs x (0,0) k
 have el:∀ k,(ls++[l]).getD k 0=if k < xs.length then ls.getD k 0 else if k=xs.length then l else 0:=fun k=>by rw [getD_snoc,S.len]
 have cs:∀ i,i < (xs++[x]).length→i < xs.length∨i=xs.length:=fun i hi=>by
  rw [List.length_append] at hi
  simp at hi
  omega
 refine ⟨by simp [S.len],fun i hi=>?_,fun i hi=>?_,fun i hi=>?_,fun i i0 hi=>?_⟩
 ·rw [el]
  rcases cs i hi with c | c
  ·rw [if_pos c]; exact S.l i c
  ·rw [if_neg (by omega),if_pos c]; exact ⟨l0,l1⟩
 ·rw [ex]
  rcases cs i hi with c | c
  ·rw [if_pos c]; exact S.r i c
  ·rw [if_neg (by omega),if_pos c]; exact r
 ·rw [ex,el]
  rcases cs i hi with c | c
  ·rw [if_pos c,if_pos c]; exact S.ff i c
  ·rw [if_neg (by omega),if_pos c,if_neg (by omega),if_pos c]; exact ff
 ·rcases cs i hi with c | c
  ·have e1:xAt (xs++[x]) i=xAt xs i:=by rw [ex,if_pos c]
   have e2:(ls++[l]).getD i 0=ls.getD i 0:=by rw [el,if_pos c]
   have e3:xAt (xs++[x]) (i - 1)=xAt xs (i - 1):=by rw [ex,if_pos (by omega)]
   rw [e1,e2,e3]
   exact S.bh i i0 c
  ·have e1:xAt (xs++[x]) i=x:=by rw [ex,if_neg (by omega),if_pos c]
   have e2:(ls++[l]).getD i 0=l:=by rw [el,if_neg (by omega),if_pos c]
   have e3:xAt (xs++[x]) (i - 1)=xAt xs (i - 1):=by rw [ex,if_pos (by omega)]
   rw [e1,e2,e3,c]
   exact bh (by omega)
theorem SpotsOk.mono {h f:Int} {xs:List (Int × Int)} {ls:List Int} (S:SpotsOk h f xs ls) : ∀ k,0 < k→k < xs.length→sooner (xAt xs k) (xAt xs (k - 1))=false:=fun k k0 hk =>
 le_tr (behind_self (f:=f) (S.r (k - 1) (by omega)) (S.l k hk).1 (S.l k hk).2) (S.bh k k0 hk)
theorem SpotsOk.le {h f:Int} {xs:List (Int × Int)} {ls:List Int} (S:SpotsOk h f xs ls) {j i:Nat} (hj:j≤i) (hi:i < xs.length) : sooner (xAt xs i) (xAt xs j)=false:=by
 have:=chain_le (i:=i) (xs:=xs) (fun k k0 k1=>S.mono k k0 (by omega)) (i - j) j (by omega)
 rwa [show j+(i - j)=i by omega] at this
section
variable {F:Frm} {ds:List Wd} {xs:List (Int × Int)} {i j:Nat}
end
def StsA (K:PySem.W.Frag) (H:Hp) (bs:List Addr) : Prop:=∀ b ∈ bs,∃ xs:List Int,SqL K H b (xs.map V.int)∧StrOk 18 xs
theorem StsA.same {K:PySem.W.Frag} {H H':Hp} {bs:List Addr} (s:Same H H') (h:StsA K H bs) : StsA K H' bs:=fun b hb=>by
 obtain ⟨xs,h1,h2⟩:=h b hb
 exact ⟨xs,s.seq h1,h2⟩
theorem xAt_of {xs:List (Int × Int)} {x:Int × Int} {k:Nat} (e:xs[k]? = some x) : xAt xs k=x:=by
 show xs.getD k (0,0)=x
 rw [List.getD_eq_getElem?_getD,e]
 rfl
section
variable {room:Int} {brk:Nat→Bool}
end
section
variable {F:Frm} {ds:List Wd} {L room:Int} {brk:Nat→Bool}
end
def er1 (H:Hp) (wa:Addr) : Hp:=fun b=>if b=wa then none else H b
theorem er1_same (H:Hp) (wa:Addr) : Same (er1 H wa) H:=fun b o h=>by
 unfold er1 at h
 split at h
 ·cases h
 ·exact h
theorem er1_at {H:Hp} {wa b:Addr} (n:b≠wa) : er1 H wa b=H b:=by
 unfold er1
 rw [if_neg n]
theorem er1_mono {H H':Hp} {wa:Addr} (s:Same H H') : Same (er1 H wa) (er1 H' wa):=fun b o h=>by
 unfold er1 at h ⊢
 split at h
 ·cases h
 ·rename_i c
  rw [if_neg c]
  exact s b o h
theorem er1_put {H:Hp} {wa:Addr} {o:HO} : er1 (upd H wa o) wa=er1 H wa:=by
 funext b
 unfold er1
 by_cases c:b=wa
 ·rw [if_pos c,if_pos c]
 ·rw [if_neg c,if_neg c,upd_ne c]
section
variable {F:Frm} {ds:List Wd} {xs:List (Int × Int)} {i j:Nat}
end
theorem PlsA.take {K:PySem.W.Frag} {H:Hp} {as:List Addr} {xs:List (Int × Int)} (h:PlsA K H as xs) (n:Nat) : PlsA K H (as.take n) (xs.take n):=by
 refine ⟨by simp [h.1],fun i a x e e'=>?_⟩
 rw [List.getElem?_take] at e e'
 split at e
 ·rename_i c
  rw [if_pos c] at e'
  exact h.2 i a x e e'
 ·cases e
theorem PlsA.drop {K:PySem.W.Frag} {H:Hp} {as:List Addr} {xs:List (Int × Int)} (h:PlsA K H as xs) (n:Nat) : PlsA K H (as.drop n) (xs.drop n):=by
 refine ⟨by simp [h.1],fun i a x e e'=>?_⟩
 rw [List.getElem?_drop] at e e'
 exact h.2 _ a x e e'
theorem PlsA.app {K:PySem.W.Frag} {H:Hp} {as bs:List Addr} {xs ys:List (Int × Int)} (h:PlsA K H as xs) (g:PlsA K H bs ys) : PlsA K H (as++bs) (xs++ys):=by
 refine ⟨by simp [h.1,g.1],fun i a x e e'=>?_⟩
 by_cases c:i < as.length
 ·rw [List.getElem?_append_left c] at e
  rw [List.getElem?_append_left (by rw [← h.1]; exact c)] at e'
  exact h.2 i a x e e'
 ·rw [List.getElem?_append_right (by omega)] at e
  rw [List.getElem?_append_right (by rw [← h.1]; omega),← h.1] at e'
  exact g.2 _ a x e e'
section
variable {F:Frm} {ds es:List Wd} {xs ys:List (Int × Int)} {a r:Nat}
end
structure Stg (d e:Wd) : Prop where
 lead:d.lead≤e.lead
 kept:d.kept=true→e.kept=true
 say:e.say=d.say∨∃ t u,d.say = .text t∧e.say = .text u∧t.length≤u.length
 foot:e.foot=d.foot∨∃ s,e.foot=d.foot++[s]
theorem Stg.refl (d:Wd) : Stg d d:=⟨Int.le_refl _,fun h=>h,.inl rfl,.inl rfl⟩
section
variable {a:Nat} {ds rs:List Wd}
end
theorem WdsA.app {K:PySem.W.Frag} {H:Hp} {as bs:List Addr} {ds es:List Wd} (h:WdsA K H as ds) (g:WdsA K H bs es) : WdsA K H (as++bs) (ds++es):=by
 refine ⟨by simp [h.1,g.1],fun i a x e e'=>?_⟩
 by_cases c:i < as.length
 ·rw [List.getElem?_append_left c] at e
  rw [List.getElem?_append_left (by rw [← h.1]; exact c)] at e'
  exact h.2 i a x e e'
 ·rw [List.getElem?_append_right (by omega)] at e
  rw [List.getElem?_append_right (by rw [← h.1]; omega),← h.1] at e'
  exact g.2 _ a x e e'
section
variable {F:Frm} {ds:List Wd} {xs:List (Int × Int)} {k:Nat}
end
structure Ris (b:Int) (xs:List (Int × Int)) : Prop where
 row:∀ k,k < xs.length→RowIn b (xAt xs k)
 pg:∀ k,k < xs.length→(xAt xs k).1≤(k:Int)+2
 up:∀ k,0 < k→k < xs.length→sooner (xAt xs k) (xAt xs (k - 1))=false
structure Szd (F:Frm) (ds:List Wd) (xs:List (Int × Int)) (n:Nat) (W T:Int) : Prop where
 w1:1≤W
 w2:W≤62+63 * (n:Int)
 wide:∀ k,k < n→∀ j,j≤k→(∀ n,j≤n→n≤k→xAt xs n=xAt xs k)→together (wides F ds xs j k)≤W
 foot:∀ k,k < n→∀ s ∈ (dAt ds k).foot,((saidL F.h F.f xs s).length:Int)≤W
 high:∀ k,k < n→∀ j,j≤k→(∀ n,j≤n→n≤k→(xAt xs n).1=(xAt xs k).1)→(xAt xs k).2+1+(highs F ds xs j k).sum≤T
 top:T=1∨∃ k j,k < n∧j≤k∧T=(xAt xs k).2+1+(highs F ds xs j k).sum
section
variable {F:Frm} {ds es:List Wd} {xs:List (Int × Int)} {k j:Nat} {h h' f w:Int}
theorem said_high (h1:h≤h') (po:PlsOk h xs) {s:Say} (so:SayOk xs.length s) : (saidL h f xs s).length≤(saidL h' f xs s).length:=by
 cases s with
 | text l=>exact Nat.le_refl _
 | page k=>exact Nat.le_refl _
 | row k =>
  have p:=(po.get (show k < xs.length from so)).1.p1
  refine figs_mono _ _ ?_
  show ((xs.getD k (0,0)).1 * h+(xs.getD k (0,0)).2+1).toNat≤((xs.getD k (0,0)).1 * h'+(xs.getD k (0,0)).2+1).toNat
  have:=Int.mul_le_mul_of_nonneg_left h1 p
  omega
theorem high_low {ts us:List Int} (hh:h≤h') (e:ts.length=us.length) (hk:∀ k,k < ts.length→ts.getD k 0≤us.getD k 0) (h0:∀ t ∈ ts,0≤t) (no:us.any (fun t=>decide (w < t))=false) : highN w h ts≤highN w h' us:=by
 have no2:ts.any (fun t=>decide (w < t))=false:=by
  cases c:ts.any (fun t=>decide (w < t)) with
  | false=>rfl
  | true=>rw [any_grows e hk c] at no; cases no
 have g:=fold_grows (w:=w) e hk h0 (lexLe.refl (0,0)) (Int.le_refl 0) (Int.le_refl 0) (Int.le_refl 0)
 have n1:(numW w ts).1≤(numW w us).1:=by
  rcases g with z | z
  ·exact Int.le_of_lt z
  ·exact Int.le_of_eq z.1
 unfold highN
 rw [no,no2,if_neg (show ¬ (false=true) by decide),if_neg (show ¬ (false=true) by decide)]
 split <;> split <;> omega
theorem num_count (w:Int) (ts:List Int) : (numW w ts).1≤ts.length:=by
 refine snoc_ind (P:=fun ts=>(numW w ts).1≤(ts.length:Int)) (Int.le_refl 0) (fun l t ih=>?_) ts
 rw [numW_snoc,List.length_append]
 unfold numStep
 split
 ·show (numW w l).1≤_
  simp
  omega
 ·show (numW w l).1+1≤_
  simp
  omega
theorem high_count {ts:List Int} (no:ts.any (fun t=>decide (w < t))=false) : highN w h ts≤ts.length:=by
 have:=num_count w ts
 unfold highN
 rw [no,if_neg (show ¬ (false=true) by decide)]
 split <;> omega
theorem any_no {ts:List Int} (h:∀ t ∈ ts,t≤w) : ts.any (fun t=>decide (w < t))=false:=by
 rw [List.any_eq_false]
 intro t ht
 have:=h t ht
 simp
 omega
theorem seg_sum {α:Type} {f:α→Int} : ∀ (l:List α),(∀ d ∈ l,0≤f d)→0≤(l.map f).sum
 | [],_=>Int.le_refl 0
 | a :: l,h=>by
  have:=seg_sum l (fun d hd=>h d (List.mem_cons_of_mem _ hd))
  have:=h a List.mem_cons_self
  show 0≤f a+(l.map f).sum
  omega
theorem sum_take {α:Type} {f:α→Int} : ∀ (l:List α) (n:Nat),(∀ d ∈ l,0≤f d)→((l.take n).map f).sum≤(l.map f).sum
 | [],n,_=>by simp
 | a :: l,0,h=>by
  have:=seg_sum (f:=f) (a :: l) h
  simpa using this
 | a :: l,n+1,h=>by
  have:=sum_take l n (fun d hd=>h d (List.mem_cons_of_mem _ hd))
  show f a+((l.take n).map f).sum≤f a+(l.map f).sum
  omega
theorem sum_drop {α:Type} {f:α→Int} : ∀ (l:List α) (n:Nat),(∀ d ∈ l,0≤f d)→((l.drop n).map f).sum≤(l.map f).sum
 | [],n,_=>by simp
 | a :: l,0,h=>Int.le_refl _
 | a :: l,n+1,h=>by
  have:=sum_drop l n (fun d hd=>h d (List.mem_cons_of_mem _ hd))
  have h0:=h a List.mem_cons_self
  show ((l.drop n).map f).sum≤f a+(l.map f).sum
  omega
def feetN (ds:List Wd) : Int:=(ds.map fun d=>(d.foot.length:Int)).sum
theorem feet_nonneg (ds:List Wd) : 0≤feetN ds:=seg_sum ds fun d _=>by omega
theorem szd_low {W T b:Int} (S:Szd F ds xs ds.length W T) (R:Ris b xs) (l:ds.length=xs.length) (b1:1≤b) (hw:∀ k,k < ds.length→∀ s ∈ (dAt ds k).foot,((saidL F.h F.f xs s).length:Int)≤F.w) : T≤b+feetN ds:=by
 have f0:=feet_nonneg ds
 rcases S.top with z | ⟨k,j,hk,hj,z⟩
 ·omega
 ·have r:=(R.row k (by omega)).r2
  have hm:∀ d ∈ ds,highW F xs d≤(d.foot.length:Int):=fun d hd=>by
   obtain ⟨i,hi,rfl⟩:=List.mem_iff_getElem.mp hd
   have e:dAt ds i=ds[i]:=by
    show ds.getD i wd0=_
    rw [List.getD_eq_getElem?_getD,List.getElem?_eq_getElem hi]
    rfl
   have h1:=hw i hi
   rw [e] at h1
   unfold highW
   rw [high_eq]
   have:=high_count (w:=F.w) (h:=F.h) (ts:=(ds[i].foot.map (saidL F.h F.f xs)).map fun t=>(t.length:Int)) (any_no fun t ht=>by
    obtain ⟨u,hu,rfl⟩:=List.mem_map.mp ht
    obtain ⟨s,hs,rfl⟩:=List.mem_map.mp hu
    exact h1 s hs)
   simpa using this
  have s1:(highs F ds xs j k).sum≤feetN ds:=by
   unfold highs segD feetN
   refine Int.le_trans (sum_le _ fun d hd=>hm d (List.mem_of_mem_drop (List.mem_of_mem_take hd))) ?_
   exact Int.le_trans (sum_take (f:=fun d:Wd=>(d.foot.length:Int)) _ _ fun d _=>by omega) (sum_drop (f:=fun d:Wd=>(d.foot.length:Int)) _ _ fun d _=>by omega)
  omega
theorem ris_pls {b:Int} (R:Ris b xs) (hb:b≤h) (hn:xs.length≤400) : PlsOk h xs:=fun x hx=>by
 obtain ⟨k,hk,rfl⟩:=List.mem_iff_getElem.mp hx
 have e:xAt xs k=xs[k]:=xAt_of (List.getElem?_eq_getElem hk)
 have r:=R.row k hk
 have p:=R.pg k hk
 rw [e] at r p
 exact ⟨⟨r.p1,r.r1,Int.lt_of_lt_of_le r.r2 hb⟩,by omega⟩
theorem fit_wide {F1:Frm} {W T:Int} (S:Szd F1 ds xs ds.length W T) (hf:F.f=F1.f) (hh:F.h≤F1.h) (po:PlsOk F.h xs) (wd:∀ d ∈ ds,WdOk xs.length d) (hw:W≤F.w) (hk:k < ds.length) : ∀ j,j≤k→(∀ n,j≤n→n≤k→xAt xs n=xAt xs k)→together (wides F ds xs j k)≤F.w:=fun j hj hn=>by
 refine Int.le_trans ?_ (Int.le_trans (S.wide k hk j hj hn) hw)
 have s1:((segD ds j k).map (wideW F xs)).sum≤((segD ds j k).map (wideW F1 xs)).sum:=sum_le _ fun d hd=>by
  have:=said_high (f:=F.f) hh po (wd d (List.mem_of_mem_drop (List.mem_of_mem_take hd))).s
  unfold wideW
  rw [← hf]
  omega
 unfold together wides
 rw [List.length_map,List.length_map]
 omega
theorem foot_low {F1:Frm} {d:Wd} (hf:F.f=F1.f) (hh:F.h≤F1.h) (hw:F.w=F1.w) (po:PlsOk F.h xs) (wd:WdOk xs.length d) (no:∀ s ∈ d.foot,((saidL F1.h F1.f xs s).length:Int)≤F1.w) : highW F xs d≤highW F1 xs d:=by
 unfold highW
 rw [high_eq,high_eq,hw]
 refine high_low hh (by simp) (fun k hk=>?_) (fun t ht=>?_) (any_no fun t ht=>?_)
 ·simp only [List.length_map] at hk
  rw [List.getD_eq_getElem?_getD,List.getElem?_map,List.getElem?_map,List.getElem?_eq_getElem hk,List.getD_eq_getElem?_getD,List.getElem?_map,List.getElem?_map,List.getElem?_eq_getElem hk]
  have:=said_high (f:=F.f) hh po (wd.f _ (List.getElem_mem hk))
  show ((saidL F.h F.f xs d.foot[k]).length:Int)≤((saidL F1.h F1.f xs d.foot[k]).length:Int)
  rw [← hf]
  omega
 ·obtain ⟨u,_,rfl⟩:=List.mem_map.mp ht
  omega
 ·obtain ⟨u,hu,rfl⟩:=List.mem_map.mp ht
  obtain ⟨s,hs,rfl⟩:=List.mem_map.mp hu
  exact no s hs
theorem fit_high {F2:Frm} {W T:Int} (S:Szd F2 ds xs ds.length W T) (hf:F.f=F2.f) (hh:F.h≤F2.h) (hw:F.w=F2.w) (po:PlsOk F.h xs) (wd:∀ d ∈ ds,WdOk xs.length d) (no:∀ d ∈ ds,∀ s ∈ d.foot,((saidL F2.h F2.f xs s).length:Int)≤F2.w) (ht:T≤F.h) (hk:k < ds.length) : ∀ j,j≤k→(∀ n,j≤n→n≤k→(xAt xs n).1=(xAt xs k).1)→(xAt xs k).2+1+(highs F ds xs j k).sum≤F.h:=fun j hj hn=>by
 have s:=S.high k hk j hj hn
 have s1:(highs F ds xs j k).sum≤(highs F2 ds xs j k).sum:=by
  unfold highs
  refine sum_le _ fun d hd=>?_
  have hm:=List.mem_of_mem_drop (List.mem_of_mem_take hd)
  exact foot_low hf hh hw po (wd d hm) (no d hm)
 omega
structure Fits (F:Frm) (ds:List Wd) (xs:List (Int × Int)) : Prop where
 len:ds.length=xs.length
 wide:∀ k,k < ds.length→∀ j,j≤k→(∀ n,j≤n→n≤k→xAt xs n=xAt xs k)→together (wides F ds xs j k)≤F.w
 high:∀ k,k < ds.length→∀ j,j≤k→(∀ n,j≤n→n≤k→(xAt xs n).1=(xAt xs k).1)→(xAt xs k).2+1+(highs F ds xs j k).sum≤F.h
 pg:Pages F.m xs
 po:PlsOk F.h xs
theorem Fits.of {F1 F2:Frm} {W1 T1 W2 T2 b:Int} (S1:Szd F1 ds xs ds.length W1 T1) (S2:Szd F2 ds xs ds.length W2 T2) (R:Ris b xs) (l:ds.length=xs.length) (n4:ds.length≤400) (b1:1≤b) (wd:∀ d ∈ ds,WdOk ds.length d)
  (f1:F.f=F1.f) (f2:F.f=F2.f) (h1:F1.h=b+feetN ds) (h2:F2.h=F1.h) (w2:F.w=F2.w) (ww:W1≤F.w) (hb:b≤F.h) (hm:F.h≤F1.h) (ht:(if T2 < F1.h then T2 else F1.h)≤F.h) (pg:Pages F.m xs) : Fits F ds xs:=by
 have po:=ris_pls (h:=F.h) R hb (by omega)
 have wdx:∀ d ∈ ds,WdOk xs.length d:=fun d hd=>by have:=wd d hd; rwa [l] at this
 have no:∀ k,k < ds.length→∀ s ∈ (dAt ds k).foot,((saidL F2.h F2.f xs s).length:Int)≤F2.w:=fun k hk s hs=>by
  have:=S1.foot k hk s hs
  rw [h2,← f2,f1,← w2]
  omega
 have no2:∀ d ∈ ds,∀ s ∈ d.foot,((saidL F2.h F2.f xs s).length:Int)≤F2.w:=fun d hd s hs=>by
  obtain ⟨i,hi,rfl⟩:=List.mem_iff_getElem.mp hd
  have e:dAt ds i=ds[i]:=by
   show ds.getD i wd0=_
   rw [List.getD_eq_getElem?_getD,List.getElem?_eq_getElem hi]
   rfl
  exact no i hi s (by rw [e]; exact hs)
 have tl:=szd_low S2 R l b1 no
 refine ⟨l,fun k hk=>fit_wide S1 f1 hm po wdx ww hk,fun k hk=>fit_high S2 f2 (by omega) w2 po wdx no2 ?_ hk,pg,po⟩
 split at ht <;> omega
end
def PtAt (K:PySem.W.Frag) (H:Hp) (a:Addr) (d:Wd) : Prop:=∃ (sa fo:Addr) (bs:List Addr),SqT K H a [.ref sa,.ref fo]∧SqT K H sa (sayV d.say)∧SqL K H fo (bs.map V.ref)∧SaysA K H bs d.foot
theorem PtAt.same {K:PySem.W.Frag} {H H':Hp} {a:Addr} {d:Wd} (s:Same H H') (h:PtAt K H a d) : PtAt K H' a d:=by
 obtain ⟨sa,fo,bs,h1,h2,h3,h4⟩:=h
 exact ⟨sa,fo,bs,s.tup h1,s.tup h2,s.seq h3,h4.same s⟩
def PtsA (K:PySem.W.Frag) (H:Hp) (as:List Addr) (ds:List Wd) : Prop:=as.length=ds.length∧∀ (i:Nat) a d,as[i]? = some a→ds[i]? = some d→PtAt K H a d
theorem PtsA.same {K:PySem.W.Frag} {H H':Hp} {as:List Addr} {ds:List Wd} (s:Same H H') (h:PtsA K H as ds) : PtsA K H' as ds:=⟨h.1,fun i a d e e'=>(h.2 i a d e e').same s⟩
theorem PtsA.nil {K:PySem.W.Frag} {H:Hp} : PtsA K H [] []:=⟨rfl,fun i a x e _=>by simp at e⟩
theorem PtsA.snoc {K:PySem.W.Frag} {H:Hp} {as:List Addr} {ds:List Wd} {a:Addr} {d:Wd} (h:PtsA K H as ds) (hx:PtAt K H a d) : PtsA K H (as++[a]) (ds++[d]):=by
 refine ⟨by simp [h.1],fun i b y e e'=>?_⟩
 by_cases hi:i < as.length
 ·rw [List.getElem?_append_left hi] at e
  rw [List.getElem?_append_left (by rw [← h.1]; exact hi)] at e'
  exact h.2 i b y e e'
 ·rw [List.getElem?_append_right (by omega)] at e
  rw [List.getElem?_append_right (by rw [← h.1]; omega),← h.1] at e'
  cases c:i - as.length with
  | zero=>rw [c] at e e'; cases e; cases e'; exact hx
  | succ n=>rw [c] at e; simp at e
def LysA (K:PySem.W.Frag) (H:Hp) (as:List Addr) (xss:List (List (Int × Int))) : Prop:=as.length=xss.length∧∀ (i:Nat) a xs,as[i]? = some a→xss[i]? = some xs→LwAt K H a xs
theorem LysA.same {K:PySem.W.Frag} {H H':Hp} {as:List Addr} {xss:List (List (Int × Int))} (s:Same H H') (h:LysA K H as xss) : LysA K H' as xss:=⟨h.1,fun i a d e e'=>(h.2 i a d e e').same s⟩
def WdT (K:PySem.W.Frag) (H0 H:Hp) (a:Addr) (d:Wd) : Prop:=∃ (sa fo:Addr) (bs:List Addr),SqT K H a [.int d.lead,.bl d.kept,.ref sa,.ref fo]∧SqT K H sa (sayV d.say)∧SqL K H0 fo (bs.map V.ref)∧SaysA K H0 bs d.foot
def WdsT (K:PySem.W.Frag) (H0 H:Hp) (as:List Addr) (ds:List Wd) : Prop:=as.length=ds.length∧∀ (i:Nat) a d,as[i]? = some a→ds[i]? = some d→WdT K H0 H a d
section
variable {K:PySem.W.Frag} {H0 H H':Hp} {as:List Addr} {ds:List Wd}
theorem WdT.same {a:Addr} {d:Wd} (s:Same H H') (h:WdT K H0 H a d) : WdT K H0 H' a d:=by
 obtain ⟨sa,fo,bs,h1,h2,h3,h4⟩:=h
 exact ⟨sa,fo,bs,s.tup h1,s.tup h2,h3,h4⟩
theorem WdT.lst {a l:Addr} {d:Wd} {ys zs:List V} (e:H l=some (.lst ys)) (h:WdT K H0 H a d) : WdT K H0 (upd H l (.lst zs)) a d:=by
 obtain ⟨sa,fo,bs,h1,h2,h3,h4⟩:=h
 exact ⟨sa,fo,bs,SqT.lst e h1,SqT.lst e h2,h3,h4⟩
theorem WdT.at {a:Addr} {d:Wd} (s:Same H0 H) (h:WdT K H0 H a d) : WdAt K H a d:=by
 obtain ⟨sa,fo,bs,h1,h2,h3,h4⟩:=h
 exact ⟨sa,fo,bs,h1,h2,s.seq h3,h4.same s⟩
theorem WdAt.t {a:Addr} {d:Wd} (s:Same H0 H) (h:WdAt K H0 a d) : WdT K H0 H a d:=by
 obtain ⟨sa,fo,bs,h1,h2,h3,h4⟩:=h
 exact ⟨sa,fo,bs,s.tup h1,s.tup h2,h3,h4⟩
theorem WdsT.same (s:Same H H') (h:WdsT K H0 H as ds) : WdsT K H0 H' as ds:=⟨h.1,fun i a d e e'=>(h.2 i a d e e').same s⟩
theorem WdsT.lst {l:Addr} {ys zs:List V} (e:H l=some (.lst ys)) (h:WdsT K H0 H as ds) : WdsT K H0 (upd H l (.lst zs)) as ds:=⟨h.1,fun i a d e1 e2=>(h.2 i a d e1 e2).lst e⟩
theorem WdsT.at (s:Same H0 H) (h:WdsT K H0 H as ds) : WdsA K H as ds:=⟨h.1,fun i a d e e'=>(h.2 i a d e e').at s⟩
theorem WdsA.t (s:Same H0 H) (h:WdsA K H0 as ds) : WdsT K H0 H as ds:=⟨h.1,fun i a d e e'=>(h.2 i a d e e').t s⟩
theorem WdsT.set {a:Addr} {d:Wd} (h:WdsT K H0 H as ds) (k:Nat) (hx:WdT K H0 H a d) : WdsT K H0 H (as.set k a) (ds.set k d):=by
 refine ⟨by simp [h.1],fun i b y e e'=>?_⟩
 rw [List.getElem?_set] at e e'
 by_cases c:k=i
 ·rw [if_pos c] at e e'
  split at e
  ·cases e
   split at e'
   ·cases e'
    exact hx
   ·cases e'
  ·cases e
 ·rw [if_neg c] at e e'
  exact h.2 i b y e e'
end
def Db (K:PySem.W.Frag) (H:Hp) : Nat→V→V→Bool→Prop
 | 0,x,y,b=>flatV x=true∧flatV y=true∧eqV x y=b
 | n+1,x,y,b=>(flatV x=true∧flatV y=true∧eqV x y=b) ∨
   ∃ a c xs ys e,x = .ref a∧y = .ref c∧((SqL K H a xs∧SqL K H c ys)∨(SqT K H a xs∧SqT K H c ys))∧(∀ (i:Nat) x y,xs[i]? = some x→ys[i]? = some y→Db K H n x y (e i))∧b=(decide (xs.length=ys.length) && (List.range xs.length).all e)
theorem db_self {X:Cx} {pins:List (Addr × Obj)} {σ:St} {H:Hp} {s:Shared} (I:Inv X pins σ H s) : ∀ (n:Nat) (x:V) (b:Bool),Db X.K H n x x b→b=true
 | 0,x,b,h=>by
  obtain ⟨f,_,e⟩:=h
  rw [← e]
  exact eqV_refl f
 | n+1,x,b,h=>by
  rcases h with ⟨f,_,e⟩ | ⟨a,c,xs,ys,e,rfl,ey,hab,hd,rfl⟩
  ·rw [← e]
   exact eqV_refl f
  ·cases ey
   have:xs=ys:=by
    rcases hab with ⟨h1,h2⟩ | ⟨h1,h2⟩
    ·exact I.list_inj h1 h2
    ·exact I.tuple_inj h1 h2
   subst this
   rw [decide_eq_true rfl,Bool.true_and,List.all_eq_true]
   intro i hi
   have hi:=List.mem_range.mp hi
   exact db_self I n _ _ (hd i _ _ (List.getElem?_eq_getElem hi) (List.getElem?_eq_getElem hi))
theorem items_db {s:Shared} {xs ys:List V} {its its2:List Value} {e:Nat→Bool} {A:Around} (r:Vals xs its) (r2:Vals ys its2)
  (d:∀ (i:Nat) x y,xs[i]? = some x→ys[i]? = some y→∀ u v,RelV x u→RelV y v→SeqAt.EqAt A s u v (e i)) (j:Nat) (h1:j < its.toArray.size) (h2:j < its2.toArray.size) : SeqAt.EqAt A s its.toArray[j] its2.toArray[j] (e j):=by
 have l1:=r.length
 have l2:=r2.length
 have h1':j < its.length:=by simpa using h1
 have h2':j < its2.length:=by simpa using h2
 have hx:j < xs.length:=by omega
 have hy:j < ys.length:=by omega
 have e1:xs[j]? = some xs[j]:=List.getElem?_eq_getElem hx
 have e2:ys[j]? = some ys[j]:=List.getElem?_eq_getElem hy
 obtain ⟨u,hu,ru⟩:=r.get e1
 obtain ⟨v,hv,rv⟩:=r2.get e2
 have eu:its.toArray[j]=u:=by
  have:its[j]? = some its[j]:=List.getElem?_eq_getElem h1'
  rw [hu] at this
  simpa using this.symm
 have ev:its2.toArray[j]=v:=by
  have:its2[j]? = some its2[j]:=List.getElem?_eq_getElem h2'
  rw [hv] at this
  simpa using this.symm
 rw [eu,ev]
 exact d j _ _ e1 e2 u v ru rv
theorem all_min (n m:Nat) (e:Nat→Bool) : ((List.range (min n m)).all e && (n == m))=(decide (n=m) && (List.range n).all e):=by
 by_cases h:n=m
 ·subst h
  rw [Nat.min_self,decide_eq_true rfl,Bool.true_and,beq_self_eq_true,Bool.and_true]
 ·rw [decide_eq_false h,Bool.false_and,beq_eq_false_iff_ne.mpr h,Bool.and_false]
theorem db_eq {X:Cx} {pins:List (Addr × Obj)} {σ:St} {H:Hp} {s:Shared} (I:Inv X pins σ H s) : ∀ (n:Nat) (A:Around) (x y:V) (b:Bool) (u v:Value),Db X.K H n x y b→RelV x u→RelV y v→A.units+n < cLine→SeqAt.EqAt A s u v b
 | 0,A,x,y,b,u,v,d,ru,rv,hu=>by
  obtain ⟨f,g,e⟩:=d
  have:=eqAt_V (A:=A) (s:=s) ru rv f g
  rw [e] at this
  exact this
 | n+1,A,x,y,b,u,v,d0,ru,rv,hu=>by
  rcases id d0 with ⟨f,g,e⟩ | ⟨a,c,xs,ys,e,rfl,rfl,hab,hd,rfl⟩
  ·have:=eqAt_V (A:=A) (s:=s) ru rv f g
   rw [e] at this
   exact this
  ·cases ru
   cases rv
   by_cases z:a=c
   ·subst z
    rw [db_self I _ _ _ d0]
    exact SeqAt.EqAt.same _
   have hrec:=fun i x y (e1:xs[i]? = some x) (e2:ys[i]? = some y) u v (ru:RelV x u) (rv:RelV y v)=>db_eq I n A.in1 x y (e i) u v (hd i x y e1 e2) ru rv (by show A.units+1+n < cLine; omega)
   rcases hab with ⟨ha,hb⟩ | ⟨ha,hb⟩
   ·obtain ⟨its,r,p,_⟩:=I.list ha
    obtain ⟨its2,r2,p2,_⟩:=I.list hb
    have l1:=r.length
    have l2:=r2.length
    by_cases hl:xs.length=ys.length
    ·have:=SeqAt.RcAt.lists (A:=A) (e:=e) p.isList p2.isList (by simp; omega) (by omega) (fun j h1 h2=>items_db r r2 hrec j h1 h2)
     rw [show its.toArray.size=xs.length by simp; omega] at this
     rw [decide_eq_true hl,Bool.true_and]
     exact SeqAt.EqAt.of_refs z this
    ·rw [decide_eq_false hl,Bool.false_and]
     exact SeqAt.EqAt.of_refs z (SeqAt.RcAt.lists_lengths (A:=A) p.isList p2.isList (by simp; omega) (by omega))
   ·obtain ⟨its,r,p,_⟩:=I.tuple ha
    obtain ⟨its2,r2,p2,_⟩:=I.tuple hb
    have l1:=r.length
    have l2:=r2.length
    have:=SeqAt.RcAt.tuples (A:=A) (e:=e) p p2 (by omega) (fun j h1 h2=>items_db r r2 hrec j h1 h2)
    rw [all_min,show its.toArray.size=xs.length by simp; omega,show its2.toArray.size=ys.length by simp; omega] at this
    exact SeqAt.EqAt.of_refs z this
section
variable {X:Cx}
def rEqB (K:PySem.W.Frag) (neg:Bool) : R2:=fun x y H Q=>∃ n a c xs ys e,n≤90∧x = .ref a∧y = .ref c∧((SqL K H a xs∧SqL K H c ys)∨(SqT K H a xs∧SqT K H c ys))∧(∀ (i:Nat) x y,xs[i]? = some x→ys[i]? = some y→Db K H n x y (e i))∧Q (.bl (if neg then !(decide (xs.length=ys.length) && (List.range xs.length).all e) else (decide (xs.length=ys.length) && (List.range xs.length).all e))) H
theorem op_neB (hu:X.A.units+100 < cLine) : OpR X (compareOp .NotEq) (rEqB X.K true):=by
 intro pins s σ H x y v u Q I rx ry h
 obtain ⟨n,a,c,xs,ys,e,hn,rfl,rfl,hab,hd,q⟩:=h
 rw [if_pos rfl] at q
 cases rx
 cases ry
 have hrec:=fun i x y (e1:xs[i]? = some x) (e2:ys[i]? = some y) u v (ru:RelV x u) (rv:RelV y v)=>db_eq I n X.A.in1 x y (e i) u v (hd i x y e1 e2) ru rv (by show X.A.units+1+n < cLine; omega)
 rcases hab with ⟨ha,hb⟩ | ⟨ha,hb⟩
 ·obtain ⟨its,r,p,_⟩:=I.list ha
  obtain ⟨its2,r2,p2,_⟩:=I.list hb
  have l1:=r.length
  have l2:=r2.length
  by_cases hl:xs.length=ys.length
  ·refine SeqAt.RcNeAt.lists (e:=e) p.isList p2.isList (by simp; omega) (by omega) (fun j h1 h2=>items_db r r2 hrec j h1 h2) _ _ _ _ ⟨.bl _,H,I,rfl,?_⟩
   rw [decide_eq_true hl,Bool.true_and] at q
   rw [show its.toArray.size=xs.length by simp; omega]
   exact q
  ·rw [decide_eq_false hl,Bool.false_and] at q
   exact SeqAt.RcNeAt.lists_lengths p.isList p2.isList (by simp; omega) (by omega) _ _ _ _ ⟨.bl _,H,I,rfl,q⟩
 ·obtain ⟨its,r,p,_⟩:=I.tuple ha
  obtain ⟨its2,r2,p2,_⟩:=I.tuple hb
  have l1:=r.length
  have l2:=r2.length
  refine SeqAt.RcNeAt.tuples (e:=e) p p2 (by omega) (fun j h1 h2=>items_db r r2 hrec j h1 h2) _ _ _ _ ⟨.bl _,H,I,rfl,?_⟩
  rw [all_min,show its.toArray.size=xs.length by simp; omega,show its2.toArray.size=ys.length by simp; omega]
  exact q
end
def rowW (F:Frm) (ds:List Wd) (xs:List (Int × Int)) (p r:Int) : Nat→List (List Nat)
 | 0=>[]
 | n+1=>rowW F ds xs p r n++(if xAt xs n=(p,r) then [saidL F.h F.f xs (dAt ds n).say] else [])
def feetW (F:Frm) (ds:List Wd) (xs:List (Int × Int)) (p:Int) : Nat→List (List Nat)
 | 0=>[]
 | n+1=>feetW F ds xs p n++(if (xAt xs n).1=p then fillW F.w ((dAt ds n).foot.map (saidL F.h F.f xs)) else [])
def bodyW (F:Frm) (ds:List Wd) (xs:List (Int × Int)) (p:Int) : List (List Nat):=(List.range F.h.toNat).map fun (r:Nat)=>joinL [32] (rowW F ds xs p (r:Int) ds.length)
def pgR (F:Frm) (ds:List Wd) (xs:List (Int × Int)) (p:Int) : List (List Nat):=(bodyW F ds xs p).take (F.h.toNat - (feetW F ds xs p ds.length).length)++feetW F ds xs p ds.length
structure LsF (H0 H:Hp) (pr:Addr) (qs:List Addr) (ws:Nat→List (List Nat)) : Prop where
 top:H pr=some (.lst (qs.map V.ref))
 nd:∀ (i j:Nat) (q:Addr),qs[i]? = some q→qs[j]? = some q→i=j
 ne:pr ∉ qs
 at':∀ (i:Nat) (q:Addr),qs[i]? = some q→H q=some (.lst (rowsV (ws i)))
 fr:∀ q ∈ qs,H0 q=none
theorem LsF.same {H0 H H':Hp} {pr:Addr} {qs:List Addr} {ws:Nat→List (List Nat)} (S:LsF H0 H pr qs ws) (s:Same H H') : LsF H0 H' pr qs ws:=⟨s _ _ S.top,S.nd,S.ne,fun i q h=>s _ _ (S.at' i q h),S.fr⟩
theorem LsF.put {H0 H:Hp} {pr a:Addr} {o:HO} {qs:List Addr} {ws:Nat→List (List Nat)} (S:LsF H0 H pr qs ws) (n1:a≠pr) (n2:a ∉ qs) : LsF H0 (upd H a o) pr qs ws:=
 ⟨by rw [upd_ne n1.symm]; exact S.top,S.nd,S.ne,fun i q h=>by rw [upd_ne (fun z=>n2 (by rw [← z]; exact List.mem_of_getElem? h))]; exact S.at' i q h,S.fr⟩
theorem LsF.push {H0 H:Hp} {pr q:Addr} {qs:List Addr} {ws ws':Nat→List (List Nat)} {j:Nat} {t:List Nat} (S:LsF H0 H pr qs ws) (hq:qs[j]? = some q) (e1:ws' j=ws j++[t]) (e2:∀ i,i≠j→ws' i=ws i) : LsF H0 (upd H q (.lst (rowsV (ws j)++[V.str (tx t)]))) pr qs ws':=by
 refine ⟨?_,S.nd,S.ne,fun i q' h=>?_,S.fr⟩
 ·rw [upd_ne (fun e=>S.ne (by rw [e]; exact List.mem_of_getElem? hq))]
  exact S.top
 ·by_cases e:i=j
  ·subst e
   have e3:q' = q:=Option.some.inj (h.symm.trans hq)
   subst e3
   rw [upd_same,e1,rowsV_snoc]
  ·rw [upd_ne (fun z=>e (S.nd i j q (by rw [← z]; exact h) hq)),e2 i e]
   exact S.at' i q' h
section
variable {F:Frm} {ds:List Wd} {xs:List (Int × Int)}
end
section
variable {X:Cx} {T name id:String} {r:V→List V→Hp→(V→Hp→Prop)→Prop} {o e:Expr} {es:List Expr} {to:TE} {t:TA} {apos cpos:Pos}
end
def PgsA (K:PySem.W.Frag) (H:Hp) (q:Addr) (F:Frm) (ds:List Wd) (xs:List (Int × Int)) (n:Nat) : Prop:=∃ ps rs:List Addr,ps.length=n∧rs.length=n∧SqL K H q (ps.map V.ref)∧∀ (i:Nat) p r,ps[i]? = some p→rs[i]? = some r→SqT K H p [.int (F.f+(i:Int)),.ref r]∧SqL K H r (rowsV (pgR F ds xs (i:Int)))
theorem PgsA.same {K:PySem.W.Frag} {H H':Hp} {q:Addr} {F:Frm} {ds:List Wd} {xs:List (Int × Int)} {n:Nat} (s:Same H H') (h:PgsA K H q F ds xs n) : PgsA K H' q F ds xs n:=by
 obtain ⟨ps,rs,h1,h2,h3,h4⟩:=h
 exact ⟨ps,rs,h1,h2,s.seq h3,fun i p r a b=>⟨s.tup (h4 i p r a b).1,s.seq (h4 i p r a b).2⟩⟩
theorem PgsA.get {K:PySem.W.Frag} {H:Hp} {q:Addr} {F:Frm} {ds:List Wd} {xs:List (Int × Int)} {n i:Nat} (h:PgsA K H q F ds xs n) (hi:i < n) : ∃ (ps:List Addr) (p r:Addr),SqL K H q (ps.map V.ref)∧atI (ps.map V.ref) (i:Int)=some (V.ref p)∧SqT K H p [.int (F.f+(i:Int)),.ref r]∧SqL K H r (rowsV (pgR F ds xs (i:Int))):=by
 obtain ⟨ps,rs,h1,h2,h3,h4⟩:=h
 have e1:ps[i]? = some (ps[i]'(by omega)):=List.getElem?_eq_getElem (by omega)
 have e2:rs[i]? = some (rs[i]'(by omega)):=List.getElem?_eq_getElem (by omega)
 exact ⟨ps,_,_,h3,atI_nat (by rw [List.getElem?_map,e1]; rfl),(h4 i _ _ e1 e2).1,(h4 i _ _ e1 e2).2⟩
section
variable {F:Frm} {ds:List Wd} {xs:List (Int × Int)} {b:Int}
end
section
variable {F:Frm} {ds:List Wd} {xs:List (Int × Int)} {b:Int}
end
structure PgI (H0 H:Hp) (ps rs:List Addr) (f:Int) (ws:Nat→List (List Nat)) : Prop where
 len:ps.length=rs.length
 tup:∀ (i:Nat) p r,ps[i]? = some p→rs[i]? = some r→H p=some (.tup [.int (f+(i:Int)),.ref r])
 at':∀ (i:Nat) r,rs[i]? = some r→H r=some (.lst (rowsV (ws i)))
 nd:∀ (i j:Nat) r,rs[i]? = some r→rs[j]? = some r→i=j
 fr:∀ r ∈ rs,H0 r=none
structure PgD (H0 H:Hp) (pa:Addr) (ps rs:List Addr) (f:Int) (ws:Nat→List (List Nat)) : Prop extends PgI H0 H ps rs f ws where
 top:H pa=some (.lst (ps.map V.ref))
 ne:pa ∉ rs
section
variable {H0 H H':Hp} {pa a:Addr} {ps rs:List Addr} {f:Int} {ws ws':Nat→List (List Nat)}
theorem PgI.nil:PgI H0 H [] [] f ws:=⟨rfl,fun i p r e=>by simp at e,fun i r e=>by simp at e,fun i j r e=>by simp at e,fun r h=>by cases h⟩
theorem PgI.same (S:PgI H0 H ps rs f ws) (s:Same H H') : PgI H0 H' ps rs f ws:=⟨S.len,fun i p r e1 e2=>s _ _ (S.tup i p r e1 e2),fun i r e=>s _ _ (S.at' i r e),S.nd,S.fr⟩
theorem PgD.same (S:PgD H0 H pa ps rs f ws) (s:Same H H') : PgD H0 H' pa ps rs f ws:=⟨S.toPgI.same s,s _ _ S.top,S.ne⟩
theorem snoc_at {α:Type} {l:List α} {x y:α} {j:Nat} (h:(l++[x])[j]? = some y) : l[j]? = some y∧j < l.length∨y=x∧j=l.length:=by
 by_cases c:j < l.length
 ·rw [List.getElem?_append_left c] at h
  exact .inl ⟨h,c⟩
 ·rw [List.getElem?_append_right (by omega)] at h
  cases hc:j - l.length with
  | zero=>rw [hc] at h; exact .inr ⟨(Option.some.inj h).symm,by omega⟩
  | succ n=>rw [hc] at h; simp at h
theorem PgI.snoc {p r:Addr} (S:PgI H0 H ps rs f ws) (s:Same H H') (hp:H' p=some (.tup [.int (f+(ps.length:Int)),.ref r])) (hr:H' r=some (.lst (rowsV (ws ps.length)))) (n1:H r=none) (n0:H0 r=none) : PgI H0 H' (ps++[p]) (rs++[r]) f ws:=by
 have l:=S.len
 have nr:∀ (i:Nat) q,rs[i]? = some q→q≠r:=fun i q e z=>by rw [z] at e; rw [S.at' i r e] at n1; cases n1
 refine ⟨by simp [l],fun i p' r' e1 e2=>?_,fun i r' e=>?_,fun i j q e1 e2=>?_,fun q hq=>?_⟩
 ·rcases snoc_at e1 with ⟨e1,h1⟩ | ⟨rfl,h1⟩
  ·rcases snoc_at e2 with ⟨e2,h2⟩ | ⟨rfl,h2⟩
   ·exact s _ _ (S.tup i p' r' e1 e2)
   ·omega
  ·rcases snoc_at e2 with ⟨e2,h2⟩ | ⟨rfl,h2⟩
   ·omega
   ·rw [h1]; exact hp
 ·rcases snoc_at e with ⟨e,h1⟩ | ⟨rfl,h1⟩
  ·exact s _ _ (S.at' i r' e)
  ·rw [h1,← l]; exact hr
 ·rcases snoc_at e1 with ⟨k1,h1⟩ | ⟨z1,h1⟩
  ·rcases snoc_at e2 with ⟨k2,h2⟩ | ⟨z2,h2⟩
   ·exact S.nd i j q k1 k2
   ·exact absurd z2 (nr i _ k1)
  ·rcases snoc_at e2 with ⟨k2,h2⟩ | ⟨_,h2⟩
   ·exact absurd z1 (nr j _ k2)
   ·omega
 ·rcases List.mem_append.mp hq with h | h
  ·exact S.fr q h
  ·rw [List.mem_singleton.mp h]; exact n0
theorem PgD.put {o:HO} {l:List V} (S:PgD H0 H pa ps rs f ws) (hl:H a=some (.lst l)) (n1:a≠pa) (n2:a ∉ rs) : PgD H0 (upd H a o) pa ps rs f ws:=by
 refine ⟨⟨S.len,fun i p r e1 e2=>?_,fun i r e=>?_,S.nd,S.fr⟩,by rw [upd_ne n1.symm]; exact S.top,S.ne⟩
 ·have z:=S.tup i p r e1 e2
  rw [upd_ne (fun e=>by rw [e,hl] at z; cases z)]
  exact z
 ·rw [upd_ne (fun e=>n2 (by rw [← e]; exact List.mem_of_getElem? (by assumption)))]
  exact S.at' i r e
theorem PgD.set {r:Addr} {j:Nat} {l:List (List Nat)} (S:PgD H0 H pa ps rs f ws) (hr:rs[j]? = some r) (e1:ws' j=l) (e2:∀ i,i≠j→ws' i=ws i) : PgD H0 (upd H r (.lst (rowsV l))) pa ps rs f ws':=by
 have hl:=S.at' j r hr
 refine ⟨⟨S.len,fun i p q h1 h2=>?_,fun i q h=>?_,S.nd,S.fr⟩,?_,S.ne⟩
 ·have z:=S.tup i p q h1 h2
  rw [upd_ne (fun e=>by rw [e,hl] at z; cases z)]
  exact z
 ·by_cases c:i=j
  ·subst c
   have:q=r:=Option.some.inj (h.symm.trans hr)
   subst this
   rw [upd_same,e1]
  ·rw [upd_ne (fun z=>c (S.nd i j r (by rw [← z]; exact h) hr)),e2 i c]
   exact S.at' i q h
 ·rw [upd_ne (fun e=>S.ne (by rw [e]; exact List.mem_of_getElem? hr))]
  exact S.top
theorem PgD.get (S:PgD H0 H pa ps rs f ws) {i:Nat} (hi:i < ps.length) : ∃ p r,rs[i]? = some r∧ps[i]? = some p∧atI (ps.map V.ref) (i:Int)=some (V.ref p)∧H p=some (.tup [.int (f+(i:Int)),.ref r])∧H r=some (.lst (rowsV (ws i))):=by
 have e1:ps[i]? = some (ps[i]'hi):=List.getElem?_eq_getElem hi
 have hi2:i < rs.length:=by rw [← S.len]; exact hi
 have e2:rs[i]? = some (rs[i]'hi2):=List.getElem?_eq_getElem hi2
 exact ⟨_,_,e2,e1,atI_nat (by rw [List.getElem?_map,e1]; rfl),S.tup i _ _ e1 e2,S.at' i _ e2⟩
theorem flat_dq {K:PySem.W.Frag} {x y:V} {n:Nat} (f1:flatV x=true) (f2:flatV y=true) (e:eqV x y=true) : Dq K H n x y:=by
 cases n with
 | zero=>exact .inl ⟨f1,f2,e⟩
 | succ n=>exact .inl (.inl ⟨f1,f2,e⟩)
theorem LsF.set {pr q:Addr} {qs:List Addr} {j:Nat} {l:List (List Nat)} (S:LsF H0 H pr qs ws) (hq:qs[j]? = some q) (e1:ws' j=l) (e2:∀ i,i≠j→ws' i=ws i) : LsF H0 (upd H q (.lst (rowsV l))) pr qs ws':=by
 refine ⟨?_,S.nd,S.ne,fun i q' h=>?_,S.fr⟩
 ·rw [upd_ne (fun e=>S.ne (by rw [e]; exact List.mem_of_getElem? hq))]
  exact S.top
 ·by_cases e:i=j
  ·subst e
   have e3:q' = q:=Option.some.inj (h.symm.trans hq)
   subst e3
   rw [upd_same,e1]
  ·rw [upd_ne (fun z=>e (S.nd i j q (by rw [← z]; exact h) hq)),e2 i e]
   exact S.at' i q' h
end
section
variable {F:Frm} {ds:List Wd} {xs:List (Int × Int)}
theorem rows_set (l:List (List Nat)) (i:Nat) (t:List Nat) : (rowsV l).set i (V.str (tx t))=rowsV (l.set i t):=by
 unfold rowsV
 rw [List.map_set]
end
end L2

set_option maxHeartbeats 4000000
namespace L2
open PySem PySem.Spec PyProof.Rows Builtin Builtin.ObjectAttr
section
variable {prog:Program} {w:World} {A:Around} {E:Value→Shared→Prop} {h:Heap} {g:Array GenState} {d:Drawn} {t:Nat} {os:OsState} {a:Addr} {o:Obj}
theorem lk_list_keys:typeLookup (.type "list") "keys" = pure none:=by rw [typeLookup_type,builtinLookup_eq_fast]; kernel_rfl
theorem sub_attr:isSubtype (.type "AttributeError") (.type "AttributeError")=pure true:=by rw [isSubtype_type]; kernel_rfl
theorem raise_attr {α:Type} {ov:Value} {name msg:Str} {Q:α→Shared→Prop} (hm:msg.length≤sizeLine) (hh:A.handled=none)
  (hq:∀ h' t' e,(∀ b o,h.get? b=some o→h'.get? b=some o)→(∃ ob,h'.get? e=some ob∧ob.cls = .type "AttributeError")→E (.ref e) ⟨h',g,d,t',os⟩) :
  wpAny (model prog w) A (raiseAttrError ov name msg:Sem α) Q E ⟨h,g,d,t,os⟩:=by
 unfold raiseAttrError
 refine wpAny_bind (wpAny_mkStr (wpAny_bind ?_) hm)
 unfold newExc newTuple
 refine wpAny_bind (wpAny_newObj_type ?_ (by size_fits))
 refine wpAny_bind (m:=firstArgMember _ _) (wpAny_of_eq (a:=Value.none) (by unfold firstArgMember; kernel_rfl) ?_)
 refine wpAny_newObj_type ?_ (by size_fits)
 have hE:=Heap.get?_push_size (h.push { cls:=.type "tuple",data:=.seq #[Value.str msg t] }) (o:={ cls:=.type "AttributeError",data:=.fields (#[Value.ref h.objs.size,.none,.none,.none,.bool false,.none]++ownMembersOf (.type "AttributeError") [Value.str msg t]) }) rfl
 have hT:(⟨(h.push { cls:=.type "tuple",data:=.seq #[Value.str msg t] }).push { cls:=.type "AttributeError",data:=.fields (#[Value.ref h.objs.size,.none,.none,.none,.bool false,.none]++ownMembersOf (.type "AttributeError") [Value.str msg t]) },g,d,t+1,os⟩ : Shared).TypeIs (.ref (h.push { cls:=.type "tuple",data:=.seq #[Value.str msg t] }).objs.size) "AttributeError":=⟨_,hE,rfl⟩
 have f1:=sub_attr
 unfold noteAttr lacksNameAndObj layMembers
 repeat (any_goals (first | assumption | wp_step))
 unfold raiseNew
 refine wpAny_bind (wpAny_handled ?_)
 rw [hh]
 first
  | refine wpAny_throw ?_
  | refine wpAny_bind (wpAny_pure (wpAny_throw ?_))
 refine hq _ _ _ (fun b o hb=>?_) ⟨_,Heap.get?_update_self _ hE rfl,rfl⟩
 have lt:=Heap.lt_size hb
 refine (Heap.get?_update_other _ _ (fun e=>?_)).trans (Heap.get?_push_of_some _ (Heap.get?_push_of_some _ hb))
 have sz:(h.push { cls:=.type "tuple",data:=.seq #[Value.str msg t] }).objs.size=h.objs.size+1:=Heap.size_push ..
 have e':(h.push { cls:=.type "tuple",data:=.seq #[Value.str msg t] }).objs.size=b:=e
 exact absurd lt (by rw [← e',sz]; exact Nat.not_lt.mpr (Nat.le_succ _))
theorem keys_entry {tk:Tok} {Q:Fin→Shared→Prop} {its:Array Value} {n:Nat} {sl:Array (Option Value)} (hx:h.get? a=some ⟨.type "list",none,.seq its n,sl⟩) (hh:A.handled=none)
  (hq:∀ h' t' e,(∀ b o,h.get? b=some o→h'.get? b=some o)→(∃ ob,h'.get? e=some ob∧ob.cls = .type "AttributeError")→E (.ref e) ⟨h',g,d,t',os⟩) :
  wpAny (model prog w) A (Builtin.«object.__getattribute__» ⟨[.ref a,.str "keys" tk],[]⟩) Q E ⟨h,g,d,t,os⟩:=by
 have hT:(⟨h,g,d,t,os⟩ : Shared).TypeIs (.ref a) "list":=⟨_,hx,rfl⟩
 have f4:=lk_list_keys
 repeat (any_goals (first | assumption | wp_step))
 exact raise_attr (by decide +kernel) hh hq
theorem sub_attr_list:typeLookup (.type "list") "__getattr__" = pure none:=by rw [typeLookup_type,builtinLookup_eq_fast]; kernel_rfl
theorem keys_call {tk:Tok} {R:Result→Shared→Prop} {its:Array Value} {n:Nat} {sl:Array (Option Value)} (hx:h.get? a=some ⟨.type "list",none,.seq its n,sl⟩) (hh:A.handled=none)
  (hq:∀ h' t' e,(∀ b o,h.get? b=some o→h'.get? b=some o)→(∃ ob,h'.get? e=some ob∧ob.cls = .type "AttributeError")→R (.error (.ref e)) ⟨h',g,d,t',os⟩) :
  codeAny (model prog w) A (.call (.builtin "list.__getattribute__") ⟨[.ref a,.str "keys" tk],[]⟩) R ⟨h,g,d,t,os⟩:=
 codeAny_call_builtin F.slot_list_getattribute.plain F.entry_list_ga (F.slot_list_getattribute.check _ _ _ _ _ _ _ _ (show (⟨h,g,d,t,os⟩ : Shared).TypeIs (.ref a) "list" from ⟨_,hx,rfl⟩) (F.args_list_getattribute_2 _ _) (keys_entry hx hh hq))
theorem keys_by {tk:Tok} {Q:Value→Shared→Prop} {its:Array Value} {n:Nat} {sl:Array (Option Value)} (hx:h.get? a=some ⟨.type "list",none,.seq its n,sl⟩) (hh:A.handled=none)
  (hq:∀ h' t' e,(∀ b o,h.get? b=some o→h'.get? b=some o)→(∃ ob,h'.get? e=some ob∧ob.cls = .type "AttributeError")→E (.ref e) ⟨h',g,d,t',os⟩) :
  wpAny (model prog w) A (getAttrBy (.ref a) (.str "keys" tk) false) Q E ⟨h,g,d,t,os⟩:=by
 have hT:(⟨h,g,d,t,os⟩ : Shared).TypeIs (.ref a) "list":=⟨_,hx,rfl⟩
 have f2:=F.slot_list_getattribute.lookup
 have f3:=F.slot_list_getattribute.bind (.ref a)
 repeat (any_goals (first | assumption | wp_step))
 refine keys_call hx hh fun h' t' e k ex=>?_
 obtain ⟨ob,he,hec⟩:=id ex
 have hT2:(⟨h',g,d,t',os⟩ : Shared).TypeIs (.ref e) "AttributeError":=⟨_,he,hec⟩
 have f5:=sub_attr
 have f6:=sub_attr_list
 show wpAny (model prog w) A (getattributeRaised (Value.ref a) (Value.str (Str.ofString "keys") tk) (Value.type "list") (.ref e) none false false) Q E ⟨h',g,d,t',os⟩
 unfold getattributeRaised hookBehind
 repeat (any_goals (first | assumption | wp_step))
 exact hq _ _ _ k ex
theorem keys_none {Q:Option Value→Shared→Prop} {its:Array Value} {n:Nat} {sl:Array (Option Value)} (hx:h.get? a=some ⟨.type "list",none,.seq its n,sl⟩) (hh:A.handled=none)
  (hq:∀ h' t',(∀ b o,h.get? b=some o→h'.get? b=some o)→Q none ⟨h',g,d,t',os⟩) :
  wpAny (model prog w) A (getAttr? (.ref a) "keys") Q E ⟨h,g,d,t,os⟩:=by
 unfold getAttr? getAttrBy?
 repeat (any_goals (first | assumption | with_reducible apply keys_by hx hh | wp_step))
 rintro h' t' e k ⟨ob,he,hec⟩
 have hT2:(⟨h',g,d,t',os⟩ : Shared).TypeIs (.ref e) "AttributeError":=⟨_,he,hec⟩
 have f5:=sub_attr
 repeat (any_goals (first | assumption | wp_step))
 exact hq _ _ k
end
end L2

namespace L2
open PySem PySem.Spec PyProof.Rows
def laid (kvs:List (Key × Value)) : List (Key × Value):=kvs.foldl (fun m kv=>stored m kv.1 kv.2) []
theorem laid_snoc (kvs:List (Key × Value)) (kv:Key × Value) : laid (kvs++[kv])=stored (laid kvs) kv.1 kv.2:=by unfold laid; rw [List.foldl_append]; rfl
theorem stored_len (m:List (Key × Value)) (k:Key) (v:Value) : (stored m k v).length≤m.length+1:=by
 unfold stored
 split
 ·rw [List.length_map]; omega
 ·rw [List.length_append]; simp
theorem entry_upd_loop:entryFor table "dict.update.loop" = some Builtin.«dict.update.loop»:=entryFor_of_tree (by kernel_rfl)
theorem plain_upd_loop:plainId "dict.update.loop" = true:=by decide +kernel
section
variable {prog:Program} {w:World} {A:Around} {R:Result→Shared→Prop} {i0 l d:Addr} {its:Array Value} {kvs:List (Key × Value)}
def Prs (prog:Program) (w:World) (h:Heap) (its:Array Value) (kvs:List (Key × Value)) : Prop:=its.size=kvs.length∧∀ (j:Nat) v k x,its[j]? = some v→kvs[j]? = some (k,x)→∃ p key,v = .ref p∧IsTup h p #[key,x]∧(mixKind prog w).is k key=true
theorem tup_keep {h h':Heap} {p a:Addr} {xs:Array Value} (t:IsTup h p xs) (s:Heap.SameBut a h h') (n:p≠a) : IsTup h' p xs:=by
 obtain ⟨o,ho,r⟩:=t
 exact ⟨o,(s.2 p n).trans ho,r⟩
theorem Prs.keep {h h':Heap} {a:Addr} (t:Prs prog w h its kvs) (s:Heap.SameBut a h h') (n:∀ o,h.get? a=some o→o.cls≠.type "tuple") : Prs prog w h' its kvs:=⟨t.1,fun j v k x e1 e2=>by
 obtain ⟨p,key,e3,tp,kk⟩:=t.2 j v k x e1 e2
 refine ⟨p,key,e3,tup_keep tp s fun e=>?_,kk⟩
 obtain ⟨o,ho,hc,_⟩:=tp
 exact n o (by rw [← e]; exact ho) hc⟩
theorem code_upd_loop (ne1:i0≠d) (ne2:l≠d) (ne3:l≠i0) (hh:A.in1.handled=none) (hz:its.size≤100000) :
  ∀ (k i:Nat) (s:Shared),its.size - i=k→i≤its.size→s.heap.IsListIter i0 l i→s.heap.IsList l its→s.heap.DictOf (mixKind prog w) d (laid (kvs.take i))→(laid (kvs.take i)).length≤i→Prs prog w s.heap its kvs →
  (∀ h' tk,h'.DictOf (mixKind prog w) d (laid kvs)→(∀ b o,b≠d→b≠i0→s.heap.get? b=some o→h'.get? b=some o)→R (.ok (.ret .none)) { s with heap:=h',toks:=tk }) →
  codeAny (model prog w) A (.builtin "dict.update.loop" ⟨[.ref d,.ref i0,rawInt (i:Int),.none],[]⟩) R s:=by
 intro k
 induction k with
 | zero =>
  intro i s hk hi hit hl hd hdl hp hR
  have ei:i=its.size:=by omega
  refine codeAny_builtin entry_upd_loop ?_
  rw [Around.under_plainId plain_upd_loop _]
  show wpAny _ A.in1 (pyNext (.ref i0) >>= _) _ _ s
  refine wpAny_bind (wpAny_pyNext_list_end hh hit hl (by simp [ei]) fun h' ex=>?_)
  refine wpAny_bind (wpAny_pure ?_)
  have e1:kvs.take i=kvs:=List.take_of_length_le (by rw [ei,hp.1]; exact Nat.le_refl _)
  rw [e1] at hd
  exact wpAny_pure (hR h' _ (hd.extBut ex (Ne.symm ne1)) fun b o _ hb e=>ex b o hb e)
 | succ k ih =>
  intro i s hk hi hit hl hd hdl hp hR
  have hlt:i < its.size:=by omega
  have hkl:i < kvs.length:=by rw [← hp.1]; exact hlt
  refine codeAny_builtin entry_upd_loop ?_
  rw [Around.under_plainId plain_upd_loop _]
  show wpAny _ A.in1 (pyNext (.ref i0) >>= _) _ _ s
  refine wpAny_bind (wpAny_pyNext_list_item hit hl (x:=its[i]) (by simp [hlt]) fun h1 it1 sb1=>?_)
  have hp1:Prs prog w h1 its kvs:=hp.keep sb1 fun o ho hc=>by
   obtain ⟨o2,ho2,hc2,_⟩:=hit
   rw [ho] at ho2
   cases ho2
   rw [hc] at hc2
   exact absurd (Value.type.inj hc2) (by decide)
  obtain ⟨p,key,ev,tp,kk⟩:=hp1.2 i its[i] kvs[i].1 kvs[i].2 (by simp [hlt]) (by rw [List.getElem?_eq_getElem hkl])
  rw [ev]
  have hd1:=hd.sameBut sb1 (Ne.symm ne1)
  have hT:({ s with heap:=h1 } : Shared).TypeIs (.ref p) "tuple":=by
   obtain ⟨o,ho,hc,_⟩:=tp
   exact ⟨o,ho,hc⟩
  obtain ⟨ot,hot,hotc,nt,hotd⟩:=id tp
  show wpAny _ A.in1 (holding [Value.ref p] _ >>= _) _ _ _
  refine wpAny_bind (wpAny_holding (wpAny_bind (wpAny_tryCatch ?_)))
  unfold Builtin.Dict.pairItems
  refine wpAny_bind (wpAny_typeOf hT ?_)
  rw [if_pos (by decide)]
  refine wpAny_bind (wpAny_seqItems hot hotd (wpAny_pure ?_))
  show wpAny _ A.in1 (holding [key,kvs[i].2] (dictSet d key kvs[i].2)) _ _ _
  refine wpAny_holding (wpAny_dictSet_pairs kk hd1 (fun h2 dd sb2=>?_) (Nat.le_trans hdl (Nat.le_trans hi (Nat.le_trans hz (by decide)))))
  have tk1:kvs.take (i+1)=kvs.take i++[kvs[i]]:=by rw [List.take_add_one,List.getElem?_eq_getElem hkl]; rfl
  have dd2:h2.DictOf (mixKind prog w) d (laid (kvs.take (i+1))):=by rw [tk1,laid_snoc]; exact dd
  have hp2:Prs prog w h2 its kvs:=hp1.keep sb2 fun o ho hc=>by
   have ty:({ s with heap:=h1 } : Shared).TypeIs (.ref d) "dict":=hd1.typeIs
   obtain ⟨o2,ho2,hc2⟩:=ty
   have ho3:h1.get? d=some o2:=ho2
   rw [ho] at ho3
   cases ho3
   rw [hc] at hc2
   exact absurd (Value.type.inj hc2) (by decide)
  have it2:h2.IsListIter i0 l (i+1):=by
   obtain ⟨o2,ho2,r⟩:=it1
   exact ⟨o2,(sb2.2 _ ne1).trans ho2,r⟩
  have hl2:h2.IsList l its:=by
   obtain ⟨o2,ho2,r⟩:=hl
   exact ⟨o2,(sb2.2 _ ne2).trans ((sb1.2 _ ne3).trans ho2),r⟩
  have sl:(laid (kvs.take (i+1))).length≤i+1:=by
   rw [tk1,laid_snoc]
   have:=stored_len (laid (kvs.take i)) kvs[i].1 kvs[i].2
   omega
  refine wpAny_pure ⟨plainId_quiet plain_upd_loop _,ih (i+1) _ (by omega) hlt it2 hl2 dd2 sl hp2 fun h' tk dd' kp=>hR h' tk dd' fun b o n1 n2 e=>kp b o n1 n2 ?_⟩
  exact (sb2.2 _ n1).trans ((sb1.2 _ n2).trans e)
end
def laidK (kvs:List (Key × V)) : List (Key × V):=kvs.foldl (fun m kv=>putK m kv.1 kv.2) []
theorem laidK_snoc (kvs:List (Key × V)) (kv:Key × V) : laidK (kvs++[kv])=putK (laidK kvs) kv.1 kv.2:=by unfold laidK; rw [List.foldl_append]; rfl
def PrsA (K:PySem.W.Frag) (H:Hp) (ps:List V) (kvs:List (Key × V)) : Prop:=ps.length=kvs.length∧∀ (j:Nat) p k v,ps[j]? = some p→kvs[j]? = some (k,v)→∃ a,p = .ref a∧SqT K H a [kV k,v]
section
variable {X:Cx}
theorem call_dict_pairs (hc:X.calm=true) : CallR X (.type "dict") (fun xs H Q=>∃ l ps kvs,xs=[.ref l]∧SqL X.K H l ps∧ps.length≤100000∧PrsA X.K H ps kvs∧∀ p,H p=none→Q (.ref p) (upd H p (.dK (laidK kvs)))):=by
 intro pins s σ H xs us Q I r h
 obtain ⟨l,ps,kvs,rfl,hl,hz,hp,q⟩:=h
 obtain ⟨u,rfl,ru⟩:=vals1 r
 cases ru
 obtain ⟨its,rv,p,z⟩:=I.list hl
 have hh:=I.ok.hd hc
 refine callType_codes (Q₁:=fun obj s₁=>obj = .ref s.heap.objs.size∧s₁={ s with heap:=s.heap.push { cls:=.type "dict",data:=.dict #[] } }) F.kt_called_dict (F.kt_typeCall_dict_1 _) F.entry_dict_init (kt_code_dict_new _ ⟨rfl,rfl⟩) ?_
 rintro obj s₁ ⟨rfl,rfl⟩
 have hnew:(s.heap.push { cls:=.type "dict",data:=.dict #[] }).DictOf (mixKind X.prog X.w) s.heap.objs.size []:=Heap.DictOf.new s.heap
 refine ⟨hnew.typeIs,F.args_dict_init_2 _ _,?_⟩
 unfold Builtin.«dict.__init__»
 refine wpAny_bind ?_
 unfold Builtin.Dict.selfAndRest
 refine wpAny_bind (wpAny_notOrdered_dict hnew.typeIs ?_)
 show wpAny _ _ (pure (s.heap.objs.size,[Value.ref l])) _ _ _
 refine wpAny_pure ?_
 show wpAny _ _ (Builtin.Dict.updateFrom "dict.__init__" s.heap.objs.size (.ref l) [] .none) _ _ _
 unfold Builtin.Dict.updateFrom
 have pl:=p.isList.push { cls:=.type "dict",data:=.dict #[] }
 refine wpAny_bind (wpAny_typeOf pl.typeIs ?_)
 rw [if_pos (by decide)]
 obtain ⟨o0,n0,ho0,hcl,hdd,hdat⟩:=id p
 obtain ⟨c0,d0,dt0,sl0⟩:=o0
 simp only at hcl hdd hdat
 subst hcl hdd hdat
 have hlt:l < s.heap.objs.size:=Heap.lt_size ho0
 have hx:=Heap.get?_push_of_some { cls:=.type "dict",data:=.dict #[] } ho0
 refine wpAny_bind (keys_none hx hh fun h1 t1 k1=>?_)
 refine wpAny_bind (wpAny_rule ?_)
 have pl1:h1.IsList l its.toArray:=⟨_,k1 _ _ hx,rfl,_,rfl⟩
 refine wpAny_bind (wpAny_pyIter_list pl1 ?_)
 refine wpAny_pure ⟨plainId_quiet plain_upd_loop _,?_⟩
 have hdn:h1.DictOf (mixKind X.prog X.w) s.heap.objs.size []:=by
  obtain ⟨o,es,ep,ho,rr⟩:=hnew
  exact ⟨o,es,ep,k1 _ _ ho,rr⟩
 have hdlt:s.heap.objs.size < h1.objs.size:=by
  obtain ⟨o,es,ep,ho,rr⟩:=hdn
  exact Heap.lt_size ho
 have kept:∀ b o,s.heap.get? b=some o→h1.get? b=some o:=fun b o e=>k1 _ _ (Heap.get?_push_of_some _ e)
 have ilen:its.length=ps.length:=rv.length.symm
 have ex:∀ n,n≤kvs.length→∃ vs:List (Key × Value),vs.length=n∧∀ j,(hj:j < n)→∃ x:Key × Value,vs[j]? = some x∧x.1=(kvs[j]?.map (·.1)).getD x.1∧(∀ v,(kvs[j]?.map (·.2))=some v→RelV v x.2)∧∃ a key,its[j]? = some (.ref a)∧IsTup s.heap a #[key,x.2]∧(mixKind X.prog X.w).is x.1 key=true:=by
  intro n
  induction n with
  | zero=>exact fun _=>⟨[],rfl,fun j hj=>absurd hj (Nat.not_lt_zero _)⟩
  | succ n ih =>
   intro hn
   obtain ⟨vs,vl,hv⟩:=ih (by omega)
   have hk:n < kvs.length:=hn
   have hpn:n < ps.length:=by rw [hp.1]; exact hk
   obtain ⟨a,ea,ha⟩:=hp.2 n ps[n] kvs[n].1 kvs[n].2 (List.getElem?_eq_getElem hpn) (List.getElem?_eq_getElem hk)
   obtain ⟨u,eu,ru⟩:=rv.get (List.getElem?_eq_getElem hpn)
   rw [ea] at ru
   cases ru
   obtain ⟨it2,r2,p2,_⟩:=I.tuple ha
   obtain ⟨u1,u2,rfl,r3,r4⟩:=vals2 r2
   refine ⟨vs++[(kvs[n].1,u2)],by simp [vl],fun j hj=>?_⟩
   by_cases c:j < n
   ·obtain ⟨x,e1,e2⟩:=hv j c
    exact ⟨x,by rw [List.getElem?_append_left (by omega)]; exact e1,e2⟩
   ·have ej:j=n:=by omega
    subst ej
    refine ⟨(kvs[j].1,u2),by rw [List.getElem?_append_right (by omega),vl,Nat.sub_self]; rfl,by rw [List.getElem?_eq_getElem hk]; rfl,fun v e=>?_,a,u1,eu,p2,kV_is r3⟩
    rw [List.getElem?_eq_getElem hk] at e
    cases e
    exact r4
 obtain ⟨vs,vl,hv⟩:=ex kvs.length (Nat.le_refl _)
 have rel:∀ n,n≤kvs.length→KV (laidK (kvs.take n)) (laid (vs.take n)):=by
  intro n
  induction n with
  | zero=>exact fun _=>.nil
  | succ n ih =>
   intro hn
   obtain ⟨x,e1,e2,e3,_⟩:=hv n hn
   have hk:n < kvs.length:=hn
   have t1':kvs.take (n+1)=kvs.take n++[kvs[n]]:=by rw [List.take_add_one,List.getElem?_eq_getElem hk]; rfl
   have t2':vs.take (n+1)=vs.take n++[x]:=by rw [List.take_add_one,e1]; rfl
   rw [t1',t2',laidK_snoc,laid_snoc]
   rw [List.getElem?_eq_getElem hk] at e2 e3
   have ek:x.1=kvs[n].1:=e2
   rw [ek]
   exact (ih (by omega)).put _ (e3 _ rfl)
 have rel':=rel kvs.length (Nat.le_refl _)
 rw [List.take_length,← vl,List.take_length] at rel'
 have prs:Prs X.prog X.w (h1.push { cls:=.type "list_iterator",data:=.fields #[.ref l,.int 0 0] }) its.toArray vs:=by
  refine ⟨by simp [ilen,hp.1,vl],fun j v k x e1 e2=>?_⟩
  have hj:j < kvs.length:=by rw [← vl]; exact (List.getElem?_eq_some_iff.mp e2).1
  obtain ⟨y,f1,f2,f3,a,key,f4,f5,f6⟩:=hv j hj
  rw [e2] at f1
  cases f1
  have e1':its[j]? = some v:=by simpa using e1
  rw [f4] at e1'
  cases e1'
  obtain ⟨oo,hoo,rr⟩:=f5
  exact ⟨a,key,rfl,⟨oo,Heap.get?_push_of_some _ (kept _ _ hoo),rr⟩,f6⟩
 have lz:∀ n,(laidK (kvs.take n)).length≤n:=by
  intro n
  induction n with
  | zero=>exact Nat.le_refl _
  | succ n ih =>
   by_cases hk:n < kvs.length
   ·have t1':kvs.take (n+1)=kvs.take n++[kvs[n]]:=by rw [List.take_add_one,List.getElem?_eq_getElem hk]; rfl
    rw [t1',laidK_snoc]
    have:=length_putK (laidK (kvs.take n)) kvs[n].1 kvs[n].2
    omega
   ·rw [List.take_of_length_le (by omega)]
    rw [List.take_of_length_le (by omega)] at ih
    omega
 have lz':=lz kvs.length
 rw [List.take_length] at lz'
 refine code_upd_loop (prog:=X.prog) (w:=X.w) (A:=X.A.in1) (i0:=h1.objs.size) (l:=l) (d:=s.heap.objs.size) (its:=its.toArray) (kvs:=vs) (Nat.ne_of_gt hdlt) (Nat.ne_of_lt hlt) (Nat.ne_of_lt (Nat.lt_trans hlt hdlt)) hh (by simp; omega) its.toArray.size 0 _ (by simp) (Nat.zero_le _) ?_ ?_ ?_ (Nat.le_refl _) ?_ ?_
 ·exact ⟨_,Heap.get?_push_size _ rfl,rfl,rfl⟩
 ·exact pl1.push _
 ·rw [List.take_zero]
  exact hdn.push _
 ·exact prs
 ·intro h' tk dd kp
  refine ⟨rfl,.ref s.heap.objs.size,_,I.laid (a:=s.heap.objs.size) (o:=.dK (laidK kvs)) (t':=tk) (fun b o e=>?_) (Nat.le_refl _) (dk_new (Nat.le_trans lz' (by rw [← hp.1]; exact Nat.le_trans hz (by decide))) (beq_eq_false_iff_ne.mpr (Ne.symm (Nat.ne_of_lt I.big))) rel' dd),rfl,q _ (I.hok.fresh (Nat.le_refl _))⟩
  have hb:=Heap.lt_size e
  exact kp b o (Nat.ne_of_lt hb) (Nat.ne_of_lt (Nat.lt_trans hb hdlt)) (Heap.get?_push_of_some _ (kept _ _ e))
end
end L2

set_option maxHeartbeats 4000000
namespace L2
open PySem PySem.Spec PyProof.Rows Tl
abbrev Pg:=Int × List (List Nat)
def pgAt (H:Hp) (a r:Addr) (p:Pg) : Prop:=H a=some (.tup [.int p.1,.ref r])∧H r=some (.lst (rowsV p.2))
theorem pgAt.same {H H':Hp} {a r:Addr} {p:Pg} (h:pgAt H a r p) (s:Same H H') : pgAt H' a r p:=⟨s _ _ h.1,s _ _ h.2⟩
structure PgS (H:Hp) (as rs:List Addr) (ps:List Pg) : Prop where
 l1:as.length=ps.length
 l2:rs.length=ps.length
 at':∀ (i:Nat) a r p,as[i]? = some a→rs[i]? = some r→ps[i]? = some p→pgAt H a r p
structure PgL (H:Hp) (q:Addr) (as rs:List Addr) (ps:List Pg) : Prop extends PgS H as rs ps where
 top:H q=some (.lst (as.map V.ref))
section
variable {H H':Hp} {q:Addr} {as rs:List Addr} {ps:List Pg}
theorem PgS.nil:PgS H [] [] []:=⟨rfl,rfl,fun i a r p e=>by simp at e⟩
theorem PgS.same (h:PgS H as rs ps) (s:Same H H') : PgS H' as rs ps:=⟨h.l1,h.l2,fun i a r p e1 e2 e3=>(h.at' i a r p e1 e2 e3).same s⟩
theorem PgL.same (h:PgL H q as rs ps) (s:Same H H') : PgL H' q as rs ps:=⟨h.toPgS.same s,s _ _ h.top⟩
theorem PgS.snoc {a r:Addr} {p:Pg} (h:PgS H as rs ps) (x:pgAt H a r p) : PgS H (as++[a]) (rs++[r]) (ps++[p]):=by
 have l1:=h.l1
 have l2:=h.l2
 refine ⟨by simp [l1],by simp [l2],fun i a' r' p' e1 e2 e3=>?_⟩
 rcases snoc_at e1 with ⟨k1,z1⟩ | ⟨k1,z1⟩
 ·rcases snoc_at e2 with ⟨k2,z2⟩ | ⟨k2,z2⟩
  ·rcases snoc_at e3 with ⟨k3,z3⟩ | ⟨k3,z3⟩
   ·exact h.at' i a' r' p' k1 k2 k3
   ·omega
  ·omega
 ·rcases snoc_at e2 with ⟨k2,z2⟩ | ⟨k2,z2⟩
  ·omega
  ·rcases snoc_at e3 with ⟨k3,z3⟩ | ⟨k3,z3⟩
   ·omega
   ·rw [k1,k2,k3]; exact x
theorem PgS.get (h:PgS H as rs ps) {i:Nat} (hi:i < ps.length) : ∃ a r p,as[i]? = some a∧rs[i]? = some r∧ps[i]? = some p∧pgAt H a r p∧atI (as.map V.ref) (i:Int)=some (V.ref a):=by
 have h1:as[i]? = some (as[i]'(by rw [h.l1]; exact hi)):=List.getElem?_eq_getElem _
 have h2:rs[i]? = some (rs[i]'(by rw [h.l2]; exact hi)):=List.getElem?_eq_getElem _
 have h3:ps[i]? = some ps[i]:=List.getElem?_eq_getElem hi
 exact ⟨_,_,_,h1,h2,h3,h.at' i _ _ _ h1 h2 h3,atI_nat (by rw [List.getElem?_map,h1]; rfl)⟩
end
abbrev Fe:=Nat × Option (Addr × Addr × Pg)
def fv:Option (Addr × Addr × Pg)→V
 | none=>.non
 | some y=>.ref y.1
def plainF (fl:List Fe) : List (Nat × Option Pg):=fl.map fun x=>(x.1,x.2.map fun y=>y.2.2)
def feAt (H:Hp) (f:Addr) (x:Fe) : Prop:=H f=some (.tup [.int (x.1:Int),fv x.2])∧∀ y,x.2=some y→pgAt H y.1 y.2.1 y.2.2
theorem feAt.same {H H':Hp} {f:Addr} {x:Fe} (h:feAt H f x) (s:Same H H') : feAt H' f x:=⟨s _ _ h.1,fun y e=>(h.2 y e).same s⟩
structure FlS (H:Hp) (fs:List Addr) (fl:List Fe) : Prop where
 len:fs.length=fl.length
 at':∀ (i:Nat) f x,fs[i]? = some f→fl[i]? = some x→feAt H f x
theorem FlS.nil {H:Hp} : FlS H [] []:=⟨rfl,fun i f x e=>by simp at e⟩
theorem FlS.same {H H':Hp} {fs:List Addr} {fl:List Fe} (h:FlS H fs fl) (s:Same H H') : FlS H' fs fl:=⟨h.len,fun i f x e1 e2=>(h.at' i f x e1 e2).same s⟩
theorem FlS.snoc {H:Hp} {fs:List Addr} {fl:List Fe} {f:Addr} {x:Fe} (h:FlS H fs fl) (e:feAt H f x) : FlS H (fs++[f]) (fl++[x]):=by
 have l:=h.len
 refine ⟨by simp [l],fun i f' x' e1 e2=>?_⟩
 rcases snoc_at e1 with ⟨k1,z1⟩ | ⟨k1,z1⟩
 ·rcases snoc_at e2 with ⟨k2,z2⟩ | ⟨k2,z2⟩
  ·exact h.at' i f' x' k1 k2
  ·omega
 ·rcases snoc_at e2 with ⟨k2,z2⟩ | ⟨k2,z2⟩
  ·omega
  ·rw [k1,k2]; exact e
theorem rows_eqE (a b:List (List Nat)) : eqVs (rowsV a) (rowsV b)=decide (a=b):=by
 induction a generalizing b with
 | nil =>
  cases b with
  | nil=>rfl
  | cons y b=>rw [decide_eq_false (by simp)]; rfl
 | cons x a ih =>
  cases b with
  | nil=>rw [decide_eq_false (by simp)]; rfl
  | cons y b =>
   show ((tx x == tx y) && eqVs (rowsV a) (rowsV b))=_
   rw [ih]
   by_cases c1:x=y
   ·subst c1
    by_cases c2:a=b
    ·subst c2; simp
    ·rw [decide_eq_false c2,decide_eq_false (by simp [c2]),Bool.and_false]
   ·rw [beq_eq_false_iff_ne.mpr (fun z=>c1 (tx_inj z)),decide_eq_false (fun z=>c1 (List.cons.inj z).1),Bool.false_and]
theorem flat_rowsV (a:List (List Nat)) : (rowsV a).all flatV=true:=by
 rw [List.all_eq_true]
 intro x hx
 obtain ⟨t,_,rfl⟩:=List.mem_map.mp hx
 rfl
theorem rows_db {K:PySem.W.Frag} {H:Hp} {r t:Addr} {a b:List (List Nat)} {n:Nat} (h:H r=some (.lst (rowsV a))) (g:H t=some (.lst (rowsV b))) : Db K H (n+1) (.ref r) (.ref t) (decide (a=b)):=by
 refine .inr ⟨r,t,_,_,fun i=>decide (a.getD i []=b.getD i []),rfl,rfl,.inl ⟨SqL.of h,SqL.of g⟩,fun i x y e1 e2=>?_,?_⟩
 ·unfold rowsV at e1 e2
  rw [List.getElem?_map] at e1 e2
  obtain ⟨u,hu,rfl⟩:=Option.map_eq_some_iff.mp e1
  obtain ⟨v,hv,rfl⟩:=Option.map_eq_some_iff.mp e2
  have q:eqV (V.str (tx u)) (V.str (tx v))=decide (a.getD i []=b.getD i []):=by
   rw [List.getD_eq_getElem?_getD,hu,List.getD_eq_getElem?_getD,hv]
   show (tx u == tx v)=decide (u=v)
   by_cases c:u=v
   ·subst c; simp
   ·rw [decide_eq_false c,beq_eq_false_iff_ne.mpr fun z=>c (tx_inj z)]
  cases n with
  | zero=>exact ⟨rfl,rfl,q⟩
  | succ n=>exact .inl ⟨rfl,rfl,q⟩
 ·unfold rowsV
  rw [List.length_map,List.length_map]
  by_cases c:a=b
  ·subst c
   rw [decide_eq_true rfl,decide_eq_true rfl,Bool.true_and]
   symm
   rw [List.all_eq_true]
   exact fun i _=>decide_eq_true rfl
  ·rw [decide_eq_false c]
   symm
   refine Bool.eq_false_iff.mpr fun z=>c ?_
   obtain ⟨z1,z2⟩:=Bool.and_eq_true_iff.mp z
   have l:=of_decide_eq_true z1
   refine List.ext_getElem l fun i h1 h2=>?_
   have:=of_decide_eq_true (List.all_eq_true.mp z2 i (List.mem_range.mpr h1))
   rw [List.getD_eq_getElem?_getD,List.getElem?_eq_getElem h1,List.getD_eq_getElem?_getD,List.getElem?_eq_getElem h2] at this
   exact this
theorem pg_db {K:PySem.W.Frag} {H:Hp} {a r b t:Addr} {p q:Pg} (h:pgAt H a r p) (g:pgAt H b t q) : ∃ e:Nat→Bool,(∀ (i:Nat) x y,[V.int p.1,V.ref r][i]? = some x→[V.int q.1,V.ref t][i]? = some y→Db K H 1 x y (e i))∧(decide ((2:Nat)=2) && (List.range 2).all e)=decide (p=q):=by
 refine ⟨fun i=>if i=0 then decide (p.1=q.1) else decide (p.2=q.2),fun i x y e1 e2=>?_,?_⟩
 ·match i,e1,e2 with
  | 0,e1,e2 =>
   cases e1; cases e2
   refine .inl ⟨rfl,rfl,?_⟩
   show (p.1 == q.1)=decide (p.1=q.1)
   by_cases c:p.1=q.1
   ·rw [c]; simp
   ·rw [decide_eq_false c,beq_eq_false_iff_ne.mpr c]
  | 1,e1,e2=>cases e1; cases e2; exact rows_db h.2 g.2
  | i+2,e1,_=>exact absurd e1 (by simp)
 ·show (true && (decide (p.1=q.1) && (decide (p.2=q.2) && true)))=_
  rw [Bool.true_and,Bool.and_true]
  by_cases c:p=q
  ·subst c; simp
  ·rw [decide_eq_false c]
   refine Bool.eq_false_iff.mpr fun z=>c ?_
   simp only [Bool.and_eq_true,decide_eq_true_eq] at z
   exact Prod.ext z.1 z.2
theorem pg_dq1 {K:PySem.W.Frag} {H:Hp} {a r b t:Addr} {p:Pg} (h:pgAt H a r p) (g:pgAt H b t p) : Dq K H 2 (.ref a) (.ref b):=by
 refine .inr ⟨a,b,_,_,rfl,rfl,.inr ⟨SqT.of h.1,SqT.of g.1⟩,rfl,fun j x y x1 x2=>?_⟩
 match j,x1,x2 with
 | 0,x1,x2=>cases x1; cases x2; exact flat_dq rfl rfl (eqV_refl rfl)
 | 1,x1,x2 =>
  cases x1; cases x2
  refine .inr ⟨_,_,_,_,rfl,rfl,.inl ⟨SqL.of h.2,SqL.of g.2⟩,rfl,fun k x y x1 x2=>?_⟩
  rw [x2] at x1
  cases x1
  have:flatV x=true:=by
   obtain ⟨u,_,rfl⟩:=List.mem_map.mp (List.mem_of_getElem? x2)
   rfl
  exact flat_dq this this (eqV_refl this)
 | j+2,x1,_=>exact absurd x1 (by simp)
theorem pgs_dq {K:PySem.W.Frag} {H:Hp} {as rs bs ts:List Addr} {ps:List Pg} (h:PgS H as rs ps) (g:PgS H bs ts ps) : ∀ (i:Nat) x y,(as.map V.ref)[i]? = some x→(bs.map V.ref)[i]? = some y→Dq K H 2 x y:=by
 intro i x y e1 e2
 rw [List.getElem?_map] at e1 e2
 obtain ⟨a,ea,rfl⟩:=Option.map_eq_some_iff.mp e1
 obtain ⟨b,eb,rfl⟩:=Option.map_eq_some_iff.mp e2
 have hi:i < ps.length:=by rw [← h.l1]; exact (List.getElem?_eq_some_iff.mp ea).1
 obtain ⟨a',r,p,f1,f2,f3,f4,_⟩:=h.get hi
 obtain ⟨b',t,p',g1,g2,g3,g4,_⟩:=g.get hi
 rw [ea] at f1
 cases f1
 rw [eb] at g1
 cases g1
 rw [f3] at g3
 cases g3
 exact pg_dq1 f4 g4
theorem fls_dq {K:PySem.W.Frag} {H:Hp} {fs gs:List Addr} {fl gl:List Fe} (h:FlS H fs fl) (g:FlS H gs gl) (e:plainF fl=plainF gl) : (fs.map V.ref).length=(gs.map V.ref).length∧∀ (i:Nat) x y,(fs.map V.ref)[i]? = some x→(gs.map V.ref)[i]? = some y→Dq K H 3 x y:=by
 have le:fl.length=gl.length:=by
  have:=congrArg List.length e
  unfold plainF at this
  rwa [List.length_map,List.length_map] at this
 refine ⟨by rw [List.length_map,List.length_map,h.len,g.len,le],fun i x y e1 e2=>?_⟩
 rw [List.getElem?_map] at e1 e2
 obtain ⟨a,ea,rfl⟩:=Option.map_eq_some_iff.mp e1
 obtain ⟨b,eb,rfl⟩:=Option.map_eq_some_iff.mp e2
 have hi:i < fl.length:=by rw [← h.len]; exact (List.getElem?_eq_some_iff.mp ea).1
 have hj:i < gl.length:=by omega
 have f1:fl[i]? = some fl[i]:=List.getElem?_eq_getElem hi
 have f2:gl[i]? = some gl[i]:=List.getElem?_eq_getElem hj
 have F:=h.at' i a _ ea f1
 have G:=g.at' i b _ eb f2
 have pe:((fl[i]).1,(fl[i]).2.map fun y=>y.2.2)=((gl[i]).1,(gl[i]).2.map fun y=>y.2.2):=by
  have:=congrArg (fun l=>l[i]?) e
  simp only [plainF,List.getElem?_map,f1,f2,Option.map_some] at this
  exact Option.some.inj this
 generalize fl[i]=x at F pe
 generalize gl[i]=y at G pe
 obtain ⟨k,xo⟩:=x
 obtain ⟨k',yo⟩:=y
 obtain ⟨pk,po⟩:=Prod.mk.inj pe
 have pk':k=k':=pk
 subst pk'
 refine .inr ⟨a,b,_,_,rfl,rfl,.inr ⟨SqT.of F.1,SqT.of G.1⟩,rfl,fun j u v u1 u2=>?_⟩
 match j,u1,u2 with
 | 0,u1,u2=>cases u1; cases u2; exact flat_dq rfl rfl (eqV_refl rfl)
 | 1,u1,u2 =>
  cases u1; cases u2
  cases xo with
  | none =>
   cases yo with
   | none=>exact flat_dq rfl rfl rfl
   | some y=>cases po
  | some x =>
   cases yo with
   | none=>cases po
   | some y =>
    have F2:=F.2 x rfl
    have G2:=G.2 y rfl
    have ep:x.2.2=y.2.2:=Option.some.inj po
    rw [ep] at F2
    exact pg_dq1 F2 G2
 | j+2,u1,_=>exact absurd u1 (by simp)
def dfA (os ns:List Pg) : Nat→List (Nat × Option Pg)
 | 0=>[]
 | n+1=>dfA os ns n++(if ns.length≤n then [(n,none)] else if os.length≤n∨os[n]?≠ns[n]? then [(n,ns[n]?)] else [])
def lk {α:Type} (fl:List (Nat × α)) (k:Nat) : Option α:=fl.foldl (fun o x=>if x.1=k then some x.2 else o) none
theorem lk_snoc {α:Type} (fl:List (Nat × α)) (x:Nat × α) (k:Nat) : lk (fl++[x]) k=if x.1=k then some x.2 else lk fl k:=by unfold lk; rw [List.foldl_append]; rfl
theorem lk_map {α β:Type} (f:α→β) (fl:List (Nat × α)) (k:Nat) : lk (fl.map fun x=>(x.1,f x.2)) k=(lk fl k).map f:=by
 have:∀ (l:List (Nat × α)) (o:Option α),(l.map fun x=>(x.1,f x.2)).foldl (fun o x=>if x.1=k then some x.2 else o) (o.map f)=(l.foldl (fun o x=>if x.1=k then some x.2 else o) o).map f:=by
  intro l
  induction l with
  | nil=>intro o; rfl
  | cons x l ih =>
   intro o
   rw [List.map_cons,List.foldl_cons,List.foldl_cons]
   by_cases c:x.1=k
   ·rw [if_pos c,if_pos c]
    exact ih (some x.2)
   ·rw [if_neg c,if_neg c]
    exact ih o
 exact this fl none
def accP (os:List Pg) (fl:List (Nat × Option Pg)) : Nat→List Pg
 | 0=>[]
 | n+1=>accP os fl n++(match lk fl n with | some o=>o | none=>os[n]?).toList
theorem lk_df (os ns:List Pg) (k:Nat) : ∀ m,lk (dfA os ns m) k=if k < m then (if ns.length≤k then some none else if os.length≤k∨os[k]?≠ns[k]? then some ns[k]? else none) else none
 | 0=>rfl
 | m+1=>by
  have ih:=lk_df os ns k m
  show lk (dfA os ns m++(if ns.length≤m then [(m,none)] else if os.length≤m∨os[m]?≠ns[m]? then [(m,ns[m]?)] else [])) k=_
  rcases Nat.lt_trichotomy k m with c | c | c
  ·rw [if_pos (show k < m+1 by omega)]
   rw [if_pos c] at ih
   split
   ·rw [lk_snoc,if_neg (by omega),ih]
   ·split
    ·rw [lk_snoc,if_neg (by omega),ih]
    ·rw [List.append_nil,ih]
  ·subst c
   rw [if_pos (Nat.lt_succ_self _)]
   rw [if_neg (Nat.lt_irrefl _)] at ih
   by_cases c1:ns.length≤k
   ·rw [if_pos c1,if_pos c1,lk_snoc,if_pos rfl]
   ·rw [if_neg c1,if_neg c1]
    by_cases c2:os.length≤k∨os[k]?≠ns[k]?
    ·rw [if_pos c2,if_pos c2,lk_snoc,if_pos rfl]
    ·rw [if_neg c2,if_neg c2,List.append_nil,ih]
  ·rw [if_neg (show ¬ k < m by omega)] at ih
   rw [if_neg (show ¬ k < m+1 by omega)]
   split
   ·rw [lk_snoc,if_neg (by omega),ih]
   ·split
    ·rw [lk_snoc,if_neg (by omega),ih]
    ·rw [List.append_nil,ih]
theorem df_len (os ns:List Pg) : ∀ m,m≤(dfA os ns m).length+os.length
 | 0=>Nat.zero_le _
 | m+1=>by
  have ih:=df_len os ns m
  show _≤(dfA os ns m++(if ns.length≤m then [(m,none)] else if os.length≤m∨os[m]?≠ns[m]? then [(m,ns[m]?)] else [])).length+_
  rw [List.length_append]
  split
  ·simp; omega
  ·split
   ·simp; omega
   ·rename_i c
    have:¬ os.length≤m:=fun z=>c (.inl z)
    simp
    omega
theorem df_le (os ns:List Pg) : ∀ m,(dfA os ns m).length≤m
 | 0=>Nat.le_refl _
 | m+1=>by
  have ih:=df_le os ns m
  show (dfA os ns m++(if ns.length≤m then [(m,none)] else if os.length≤m∨os[m]?≠ns[m]? then [(m,ns[m]?)] else [])).length≤_
  rw [List.length_append]
  split
  ·simp; omega
  ·split <;> simp <;> omega
theorem acc_take {os ns:List Pg} {fl:List (Nat × Option Pg)} (h:∀ k,(match lk fl k with | some o=>o | none=>os[k]?)=ns[k]?) : ∀ n,accP os fl n=ns.take n
 | 0=>by rw [List.take_zero]; rfl
 | n+1=>by
  show accP os fl n++(match lk fl n with | some o=>o | none=>os[n]?).toList=_
  rw [acc_take h n,h n,List.take_add_one]
theorem acc_new (os ns:List Pg) : accP os (dfA os ns (max os.length ns.length)) (os.length+(dfA os ns (max os.length ns.length)).length)=ns:=by
 have l:=df_len os ns (max os.length ns.length)
 rw [acc_take (ns:=ns) fun k=>?_,List.take_of_length_le (by omega)]
 rw [lk_df]
 by_cases c:k < max os.length ns.length
 ·rw [if_pos c]
  by_cases c1:ns.length≤k
  ·rw [if_pos c1,List.getElem?_eq_none c1]
  ·rw [if_neg c1]
   by_cases c2:os.length≤k∨os[k]?≠ns[k]?
   ·rw [if_pos c2]
   ·rw [if_neg c2]
    exact Decidable.byContradiction fun z=>c2 (.inr z)
 ·rw [if_neg c]
  show os[k]? = ns[k]?
  rw [List.getElem?_eq_none (by omega),List.getElem?_eq_none (by omega)]
theorem acc_old (os:List Pg) : accP os [] (os.length+0)=os:=by
 rw [acc_take (ns:=os) fun k=>rfl,List.take_of_length_le (by omega)]
theorem df_self (ns:List Pg) : ∀ m,m≤ns.length→dfA ns ns m=[]
 | 0,_=>rfl
 | m+1,h=>by
  show dfA ns ns m++(if ns.length≤m then _ else if ns.length≤m∨ns[m]?≠ns[m]? then _ else [])=_
  rw [df_self ns m (by omega),if_neg (by omega),if_neg (by simp; omega)]
  rfl
def kvF (fl:List Fe) : List (Key × V):=fl.map fun x=>(Sum.inl (x.1:Int),fv x.2)
theorem kvF_snoc (fl:List Fe) (x:Fe) : kvF (fl++[x])=kvF fl++[(Sum.inl (x.1:Int),fv x.2)]:=by unfold kvF; rw [List.map_append]; rfl
theorem kvF_lk (fl:List Fe) (k:Nat) : valV (laidK (kvF fl)) (.inl (k:Int))=(lk fl k).map fv:=by
 refine snoc_ind (P:=fun fl=>valV (laidK (kvF fl)) (.inl (k:Int))=(lk fl k).map fv) rfl (fun fl x ih=>?_) fl
 rw [kvF_snoc,laidK_snoc,valV_put,ih,lk_snoc]
 by_cases c:x.1=k
 ·rw [if_pos c,if_pos (by rw [c])]; rfl
 ·rw [if_neg c,if_neg (fun z=>c (Int.ofNat.inj (Sum.inl.inj (show (Sum.inl ((k:Nat) : Int) : Key)=Sum.inl ((x.1:Nat) : Int) from z))).symm)]
theorem fls_prs {K:PySem.W.Frag} {H:Hp} {fs:List Addr} {fl:List Fe} (h:FlS H fs fl) : PrsA K H (fs.map V.ref) (kvF fl):=by
 refine ⟨by unfold kvF; rw [List.length_map,List.length_map,h.len],fun j p k v e1 e2=>?_⟩
 unfold kvF at e2
 rw [List.getElem?_map] at e1 e2
 obtain ⟨a,ea,rfl⟩:=Option.map_eq_some_iff.mp e1
 obtain ⟨x,ex,e⟩:=Option.map_eq_some_iff.mp e2
 cases e
 exact ⟨a,rfl,SqT.of (h.at' j a x ea ex).1⟩
theorem pgAt.er {H:Hp} {q a r:Addr} {zs:List V} {p:Pg} (h:pgAt H a r p) (hq:H q=some (.lst zs)) (n:r≠q) : pgAt (er1 H q) a r p:=by
 refine ⟨?_,by rw [er1_at n]; exact h.2⟩
 rw [er1_at (fun e=>by rw [e] at h; rw [h.1] at hq; cases hq)]
 exact h.1
theorem feAt.er {H:Hp} {q f:Addr} {zs:List V} {x:Fe} (h:feAt H f x) (hq:H q=some (.lst zs)) (n:∀ y,x.2=some y→y.2.1≠q) : feAt (er1 H q) f x:=by
 refine ⟨?_,fun y e=>(h.2 y e).er hq (n y e)⟩
 rw [er1_at (fun e=>by rw [e] at h; rw [h.1] at hq; cases hq)]
 exact h.1
def FrF (H:Hp) (fl:List Fe) : Prop:=∀ x ∈ fl,∀ y,x.2=some y→H y.2.1=none
theorem FrF.nil {H:Hp} : FrF H []:=fun x hx=>by cases hx
theorem FrF.snoc {H:Hp} {fl:List Fe} {x:Fe} (h:FrF H fl) (n:∀ y,x.2=some y→H y.2.1=none) : FrF H (fl++[x]):=fun z hz=>by
 rcases List.mem_append.mp hz with hz | hz
 ·exact h z hz
 ·rw [List.mem_singleton.mp hz]; exact n
theorem plain_snoc (fl:List Fe) (x:Fe) : plainF (fl++[x])=plainF fl++[(x.1,x.2.map fun y=>y.2.2)]:=by unfold plainF; rw [List.map_append]; rfl
theorem plainF_len (fl:List Fe) : (plainF fl).length=fl.length:=List.length_map ..
section
variable {os ns:List Pg} {fl:List Fe} {i:Nat} (ef:plainF fl=dfA os ns i)
include ef
theorem df_none (c:ns.length≤i) : plainF (fl++[(i,none)])=dfA os ns (i+1):=by
 show _=dfA os ns i++(if ns.length≤i then _ else _)
 rw [if_pos c,plain_snoc,ef]
 rfl
theorem df_some {a r:Addr} {p:Pg} (c:¬ ns.length≤i) (c2:os.length≤i∨os[i]?≠ns[i]?) (e:ns[i]? = some p) : plainF (fl++[(i,some (a,r,p))])=dfA os ns (i+1):=by
 show _=dfA os ns i++(if ns.length≤i then _ else if os.length≤i∨os[i]?≠ns[i]? then [(i,ns[i]?)] else [])
 rw [if_neg c,if_pos c2,plain_snoc,ef,e]
 rfl
theorem df_skip (c:¬ ns.length≤i) (c2:¬ (os.length≤i∨os[i]?≠ns[i]?)) : plainF fl=dfA os ns (i+1):=by
 show _=dfA os ns i++(if ns.length≤i then _ else if os.length≤i∨os[i]?≠ns[i]? then [(i,ns[i]?)] else [])
 rw [if_neg c,if_neg c2,ef,List.append_nil]
theorem df_small:fl.length≤i:=by rw [← plainF_len,ef]; exact df_le os ns i
end
theorem max_of (a b:Nat) : (if (b:Int) > (a:Int) then (b:Int) else (a:Int))=((max a b:Nat) : Int):=by
 rw [Nat.max_def]
 by_cases c:b > a
 ·rw [if_pos (by omega),if_pos (by omega)]
 ·rw [if_neg (by omega)]
  by_cases c2:a=b
  ·rw [if_pos (by omega),c2]
  ·rw [if_neg (by omega)]
theorem szR {fs:List Addr} {n:Nat} (h:fs.length≤n) (h2:n < 1000) : (fs.map V.ref).length < sizeLine:=by
 rw [List.length_map]
 exact Nat.lt_of_lt_of_le (show _ < 1000 by omega) (small (Nat.le_refl _))
theorem lk_mem {fl:List Fe} {k:Nat} {o:Option (Addr × Addr × Pg)} : lk fl k=some o→(k,o) ∈ fl:=by
 refine snoc_ind (P:=fun fl=>lk fl k=some o→(k,o) ∈ fl) (fun h=>by cases h) (fun fl x ih h=>?_) fl
 rw [lk_snoc] at h
 by_cases c:x.1=k
 ·rw [if_pos c] at h
  have:x=(k,o):=Prod.ext c (Option.some.inj h)
  rw [this]
  simp
 ·rw [if_neg c] at h
  exact List.mem_append_left _ (ih h)
theorem FlS.mem {H:Hp} {fs:List Addr} {fl:List Fe} {x:Fe} (h:FlS H fs fl) (hx:x ∈ fl) : ∃ f,feAt H f x:=by
 obtain ⟨i,hi,rfl⟩:=List.getElem_of_mem hx
 exact ⟨_,h.at' i _ _ (List.getElem?_eq_getElem (by rw [h.len]; exact hi)) (List.getElem?_eq_getElem hi)⟩
theorem lk_plain (fl:List Fe) (k:Nat) : lk (plainF fl) k=(lk fl k).map (fun o=>o.map fun y=>y.2.2):=by
 unfold plainF
 exact lk_map (fun o:Option (Addr × Addr × Pg)=>o.map fun y:Addr × Addr × Pg=>y.2.2) fl k
theorem acc_le (os:List Pg) (fl:List (Nat × Option Pg)) : ∀ n,(accP os fl n).length≤n
 | 0=>Nat.le_refl _
 | n+1=>by
  have ih:=acc_le os fl n
  show (accP os fl n++(match lk fl n with | some o=>o | none=>os[n]?).toList).length≤_
  rw [List.length_append]
  generalize (match lk fl n with | some o=>o | none=>os[n]?)=o
  cases o with
  | none=>show _+0≤_; omega
  | some p=>show _+1≤_; omega
theorem rows_repT (n:Nat) (u:List Nat) : (List.replicate n [V.str (tx u)]).flatten=rowsV (List.replicate n u):=by
 unfold rowsV
 induction n with
 | zero=>rfl
 | succ n ih=>rw [List.replicate_succ,List.flatten_cons,ih,List.replicate_succ]; rfl
theorem ixN_in {n:Nat} {k:Int} (h0:0≤k) (h1:k < n) : ixN n k=some k.toNat:=by unfold ixN; rw [if_pos h0,if_pos h1]
theorem pgAt.set {H:Hp} {a r:Addr} {p:Pg} {l:List (List Nat)} (h:pgAt H a r p) : pgAt (upd H r (.lst (rowsV l))) a r (p.1,l):=by
 refine ⟨?_,upd_same⟩
 rw [upd_ne (fun e=>by have:=h.1; rw [e,h.2] at this; cases this)]
 exact h.1
theorem rowsV_len (l:List (List Nat)) : (rowsV l).length=l.length:=List.length_map ..
theorem hand_dq {K:PySem.W.Frag} {H:Hp} {c1 c2 o1 o2:Addr} {a1 r1 a2 r2 b1 t1 b2 t2:List Addr} {os ns:List Pg} (h1:PgL H c1 a1 r1 os) (h2:PgL H c2 a2 r2 ns) (h3:PgL H o1 b1 t1 os) (h4:PgL H o2 b2 t2 ns) : ∀ (i:Nat) x y,[V.ref c1,V.ref c2][i]? = some x→[V.ref o1,V.ref o2][i]? = some y→Dq K H 3 x y:=by
 intro i x y e1 e2
 match i,e1,e2 with
 | 0,e1,e2=>cases e1; cases e2; exact .inr ⟨_,_,_,_,rfl,rfl,.inl ⟨SqL.of h1.top,SqL.of h3.top⟩,by rw [List.length_map,List.length_map,h1.l1,h3.l1],pgs_dq h1.toPgS h3.toPgS⟩
 | 1,e1,e2=>cases e1; cases e2; exact .inr ⟨_,_,_,_,rfl,rfl,.inl ⟨SqL.of h2.top,SqL.of h4.top⟩,by rw [List.length_map,List.length_map,h2.l1,h4.l1],pgs_dq h2.toPgS h4.toPgS⟩
 | i+2,e1,_=>exact absurd e1 (by simp)
theorem rows_ref {as:List Addr} {t:List (List Nat)} {i:Nat} {a:Addr} (h:as[i]? = some a) : ¬ as.map V.ref=rowsV t:=fun e=>by
 have:=congrArg (fun l=>l[i]?) e
 unfold rowsV at this
 rw [List.getElem?_map,List.getElem?_map,h] at this
 cases ht:t[i]? with
 | none=>rw [ht] at this; cases this
 | some u=>rw [ht] at this; cases this
def PgW (H:Hp) (q:Addr) (as rs:List Addr) (n:Nat) : Prop:=H q=some (.lst (as.map V.ref))∧as.length=rs.length∧∀ (j:Nat) a r,as[j]? = some a→rs[j]? = some r→∃ (z:Int) (t:List (List Nat)),H a=some (.tup [.int z,.ref r])∧H r=some (.lst (rowsV t))∧t.length≤n
theorem PgL.w {H:Hp} {q:Addr} {as rs:List Addr} {ps:List Pg} {n:Nat} (h:PgL H q as rs ps) (hn:∀ p ∈ ps,p.2.length≤n) : PgW H q as rs n:=by
 refine ⟨h.top,by rw [h.l1,h.l2],fun j a r e1 e2=>?_⟩
 have hj:j < ps.length:=by rw [← h.l1]; exact (List.getElem?_eq_some_iff.mp e1).1
 have:=h.at' j a r _ e1 e2 (List.getElem?_eq_getElem hj)
 exact ⟨_,_,this.1,this.2,hn _ (List.getElem_mem hj)⟩
theorem PgW.put {H:Hp} {q:Addr} {as rs:List Addr} {n i:Nat} {a r:Addr} {t:List (List Nat)} {u:List Nat} (h:PgW H q as rs n) (ha:as[i]? = some a) (ht:H r=some (.lst (rowsV t))) (hn:t.length≤n) : PgW (upd H r (.lst (rowsV t++[V.str (tx u)]))) q as rs (n+1):=by
 obtain ⟨h1,h2,h3⟩:=h
 refine ⟨?_,h2,fun j a' r' e1 e2=>?_⟩
 ·rw [upd_ne (fun e=>by rw [e,ht] at h1; exact rows_ref ha (HO.lst.inj (Option.some.inj h1)).symm)]
  exact h1
 ·obtain ⟨z,t',g1,g2,g3⟩:=h3 j a' r' e1 e2
  refine ⟨z,?_⟩
  rw [upd_ne (fun e=>by rw [e,ht] at g1; cases g1)]
  by_cases c:r' = r
  ·rw [c] at g1 ⊢
   exact ⟨t++[u],g1,by rw [upd_same]; unfold rowsV; rw [List.map_append]; rfl,by rw [List.length_append]; show _+1≤_; omega⟩
  ·exact ⟨t',g1,by rw [upd_ne c]; exact g2,by omega⟩
def FlW (H:Hp) (q:Addr) (fs:List Addr) (fl:List Fe) (n:Nat) : Prop:=H q=some (.lst (fs.map V.ref))∧∀ (j:Nat) f x,fs[j]? = some f→fl[j]? = some x→H f=some (.tup [.int (x.1:Int),fv x.2])∧∀ y,x.2=some y→∃ (z:Int) (t:List (List Nat)),H y.1=some (.tup [.int z,.ref y.2.1])∧H y.2.1=some (.lst (rowsV t))∧t.length≤n
theorem FlS.w {H:Hp} {q:Addr} {fs:List Addr} {fl:List Fe} {n:Nat} (h:FlS H fs fl) (hq:H q=some (.lst (fs.map V.ref))) (hn:∀ x ∈ fl,∀ y,x.2=some y→y.2.2.2.length≤n) : FlW H q fs fl n:=
 ⟨hq,fun j f x e1 e2=>⟨(h.at' j f x e1 e2).1,fun y e=>⟨_,_,((h.at' j f x e1 e2).2 y e).1,((h.at' j f x e1 e2).2 y e).2,hn x (List.mem_of_getElem? e2) y e⟩⟩⟩
theorem FlW.up {H:Hp} {q:Addr} {fs:List Addr} {fl:List Fe} {n:Nat} (h:FlW H q fs fl n) : FlW H q fs fl (n+1):=
 ⟨h.1,fun j f x e1 e2=>⟨(h.2 j f x e1 e2).1,fun y e=>by
  obtain ⟨z,t,g1,g2,g3⟩:=(h.2 j f x e1 e2).2 y e
  exact ⟨z,t,g1,g2,by omega⟩⟩⟩
theorem FlW.put {H:Hp} {q:Addr} {fs:List Addr} {fl:List Fe} {n i:Nat} {a r:Addr} {t:List (List Nat)} {u:List Nat} (h:FlW H q fs fl n) (ha:fs[i]? = some a) (ht:H r=some (.lst (rowsV t))) (hn:t.length≤n) : FlW (upd H r (.lst (rowsV t++[V.str (tx u)]))) q fs fl (n+1):=by
 obtain ⟨h1,h3⟩:=h
 refine ⟨?_,fun j f x e1 e2=>?_⟩
 ·rw [upd_ne (fun e=>by rw [e,ht] at h1; exact rows_ref ha (HO.lst.inj (Option.some.inj h1)).symm)]
  exact h1
 ·obtain ⟨g0,g⟩:=h3 j f x e1 e2
  refine ⟨?_,fun y e=>?_⟩
  ·rw [upd_ne (fun e=>by rw [e,ht] at g0; cases g0)]
   exact g0
  obtain ⟨z,t',g1,g2,g3⟩:=g y e
  refine ⟨z,?_⟩
  rw [upd_ne (fun e=>by rw [e,ht] at g1; cases g1)]
  by_cases c:y.2.1=r
  ·rw [c] at g1 ⊢
   exact ⟨t++[u],g1,by rw [upd_same]; unfold rowsV; rw [List.map_append]; rfl,by rw [List.length_append]; show _+1≤_; omega⟩
  ·exact ⟨t',g1,by rw [upd_ne c]; exact g2,by omega⟩
theorem df_mem (os ns:List Pg) : ∀ m,∀ x ∈ dfA os ns m,∀ p,x.2=some p→p ∈ ns
 | 0,x,hx,p,e=>by cases hx
 | m+1,x,hx,p,e=>by
  have hx':x ∈ dfA os ns m++(if ns.length≤m then [(m,none)] else if os.length≤m∨os[m]?≠ns[m]? then [(m,ns[m]?)] else []):=hx
  rcases List.mem_append.mp hx' with h | h
  ·exact df_mem os ns m x h p e
  ·split at h
   ·rw [List.mem_singleton.mp h] at e; cases e
   ·split at h
    ·rw [List.mem_singleton.mp h] at e
     exact List.mem_of_getElem? e
    ·cases h
theorem plain_mem {fl:List Fe} {x:Fe} {y:Addr × Addr × Pg} {os ns:List Pg} {m:Nat} (ef:plainF fl=dfA os ns m) (hx:x ∈ fl) (e:x.2=some y) : y.2.2 ∈ ns:=by
 refine df_mem os ns m (x.1,x.2.map fun y=>y.2.2) ?_ _ (by rw [e]; rfl)
 rw [← ef]
 exact List.mem_map.mpr ⟨x,hx,rfl⟩
theorem all_rep (n:Nat) : (List.replicate n true).all id=true:=by
 rw [List.all_eq_true]
 intro x hx
 exact List.eq_of_mem_replicate hx
theorem rep_snoc (n:Nat) : (List.replicate n true).map V.bl++[V.bl true]=(List.replicate (n+1) true).map V.bl:=by
 rw [List.replicate_succ',List.map_append]
 rfl
end L2

namespace K72
open PySem PySem.Spec L2 Tl

noncomputable abbrev s_l_due:Stmt:=top 13
noncomputable abbrev s_l_whole:Stmt:=top 6
noncomputable abbrev s_l_is_exchange:Stmt:=top 14
noncomputable abbrev s_l_cell_at:Stmt:=top 5
noncomputable abbrev s_l_mixed:Stmt:=top 7
noncomputable abbrev s_l_row:Stmt:=top 9
noncomputable abbrev s_l_new:Stmt:=top 11
noncomputable abbrev s_l_first:Stmt:=top 8
noncomputable abbrev s_l_old:Stmt:=top 10
noncomputable abbrev s_l_pages_copy:Stmt:=top 12
noncomputable abbrev s_page_copied:Stmt:=top 3
noncomputable abbrev s_filed:Stmt:=top 2
noncomputable abbrev s_filings_between:Stmt:=top 1
noncomputable abbrev s_law:Stmt:=top 15
set_option genInjectivity false in
structure Adr where
 f_l_due:Addr
 fd_l_due:FuncData
 f_l_whole:Addr
 fd_l_whole:FuncData
 f_l_is_exchange:Addr
 fd_l_is_exchange:FuncData
 f_l_cell_at:Addr
 fd_l_cell_at:FuncData
 f_l_mixed:Addr
 fd_l_mixed:FuncData
 f_l_row:Addr
 fd_l_row:FuncData
 f_l_new:Addr
 fd_l_new:FuncData
 f_l_first:Addr
 fd_l_first:FuncData
 f_l_old:Addr
 fd_l_old:FuncData
 f_l_pages_copy:Addr
 fd_l_pages_copy:FuncData
 f_page_copied:Addr
 fd_page_copied:FuncData
 f_filed:Addr
 fd_filed:FuncData
 f_filings_between:Addr
 fd_filings_between:FuncData
 f_law:Addr
 fd_law:FuncData
structure Txt (P:Program) (w:World) (K:PySem.W.Frag) (mg:Str→Option Value) (a:Adr) : Prop where
 d_l_due:DefOk K mg "_law_due" s_l_due ["old","new"] a.f_l_due a.fd_l_due
 d_l_whole:DefOk K mg "_law_whole" s_l_whole ["found"] a.f_l_whole a.fd_l_whole
 d_l_is_exchange:DefOk K mg "_law_is_exchange" s_l_is_exchange ["found"] a.f_l_is_exchange a.fd_l_is_exchange
 d_l_cell_at:DefOk K mg "_law_cell_at" s_l_cell_at ["script","k"] a.f_l_cell_at a.fd_l_cell_at
 d_l_mixed:DefOk K mg "_law_mixed" s_l_mixed ["cell"] a.f_l_mixed a.fd_l_mixed
 d_l_row:DefOk K mg "_law_row" s_l_row ["number"] a.f_l_row a.fd_l_row
 d_l_new:DefOk K mg "_law_new" s_l_new ["script","old"] a.f_l_new a.fd_l_new
 d_l_first:DefOk K mg "_law_first" s_l_first ["cell"] a.f_l_first a.fd_l_first
 d_l_old:DefOk K mg "_law_old" s_l_old ["script"] a.f_l_old a.fd_l_old
 d_l_pages_copy:DefOk K mg "_law_pages_copy" s_l_pages_copy ["pages"] a.f_l_pages_copy a.fd_l_pages_copy
 d_page_copied:DefOk K mg "page_copied" s_page_copied ["page"] a.f_page_copied a.fd_page_copied
 d_filed:DefOk K mg "filed" s_filed ["pages","filings"] a.f_filed a.fd_filed
 d_filings_between:DefOk K mg "filings_between" s_filings_between ["old","new"] a.f_filings_between a.fd_filings_between
 d_law:DefOk K mg "law" s_law ["script"] a.f_law a.fd_law
 z_all:mg "all" = none
 z_bool:mg "bool" = none
 z_dict:mg "dict" = none
 z_enumerate:mg "enumerate" = none
 z_int:mg "int" = none
 z_isinstance:mg "isinstance" = none
 z_len:mg "len" = none
 z_list:mg "list" = none
 z_max:mg "max" = none
 z_range:mg "range" = none
 z_tuple:mg "tuple" = none
section
variable {P:Program} {w:World} {K:PySem.W.Frag} {mg:Str→Option Value} {base:Heap} {a:Adr}

def sp_l_due (K:PySem.W.Frag) : Sp:=fun vs H Q _=>∃ (q1:Addr) (as rs:List Addr) (os:List Pg) (q2:Addr) (bs ts:List Addr) (ns:List Pg),vs=[.ref q1,.ref q2]∧PgL H q1 as rs os∧PgL H q2 bs ts ns∧os.length≤70∧ns.length≤70∧∀ q fs fl H',Same H H'→H' q=some (.lst (fs.map V.ref))→FlS H' fs fl→plainF fl=dfA os ns (max os.length ns.length)→Q (.ref q) H'
theorem sc_l_due:FnScope ["old","new","due","k"] ["old","new"] (defScope s_l_due):=⟨rfl,rfl,rfl,by decide +kernel,rfl,by decide +kernel,by decide +kernel⟩
theorem ok_l_due (T:Txt P w K mg a) : FnOk P w K mg base CX0 1 a.f_l_due a.fd_l_due ["old","new"] (sp_l_due K):=by
 have z_len:=T.z_len
 have z_max:=T.z_max
 have z_range:=T.z_range
 refine T.d_l_due.fn.ok sc_l_due (fun vs H Q E h=>?_) (fun cdv A outer s H vs Q E hr h=>?_)
 ·obtain ⟨q1,as,rs,os,q2,bs,ts,ns,rfl,_⟩:=h
  rfl
 obtain ⟨q1,as,rs,os,q2,bs,ts,ns,rfl,ho,hn,l1,l2,q⟩:=h
 have hu:=Nat.lt_of_succ_lt (hu_of hr)
 refine ⟨_,(pss_cons (ps_set (i:=2) sc_l_due.nd rfl (Or.inl rfl) (pe_lst pa_nil))
   (pss_cons (ps_for PassesOwn.never rfl (pi_range1 rfl z_range (pa_cons (pe_callB (call_max2 rfl) rfl z_max PyProof.Rows.boot_max (pa_cons (pe_callB call_len_seq rfl z_len PySem.boot_len (pa_cons (pv 0) pa_nil)) (pa_cons (pe_callB call_len_seq rfl z_len PySem.boot_len (pa_cons (pv 1) pa_nil)) pa_nil))) pa_nil)) (pg_name (i:=3) sc_l_due.nd rfl (Or.inl rfl)) (pss_one (ps_if (pt_cmpR op_ge (pv 3) (pe_callB call_len_seq rfl z_len PySem.boot_len (pa_cons (pv 1) pa_nil)) (nomark _)) (pss_one (ps_expr (pe_bm PySem.F.plainAttrs_list PySem.F.slot_list_append PySem.F.type_list_append mt_append (pv 2) (pa_cons (pe_tup (pa_cons (pv 3) (pa_cons pe_non pa_nil))) pa_nil)))) (pss_one (ps_if (PW.pt (pw_or (pt_cmpR op_ge (pv 3) (pe_callB call_len_seq rfl z_len PySem.boot_len (pa_cons (pv 0) pa_nil)) (nomark _)) (pw_or (pt_cmpR op_ne (pe_ix ix_tup (pe_ix ix_list (pv 0) (pv 3) (fun _ _=>rfl)) pe_int (fun _ _=>rfl)) (pe_ix ix_tup (pe_ix ix_list (pv 1) (pv 3) (fun _ _=>rfl)) pe_int (fun _ _=>rfl)) (nomark _)) (pw_or1 (pt_cmpR (op_neL hu) (pe_ix ix_tup (pe_ix ix_list (pv 0) (pv 3) (fun _ _=>rfl)) pe_int (fun _ _=>rfl)) (pe_ix ix_tup (pe_ix ix_list (pv 1) (pv 3) (fun _ _=>rfl)) pe_int (fun _ _=>rfl)) (nomark _)))))) (pss_one (ps_expr (pe_bm PySem.F.plainAttrs_list PySem.F.slot_list_append PySem.F.type_list_append mt_append (pv 2) (pa_cons (pe_tup (pa_cons (pv 3) (pa_cons (pe_ix ix_list (pv 1) (pv 3) (fun _ _=>rfl)) pa_nil))) pa_nil)))) pss_nil)))))
   (pss_one (ps_ret (pv 2))))),?_⟩
 have e1:(as.map V.ref).length=os.length:=by rw [List.length_map,ho.l1]
 have e2:(bs.map V.ref).length=ns.length:=by rw [List.length_map,hn.l1]
 refine ⟨Nat.zero_le _,fun tq htq=>?_⟩
 have s1:=same_new htq (.lst [])
 have k1:(upd H tq (.lst [])) tq=some (.lst []):=upd_same
 generalize upd H tq (.lst [])=H1 at s1 k1 ⊢
 dsimp only [gName]
 refine ⟨_,rfl,_,_,rfl,.inl (SqL.of (s1 _ _ ho.top)),_,rfl,_,_,rfl,.inl (SqL.of (s1 _ _ hn.top)),_,_,rfl,?_⟩
 rw [e1,e2,max_of]
 have m1:os.length≤max os.length ns.length:=Nat.le_max_left _ _
 have m2:ns.length≤max os.length ns.length:=Nat.le_max_right _ _
 have m3:max os.length ns.length≤70:=Nat.max_le.mpr ⟨l1,l2⟩
 generalize max os.length ns.length=m at m1 m2 m3 q ⊢
 refine ⟨_,rfl,(by omega),(by omega),for_range (fun i σ H2=>Same H H2∧∃ (v:Option V) (fs:List Addr) (fl:List Fe),σ=[some (.ref q1),some (.ref q2),some (.ref tq),v]∧H2 tq=some (.lst (fs.map V.ref))∧FlS (er1 H2 tq) fs fl∧plainF fl=dfA os ns i) ⟨s1,none,[],[],rfl,k1,FlS.nil,rfl⟩ ?_ ?_⟩
 rotate_left
 ·rintro σ H2 ⟨s2,v,fs,fl,rfl,k2,F,ef⟩
  have em:((m:Int) - 0).toNat=m:=by omega
  exact ⟨_,rfl,q tq fs fl H2 s2 k2 (F.same (er1_same _ _)) (by rw [ef]; exact congrArg (dfA os ns) em)⟩
 ·rintro i σ H2 hi ⟨s2,v,fs,fl,rfl,k2,F,ef⟩
  have hi':i < m:=by omega
  have sz:=df_small ef
  rw [Int.zero_add]
  dsimp only [gName]
  refine ⟨_,rfl,_,rfl,_,_,rfl,.inl (SqL.of (s2 _ _ hn.top)),_,_,rfl,rfl,_,rfl,?_⟩
  rw [e2]
  refine ite2 (fun c=>?_) (fun c=>?_)
  ·have c1:ns.length≤i:=by have:=of_decide_eq_true c; omega
   refine ⟨_,rfl,.inl ⟨rfl,_,SqL.of k2⟩,_,rfl,le2,fun p2 hp2=>?_⟩
   have s3:=same_new hp2 (.tup [V.int (i:Int),V.non])
   have k3:=s3 _ _ k2
   have x3:feAt (upd H2 p2 (.tup [V.int (i:Int),V.non])) p2 (i,none):=⟨upd_same,fun y e=>by cases e⟩
   generalize upd H2 p2 (.tup [V.int (i:Int),V.non])=H3 at s3 k3 x3 ⊢
   refine ⟨_,_,_,rfl,rfl,k3,(szR (n:=70) (by rw [F.len]; omega) (by decide)),?_⟩
   exact ⟨(s2.trans s3).put htq,_,fs++[p2],fl++[(i,none)],rfl,by rw [upd_same,refs_snoc],by rw [er1_put]; exact (F.same (er1_mono s3)).snoc (x3.er k3 (fun y e=>by cases e)),df_none ef c1⟩
  have c1:¬ ns.length≤i:=fun z=>c (decide_eq_true (by omega))
  obtain ⟨b,t,p,g1,g2,g3,g4,g5⟩:=(hn.toPgS.same s2).get (i:=i) (by omega)
  refine ⟨_,rfl,_,rfl,_,_,rfl,.inl (SqL.of (s2 _ _ ho.top)),_,_,rfl,rfl,_,rfl,?_⟩
  rw [e1]
  refine orG (fun c=>?_) (fun c=>?_)
  ·have c2:os.length≤i:=by have:=of_decide_eq_true c; omega
   refine ⟨_,rfl,.inl ⟨rfl,_,SqL.of k2⟩,_,rfl,_,rfl,_,rfl,_,_,_,_,rfl,rfl,SqL.of (s2 _ _ hn.top),g5,le2,fun p2 hp2=>?_⟩
   have s3:=Same.refl H2
   have k3:=k2
   have pa:=g4
   have nrq:t≠tq:=fun e=>by have z:=(hn.at' i b t p g1 g2 g3).2; rw [e,htq] at z; cases z
   have s4:=same_new hp2 (.tup [V.int (i:Int),V.ref b])
   have k4:=s4 _ _ k3
   have x4:feAt (upd H2 p2 (.tup [V.int (i:Int),V.ref b])) p2 (i,some (b,t,p)):=⟨upd_same,fun y e=>by cases e; exact pa.same s4⟩
   generalize upd H2 p2 (.tup [V.int (i:Int),V.ref b])=H4 at s4 k4 x4 ⊢
   refine ⟨_,_,_,rfl,rfl,k4,(szR (n:=70) (by rw [F.len]; omega) (by decide)),?_⟩
   exact ⟨(s2.trans (s3.trans s4)).put htq,_,fs++[p2],fl++[(i,some (b,t,p))],rfl,by rw [upd_same,refs_snoc],by rw [er1_put]; exact (F.same (er1_mono (s3.trans s4))).snoc (x4.er k4 (fun y e=>by cases e; exact nrq)),df_some ef c1 (.inl c2) g3⟩
  ·have c2:¬ os.length≤i:=fun z=>c (decide_eq_true (by omega))
   obtain ⟨a,r,o,f1,f2,f3,f4,f5⟩:=(ho.toPgS.same s2).get (i:=i) (by omega)
   refine ⟨_,rfl,_,rfl,_,_,_,_,rfl,rfl,SqL.of (s2 _ _ ho.top),f5,_,_,_,_,rfl,rfl,SqT.of f4.1,rfl,_,rfl,_,rfl,_,_,_,_,rfl,rfl,SqL.of (s2 _ _ hn.top),g5,_,_,_,_,rfl,rfl,SqT.of g4.1,rfl,rfl,_,rfl,?_⟩
   by_cases d1:o.1=p.1
   rotate_left
   ·rw [decide_eq_false (fun z=>d1 (V.int.inj z))]
    refine orG (fun _=>?_) (fun z=>absurd rfl z)
    have c3:¬ o=p:=fun z=>d1 (by rw [z])
    refine ⟨_,rfl,.inl ⟨rfl,_,SqL.of k2⟩,_,rfl,_,rfl,_,rfl,_,_,_,_,rfl,rfl,SqL.of (s2 _ _ hn.top),g5,le2,fun p2 hp2=>?_⟩
    have s3:=Same.refl H2
    have k3:=k2
    have pa:=g4
    have nrq:t≠tq:=fun e=>by have z:=(hn.at' i b t p g1 g2 g3).2; rw [e,htq] at z; cases z
    have s4:=same_new hp2 (.tup [V.int (i:Int),V.ref b])
    have k4:=s4 _ _ k3
    have x4:feAt (upd H2 p2 (.tup [V.int (i:Int),V.ref b])) p2 (i,some (b,t,p)):=⟨upd_same,fun y e=>by cases e; exact pa.same s4⟩
    generalize upd H2 p2 (.tup [V.int (i:Int),V.ref b])=H4 at s4 k4 x4 ⊢
    refine ⟨_,_,_,rfl,rfl,k4,(szR (n:=70) (by rw [F.len]; omega) (by decide)),?_⟩
    exact ⟨(s2.trans (s3.trans s4)).put htq,_,fs++[p2],fl++[(i,some (b,t,p))],rfl,by rw [upd_same,refs_snoc],by rw [er1_put]; exact (F.same (er1_mono (s3.trans s4))).snoc (x4.er k4 (fun y e=>by cases e; exact nrq)),df_some ef c1 (.inr (by rw [f3,g3]; exact fun z=>c3 (Option.some.inj z))) g3⟩
   rw [decide_eq_true (show V.int o.1=V.int p.1 by rw [d1])]
   refine orG (fun z=>absurd z (by decide)) (fun _=>?_)
   refine ⟨_,rfl,_,rfl,_,_,_,_,rfl,rfl,SqL.of (s2 _ _ ho.top),f5,_,_,_,_,rfl,rfl,SqT.of f4.1,rfl,_,rfl,_,rfl,_,_,_,_,rfl,rfl,SqL.of (s2 _ _ hn.top),g5,_,_,_,_,rfl,rfl,SqT.of g4.1,rfl,_,_,_,_,rfl,rfl,SqL.of f4.2,SqL.of g4.2,flat_rowsV _,flat_rowsV _,_,rfl,?_⟩
   rw [if_pos rfl,rows_eqE]
   by_cases d2:o.2=p.2
   ·have c3:o=p:=Prod.ext d1 d2
    rw [decide_eq_true d2]
    refine iteF ?_
    refine ⟨s2,_,fs,fl,rfl,k2,F,df_skip ef c1 (fun z=>?_)⟩
    rcases z with z | z
    ·exact c2 z
    ·rw [f3,g3,c3] at z
     exact z rfl
   have c3:¬ o=p:=fun z=>d2 (by rw [z])
   rw [decide_eq_false d2]
   refine iteT ?_
   refine ⟨_,rfl,.inl ⟨rfl,_,SqL.of k2⟩,_,rfl,_,rfl,_,rfl,_,_,_,_,rfl,rfl,SqL.of (s2 _ _ hn.top),g5,le2,fun p2 hp2=>?_⟩
   have s3:=Same.refl H2
   have k3:=k2
   have pa:=g4
   have nrq:t≠tq:=fun e=>by have z:=(hn.at' i b t p g1 g2 g3).2; rw [e,htq] at z; cases z
   have s4:=same_new hp2 (.tup [V.int (i:Int),V.ref b])
   have k4:=s4 _ _ k3
   have x4:feAt (upd H2 p2 (.tup [V.int (i:Int),V.ref b])) p2 (i,some (b,t,p)):=⟨upd_same,fun y e=>by cases e; exact pa.same s4⟩
   generalize upd H2 p2 (.tup [V.int (i:Int),V.ref b])=H4 at s4 k4 x4 ⊢
   refine ⟨_,_,_,rfl,rfl,k4,(szR (n:=70) (by rw [F.len]; omega) (by decide)),?_⟩
   exact ⟨(s2.trans (s3.trans s4)).put htq,_,fs++[p2],fl++[(i,some (b,t,p))],rfl,by rw [upd_same,refs_snoc],by rw [er1_put]; exact (F.same (er1_mono (s3.trans s4))).snoc (x4.er k4 (fun y e=>by cases e; exact nrq)),df_some ef c1 (.inr (by rw [f3,g3]; exact fun z=>c3 (Option.some.inj z))) g3⟩

def sp_l_whole:Sp:=fun vs H Q _=>∃ i:Int,vs=[.int i]∧Q (.bl true) H
theorem sc_l_whole:FnScope ["found"] ["found"] (defScope s_l_whole):=⟨rfl,rfl,rfl,by decide +kernel,rfl,by decide +kernel,by decide +kernel⟩
theorem ok_l_whole (T:Txt P w K mg a) : FnOk P w K mg base CX0 1 a.f_l_whole a.fd_l_whole ["found"] sp_l_whole:=by
 have z_bool:=T.z_bool
 have z_int:=T.z_int
 have z_isinstance:=T.z_isinstance
 refine T.d_l_whole.fn.ok sc_l_whole (fun vs H Q E h=>?_) (fun cdv A outer s H vs Q E hr h=>?_)
 ·obtain ⟨i,rfl,_⟩:=h
  rfl
 obtain ⟨i,rfl,q⟩:=h
 have hu:=Nat.lt_of_succ_lt (hu_of hr)
 refine ⟨_,(pss_one (ps_ret (pe_and (pe_callB call_isi rfl z_isinstance PyProof.Rows.boot_isinstance (pa_cons (pv 0) (pa_cons (pe_bltn (v:=.ty "int") rfl z_int PyProof.Rows.boot_int rfl) pa_nil))) (pe_one (pe_not (pe_callB call_isi rfl z_isinstance PyProof.Rows.boot_isinstance (pa_cons (pv 0) (pa_cons (pe_bltn (v:=.ty "bool") rfl z_bool PyProof.Rows.boot_bool rfl) pa_nil)))))))),?_⟩
 refine ⟨_,rfl,_,"int",true,rfl,(by (first | decide | (show (0:Int) < _; first | decide | omega))),rfl,_,rfl,?_⟩
 refine iteT ?_
 exact ⟨_,rfl,_,"bool",false,rfl,(by (first | decide | (show (0:Int) < _; first | decide | omega))),rfl,_,rfl,q⟩
def sp_l_is_exchange:Sp:=fun vs H Q _=>∃ (f:Addr) (x:Fe),vs=[.ref f]∧feAt H f x∧Q (.bl true) H
theorem sc_l_is_exchange:FnScope ["found"] ["found"] (defScope s_l_is_exchange):=⟨rfl,rfl,rfl,by decide +kernel,rfl,by decide +kernel,by decide +kernel⟩
theorem ok_l_is_exchange (T:Txt P w K mg a) : FnOk P w K mg base CX0 2 a.f_l_is_exchange a.fd_l_is_exchange ["found"] sp_l_is_exchange:=by
 have g_l_whole:=ok_l_whole (P:=P) (w:=w) (base:=base) T
 have d_l_whole:=T.d_l_whole
 have z_isinstance:=T.z_isinstance
 have z_len:=T.z_len
 have z_list:=T.z_list
 have z_tuple:=T.z_tuple
 refine T.d_l_is_exchange.fn.ok sc_l_is_exchange (fun vs H Q E h=>?_) (fun cdv A outer s H vs Q E hr h=>?_)
 ·obtain ⟨f,x,rfl,_⟩:=h
  rfl
 obtain ⟨f,x,rfl,hx,q⟩:=h
 have hu:=Nat.lt_of_succ_lt (hu_of hr)
 refine ⟨_,(pss_cons (ps_if (PW.pt (pw_or (pt_not (pt_val (pe_callB call_isi rfl z_isinstance PyProof.Rows.boot_isinstance (pa_cons (pv 0) (pa_cons (pe_bltn (v:=.ty "tuple") rfl z_tuple PyProof.Rows.boot_tuple rfl) pa_nil))) (fun _=>rfl))) (pw_or (pt_cmpR op_ne (pe_callB call_len_seq rfl z_len PySem.boot_len (pa_cons (pv 0) pa_nil)) pe_int (nomark _)) (pw_or1 (pt_not (pt_val (pe_callD d_l_whole g_l_whole (hr.mono (by decide)) rfl (pa_cons (pe_ix ix_tup (pv 0) pe_int (fun _ _=>rfl)) pa_nil)) (fun _=>rfl))))))) (pss_one (ps_ret pe_bl)) pss_nil)
   (pss_cons (ps_if (pt_cmpR op_isN (pe_ix ix_tup (pv 0) pe_int (fun _ _=>rfl)) pe_non (nomark _)) (pss_one (ps_ret pe_bl)) pss_nil)
   (pss_cons (ps_if (PW.pt (pw_or (pt_not (pt_val (pe_callB call_isi rfl z_isinstance PyProof.Rows.boot_isinstance (pa_cons (pe_ix ix_tup (pv 0) pe_int (fun _ _=>rfl)) (pa_cons (pe_bltn (v:=.ty "tuple") rfl z_tuple PyProof.Rows.boot_tuple rfl) pa_nil))) (fun _=>rfl))) (pw_or (pt_cmpR op_ne (pe_callB call_len_seq rfl z_len PySem.boot_len (pa_cons (pe_ix ix_tup (pv 0) pe_int (fun _ _=>rfl)) pa_nil)) pe_int (nomark _)) (pw_or1 (pt_not (pt_val (pe_callD d_l_whole g_l_whole (hr.mono (by decide)) rfl (pa_cons (pe_ix ix_tup (pe_ix ix_tup (pv 0) pe_int (fun _ _=>rfl)) pe_int (fun _ _=>rfl)) pa_nil)) (fun _=>rfl))))))) (pss_one (ps_ret pe_bl)) pss_nil)
   (pss_one (ps_ret (pe_callB call_isi rfl z_isinstance PyProof.Rows.boot_isinstance (pa_cons (pe_ix ix_tup (pe_ix ix_tup (pv 0) pe_int (fun _ _=>rfl)) pe_int (fun _ _=>rfl)) (pa_cons (pe_bltn (v:=.ty "list") rfl z_list PyProof.Rows.boot_list rfl) pa_nil)))))))),?_⟩
 obtain ⟨h1,h2⟩:=hx
 have h1':=SqT.of (K:=K) h1
 refine ⟨_,rfl,_,"tuple",true,rfl,(by decide),.inr ⟨⟨_,h1'⟩,rfl⟩,_,rfl,?_⟩
 refine iteF ?_
 refine ⟨_,rfl,_,_,rfl,.inr h1',rfl,_,rfl,?_⟩
 refine iteF ?_
 refine ⟨_,rfl,_,_,_,_,rfl,rfl,h1',rfl,_,rfl,_,rfl,?_⟩
 refine iteF ?_
 dsimp only [tNext]
 obtain ⟨k,o⟩:=x
 cases o with
 | none =>
  refine ⟨_,rfl,_,_,_,_,rfl,rfl,h1',rfl,rfl,_,rfl,?_⟩
  refine iteT ?_
  exact q
 | some y =>
  have g:=h2 y rfl
  have g1:=SqT.of (K:=K) g.1
  refine ⟨_,rfl,_,_,_,_,rfl,rfl,h1',rfl,rfl,_,rfl,?_⟩
  refine iteF ?_
  dsimp only [tNext]
  refine ⟨_,rfl,_,_,_,_,rfl,rfl,h1',rfl,_,"tuple",true,rfl,(by decide),.inr ⟨⟨_,g1⟩,rfl⟩,_,rfl,?_⟩
  refine iteF ?_
  refine ⟨_,rfl,_,_,_,_,rfl,rfl,h1',rfl,_,_,rfl,.inr g1,rfl,_,rfl,?_⟩
  refine iteF ?_
  refine ⟨_,rfl,_,_,_,_,rfl,rfl,h1',rfl,_,_,_,_,rfl,rfl,g1,rfl,_,rfl,_,rfl,?_⟩
  refine iteF ?_
  dsimp only [tNext]
  exact ⟨_,rfl,_,_,_,_,rfl,rfl,h1',rfl,_,_,_,_,rfl,rfl,g1,rfl,_,"list",true,rfl,(by decide),.inl ⟨⟨_,SqL.of g.2⟩,rfl⟩,q⟩
def sp_l_cell_at (K:PySem.W.Frag) : Sp:=fun vs H Q _=>∃ (b:Addr) (ns:List Int) (k:Nat),vs=[.ref b,.int (k:Int)]∧SqL K H b (ns.map V.int)∧Q (.int (ns.getD k 0)) H
theorem sc_l_cell_at:FnScope ["script","k"] ["script","k"] (defScope s_l_cell_at):=⟨rfl,rfl,rfl,by decide +kernel,rfl,by decide +kernel,by decide +kernel⟩
theorem ok_l_cell_at (T:Txt P w K mg a) : FnOk P w K mg base CX0 1 a.f_l_cell_at a.fd_l_cell_at ["script","k"] (sp_l_cell_at K):=by
 have z_len:=T.z_len
 refine T.d_l_cell_at.fn.ok sc_l_cell_at (fun vs H Q E h=>?_) (fun cdv A outer s H vs Q E hr h=>?_)
 ·obtain ⟨b,ns,k,rfl,_⟩:=h
  rfl
 obtain ⟨b,ns,k,rfl,hS,q⟩:=h
 have hu:=Nat.lt_of_succ_lt (hu_of hr)
 refine ⟨_,(pss_cons (ps_if (pt_cmpR op_lt (pv 1) (pe_callB call_len_seq rfl z_len PySem.boot_len (pa_cons (pv 0) pa_nil)) (nomark _)) (pss_one (ps_ret (pe_ix ix_list (pv 0) (pv 1) (fun _ _=>rfl)))) pss_nil)
   (pss_one (ps_ret pe_int))),?_⟩
 refine ⟨_,rfl,_,rfl,_,_,rfl,.inl hS,_,_,rfl,rfl,_,rfl,?_⟩
 refine ite2 (fun c=>?_) (fun c=>?_)
 ·have hk:k < ns.length:=by
   have:=of_decide_eq_true c
   rw [List.length_map] at this
   omega
  refine ⟨_,rfl,_,rfl,_,_,_,_,rfl,rfl,hS,atI_nat (j:=k) (v:=.int (ns.getD k 0)) ?_,q⟩
  rw [List.getElem?_map,List.getElem?_eq_getElem hk,List.getD_eq_getElem?_getD,List.getElem?_eq_getElem hk]
  rfl
 ·have hk:ns.length≤k:=by
   refine Nat.le_of_not_lt fun hk=>c (decide_eq_true ?_)
   rw [List.length_map]
   omega
  have e:ns.getD k 0=0:=by rw [List.getD_eq_getElem?_getD,List.getElem?_eq_none hk]; rfl
  rw [e] at q
  exact q
def mixed (c:Int) : Int:=(c+1) * 1357913579135791357 % 2305843009213693951
theorem mixed_in (c:Int) : 0≤mixed c∧mixed c < 2305843009213693951:=⟨Int.emod_nonneg _ (by (first | decide | (show (0:Int) < _; first | decide | omega))),Int.emod_lt_of_pos _ (by (first | decide | (show (0:Int) < _; first | decide | omega)))⟩
def sp_l_mixed:Sp:=fun vs H Q _=>∃ c:Int,vs=[.int c]∧Q (.int (mixed c)) H
theorem sc_l_mixed:FnScope ["cell"] ["cell"] (defScope s_l_mixed):=⟨rfl,rfl,rfl,by decide +kernel,rfl,by decide +kernel,by decide +kernel⟩
theorem ok_l_mixed (T:Txt P w K mg a) : FnOk P w K mg base CX0 1 a.f_l_mixed a.fd_l_mixed ["cell"] sp_l_mixed:=by
 refine T.d_l_mixed.fn.ok sc_l_mixed (fun vs H Q E h=>?_) (fun cdv A outer s H vs Q E hr h=>?_)
 ·obtain ⟨c,rfl,_⟩:=h
  rfl
 obtain ⟨c,rfl,q⟩:=h
 have hu:=Nat.lt_of_succ_lt (hu_of hr)
 refine ⟨_,(pss_one (ps_ret (pe_op op_mod (pe_op op_mul (pe_op op_add (pv 0) pe_int) pe_int) pe_int))),?_⟩
 exact ⟨_,rfl,_,_,rfl,rfl,_,_,rfl,rfl,.inr ⟨by decide,by decide⟩,_,_,rfl,rfl,(by (first | decide | (show (0:Int) < _; first | decide | omega))),q⟩
theorem cab:(PySem.Str.ofString "ab 0")=tx [97,98,32,48]:=by decide +kernel
theorem ce0:(PySem.Str.ofString "")=tx []:=by decide +kernel
def sp_l_row:Sp:=fun vs H Q _=>∃ (n:Int),vs=[.int n]∧∀ l:List Nat,Q (.str (tx l)) H
theorem sc_l_row:FnScope ["number","text","k"] ["number"] (defScope s_l_row):=⟨rfl,rfl,rfl,by decide +kernel,rfl,by decide +kernel,by decide +kernel⟩
theorem ok_l_row (T:Txt P w K mg a) : FnOk P w K mg base CX0 1 a.f_l_row a.fd_l_row ["number"] sp_l_row:=by
 have z_range:=T.z_range
 refine T.d_l_row.fn.ok sc_l_row (fun vs H Q E h=>?_) (fun cdv A outer s H vs Q E hr h=>?_)
 ·obtain ⟨n,rfl,_⟩:=h
  rfl
 obtain ⟨n,rfl,q⟩:=h
 have hu:=Nat.lt_of_succ_lt (hu_of hr)
 refine ⟨_,(pss_cons (ps_set (i:=1) sc_l_row.nd rfl (Or.inl rfl) pe_str)
   (pss_cons (ps_for PassesOwn.never rfl (pi_range1 rfl z_range (pa_cons (pe_op op_mod (pv 0) pe_int) pa_nil)) (pg_name (i:=2) sc_l_row.nd rfl (Or.inl rfl)) (pss_cons (ps_set (i:=0) sc_l_row.nd rfl (Or.inl rfl) (pe_op op_fdiv (pv 0) pe_int))
   (pss_one (ps_set (i:=1) sc_l_row.nd rfl (Or.inl rfl) (pe_op op_add_str (pv 1) (pe_ix ix_str pe_str (pe_op op_mod (pv 0) pe_int) (fun _ _=>rfl)))))))
   (pss_one (ps_ret (pv 1))))),?_⟩
 have n1:=Int.emod_nonneg n (show (6:Int)≠0 by decide)
 have n2:=Int.emod_lt_of_pos n (show (0:Int) < 6 by decide)
 refine ⟨_,rfl,_,_,rfl,rfl,(by (first | decide | (show (0:Int) < _; first | decide | omega))),_,rfl,(by omega),(by omega),for_range (fun i σ H2=>H2=H∧∃ (m:Int) (l:List Nat) (v:Option V),σ=[some (.int m),some (.str (tx l)),v]∧l.length=i) ⟨rfl,n,[],none,congrArg (fun z=>[some (V.int n),some (V.str z),none]) ce0,rfl⟩ ?_ ?_⟩
 ·rintro i σ H2 hi ⟨rfl,m,l,v,rfl,el⟩
  have hi6:i < 6:=by omega
  refine ⟨_,rfl,_,_,rfl,rfl,⟨by decide,by decide⟩,?_⟩
  dsimp only [gName]
  have ez:(tx [97,98,32,48]).cps.toList=[97,98,32,48]:=by simp
  obtain ⟨c,_,ec⟩:=pick (tx [97,98,32,48]).cps.toList 4 (m / 6) (by rw [ez]; rfl) (by decide)
  rw [cab]
  refine ⟨_,rfl,_,rfl,_,_,rfl,rfl,(by (first | decide | (show (0:Int) < _; first | decide | omega))),_,_,_,rfl,rfl,small (by rw [tx_len]; decide),ec,_,_,rfl,rfl,small (by rw [tx_len,tx_len]; simp; omega),rfl,m / 6,l++[c],some (.int (0+(i:Int))),?_,by simp [el]⟩
  rw [tx_app]
  rfl
 ·rintro σ H2 ⟨rfl,m,l,v,rfl,el⟩
  exact ⟨_,rfl,q l⟩
theorem cb0:(PySem.Str.ofString "b")=tx [98]:=by decide +kernel
def sp_l_new (K:PySem.W.Frag) : Sp:=fun vs H Q _=>∃ (sa q1:Addr) (ns:List Int) (as rs:List Addr) (os:List Pg),vs=[.ref sa,.ref q1]∧SqL K H sa (ns.map V.int)∧ns.length≤63∧PgL H q1 as rs os∧os.length≤63∧(∀ p ∈ os,(p.2.length:Int)=1+mixed (ns.getD 0 0) % 4)∧∀ q bs ts ps H',Same H H'→PgL H' q bs ts ps→ps.length≤70→(∀ p ∈ ps,(p.2.length:Int)=1+mixed (ns.getD 0 0) % 4)→Q (.ref q) H'
theorem sc_l_new:FnScope ["script","old","number","many","high","pages","k","draw","page"] ["script","old"] (defScope s_l_new):=⟨rfl,rfl,rfl,by decide +kernel,rfl,by decide +kernel,by decide +kernel⟩
theorem ok_l_new (T:Txt P w K mg a) : FnOk P w K mg base CX0 2 a.f_l_new a.fd_l_new ["script","old"] (sp_l_new K):=by
 have g_l_cell_at:=ok_l_cell_at (P:=P) (w:=w) (base:=base) T
 have d_l_cell_at:=T.d_l_cell_at
 have g_l_mixed:=ok_l_mixed (P:=P) (w:=w) (base:=base) T
 have d_l_mixed:=T.d_l_mixed
 have g_l_row:=ok_l_row (P:=P) (w:=w) (base:=base) T
 have d_l_row:=T.d_l_row
 have z_len:=T.z_len
 have z_list:=T.z_list
 have z_max:=T.z_max
 have z_range:=T.z_range
 refine T.d_l_new.fn.ok sc_l_new (fun vs H Q E h=>?_) (fun cdv A outer s H vs Q E hr h=>?_)
 ·obtain ⟨sa,q1,ns,as,rs,os,rfl,_⟩:=h
  rfl
 obtain ⟨sa,q1,ns,as,rs,os,rfl,hS,h63,ho,lo,hgo,q⟩:=h
 have hu:=Nat.lt_of_succ_lt (hu_of hr)
 refine ⟨_,(pss_cons (ps_set (i:=2) sc_l_new.nd rfl (Or.inl rfl) (pe_callD d_l_mixed g_l_mixed (hr.mono (by decide)) rfl (pa_cons (pe_op op_add (pe_callD d_l_cell_at g_l_cell_at (hr.mono (by decide)) rfl (pa_cons (pv 0) (pa_cons pe_int pa_nil))) pe_int) pa_nil)))
   (pss_cons (ps_set (i:=3) sc_l_new.nd rfl (Or.inl rfl) (pe_callB (call_max2 rfl) rfl z_max PyProof.Rows.boot_max (pa_cons pe_int (pa_cons (pe_op op_sub (pe_op op_add (pe_callB call_len_seq rfl z_len PySem.boot_len (pa_cons (pv 1) pa_nil)) (pe_op op_mod (pv 2) pe_int)) pe_int) pa_nil))))
   (pss_cons (ps_set (i:=4) sc_l_new.nd rfl (Or.inl rfl) (pe_op op_add pe_int (pe_op op_mod (pe_callD d_l_mixed g_l_mixed (hr.mono (by decide)) rfl (pa_cons (pe_callD d_l_cell_at g_l_cell_at (hr.mono (by decide)) rfl (pa_cons (pv 0) (pa_cons pe_int pa_nil))) pa_nil)) pe_int)))
   (pss_cons (ps_set (i:=5) sc_l_new.nd rfl (Or.inl rfl) (pe_lst pa_nil))
   (pss_cons (ps_for PassesOwn.never rfl (pi_range1 rfl z_range (pa_cons (pv 3) pa_nil)) (pg_name (i:=6) sc_l_new.nd rfl (Or.inl rfl)) (pss_cons (ps_set (i:=7) sc_l_new.nd rfl (Or.inl rfl) (pe_callD d_l_mixed g_l_mixed (hr.mono (by decide)) rfl (pa_cons (pe_op op_add (pe_op op_fdiv (pe_callD d_l_cell_at g_l_cell_at (hr.mono (by decide)) rfl (pa_cons (pv 0) (pa_cons (pe_op op_add (pv 6) pe_int) pa_nil))) pe_int) (pe_op op_mul (pe_op op_mul pe_int (pe_op op_add (pv 6) pe_int)) (pe_op op_add (pv 6) pe_int))) pa_nil)))
   (pss_cons (ps_set (i:=8) sc_l_new.nd rfl (Or.inl rfl) (pe_tup (pa_cons (pv 6) (pa_cons (pe_op op_rep (pe_lst (pa_cons pe_str pa_nil)) (pv 4)) pa_nil))))
   (pss_cons (ps_if (pt_cmpR op_lt (pv 6) (pe_callB call_len_seq rfl z_len PySem.boot_len (pa_cons (pv 1) pa_nil)) (nomark _)) (pss_one (ps_set (i:=8) sc_l_new.nd rfl (Or.inl rfl) (pe_tup (pa_cons (pe_ix ix_tup (pe_ix ix_list (pv 1) (pv 6) (fun _ _=>rfl)) pe_int (fun _ _=>rfl)) (pa_cons (pe_callTy call_list_of rfl z_list PyProof.Rows.boot_list (pa_cons (pe_ix ix_tup (pe_ix ix_list (pv 1) (pv 6) (fun _ _=>rfl)) pe_int (fun _ _=>rfl)) pa_nil)) pa_nil))))) pss_nil)
   (pss_cons (ps_if (pt_cmpR op_eq (pe_op op_mod (pv 7) pe_int) pe_int (nomark _)) (pss_one (ps_asg (pe_callD d_l_row g_l_row (hr.mono (by decide)) rfl (pa_cons (pe_op op_fdiv (pv 7) pe_int) pa_nil)) (pg_sub (pe_ix ix_tup (pv 8) pe_int (fun _ _=>rfl)) (pe_op op_mod (pe_op op_fdiv (pv 7) pe_int) (pv 4)) set_list))) pss_nil)
   (pss_cons (ps_if (pt_cmpR op_eq (pe_op op_mod (pv 7) pe_int) pe_int (nomark _)) (pss_one (ps_set (i:=8) sc_l_new.nd rfl (Or.inl rfl) (pe_tup (pa_cons (pe_op op_add (pe_ix ix_tup (pv 8) pe_int (fun _ _=>rfl)) pe_int) (pa_cons (pe_ix ix_tup (pv 8) pe_int (fun _ _=>rfl)) pa_nil))))) pss_nil)
   (pss_one (ps_expr (pe_bm PySem.F.plainAttrs_list PySem.F.slot_list_append PySem.F.type_list_append mt_append (pv 5) (pa_cons (pv 8) pa_nil))))))))))
   (pss_one (ps_ret (pv 5)))))))),?_⟩
 have e1:(as.map V.ref).length=os.length:=by rw [List.length_map,ho.l1]
 have m1:=Int.emod_nonneg (mixed (ns.getD 0 0)) (show (4:Int)≠0 by decide)
 have m2:=Int.emod_lt_of_pos (mixed (ns.getD 0 0)) (show (0:Int) < 4 by decide)
 refine ⟨_,rfl,_,_,0,rfl,hS,_,_,rfl,rfl,_,rfl,?_⟩
 dsimp only [gName]
 generalize mixed (ns.getD 0 0+41)=nm
 have w1:=Int.emod_nonneg nm (show (7:Int)≠0 by decide)
 have w2:=Int.emod_lt_of_pos nm (show (0:Int) < 7 by decide)
 refine ⟨_,rfl,_,_,rfl,.inl (SqL.of ho.top),_,rfl,_,_,rfl,rfl,(by (first | decide | (show (0:Int) < _; first | decide | omega))),_,_,rfl,rfl,_,_,rfl,rfl,_,_,rfl,?_⟩
 rw [e1]
 obtain ⟨m,em,lm⟩ : ∃ m:Nat,(if (os.length:Int)+nm % 7 - 3 > 0 then (os.length:Int)+nm % 7 - 3 else 0)=(m:Int)∧m≤70:=by
  by_cases c:(os.length:Int)+nm % 7 - 3 > 0
  ·rw [if_pos c]
   exact ⟨((os.length:Int)+nm % 7 - 3).toNat,by omega,by omega⟩
  ·rw [if_neg c]
   exact ⟨0,rfl,by omega⟩
 rw [em]
 dsimp only [gName]
 refine ⟨_,rfl,_,_,0,rfl,hS,_,rfl,_,_,rfl,rfl,(by (first | decide | (show (0:Int) < _; first | decide | omega))),_,_,rfl,rfl,?_⟩
 dsimp only [gName]
 generalize mixed (ns.getD 0 0) % 4=mx at m1 m2 q hgo ⊢
 refine ⟨Nat.zero_le _,fun pq hpq=>?_⟩
 have s1:=same_new hpq (.lst [])
 have k1:(upd H pq (.lst [])) pq=some (.lst []):=upd_same
 generalize upd H pq (.lst [])=H1 at s1 k1 ⊢
 dsimp only [gName]
 refine ⟨_,rfl,_,rfl,(by omega),(by omega),for_range (fun i σ H2=>Same H H2∧∃ (v6 v7 v8:Option V) (bs ts:List Addr) (ps:List Pg),σ=[some (.ref sa),some (.ref q1),some (.int nm),some (.int (m:Int)),some (.int (1+mx)),some (.ref pq),v6,v7,v8]∧H2 pq=some (.lst (bs.map V.ref))∧PgS (er1 H2 pq) bs ts ps∧ps.length=i∧∀ p ∈ ps,(p.2.length:Int)=1+mx) ⟨s1,none,none,none,[],[],[],rfl,k1,PgS.nil,rfl,fun p hp=>by cases hp⟩ ?_ ?_⟩
 rotate_left
 ·rintro σ H2 ⟨s2,v6,v7,v8,bs,ts,ps,rfl,kp,P,el,hh⟩
  exact ⟨_,rfl,q pq bs ts ps H2 s2 ⟨P.same (er1_same _ _),kp⟩ (by omega) hh⟩
 ·rintro i σ H2 hi ⟨s2,v6,v7,v8,bs,ts,ps,rfl,kp,P,el,hh⟩
  have hi':i < 70:=by omega
  rw [Int.zero_add]
  dsimp only [gName]
  refine ⟨_,rfl,_,rfl,_,_,rfl,rfl,_,_,i+2,rfl,s2.seq hS,_,_,rfl,rfl,⟨by decide,by decide⟩,_,rfl,_,_,rfl,rfl,_,_,rfl,rfl,.inl ⟨by decide,by decide⟩,_,rfl,_,_,rfl,rfl,_,_,rfl,rfl,.inr ⟨by omega,by omega⟩,_,_,rfl,rfl,_,rfl,?_⟩
  dsimp only [gName]
  generalize mixed (ns.getD (i+2) 0 / 2+7919 * ((i:Int)+1) * ((i:Int)+2))=dw
  refine ⟨_,rfl,le1,fun p2 hp2=>?_⟩
  rw [cb0]
  have s3:=same_new hp2 (.lst [V.str (tx [98])])
  have k3:(upd H2 p2 (.lst [V.str (tx [98])])) p2=some (.lst [V.str (tx [98])]):=upd_same
  generalize upd H2 p2 (.lst [V.str (tx [98])])=H3 at s3 k3 ⊢
  refine ⟨_,rfl,_,_,_,rfl,rfl,k3,(by omega),(by omega),(by rw [List.length_singleton]; exact small (by omega)),fun p3 hp3=>?_⟩
  rw [rows_repT]
  have lr:((List.replicate (1+mx).toNat [98]).length:Int)=1+mx:=by rw [List.length_replicate]; omega
  generalize List.replicate (1+mx).toNat [98]=rw0 at lr ⊢
  have s4:=same_new hp3 (.lst (rowsV rw0))
  have k4:(upd H3 p3 (.lst (rowsV rw0))) p3=some (.lst (rowsV rw0)):=upd_same
  generalize upd H3 p3 (.lst (rowsV rw0))=H4 at s4 k4 ⊢
  refine ⟨le2,fun p4 hp4=>?_⟩
  have s5:=same_new hp4 (.tup [V.int (i:Int),V.ref p3])
  have k5:pgAt (upd H4 p4 (.tup [V.int (i:Int),V.ref p3])) p4 p3 ((i:Int),rw0):=⟨upd_same,s5 _ _ k4⟩
  generalize upd H4 p4 (.tup [V.int (i:Int),V.ref p3])=H5 at s5 k5 ⊢
  dsimp only [gName]
  have t5:=s3.trans (s4.trans s5)
  refine cut_seq (fun σ' H'=>Same H2 H'∧∃ (a r:Addr) (p:Pg),σ' = [some (.ref sa),some (.ref q1),some (.int nm),some (.int (m:Int)),some (.int (1+mx)),some (.ref pq),some (.int (i:Int)),some (.int dw),some (.ref a)]∧pgAt H' a r p∧H2 r=none∧(p.2.length:Int)=1+mx) ?_ (fun key=>?_)
  rotate_left
  ·refine ⟨_,rfl,_,rfl,_,_,rfl,.inl (SqL.of ((s2.trans t5) _ _ ho.top)),_,_,rfl,rfl,_,rfl,?_⟩
   rw [e1]
   refine ite2 (fun c=>?_) (fun c=>key _ _ ⟨t5,p4,p3,_,rfl,k5,s3.free hp3,lr⟩)
   have c1:i < os.length:=by have:=of_decide_eq_true c; omega
   obtain ⟨a,r,p,f1,f2,f3,f4,f5⟩:=(ho.toPgS.same (s2.trans t5)).get c1
   refine ⟨_,rfl,_,rfl,_,_,_,_,rfl,rfl,SqL.of ((s2.trans t5) _ _ ho.top),f5,_,_,_,_,rfl,rfl,SqT.of f4.1,rfl,_,rfl,_,rfl,_,_,_,_,rfl,rfl,SqL.of ((s2.trans t5) _ _ ho.top),f5,_,_,_,_,rfl,rfl,SqT.of f4.1,rfl,_,_,rfl,.inl (SqL.of f4.2),fun p6 hp6=>?_⟩
   have s6:=same_new hp6 (.lst (rowsV p.2))
   have k6:(upd H5 p6 (.lst (rowsV p.2))) p6=some (.lst (rowsV p.2)):=upd_same
   generalize upd H5 p6 (.lst (rowsV p.2))=H6 at s6 k6 ⊢
   refine ⟨le2,fun p7 hp7=>?_⟩
   have s7:=same_new hp7 (.tup [V.int p.1,V.ref p6])
   exact key _ _ ⟨t5.trans (s6.trans s7),p7,p6,p,rfl,⟨upd_same,s7 _ _ k6⟩,t5.free hp6,hgo p (List.mem_of_getElem? f3)⟩
  clear k5 t5 s5 s4 s3 k3 k4 hp4 hp3 hp2
  rintro σ' H6 ⟨s6,a,r,p,rfl,pa,nr,pl_⟩
  refine cut_seq (fun σ' H'=>Same H2 H'∧∃ (a r:Addr) (p:Pg),σ' = [some (.ref sa),some (.ref q1),some (.int nm),some (.int (m:Int)),some (.int (1+mx)),some (.ref pq),some (.int (i:Int)),some (.int dw),some (.ref a)]∧pgAt H' a r p∧H2 r=none∧(p.2.length:Int)=1+mx) ?_ (fun key=>?_)
  rotate_left
  ·refine ⟨_,rfl,_,_,rfl,rfl,(by (first | decide | (show (0:Int) < _; first | decide | omega))),rfl,_,rfl,?_⟩
   refine ite2 (fun c=>?_) (fun c=>key _ _ ⟨s6,a,r,p,rfl,pa,nr,pl_⟩)
   have x1:=Int.emod_nonneg (dw / 9) (show 1+mx≠0 by omega)
   have x2:=Int.emod_lt_of_pos (dw / 9) (show 0 < 1+mx by omega)
   refine ⟨_,rfl,_,_,rfl,rfl,⟨by decide,by decide⟩,_,rfl,fun l=>?_⟩
   refine ⟨_,rfl,_,_,_,_,rfl,rfl,SqT.of pa.1,rfl,_,rfl,_,_,rfl,rfl,⟨by decide,by decide⟩,_,rfl,_,_,rfl,rfl,(by omega),_,_,_,_,rfl,rfl,pa.2,ixN_in x1 (by rw [rowsV_len,pl_]; exact x2),?_⟩
   rw [rows_set]
   exact key _ _ ⟨s6.put nr,a,r,_,rfl,pa.set,nr,by show ((p.2.set _ _).length:Int)=_; rw [List.length_set]; exact pl_⟩
  clear pa nr pl_ s6
  clear a r p
  rintro σ' H6 ⟨s6,a,r,p,rfl,pa,nr,pl_⟩
  refine cut_seq (fun σ' H'=>Same H2 H'∧∃ (a r:Addr) (p:Pg),σ' = [some (.ref sa),some (.ref q1),some (.int nm),some (.int (m:Int)),some (.int (1+mx)),some (.ref pq),some (.int (i:Int)),some (.int dw),some (.ref a)]∧pgAt H' a r p∧H2 r=none∧(p.2.length:Int)=1+mx) ?_ (fun key=>?_)
  rotate_left
  ·refine ⟨_,rfl,_,_,rfl,rfl,(by (first | decide | (show (0:Int) < _; first | decide | omega))),rfl,_,rfl,?_⟩
   refine ite2 (fun c=>?_) (fun c=>key _ _ ⟨s6,a,r,p,rfl,pa,nr,pl_⟩)
   refine ⟨_,rfl,_,_,_,_,rfl,rfl,SqT.of pa.1,rfl,_,_,rfl,rfl,_,rfl,_,_,_,_,rfl,rfl,SqT.of pa.1,rfl,le2,fun p5 hp5=>?_⟩
   have s7:=same_new hp5 (.tup [V.int (p.1+1),V.ref r])
   exact key _ _ ⟨s6.trans s7,p5,r,(p.1+1,p.2),rfl,⟨upd_same,s7 _ _ pa.2⟩,nr,pl_⟩
  clear pa nr pl_ s6
  clear a r p
  rintro σ' H6 ⟨s6,a,r,p,rfl,pa,nr,pl_⟩
  have kp6:=s6 _ _ kp
  have nq:r≠pq:=fun e=>by rw [e,kp] at nr; cases nr
  refine ⟨_,rfl,.inl ⟨rfl,_,SqL.of kp6⟩,_,rfl,_,_,_,rfl,rfl,kp6,szR (n:=70) (by rw [P.l1,el]; omega) (by decide),?_⟩
  refine ⟨(s2.trans s6).put hpq,_,_,_,bs++[a],ts++[r],ps++[p],rfl,by rw [upd_same,refs_snoc],by rw [er1_put]; exact (P.same (er1_mono s6)).snoc (pa.er kp6 nq),by simp [el],fun x hx=>?_⟩
  rcases List.mem_append.mp hx with h | h
  ·exact hh x h
  ·rw [List.mem_singleton.mp h]; exact pl_
theorem c9:(PySem.Str.ofString "9")=tx [57]:=by decide +kernel
theorem c0:(PySem.Str.ofString "0")=tx [48]:=by decide +kernel
theorem p60:(10:Int) ^ (60:Int).toNat=10 ^ 60:=by decide +kernel
theorem nines_in (k:Nat) (h:k≤60) : valF (48 :: repL [57] k) < 10 ^ 60:=by
 have e:valF (48 :: repL [57] k)=valF (repL [57] k):=rfl
 rw [e]
 have f:∀ c ∈ repL [57] k,48≤c∧c≤57:=fun c hc=>by rw [rep_mem _ _ _ hc]; omega
 refine Nat.lt_of_lt_of_le (val_lt _ _ rfl f) (Nat.pow_le_pow_right (by (first | decide | (show (0:Int) < _; first | decide | omega))) ?_)
 rw [repL_len]
 simp
 omega
def sp_l_first:Sp:=fun vs H Q _=>∃ c:Int,vs=[.int c]∧∀ n:Int,0≤n→n≤10 ^ 60→Q (.int n) H
theorem sc_l_first:FnScope ["cell","kind","rest"] ["cell"] (defScope s_l_first):=⟨rfl,rfl,rfl,by decide +kernel,rfl,by decide +kernel,by decide +kernel⟩
theorem ok_l_first (T:Txt P w K mg a) : FnOk P w K mg base CX0 1 a.f_l_first a.fd_l_first ["cell"] sp_l_first:=by
 have z_int:=T.z_int
 have z_max:=T.z_max
 refine T.d_l_first.fn.ok sc_l_first (fun vs H Q E h=>?_) (fun cdv A outer s H vs Q E hr h=>?_)
 ·obtain ⟨c,rfl,_⟩:=h
  rfl
 obtain ⟨c,rfl,q⟩:=h
 have hu:=Nat.lt_of_succ_lt (hu_of hr)
 refine ⟨_,(pss_cons (ps_set (i:=1) sc_l_first.nd rfl (Or.inl rfl) (pe_op op_mod (pv 0) pe_int))
   (pss_cons (ps_set (i:=2) sc_l_first.nd rfl (Or.inl rfl) (pe_op op_fdiv (pv 0) pe_int))
   (pss_cons (ps_if (pt_cmpR op_eq (pv 1) pe_int (nomark _)) (pss_one (ps_ret (pe_op op_mod (pv 2) pe_int))) pss_nil)
   (pss_cons (ps_if (pt_cmpR op_eq (pv 1) pe_int (nomark _)) (pss_one (ps_ret (pe_callB (call_max2 rfl) rfl z_max PyProof.Rows.boot_max (pa_cons pe_int (pa_cons (pe_op op_sub (pe_callTy call_int_text rfl z_int PyProof.Rows.boot_int (pa_cons (pe_op op_add_str pe_str (pe_op op_mul_str pe_str (pe_op op_mod (pv 2) pe_int))) pa_nil)) (pe_op op_mod (pe_op op_fdiv (pv 2) pe_int) pe_int)) pa_nil))))) pss_nil)
   (pss_cons (ps_if (pt_cmpR op_eq (pv 1) pe_int (nomark _)) (pss_one (ps_ret (pe_op op_mod (pv 2) (pe_op op_add (pe_op op_pow pe_int pe_int) pe_int)))) pss_nil)
   (pss_one (ps_ret (pe_op op_add pe_int (pe_op op_mod (pv 2) pe_int))))))))),?_⟩
 refine ⟨_,rfl,_,_,rfl,rfl,(by (first | decide | (show (0:Int) < _; first | decide | omega))),?_⟩
 refine ⟨_,rfl,_,_,rfl,rfl,⟨by decide,by decide⟩,?_⟩
 refine ⟨_,rfl,rfl,_,rfl,?_⟩
 refine ite2 (fun _=>?_) (fun _=>?_)
 ·refine ⟨_,rfl,_,_,rfl,rfl,(by (first | decide | (show (0:Int) < _; first | decide | omega))),q _ (Int.emod_nonneg _ (by (first | decide | (show (0:Int) < _; first | decide | omega)))) ?_⟩
  have:=Int.emod_lt_of_pos (c / 4) (show (0:Int) < 3 by decide)
  exact Int.le_trans (Int.le_of_lt this) (by (first | decide | (show (0:Int) < _; first | decide | omega)))
 refine ⟨_,rfl,rfl,_,rfl,?_⟩
 refine ite2 (fun _=>?_) (fun _=>?_)
 ·have b1:=Int.emod_nonneg (c / 4) (show (61:Int)≠0 by decide)
  have b2:=Int.emod_lt_of_pos (c / 4) (show (0:Int) < 61 by decide)
  have b3:=Int.emod_nonneg (c / 4 / 61) (show (13:Int)≠0 by decide)
  obtain ⟨k,hk⟩:=Int.eq_ofNat_of_zero_le b1
  have hk2:k≤60:=by omega
  refine ⟨_,rfl,_,_,rfl,rfl,(by (first | decide | (show (0:Int) < _; first | decide | omega))),_,_,rfl,rfl,(by rw [hk,c9]; exact mulOk_small (by omega) (by (first | decide | (show (0:Int) < _; first | decide | omega)))),_,_,rfl,rfl,?_,?_⟩
  ·rw [hk,c9,c0,mul_tx,tx_len,tx_len,repL_len]
   exact small (by simp; omega)
  have ei:PySem.intText? (PySem.Str.ofString "0"++Txt.mul (PySem.Str.ofString "9") (c / 4 % 61))=some ((valF (48 :: repL [57] k) : Nat) : Int):=by
   rw [hk,c9,c0,mul_tx,tx_app]
   refine read_digits (l:=48 :: repL [57] k) (fun d hd=>?_) (by simp) ?_
   ·rcases List.mem_cons.mp hd with rfl | hd
    ·omega
    ·rw [rep_mem _ _ _ hd]; omega
   ·rw [List.length_cons,repL_len]
    simp
    omega
  refine ⟨_,_,rfl,ei,?_,_,rfl,_,_,rfl,rfl,⟨by decide,by decide⟩,_,_,rfl,rfl,(by (first | decide | (show (0:Int) < _; first | decide | omega))),_,_,rfl,rfl,_,_,rfl,?_⟩
  ·rw [hk,c9,c0,mul_tx,tx_app,tx_len,List.length_append,repL_len]
   simp
   omega
  have nb:=nines_in k hk2
  have nb2:((valF (48 :: repL [57] k) : Nat) : Int)≤10 ^ 60:=by
   have:((valF (48 :: repL [57] k) : Nat) : Int)≤((10 ^ 60:Nat) : Int):=Int.ofNat_le.mpr (Nat.le_of_lt nb)
   exact Int.le_trans this (by decide +kernel)
  generalize ((valF (48 :: repL [57] k) : Nat) : Int)=z at nb2 ⊢
  refine q _ ?_ ?_
  ·split <;> omega
  ·split <;> omega
 refine ⟨_,rfl,rfl,_,rfl,?_⟩
 refine ite2 (fun _=>?_) (fun _=>?_)
 ·refine ⟨_,rfl,_,_,rfl,rfl,⟨by decide,by decide,by decide⟩,_,_,rfl,rfl,_,_,rfl,rfl,?_,?_⟩
  ·show (0:Int) < 10 ^ (60:Int).toNat+1
   rw [p60]
   decide
  ·rw [p60]
   refine q _ (Int.emod_nonneg _ (by (first | decide | (show (0:Int) < _; first | decide | omega)))) ?_
   have:=Int.emod_lt_of_pos (c / 4) (show (0:Int) < 10 ^ 60+1 by decide)
   omega
 ·refine ⟨_,rfl,_,_,rfl,rfl,(by (first | decide | (show (0:Int) < _; first | decide | omega))),_,_,rfl,rfl,q _ ?_ ?_⟩
  ·have:=Int.emod_nonneg (c / 4) (show (6:Int)≠0 by decide)
   omega
  ·have:=Int.emod_lt_of_pos (c / 4) (show (0:Int) < 6 by decide)
   exact Int.le_trans (show 95+c / 4 % 6≤101 by omega) (by (first | decide | (show (0:Int) < _; first | decide | omega)))
theorem cut_len {α:Type} (ns:List α) (lo hi:Option Int) : (cutL ns lo hi).length≤ns.length:=by
 unfold cutL
 rw [List.length_take,List.length_drop]
 omega
def sp_l_old (K:PySem.W.Frag) : Sp:=fun vs H Q _=>∃ (sa:Addr) (ns:List Int),vs=[.ref sa]∧SqL K H sa (ns.map V.int)∧ns.length≤63∧∀ q as rs os H',Same H H'→PgL H' q as rs os→os.length≤63→(∀ p ∈ os,(p.2.length:Int)=1+mixed (ns.getD 0 0) % 4)→Q (.ref q) H'
theorem sc_l_old:FnScope ["script","high","first","pages","k","cell","number"] ["script"] (defScope s_l_old):=⟨rfl,rfl,rfl,by decide +kernel,rfl,by decide +kernel,by decide +kernel⟩
theorem ok_l_old (T:Txt P w K mg a) : FnOk P w K mg base CX0 2 a.f_l_old a.fd_l_old ["script"] (sp_l_old K):=by
 have g_l_cell_at:=ok_l_cell_at (P:=P) (w:=w) (base:=base) T
 have d_l_cell_at:=T.d_l_cell_at
 have g_l_first:=ok_l_first (P:=P) (w:=w) (base:=base) T
 have d_l_first:=T.d_l_first
 have g_l_mixed:=ok_l_mixed (P:=P) (w:=w) (base:=base) T
 have d_l_mixed:=T.d_l_mixed
 have g_l_row:=ok_l_row (P:=P) (w:=w) (base:=base) T
 have d_l_row:=T.d_l_row
 have z_enumerate:=T.z_enumerate
 have z_range:=T.z_range
 refine T.d_l_old.fn.ok sc_l_old (fun vs H Q E h=>?_) (fun cdv A outer s H vs Q E hr h=>?_)
 ·obtain ⟨sa,ns,rfl,_⟩:=h
  rfl
 obtain ⟨sa,ns,rfl,hS,h63,q⟩:=h
 have hu:=Nat.lt_of_succ_lt (hu_of hr)
 refine ⟨_,(pss_cons (ps_set (i:=1) sc_l_old.nd rfl (Or.inl rfl) (pe_op op_add pe_int (pe_op op_mod (pe_callD d_l_mixed g_l_mixed (hr.mono (by decide)) rfl (pa_cons (pe_callD d_l_cell_at g_l_cell_at (hr.mono (by decide)) rfl (pa_cons (pv 0) (pa_cons pe_int pa_nil))) pa_nil)) pe_int)))
   (pss_cons (ps_set (i:=2) sc_l_old.nd rfl (Or.inl rfl) (pe_callD d_l_first g_l_first (hr.mono (by decide)) rfl (pa_cons (pe_callD d_l_cell_at g_l_cell_at (hr.mono (by decide)) rfl (pa_cons (pv 0) (pa_cons pe_int pa_nil))) pa_nil)))
   (pss_cons (ps_set (i:=3) sc_l_old.nd rfl (Or.inl rfl) (pe_lst pa_nil))
   (pss_cons (ps_for PassesOwn.never rfl (pi_enum rfl z_enumerate (pe_slice sl_list (pv 0) (po_some pe_int) (po_some pe_int))) (pg_tup rfl (pgs_cons (pg_name (i:=4) sc_l_old.nd rfl (Or.inl rfl)) (pgs_cons (pg_name (i:=5) sc_l_old.nd rfl (Or.inl rfl)) pgs_nil))) (pss_cons (ps_set (i:=6) sc_l_old.nd rfl (Or.inr rfl) (pe_callD d_l_mixed g_l_mixed (hr.mono (by decide)) rfl (pa_cons (pv 5) pa_nil)))
   (pss_one (ps_expr (pe_bm PySem.F.plainAttrs_list PySem.F.slot_list_append PySem.F.type_list_append mt_append (pv 3) (pa_cons (pe_tup (pa_cons (pe_op op_add (pv 2) (pv 4)) (pa_cons (pe_lc rfl (lcok (caps:=["number"]) (js:=[6]) (cap:=⟨⟨rfl,.inl rfl,rfl,.inl rfl⟩,trivial⟩)) (pi_range1 rfl z_range (pa_cons (pv 1) pa_nil)) (fun _ _ _ _=>pts_nil) (fun _ _ _ _=>(pe_callD d_l_row g_l_row (hr.mono (by decide)) rfl (pa_cons (pe_callD d_l_mixed g_l_mixed (hr.mono (by decide)) rfl (pa_cons (pe_op op_mul (pe_op op_fdiv (pv 1) pe_int) (pe_op op_add (pe_op op_add (pe_op op_mul (pv 0) (pv 0)) (pe_op op_mul pe_int (pv 0))) pe_int)) pa_nil)) pa_nil)))) pa_nil))) pa_nil))))))
   (pss_one (ps_ret (pv 3))))))),?_⟩
 have m1:=Int.emod_nonneg (mixed (ns.getD 0 0)) (show (4:Int)≠0 by decide)
 have m2:=Int.emod_lt_of_pos (mixed (ns.getD 0 0)) (show (0:Int) < 4 by decide)
 refine ⟨_,rfl,_,_,0,rfl,hS,_,rfl,_,_,rfl,rfl,(by (first | decide | (show (0:Int) < _; first | decide | omega))),_,_,rfl,rfl,?_⟩
 dsimp only [gName]
 generalize mixed (ns.getD 0 0) % 4=mx at m1 m2 q ⊢
 refine ⟨_,rfl,_,_,1,rfl,hS,_,rfl,fun fi _ _=>?_⟩
 dsimp only [gName]
 refine ⟨Nat.zero_le _,fun pq hpq=>?_⟩
 have s1:=same_new hpq (.lst [])
 have k1:(upd H pq (.lst [])) pq=some (.lst []):=upd_same
 generalize upd H pq (.lst [])=H1 at s1 k1 ⊢
 dsimp only [gName]
 refine ⟨_,rfl,_,rfl,_,rfl,_,_,rfl,s1.seq hS,fun pc hpc=>?_⟩
 rw [cutV_map]
 have cl:=cut_len ns (some 2) (some 26)
 have npc:pc≠pq:=fun e=>by rw [e,k1] at hpc; cases hpc
 generalize cutL ns (some 2) (some 26)=cs at cl ⊢
 have s2:=same_new hpc (.lst (cs.map V.int))
 have k2:(upd H1 pc (.lst (cs.map V.int))) pc=some (.lst (cs.map V.int)):=upd_same
 have k1':=s2 _ _ k1
 generalize upd H1 pc (.lst (cs.map V.int))=H2 at s2 k2 k1' ⊢
 refine ⟨pc,rfl,⟨_,SqL.of k2⟩,for_enum (K:=K) (a:=pc) (xs:=cs.map V.int) (fun i σ H3=>Same H H3∧∃ (v4 v5 v6:Option V) (as rs:List Addr) (os:List Pg),σ=[some (.ref sa),some (.int (1+mx)),some (.int fi),some (.ref pq),v4,v5,v6]∧H3 pc=some (.lst (cs.map V.int))∧H3 pq=some (.lst (as.map V.ref))∧PgS (er1 H3 pq) as rs os∧os.length=i∧∀ p ∈ os,(p.2.length:Int)=1+mx) ⟨s1.trans s2,none,none,none,[],[],[],rfl,k2,k1',PgS.nil,rfl,fun p hp=>by cases hp⟩ (fun i σ H3 _ g=>?_) ?_ ?_⟩
 ·obtain ⟨_,_,_,_,_,_,_,_,kc,_⟩:=g
  exact SqL.of kc
 ·rintro i y σ H3 p hy ⟨s3,v4,v5,v6,as,rs,os,rfl,kc,kp,P,el,hh⟩ hp
  have hi:i < 63:=by
   have:=(List.getElem?_eq_some_iff.mp hy).1
   rw [List.length_map] at this
   omega
  obtain ⟨z,rfl,_⟩:=get_int hy
  have s4:=same_new hp (.tup [.int (i:Int),.int z])
  refine ⟨p,_,rfl,SqT.of upd_same,rfl,_,_,rfl,_,_,rfl,rfl,?_⟩
  generalize upd H3 p (.tup [.int (i:Int),.int z])=H4 at s4 ⊢
  dsimp only [gName]
  refine ⟨_,rfl,_,rfl,?_⟩
  dsimp only [gName]
  have mz:=mixed_in z
  refine ⟨_,rfl,.inl ⟨rfl,_,SqL.of (s4 _ _ kp)⟩,_,rfl,_,rfl,_,_,rfl,rfl,_,rfl,_,rfl,(by omega),(by omega),?_⟩
  refine lc_range (fun j ys H5=>H5=H4∧∃ ls:List (List Nat),ys=rowsV ls∧ls.length=j) ⟨rfl,[],rfl,rfl⟩ ?_ ?_ ?_
  ·rintro j ys H5 hj ⟨_,ls,rfl,lj⟩
   rw [rowsV_len,lj]
   exact Nat.lt_of_lt_of_le (show j < 1000 by omega) (small (Nat.le_refl _))
  ·rintro j ys H5 hj ⟨rfl,ls,rfl,lj⟩
   refine yes_go ?_
   refine ⟨_,rfl,_,_,rfl,rfl,⟨by decide,by decide⟩,_,rfl,_,rfl,_,_,rfl,rfl,.inl ⟨by omega,by omega⟩,_,rfl,_,_,rfl,rfl,.inl ⟨by decide,by decide⟩,_,_,rfl,rfl,_,_,rfl,rfl,_,_,rfl,rfl,.inl ⟨by omega,by omega⟩,_,rfl,_,rfl,fun l=>?_⟩
   exact ⟨rfl,ls++[l],by unfold rowsV; rw [List.map_append]; rfl,by simp [lj]⟩
  ·rintro ys H5 ⟨eH,ls,rfl,lj⟩ p1 hp1
   rw [eH] at hp1 ⊢
   clear eH
   have s5:=same_new hp1 (.lst (rowsV ls))
   have k5:(upd H4 p1 (.lst (rowsV ls))) p1=some (.lst (rowsV ls)):=upd_same
   have n1:p1≠pq:=fun e=>by rw [e,s4 _ _ kp] at hp1; cases hp1
   generalize upd H4 p1 (.lst (rowsV ls))=H5 at s5 k5 ⊢
   refine ⟨le2,fun p2 hp2=>?_⟩
   have s6:=same_new hp2 (.tup [V.int (fi+(i:Int)),V.ref p1])
   have k6:pgAt (upd H5 p2 (.tup [V.int (fi+(i:Int)),V.ref p1])) p2 p1 (fi+(i:Int),ls):=⟨upd_same,s6 _ _ k5⟩
   generalize upd H5 p2 (.tup [V.int (fi+(i:Int)),V.ref p1])=H6 at s6 k6 ⊢
   have t6:=s4.trans (s5.trans s6)
   have kp6:=t6 _ _ kp
   refine ⟨_,_,_,rfl,rfl,kp6,szR (n:=63) (by rw [P.l1,el]; omega) (by decide),?_⟩
   refine ⟨(s3.trans t6).put hpq,_,_,_,as++[p2],rs++[p1],os++[(fi+(i:Int),ls)],rfl,by rw [upd_ne npc]; exact t6 _ _ kc,by rw [upd_same,refs_snoc],by rw [er1_put]; exact (P.same (er1_mono t6)).snoc (k6.er kp6 n1),by simp [el],fun p hp=>?_⟩
   rcases List.mem_append.mp hp with h | h
   ·exact hh p h
   ·rw [List.mem_singleton.mp h]
    show (ls.length:Int)=_
    omega
 ·rintro σ H3 ⟨s3,v4,v5,v6,as,rs,os,rfl,kc,kp,P,el,hh⟩
  rw [List.length_map] at el
  exact ⟨_,rfl,q pq as rs os H3 s3 ⟨P.same (er1_same _ _),kp⟩ (by omega) hh⟩
def sp_l_pages_copy (K:PySem.W.Frag) : Sp:=fun vs H Q _=>∃ (q1:Addr) (as rs:List Addr) (os:List Pg),vs=[.ref q1]∧PgL H q1 as rs os∧os.length≤70∧∀ q bs ts H',Same H H'→PgL H' q bs ts os→Q (.ref q) H'
theorem sc_l_pages_copy:FnScope ["pages"] ["pages"] (defScope s_l_pages_copy):=⟨rfl,rfl,rfl,by decide +kernel,rfl,by decide +kernel,by decide +kernel⟩
theorem ok_l_pages_copy (T:Txt P w K mg a) : FnOk P w K mg base CX0 1 a.f_l_pages_copy a.fd_l_pages_copy ["pages"] (sp_l_pages_copy K):=by
 have z_list:=T.z_list
 refine T.d_l_pages_copy.fn.ok sc_l_pages_copy (fun vs H Q E h=>?_) (fun cdv A outer s H vs Q E hr h=>?_)
 ·obtain ⟨q1,as,rs,os,rfl,_⟩:=h
  rfl
 obtain ⟨q1,as,rs,os,rfl,ho,l1,q⟩:=h
 have hu:=Nat.lt_of_succ_lt (hu_of hr)
 refine ⟨_,(pss_one (ps_ret (pe_lc rfl (lcok (caps:=[]) (js:=[]) (cap:=trivial)) (pi_list (pv 0)) (fun _ _ _ _=>pts_nil) (fun _ _ _ _=>(pe_tup (pa_cons (pe_ix (r:=rIxT K) ix_tup (pv 0) pe_int (fun _ _=>rfl)) (pa_cons (pe_callTy (r:=rList K) call_list_of rfl z_list PyProof.Rows.boot_list (pa_cons (pe_ix (r:=rIxT K) ix_tup (pv 0) pe_int (fun _ _=>rfl)) pa_nil)) pa_nil))))))),?_⟩
 have e1:(as.map V.ref).length=os.length:=by rw [List.length_map,ho.l1]
 refine ⟨_,rfl,_,rfl,⟨_,SqL.of ho.top⟩,lc_list (K:=K) (a:=q1) (xs:=as.map V.ref) (fun i ys H2=>Same H H2∧∃ bs ts:List Addr,ys=bs.map V.ref∧PgS H2 bs ts (os.take i)) ⟨Same.refl _,[],[],rfl,PgS.nil⟩ (fun i ys H2 _ g=>SqL.of (g.1 _ _ ho.top)) ?_ ?_ ?_⟩
 ·rintro i ys H2 hi ⟨s2,bs,ts,rfl,P⟩
  have bl:=P.l1
  rw [List.length_take] at bl
  exact szR (n:=70) (by omega) (by decide)
 ·rintro i y ys H2 hy ⟨s2,bs,ts,rfl,P⟩
  have hi:i < os.length:=by rw [← e1]; exact (List.getElem?_eq_some_iff.mp hy).1
  obtain ⟨a,r,p,f1,f2,f3,f4,f5⟩:=(ho.toPgS.same s2).get hi
  rw [List.getElem?_map,f1] at hy
  cases hy
  refine yes_go ?_
  refine ⟨_,rfl,_,_,_,_,rfl,rfl,SqT.of f4.1,rfl,_,rfl,_,_,_,_,rfl,rfl,SqT.of f4.1,rfl,_,_,rfl,.inl (SqL.of f4.2),fun p1 hp1=>?_⟩
  have s3:=same_new hp1 (.lst (rowsV p.2))
  have k3:(upd H2 p1 (.lst (rowsV p.2))) p1=some (.lst (rowsV p.2)):=upd_same
  generalize upd H2 p1 (.lst (rowsV p.2))=H3 at s3 k3 ⊢
  refine ⟨le2,fun p2 hp2=>?_⟩
  have s4:=same_new hp2 (.tup [V.int p.1,V.ref p1])
  have k4:pgAt (upd H3 p2 (.tup [V.int p.1,V.ref p1])) p2 p1 p:=⟨upd_same,s4 _ _ k3⟩
  refine ⟨s2.trans (s3.trans s4),bs++[p2],ts++[p1],refs_snoc _ _,?_⟩
  rw [List.take_add_one,f3]
  exact (P.same (s3.trans s4)).snoc k4
 ·rintro ys H2 ⟨s2,bs,ts,rfl,P⟩ p hp
  rw [e1,List.take_length] at P
  have s3:=same_new hp (.lst (bs.map V.ref))
  exact q p bs ts _ (s2.trans s3) ⟨P.same s3,upd_same⟩
def sp_page_copied:Sp:=fun vs H Q _=>∃ (a r:Addr) (p:Pg),vs=[.ref a]∧pgAt H a r p∧∀ a' r' H',Same H H'→pgAt H' a' r' p→H r' = none→Q (.ref a') H'
theorem sc_page_copied:FnScope ["page"] ["page"] (defScope s_page_copied):=⟨rfl,rfl,rfl,by decide +kernel,rfl,by decide +kernel,by decide +kernel⟩
theorem ok_page_copied (T:Txt P w K mg a) : FnOk P w K mg base CX0 1 a.f_page_copied a.fd_page_copied ["page"] sp_page_copied:=by
 have z_list:=T.z_list
 refine T.d_page_copied.fn.ok sc_page_copied (fun vs H Q E h=>?_) (fun cdv A outer s H vs Q E hr h=>?_)
 ·obtain ⟨a,r,p,rfl,_⟩:=h
  rfl
 obtain ⟨a,r,p,rfl,ha,q⟩:=h
 have hu:=Nat.lt_of_succ_lt (hu_of hr)
 refine ⟨_,(pss_one (ps_ret (pe_tup (pa_cons (pe_ix ix_tup (pv 0) pe_int (fun _ _=>rfl)) (pa_cons (pe_callTy call_list_of rfl z_list PyProof.Rows.boot_list (pa_cons (pe_ix ix_tup (pv 0) pe_int (fun _ _=>rfl)) pa_nil)) pa_nil))))),?_⟩
 obtain ⟨h1,h2⟩:=ha
 refine ⟨_,rfl,_,_,_,_,rfl,rfl,SqT.of h1,rfl,_,rfl,_,_,_,_,rfl,rfl,SqT.of h1,rfl,_,_,rfl,.inl (SqL.of h2),fun p1 hp1=>?_⟩
 have s1:=same_new hp1 (.lst (rowsV p.2))
 have k1:(upd H p1 (.lst (rowsV p.2))) p1=some (.lst (rowsV p.2)):=upd_same
 generalize upd H p1 (.lst (rowsV p.2))=H1 at s1 k1 ⊢
 refine ⟨le2,fun p2 hp2=>?_⟩
 have s2:=same_new hp2 (.tup [V.int p.1,V.ref p1])
 exact q p2 p1 _ (s1.trans s2) ⟨upd_same,s2 _ _ k1⟩ hp1
def sp_filed (K:PySem.W.Frag) : Sp:=fun vs H Q _=>∃ (q1:Addr) (as rs:List Addr) (os:List Pg) (q2:Addr) (fs:List Addr) (fl:List Fe),vs=[.ref q1,.ref q2]∧PgL H q1 as rs os∧H q2=some (.lst (fs.map V.ref))∧FlS H fs fl∧os.length≤70∧fl.length≤70∧∀ q bs ts H',Same H H'→PgL H' q bs ts (accP os (plainF fl) (os.length+fl.length))→(∀ r ∈ ts,H r=none)→Q (.ref q) H'
theorem sc_filed:FnScope ["pages","filings","exchanged","told","k","page"] ["pages","filings"] (defScope s_filed):=⟨rfl,rfl,rfl,by decide +kernel,rfl,by decide +kernel,by decide +kernel⟩
theorem ok_filed (T:Txt P w K mg a) : FnOk P w K mg base CX0 2 a.f_filed a.fd_filed ["pages","filings"] (sp_filed K):=by
 have g_page_copied:=ok_page_copied (P:=P) (w:=w) (base:=base) T
 have d_page_copied:=T.d_page_copied
 have z_dict:=T.z_dict
 have z_len:=T.z_len
 have z_range:=T.z_range
 refine T.d_filed.fn.ok sc_filed (fun vs H Q E h=>?_) (fun cdv A outer s H vs Q E hr h=>?_)
 ·obtain ⟨q1,as,rs,os,q2,fs,fl,rfl,_⟩:=h
  rfl
 obtain ⟨q1,as,rs,os,q2,fs,fl,rfl,ho,hq2,hf,l1,l2,q⟩:=h
 have hu:=Nat.lt_of_succ_lt (hu_of hr)
 refine ⟨_,(pss_cons (ps_set (i:=2) sc_filed.nd rfl (Or.inl rfl) (pe_callTy (call_dict_pairs rfl) rfl z_dict PyProof.Rows.boot_dict (pa_cons (pv 1) pa_nil)))
   (pss_cons (ps_set (i:=3) sc_filed.nd rfl (Or.inl rfl) (pe_lst pa_nil))
   (pss_cons (ps_for PassesOwn.never rfl (pi_range1 rfl z_range (pa_cons (pe_op op_add (pe_callB call_len_seq rfl z_len PySem.boot_len (pa_cons (pv 0) pa_nil)) (pe_callB call_len_seq rfl z_len PySem.boot_len (pa_cons (pv 1) pa_nil))) pa_nil)) (pg_name (i:=4) sc_filed.nd rfl (Or.inl rfl)) (pss_cons (ps_set (i:=5) sc_filed.nd rfl (Or.inl rfl) pe_non)
   (pss_cons (ps_if (pt_cmpR (op_in_dict (hu_of hr)) (pv 4) (pv 2) (by with_unfolding_all rfl)) (pss_one (ps_set (i:=5) sc_filed.nd rfl (Or.inl rfl) (pe_dget (hu_of hr) (pv 2) (pv 4) (fun _ _=>rfl)))) (pss_one (ps_if (pt_cmpR op_lt (pv 4) (pe_callB call_len_seq rfl z_len PySem.boot_len (pa_cons (pv 0) pa_nil)) (nomark _)) (pss_one (ps_set (i:=5) sc_filed.nd rfl (Or.inl rfl) (pe_ix ix_list (pv 0) (pv 4) (fun _ _=>rfl)))) pss_nil)))
   (pss_one (ps_if (pt_cmpR op_notN (pv 5) pe_non (nomark _)) (pss_one (ps_expr (pe_bm PySem.F.plainAttrs_list PySem.F.slot_list_append PySem.F.type_list_append mt_append (pv 3) (pa_cons (pe_callD d_page_copied g_page_copied (hr.mono (by decide)) rfl (pa_cons (pv 5) pa_nil)) pa_nil)))) pss_nil)))))
   (pss_one (ps_ret (pv 3)))))),?_⟩
 have e1:(as.map V.ref).length=os.length:=by rw [List.length_map,ho.l1]
 have e2:(fs.map V.ref).length=fl.length:=by rw [List.length_map,hf.len]
 refine ⟨_,rfl,q2,_,kvF fl,rfl,SqL.of hq2,(by rw [e2]; omega),fls_prs hf,fun pd hpd=>?_⟩
 have s1:=same_new hpd (.dK (laidK (kvF fl)))
 have k1:(upd H pd (.dK (laidK (kvF fl)))) pd=some (.dK (laidK (kvF fl))):=upd_same
 generalize upd H pd (.dK (laidK (kvF fl)))=H1 at s1 k1 ⊢
 dsimp only [gName]
 refine ⟨Nat.zero_le _,fun tq htq=>?_⟩
 have s2:=same_new htq (.lst [])
 have k2:(upd H1 tq (.lst [])) tq=some (.lst []):=upd_same
 have k1':=s2 _ _ k1
 have htq0:H tq=none:=s1.free htq
 have htd:pd≠tq:=fun e=>by rw [e,htq] at k1; cases k1
 generalize upd H1 tq (.lst [])=H2 at s2 k2 k1' ⊢
 dsimp only [gName]
 have t2:=s1.trans s2
 refine ⟨_,rfl,_,_,rfl,.inl (SqL.of (t2 _ _ ho.top)),_,rfl,_,_,rfl,.inl (SqL.of (t2 _ _ hq2)),_,_,rfl,rfl,_,rfl,?_⟩
 rw [e1,e2]
 refine ⟨(by omega),(by omega),for_range (fun i σ H3=>Same H H3∧∃ (v1 v2:Option V) (bs ts:List Addr),σ=[some (.ref q1),some (.ref q2),some (.ref pd),some (.ref tq),v1,v2]∧H3 pd=some (.dK (laidK (kvF fl)))∧H3 tq=some (.lst (bs.map V.ref))∧PgS (er1 H3 tq) bs ts (accP os (plainF fl) i)∧(∀ r ∈ ts,H r=none)) ⟨t2,none,none,[],[],rfl,k1',k2,PgS.nil,fun r h=>by cases h⟩ ?_ ?_⟩
 rotate_left
 ·rintro σ H3 ⟨s3,v1,v2,bs,ts,rfl,kd,kt,P,fr⟩
  have em:((os.length:Int)+(fl.length:Int) - 0).toNat=os.length+fl.length:=by omega
  have P':=P.same (er1_same H3 tq)
  refine ⟨_,rfl,q tq bs ts H3 s3 ⟨?_,kt⟩ fr⟩
  rw [← em]
  exact P'
 ·rintro i σ H3 hi ⟨s3,v1,v2,bs,ts,rfl,kd,kt,P,fr⟩
  have hi':i < 140:=by omega
  rw [Int.zero_add]
  dsimp only [gName]
  refine cut_seq (fun σ' H'=>H' = H3∧σ' = [some (.ref q1),some (.ref q2),some (.ref pd),some (.ref tq),some (.int (i:Int)),some .non]) ?_ (fun key=>key _ _ ⟨rfl,rfl⟩)
  rintro σ' H' ⟨eH,rfl⟩
  rw [eH]
  clear eH
  refine cut_seq (fun σ' H'=>H' = H3∧∃ o:Option (Addr × Addr × Pg),σ' = [some (.ref q1),some (.ref q2),some (.ref pd),some (.ref tq),some (.int (i:Int)),some (fv o)]∧(∀ y,o=some y→pgAt H3 y.1 y.2.1 y.2.2)∧(match lk (plainF fl) i with | some o=>o | none=>os[i]?)=o.map (fun y=>y.2.2)) ?_ (fun key=>?_)
  ·rintro σ' H' ⟨eH,o,rfl,hy,em⟩
   rw [eH]
   clear eH
   have st:accP os (plainF fl) (i+1)=accP os (plainF fl) i++(o.map (fun y=>y.2.2)).toList:=by rw [← em]; rfl
   cases o with
   | none =>
    refine ⟨_,rfl,rfl,_,rfl,?_⟩
    refine iteF ?_
    refine ⟨s3,_,_,bs,ts,rfl,kd,kt,?_,fr⟩
    rw [st]
    show PgS _ _ _ (_++[])
    rw [List.append_nil]
    exact P
   | some y =>
    refine ⟨_,rfl,rfl,_,rfl,?_⟩
    refine iteT ?_
    refine ⟨_,rfl,.inl ⟨rfl,_,SqL.of kt⟩,_,rfl,y.1,y.2.1,y.2.2,rfl,hy y rfl,fun a' r' H4 s4 pa nr=>?_⟩
    have k4:=s4 _ _ kt
    have nq:r'≠tq:=fun e=>by rw [e,kt] at nr; cases nr
    have bl:=P.l1
    have al:=acc_le os (plainF fl) i
    refine ⟨_,_,_,rfl,rfl,k4,szR (n:=140) (by omega) (by decide),?_⟩
    refine ⟨(s3.trans s4).put htq0,_,_,bs++[a'],ts++[r'],rfl,?_,by rw [upd_same,refs_snoc],?_,fun r hr=>?_⟩
    ·rw [upd_ne htd]; exact s4 _ _ kd
    ·rw [er1_put,st]
     exact (P.same (er1_mono s4)).snoc (pa.er k4 nq)
    ·rcases List.mem_append.mp hr with hr | hr
     ·exact fr r hr
     ·rw [List.mem_singleton.mp hr]; exact s3.free nr
  ·refine ⟨_,rfl,_,rfl,_,_,rfl,.inl ⟨_,.inl (i:Int),.inl kd,rfl,rfl⟩,_,rfl,?_⟩
   rw [kvF_lk]
   have lp:=lk_plain fl i
   cases hl:lk fl i with
   | some o =>
    rw [hl] at lp
    refine iteT ?_
    refine ⟨_,rfl,_,rfl,_,_,rfl,.inl ⟨_,.inl (i:Int),.inl kd,rfl,((kvF_lk fl i).trans (by rw [hl]; rfl)).symm⟩,?_⟩
    refine key _ _ ⟨rfl,o,rfl,fun y e=>?_,by rw [lp]; rfl⟩
    obtain ⟨f,hx⟩:=hf.mem (lk_mem hl)
    exact (hx.2 y e).same s3
   | none =>
    rw [hl] at lp
    refine iteF ?_
    refine ⟨_,rfl,_,rfl,_,_,rfl,.inl (SqL.of (s3 _ _ ho.top)),_,_,rfl,rfl,_,rfl,?_⟩
    rw [e1]
    refine ite2 (fun c=>?_) (fun c=>?_)
    ·have c1:i < os.length:=by have:=of_decide_eq_true c; omega
     obtain ⟨a,r,o,f1,f2,f3,f4,f5⟩:=(ho.toPgS.same s3).get c1
     refine ⟨_,rfl,_,rfl,_,_,_,_,rfl,rfl,SqL.of (s3 _ _ ho.top),f5,?_⟩
     exact key _ _ ⟨rfl,some (a,r,o),rfl,(fun y e=>by cases e; exact f4),by rw [lp]; exact f3⟩
    ·have c1:os.length≤i:=Nat.le_of_not_lt fun z=>c (decide_eq_true (by omega))
     exact key _ _ ⟨rfl,none,rfl,(fun y e=>by cases e),by rw [lp]; exact List.getElem?_eq_none c1⟩
def sp_filings_between (K:PySem.W.Frag) : Sp:=fun vs H Q _=>∃ (q1:Addr) (as rs:List Addr) (os:List Pg) (q2:Addr) (bs ts:List Addr) (ns:List Pg),vs=[.ref q1,.ref q2]∧PgL H q1 as rs os∧PgL H q2 bs ts ns∧os.length≤70∧ns.length≤70∧∀ q fs fl H',Same H H'→H' q=some (.lst (fs.map V.ref))→FlS H' fs fl→plainF fl=dfA os ns (max os.length ns.length)→FrF H fl→Q (.ref q) H'
theorem sc_filings_between:FnScope ["old","new","told","k"] ["old","new"] (defScope s_filings_between):=⟨rfl,rfl,rfl,by decide +kernel,rfl,by decide +kernel,by decide +kernel⟩
theorem ok_filings_between (T:Txt P w K mg a) : FnOk P w K mg base CX0 2 a.f_filings_between a.fd_filings_between ["old","new"] (sp_filings_between K):=by
 have g_page_copied:=ok_page_copied (P:=P) (w:=w) (base:=base) T
 have d_page_copied:=T.d_page_copied
 have z_len:=T.z_len
 have z_max:=T.z_max
 have z_range:=T.z_range
 refine T.d_filings_between.fn.ok sc_filings_between (fun vs H Q E h=>?_) (fun cdv A outer s H vs Q E hr h=>?_)
 ·obtain ⟨q1,as,rs,os,q2,bs,ts,ns,rfl,_⟩:=h
  rfl
 obtain ⟨q1,as,rs,os,q2,bs,ts,ns,rfl,ho,hn,l1,l2,q⟩:=h
 have hu:=Nat.lt_of_succ_lt (hu_of hr)
 refine ⟨_,(pss_cons (ps_set (i:=2) sc_filings_between.nd rfl (Or.inl rfl) (pe_lst pa_nil))
   (pss_cons (ps_for PassesOwn.never rfl (pi_range1 rfl z_range (pa_cons (pe_callB (call_max2 rfl) rfl z_max PyProof.Rows.boot_max (pa_cons (pe_callB call_len_seq rfl z_len PySem.boot_len (pa_cons (pv 0) pa_nil)) (pa_cons (pe_callB call_len_seq rfl z_len PySem.boot_len (pa_cons (pv 1) pa_nil)) pa_nil))) pa_nil)) (pg_name (i:=3) sc_filings_between.nd rfl (Or.inl rfl)) (pss_one (ps_if (pt_cmpR op_ge (pv 3) (pe_callB call_len_seq rfl z_len PySem.boot_len (pa_cons (pv 1) pa_nil)) (nomark _)) (pss_one (ps_expr (pe_bm PySem.F.plainAttrs_list PySem.F.slot_list_append PySem.F.type_list_append mt_append (pv 2) (pa_cons (pe_tup (pa_cons (pv 3) (pa_cons pe_non pa_nil))) pa_nil)))) (pss_one (ps_if (PW.pt (pw_or (pt_cmpR op_ge (pv 3) (pe_callB call_len_seq rfl z_len PySem.boot_len (pa_cons (pv 0) pa_nil)) (nomark _)) (pw_or1 (pt_cmpR (op_neB (hu100 hr)) (pe_ix ix_list (pv 0) (pv 3) (fun _ _=>rfl)) (pe_ix ix_list (pv 1) (pv 3) (fun _ _=>rfl)) (nomark _))))) (pss_one (ps_expr (pe_bm PySem.F.plainAttrs_list PySem.F.slot_list_append PySem.F.type_list_append mt_append (pv 2) (pa_cons (pe_tup (pa_cons (pv 3) (pa_cons (pe_callD d_page_copied g_page_copied (hr.mono (by decide)) rfl (pa_cons (pe_ix ix_list (pv 1) (pv 3) (fun _ _=>rfl)) pa_nil)) pa_nil))) pa_nil)))) pss_nil)))))
   (pss_one (ps_ret (pv 2))))),?_⟩
 have e1:(as.map V.ref).length=os.length:=by rw [List.length_map,ho.l1]
 have e2:(bs.map V.ref).length=ns.length:=by rw [List.length_map,hn.l1]
 refine ⟨Nat.zero_le _,fun tq htq=>?_⟩
 have s1:=same_new htq (.lst [])
 have k1:(upd H tq (.lst [])) tq=some (.lst []):=upd_same
 generalize upd H tq (.lst [])=H1 at s1 k1 ⊢
 dsimp only [gName]
 refine ⟨_,rfl,_,_,rfl,.inl (SqL.of (s1 _ _ ho.top)),_,rfl,_,_,rfl,.inl (SqL.of (s1 _ _ hn.top)),_,_,rfl,?_⟩
 rw [e1,e2,max_of]
 have m1:os.length≤max os.length ns.length:=Nat.le_max_left _ _
 have m2:ns.length≤max os.length ns.length:=Nat.le_max_right _ _
 have m3:max os.length ns.length≤70:=Nat.max_le.mpr ⟨l1,l2⟩
 generalize max os.length ns.length=m at m1 m2 m3 q ⊢
 refine ⟨_,rfl,(by omega),(by omega),for_range (fun i σ H2=>Same H H2∧∃ (v:Option V) (fs:List Addr) (fl:List Fe),σ=[some (.ref q1),some (.ref q2),some (.ref tq),v]∧H2 tq=some (.lst (fs.map V.ref))∧FlS (er1 H2 tq) fs fl∧plainF fl=dfA os ns i∧FrF H fl) ⟨s1,none,[],[],rfl,k1,FlS.nil,rfl,FrF.nil⟩ ?_ ?_⟩
 rotate_left
 ·rintro σ H2 ⟨s2,v,fs,fl,rfl,k2,F,ef,fr⟩
  have em:((m:Int) - 0).toNat=m:=by omega
  exact ⟨_,rfl,q tq fs fl H2 s2 k2 (F.same (er1_same _ _)) (by rw [ef]; exact congrArg (dfA os ns) em) fr⟩
 ·rintro i σ H2 hi ⟨s2,v,fs,fl,rfl,k2,F,ef,fr⟩
  have hi':i < m:=by omega
  have sz:=df_small ef
  rw [Int.zero_add]
  dsimp only [gName]
  refine ⟨_,rfl,_,rfl,_,_,rfl,.inl (SqL.of (s2 _ _ hn.top)),_,_,rfl,rfl,_,rfl,?_⟩
  rw [e2]
  refine ite2 (fun c=>?_) (fun c=>?_)
  ·have c1:ns.length≤i:=by have:=of_decide_eq_true c; omega
   refine ⟨_,rfl,.inl ⟨rfl,_,SqL.of k2⟩,_,rfl,le2,fun p2 hp2=>?_⟩
   have s3:=same_new hp2 (.tup [V.int (i:Int),V.non])
   have k3:=s3 _ _ k2
   have x3:feAt (upd H2 p2 (.tup [V.int (i:Int),V.non])) p2 (i,none):=⟨upd_same,fun y e=>by cases e⟩
   generalize upd H2 p2 (.tup [V.int (i:Int),V.non])=H3 at s3 k3 x3 ⊢
   refine ⟨_,_,_,rfl,rfl,k3,(szR (n:=70) (by rw [F.len]; omega) (by decide)),?_⟩
   exact ⟨(s2.trans s3).put htq,_,fs++[p2],fl++[(i,none)],rfl,by rw [upd_same,refs_snoc],by rw [er1_put]; exact (F.same (er1_mono s3)).snoc (x3.er k3 (fun y e=>by cases e)),df_none ef c1,fr.snoc (fun y e=>by cases e)⟩
  have c1:¬ ns.length≤i:=fun z=>c (decide_eq_true (by omega))
  obtain ⟨b,t,p,g1,g2,g3,g4,g5⟩:=(hn.toPgS.same s2).get (i:=i) (by omega)
  refine ⟨_,rfl,_,rfl,_,_,rfl,.inl (SqL.of (s2 _ _ ho.top)),_,_,rfl,rfl,_,rfl,?_⟩
  rw [e1]
  refine orG (fun c=>?_) (fun c=>?_)
  ·have c2:os.length≤i:=by have:=of_decide_eq_true c; omega
   refine ⟨_,rfl,.inl ⟨rfl,_,SqL.of k2⟩,_,rfl,_,rfl,_,rfl,_,_,_,_,rfl,rfl,SqL.of (s2 _ _ hn.top),g5,b,t,p,rfl,g4,fun a' r' H3 s3 pa nr=>?_⟩
   have k3:=s3 _ _ k2
   have nrq:r'≠tq:=fun e=>by rw [e,k2] at nr; cases nr
   have nr0:H r' = none:=s2.free nr
   refine ⟨le2,fun p2 hp2=>?_⟩
   have s4:=same_new hp2 (.tup [V.int (i:Int),V.ref a'])
   have k4:=s4 _ _ k3
   have x4:feAt (upd H3 p2 (.tup [V.int (i:Int),V.ref a'])) p2 (i,some (a',r',p)):=⟨upd_same,fun y e=>by cases e; exact pa.same s4⟩
   generalize upd H3 p2 (.tup [V.int (i:Int),V.ref a'])=H4 at s4 k4 x4 ⊢
   refine ⟨_,_,_,rfl,rfl,k4,(szR (n:=70) (by rw [F.len]; omega) (by decide)),?_⟩
   exact ⟨(s2.trans (s3.trans s4)).put htq,_,fs++[p2],fl++[(i,some (a',r',p))],rfl,by rw [upd_same,refs_snoc],by rw [er1_put]; exact (F.same (er1_mono (s3.trans s4))).snoc (x4.er k4 (fun y e=>by cases e; exact nrq)),df_some ef c1 (.inl c2) g3,fr.snoc (fun y e=>by cases e; exact nr0)⟩
  ·have c2:¬ os.length≤i:=fun z=>c (decide_eq_true (by omega))
   obtain ⟨a,r,o,f1,f2,f3,f4,f5⟩:=(ho.toPgS.same s2).get (i:=i) (by omega)
   obtain ⟨e,de,ie⟩:=pg_db (K:=K) f4 g4
   refine ⟨_,rfl,_,rfl,_,_,_,_,rfl,rfl,SqL.of (s2 _ _ ho.top),f5,_,rfl,_,rfl,_,_,_,_,rfl,rfl,SqL.of (s2 _ _ hn.top),g5,1,_,_,_,_,e,by decide,rfl,rfl,.inr ⟨SqT.of f4.1,SqT.of g4.1⟩,de,_,rfl,?_⟩
   change if (if true=true then !(decide ((2:Nat)=2) && (List.range 2).all e) else _)=true then _ else _
   rw [if_pos rfl,ie]
   by_cases c3:o=p
   ·rw [decide_eq_true c3]
    refine iteF ?_
    refine ⟨s2,_,fs,fl,rfl,k2,F,df_skip ef c1 (fun z=>?_),fr⟩
    rcases z with z | z
    ·exact c2 z
    ·rw [f3,g3,c3] at z
     exact z rfl
   rw [decide_eq_false c3]
   refine iteT ?_
   refine ⟨_,rfl,.inl ⟨rfl,_,SqL.of k2⟩,_,rfl,_,rfl,_,rfl,_,_,_,_,rfl,rfl,SqL.of (s2 _ _ hn.top),g5,b,t,p,rfl,g4,fun a' r' H3 s3 pa nr=>?_⟩
   have k3:=s3 _ _ k2
   have nrq:r'≠tq:=fun e=>by rw [e,k2] at nr; cases nr
   have nr0:H r' = none:=s2.free nr
   refine ⟨le2,fun p2 hp2=>?_⟩
   have s4:=same_new hp2 (.tup [V.int (i:Int),V.ref a'])
   have k4:=s4 _ _ k3
   have x4:feAt (upd H3 p2 (.tup [V.int (i:Int),V.ref a'])) p2 (i,some (a',r',p)):=⟨upd_same,fun y e=>by cases e; exact pa.same s4⟩
   generalize upd H3 p2 (.tup [V.int (i:Int),V.ref a'])=H4 at s4 k4 x4 ⊢
   refine ⟨_,_,_,rfl,rfl,k4,(szR (n:=70) (by rw [F.len]; omega) (by decide)),?_⟩
   exact ⟨(s2.trans (s3.trans s4)).put htq,_,fs++[p2],fl++[(i,some (a',r',p))],rfl,by rw [upd_same,refs_snoc],by rw [er1_put]; exact (F.same (er1_mono (s3.trans s4))).snoc (x4.er k4 (fun y e=>by cases e; exact nrq)),df_some ef c1 (.inr (by rw [f3,g3]; exact fun z=>c3 (Option.some.inj z))) g3,fr.snoc (fun y e=>by cases e; exact nr0)⟩

theorem cz0:(PySem.Str.ofString "z")=tx [122]:=by decide +kernel
theorem sc_law:FnScope ["script","old","new","handed","told","pages","page","k"] ["script"] (defScope s_law):=⟨rfl,rfl,rfl,by decide +kernel,rfl,by decide +kernel,by decide +kernel⟩
theorem ok_law (T:Txt P w K mg a) : FnOk P w K mg base CX0 3 a.f_law a.fd_law ["script"] (sp_law K):=by
 have g_l_due:=ok_l_due (P:=P) (w:=w) (base:=base) T
 have d_l_due:=T.d_l_due
 have g_l_is_exchange:=ok_l_is_exchange (P:=P) (w:=w) (base:=base) T
 have d_l_is_exchange:=T.d_l_is_exchange
 have g_l_new:=ok_l_new (P:=P) (w:=w) (base:=base) T
 have d_l_new:=T.d_l_new
 have g_l_old:=ok_l_old (P:=P) (w:=w) (base:=base) T
 have d_l_old:=T.d_l_old
 have g_l_pages_copy:=ok_l_pages_copy (P:=P) (w:=w) (base:=base) T
 have d_l_pages_copy:=T.d_l_pages_copy
 have g_filed:=ok_filed (P:=P) (w:=w) (base:=base) T
 have d_filed:=T.d_filed
 have g_filings_between:=ok_filings_between (P:=P) (w:=w) (base:=base) T
 have d_filings_between:=T.d_filings_between
 have z_all:=T.z_all
 have z_isinstance:=T.z_isinstance
 have z_list:=T.z_list
 refine T.d_law.fn.ok sc_law (fun vs H Q E h=>?_) (fun cdv A outer s H vs Q E hr h=>?_)
 ·obtain ⟨a,ns,rfl,_⟩:=h
  rfl
 obtain ⟨sa,ns,rfl,hS,h63,q⟩:=h
 have hu:=Nat.lt_of_succ_lt (hu_of hr)
 refine ⟨_,(pss_cons (ps_set (i:=1) sc_law.nd rfl (Or.inl rfl) (pe_callD d_l_old g_l_old (hr.mono (by decide)) rfl (pa_cons (pv 0) pa_nil)))
   (pss_cons (ps_set (i:=2) sc_law.nd rfl (Or.inl rfl) (pe_callD d_l_new g_l_new (hr.mono (by decide)) rfl (pa_cons (pv 0) (pa_cons (pv 1) pa_nil))))
   (pss_cons (ps_set (i:=3) sc_law.nd rfl (Or.inl rfl) (pe_tup (pa_cons (pe_callD d_l_pages_copy g_l_pages_copy (hr.mono (by decide)) rfl (pa_cons (pv 1) pa_nil)) (pa_cons (pe_callD d_l_pages_copy g_l_pages_copy (hr.mono (by decide)) rfl (pa_cons (pv 2) pa_nil)) pa_nil))))
   (pss_cons (ps_set (i:=4) sc_law.nd rfl (Or.inl rfl) (pe_callD d_filings_between g_filings_between (hr.mono (by decide)) rfl (pa_cons (pe_ix ix_tup (pv 3) pe_int (fun _ _=>rfl)) (pa_cons (pe_ix ix_tup (pv 3) pe_int (fun _ _=>rfl)) pa_nil))))
   (pss_cons (ps_if (PW.pt (pw_or (pt_not (pt_val (pe_callB call_isi rfl z_isinstance PyProof.Rows.boot_isinstance (pa_cons (pv 4) (pa_cons (pe_bltn (v:=.ty "list") rfl z_list PyProof.Rows.boot_list rfl) pa_nil))) (fun _=>rfl))) (pw_or (pt_not (pt_val (pe_callB (call_all rfl) rfl z_all PyProof.Rows.boot_all (pa_cons (pe_lc rfl (lcok (caps:=[]) (js:=[]) (cap:=trivial)) (pi_list (pv 4)) (fun _ _ _ _=>pts_nil) (fun _ _ _ _=>(pe_callD d_l_is_exchange g_l_is_exchange (hr.mono (by decide)) rfl (pa_cons (pv 0) pa_nil)))) pa_nil)) (fun _=>rfl))) (pw_or1 (pt_cmpR (op_neQ (hu100 hr)) (pv 4) (pe_callD d_l_due g_l_due (hr.mono (by decide)) rfl (pa_cons (pv 1) (pa_cons (pv 2) pa_nil))) (nomark _)))))) (pss_one (ps_ret pe_bl)) pss_nil)
   (pss_cons (ps_set (i:=5) sc_law.nd rfl (Or.inl rfl) (pe_callD d_filed g_filed (hr.mono (by decide)) rfl (pa_cons (pe_ix ix_tup (pv 3) pe_int (fun _ _=>rfl)) (pa_cons (pv 4) pa_nil))))
   (pss_cons (ps_if (PW.pt (pw_or (pt_not (pt_val (pe_callB call_isi rfl z_isinstance PyProof.Rows.boot_isinstance (pa_cons (pv 5) (pa_cons (pe_bltn (v:=.ty "list") rfl z_list PyProof.Rows.boot_list rfl) pa_nil))) (fun _=>rfl))) (pw_or (pt_cmpR (op_neQ (hu100 hr)) (pv 5) (pv 2) (nomark _)) (pw_or (pt_cmpR (op_neQ (hu100 hr)) (pv 3) (pe_tup (pa_cons (pv 1) (pa_cons (pv 2) pa_nil))) (nomark _)) (pw_or1 (pt_cmpR (op_neQ (hu100 hr)) (pv 4) (pe_callD d_l_due g_l_due (hr.mono (by decide)) rfl (pa_cons (pv 1) (pa_cons (pv 2) pa_nil))) (nomark _))))))) (pss_one (ps_ret pe_bl)) pss_nil)
   (pss_cons (ps_if (PW.pt (pw_or (pt_cmpR (op_neNil hu) (pe_callD d_filings_between g_filings_between (hr.mono (by decide)) rfl (pa_cons (pe_ix ix_tup (pv 3) pe_int (fun _ _=>rfl)) (pa_cons (pv 5) pa_nil))) (pe_lst pa_nil) (nomark _)) (pw_or1 (pt_cmpR (op_neQ (hu100 hr)) (pe_callD d_filed g_filed (hr.mono (by decide)) rfl (pa_cons (pe_ix ix_tup (pv 3) pe_int (fun _ _=>rfl)) (pa_cons (pe_lst pa_nil) pa_nil))) (pv 1) (nomark _))))) (pss_one (ps_ret pe_bl)) pss_nil)
   (pss_cons (ps_for PassesOwn.never rfl (pi_list (pv 5)) (pg_name (i:=6) sc_law.nd rfl (Or.inl rfl)) (pss_one (ps_expr (pe_bm PySem.F.plainAttrs_list PySem.F.slot_list_append PySem.F.type_list_append mt_append (pe_ix ix_tup (pv 6) pe_int (fun _ _=>rfl)) (pa_cons pe_str pa_nil)))))
   (pss_cons (ps_if (PW.pt (pw_or (pt_cmpR (op_neQ (hu100 hr)) (pv 4) (pe_callD d_l_due g_l_due (hr.mono (by decide)) rfl (pa_cons (pv 1) (pa_cons (pv 2) pa_nil))) (nomark _)) (pw_or1 (pt_cmpR (op_neQ (hu100 hr)) (pv 3) (pe_tup (pa_cons (pv 1) (pa_cons (pv 2) pa_nil))) (nomark _))))) (pss_one (ps_ret pe_bl)) pss_nil)
   (pss_cons (ps_for PassesOwn.never rfl (pi_list (pv 4)) (pg_tup rfl (pgs_cons (pg_name (i:=7) sc_law.nd rfl (Or.inl rfl)) (pgs_cons (pg_name (i:=6) sc_law.nd rfl (Or.inl rfl)) pgs_nil))) (pss_one (ps_if (pt_cmpR op_notN (pv 6) pe_non (nomark _)) (pss_one (ps_expr (pe_bm PySem.F.plainAttrs_list PySem.F.slot_list_append PySem.F.type_list_append mt_append (pe_ix ix_tup (pv 6) pe_int (fun _ _=>rfl)) (pa_cons pe_str pa_nil)))) pss_nil)))
   (pss_one (ps_ret (pe_cmpR (op_eqQ (hu100 hr)) (pv 3) (pe_tup (pa_cons (pv 1) (pa_cons (pv 2) pa_nil))) (nomark _))))))))))))))),?_⟩
 refine ⟨_,rfl,sa,ns,rfl,hS,h63,fun oq as rs os H1 s1 ho lo hgo=>?_⟩
 dsimp only [gName]
 refine ⟨_,rfl,_,rfl,sa,oq,ns,as,rs,os,rfl,s1.seq hS,h63,ho,lo,hgo,fun nq bs ts ps H2 s2 hn ln hgn=>?_⟩
 dsimp only [gName]
 have m2:=Int.emod_lt_of_pos (mixed (ns.getD 0 0)) (show (0:Int) < 4 by decide)
 have h4:∀ p ∈ ps,p.2.length≤4:=fun p hp=>by have:=hgn p hp; omega
 refine ⟨_,rfl,oq,as,rs,os,rfl,ho.same s2,(by omega),fun co cas crs H3 s3 hco=>?_⟩
 refine ⟨_,rfl,nq,bs,ts,ps,rfl,hn.same s3,ln,fun cn cbs cts H4 s4 hcn=>?_⟩
 refine ⟨le2,fun hd hhd=>?_⟩
 have s5:=same_new hhd (.tup [V.ref co,V.ref cn])
 have kh:(upd H4 hd (.tup [V.ref co,V.ref cn])) hd=some (.tup [V.ref co,V.ref cn]):=upd_same
 generalize upd H4 hd (.tup [V.ref co,V.ref cn])=H5 at s5 kh ⊢
 dsimp only [gName]
 have ho5:=ho.same (s2.trans (s3.trans (s4.trans s5)))
 have hn5:=hn.same (s3.trans (s4.trans s5))
 have hco5:=hco.same (s4.trans s5)
 have hcn5:=hcn.same s5
 clear ho hn hco hcn hhd s5 s4 s3 s2 s1 hS
 refine ⟨_,rfl,_,_,_,_,rfl,rfl,SqT.of kh,rfl,_,rfl,_,_,_,_,rfl,rfl,SqT.of kh,rfl,co,cas,crs,os,cn,cbs,cts,ps,rfl,hco5,hcn5,(by omega),ln,fun tq fs fl H6 s6 kt hf ef fr=>?_⟩
 dsimp only [gName]
 have lfl:fl.length≤70:=by
  have:=df_small ef
  have:=Nat.max_le.mpr ⟨show os.length≤70 by omega,ln⟩
  omega
 refine ⟨_,rfl,_,"list",true,rfl,(by decide),.inl ⟨⟨_,SqL.of kt⟩,rfl⟩,_,rfl,?_⟩
 refine iteF ?_
 refine ⟨_,rfl,_,rfl,⟨_,SqL.of kt⟩,lc_list (K:=K) (a:=tq) (xs:=fs.map V.ref) (fun i ys H7=>H7=H6∧ys=(List.replicate i true).map V.bl) ⟨rfl,rfl⟩ (fun i ys H7 _ g=>by rw [g.1]; exact SqL.of kt) ?_ ?_ ?_⟩
 ·rintro i ys H7 hi ⟨_,rfl⟩
  rw [List.length_map,hf.len] at hi
  rw [List.length_map,List.length_replicate]
  exact Nat.lt_of_lt_of_le (show i < 1000 by omega) (small (Nat.le_refl _))
 ·rintro i y ys H7 hy ⟨eH,rfl⟩
  rw [eH]
  have hi:i < fl.length:=by rw [← hf.len,← List.length_map (f:=V.ref)]; exact (List.getElem?_eq_some_iff.mp hy).1
  rw [List.getElem?_map] at hy
  obtain ⟨f,e1,rfl⟩:=Option.map_eq_some_iff.mp hy
  refine yes_go ?_
  exact ⟨_,rfl,f,_,rfl,hf.at' i f _ e1 (List.getElem?_eq_getElem hi),rfl,rep_snoc i⟩
 rintro ys H7' ⟨eH,rfl⟩ p7 hp7
 rw [eH] at hp7 ⊢
 clear eH
 rw [List.length_map]
 have s7:=same_new hp7 (.lst ((List.replicate fs.length true).map V.bl))
 have k7:(upd H6 p7 (.lst ((List.replicate fs.length true).map V.bl))) p7=some (.lst ((List.replicate fs.length true).map V.bl)):=upd_same
 generalize upd H6 p7 (.lst ((List.replicate fs.length true).map V.bl))=H7 at s7 k7 ⊢
 refine ⟨p7,List.replicate fs.length true,rfl,SqL.of k7,_,rfl,?_⟩
 rw [all_rep]
 refine iteF ?_
 refine ⟨_,rfl,_,rfl,_,rfl,oq,as,rs,os,nq,bs,ts,ps,rfl,ho5.same (s6.trans s7),hn5.same (s6.trans s7),(by omega),ln,fun dq1 ds1 dl1 D1 sd1 kd1 hd1 ed1=>?_⟩
 have dd1:=fls_dq (K:=K) ((hf.same s7).same sd1) hd1 (ef.trans ed1.symm)
 refine ⟨3,tq,dq1,_,_,by decide,rfl,rfl,.inl ⟨SqL.of (sd1 _ _ (s7 _ _ kt)),SqL.of kd1⟩,dd1.1,dd1.2,_,rfl,?_⟩
 refine iteF ?_
 dsimp only [tNext]
 have tF:=s6.trans (s7.trans sd1)
 have ktF:=(s7.trans sd1) _ _ kt
 have hfF:=hf.same (s7.trans sd1)
 clear hd1 kd1 dd1 sd1 ed1 k7 s7 hp7 kt hf s6
 refine ⟨_,rfl,_,_,_,_,rfl,rfl,SqT.of (tF _ _ kh),rfl,_,rfl,co,cas,crs,os,tq,fs,fl,rfl,hco5.same tF,ktF,hfF,(by omega),lfl,fun pq us vs H9 s9 hp9 frp=>?_⟩
 have ea:accP os (plainF fl) (os.length+fl.length)=ps:=by rw [← plainF_len,ef]; exact acc_new os ps
 rw [ea] at hp9
 clear ea
 dsimp only [gName]
 have t9:=tF.trans s9
 refine ⟨_,rfl,_,"list",true,rfl,(by decide),.inl ⟨⟨_,SqL.of hp9.top⟩,rfl⟩,_,rfl,?_⟩
 refine iteF ?_
 refine ⟨_,rfl,_,rfl,2,pq,nq,_,_,by decide,rfl,rfl,.inl ⟨SqL.of hp9.top,SqL.of (hn5.same t9).top⟩,by rw [List.length_map,List.length_map,hp9.l1,hn5.l1],pgs_dq hp9.toPgS (hn5.same t9).toPgS,_,rfl,?_⟩
 refine iteF ?_
 refine ⟨_,rfl,_,rfl,_,rfl,le2,fun pt1 hpt1=>?_⟩
 have st1:=same_new hpt1 (.tup [V.ref oq,V.ref nq])
 have kt1:(upd H9 pt1 (.tup [V.ref oq,V.ref nq])) pt1=some (.tup [V.ref oq,V.ref nq]):=upd_same
 generalize upd H9 pt1 (.tup [V.ref oq,V.ref nq])=T1 at st1 kt1 ⊢
 have u1:=(t9).trans st1
 refine ⟨3,hd,pt1,_,_,by decide,rfl,rfl,.inr ⟨SqT.of (u1 _ _ kh),SqT.of kt1⟩,rfl,hand_dq (hco5.same u1) (hcn5.same u1) (ho5.same u1) (hn5.same u1),_,rfl,?_⟩
 refine iteF ?_
 refine ⟨_,rfl,_,rfl,_,rfl,oq,as,rs,os,nq,bs,ts,ps,rfl,ho5.same u1,hn5.same u1,(by omega),ln,fun dq2 ds2 dl2 D2 sd2 kd2 hd2 ed2=>?_⟩
 have dd2:=fls_dq (K:=K) ((hfF.same (s9.trans st1)).same sd2) hd2 (ef.trans ed2.symm)
 refine ⟨3,tq,dq2,_,_,by decide,rfl,rfl,.inl ⟨SqL.of (sd2 _ _ ((s9.trans st1) _ _ ktF)),SqL.of kd2⟩,dd2.1,dd2.2,_,rfl,?_⟩
 refine iteF ?_
 dsimp only [tNext]
 have sA:=st1.trans sd2
 have tA:=t9.trans sA
 have hpA:=hp9.same sA
 clear hd2 kd2 dd2 ed2 kt1 hp9
 refine ⟨_,rfl,_,_,_,_,rfl,rfl,SqT.of (tA _ _ kh),rfl,_,rfl,cn,cbs,cts,ps,pq,us,vs,ps,rfl,hcn5.same tA,hpA,ln,ln,fun xq xs xl H10 s10 kx hx ex _=>?_⟩
 have xe:xs=[]:=by
  rw [Nat.max_self,df_self ps ps.length (Nat.le_refl _)] at ex
  refine List.length_eq_zero_iff.mp ?_
  rw [hx.len,← plainF_len,ex]
  rfl
 subst xe
 refine ⟨Nat.zero_le _,fun p3 hp3=>?_⟩
 have s11:=same_new hp3 (.lst [])
 have k11:(upd H10 p3 (.lst [])) p3=some (.lst []):=upd_same
 generalize upd H10 p3 (.lst [])=H11 at s11 k11 ⊢
 refine ⟨xq,p3,_,rfl,rfl,SqL.of (s11 _ _ kx),SqL.of k11,_,rfl,?_⟩
 refine iteF ?_
 have tB:=tA.trans (s10.trans s11)
 refine ⟨_,rfl,_,_,_,_,rfl,rfl,SqT.of (tB _ _ kh),rfl,Nat.zero_le _,fun p4 hp4=>?_⟩
 have s12:=same_new hp4 (.lst [])
 have k12:(upd H11 p4 (.lst [])) p4=some (.lst []):=upd_same
 generalize upd H11 p4 (.lst [])=H12 at s12 k12 ⊢
 refine ⟨co,cas,crs,os,p4,[],[],rfl,hco5.same (tB.trans s12),k12,FlS.nil,(by omega),Nat.zero_le _,fun yq ys zs H13 s13 hy _=>?_⟩
 have tC:=tB.trans (s12.trans s13)
 have eo:accP os (plainF []) (os.length+([] : List Fe).length)=os:=acc_old os
 rw [eo] at hy
 refine ⟨_,rfl,2,yq,oq,_,_,by decide,rfl,rfl,.inl ⟨SqL.of hy.top,SqL.of (ho5.same tC).top⟩,by rw [List.length_map,List.length_map,hy.l1,ho5.l1],pgs_dq hy.toPgS (ho5.same tC).toPgS,_,rfl,?_⟩
 refine iteF ?_
 dsimp only [tNext]
 have sC:=s9.trans (sA.trans ((s10.trans s11).trans (s12.trans s13)))
 have hpC:=hpA.same ((s10.trans s11).trans (s12.trans s13))
 clear hy eo k12 hp4 k11 hp3 hx ex kx hpA
 have W0:=hpC.w h4
 refine ⟨_,rfl,pq,rfl,⟨_,SqL.of hpC.top⟩,for_list (K:=K) (a:=pq) (xs:=us.map V.ref) (fun i σ H14=>Same D1 H14∧∃ v6:Option V,σ=[some (.ref sa),some (.ref oq),some (.ref nq),some (.ref hd),some (.ref tq),some (.ref pq),v6,none]∧PgW H14 pq us vs (4+i)) ⟨sC,none,rfl,W0⟩ (fun i σ H14 _ g=>by obtain ⟨_,_,_,g,_⟩:=g; exact SqL.of g) ?_ ?_⟩
 ·rintro i y σ H14 hy ⟨s14,v6,rfl,W⟩
  rw [List.getElem?_map] at hy
  obtain ⟨a,e1,rfl⟩:=Option.map_eq_some_iff.mp hy
  have hi:i < us.length:=(List.getElem?_eq_some_iff.mp e1).1
  have hi2:i < 70:=by rw [hpC.l1] at hi; omega
  have e2:vs[i]? = some (vs[i]'(by rw [← W.2.1]; exact hi)):=List.getElem?_eq_getElem _
  obtain ⟨z,t,g1,g2,g3⟩:=W.2.2 i a _ e1 e2
  have nr:=frp _ (List.mem_of_getElem? e2)
  dsimp only [gName]
  rw [cz0]
  refine ⟨_,rfl,_,_,_,_,rfl,rfl,SqT.of g1,rfl,.inl ⟨rfl,_,SqL.of g2⟩,_,_,_,rfl,rfl,g2,?_,?_⟩
  ·rw [rowsV_len]
   exact Nat.lt_of_lt_of_le (show _ < 1000 by omega) (small (Nat.le_refl _))
  ·exact ⟨s14.put nr,_,rfl,W.put e1 g2 g3⟩
 rintro σ H14 ⟨s14,v6,rfl,W⟩
 clear W W0 hpC frp
 have tD:=tF.trans s14
 refine ⟨_,rfl,_,rfl,_,rfl,oq,as,rs,os,nq,bs,ts,ps,rfl,ho5.same tD,hn5.same tD,(by omega),ln,fun dq3 ds3 dl3 D3 sd3 kd3 hd3 ed3=>?_⟩
 have dd3:=fls_dq (K:=K) ((hfF.same s14).same sd3) hd3 (ef.trans ed3.symm)
 refine ⟨3,tq,dq3,_,_,by decide,rfl,rfl,.inl ⟨SqL.of (sd3 _ _ (s14 _ _ ktF)),SqL.of kd3⟩,dd3.1,dd3.2,_,rfl,?_⟩
 refine iteF ?_
 refine ⟨_,rfl,_,rfl,_,rfl,le2,fun pt3 hpt3=>?_⟩
 have st3:=same_new hpt3 (.tup [V.ref oq,V.ref nq])
 have kt3:(upd D3 pt3 (.tup [V.ref oq,V.ref nq])) pt3=some (.tup [V.ref oq,V.ref nq]):=upd_same
 generalize upd D3 pt3 (.tup [V.ref oq,V.ref nq])=T3 at st3 kt3 ⊢
 have u3:=(tD.trans sd3).trans st3
 refine ⟨3,hd,pt3,_,_,by decide,rfl,rfl,.inr ⟨SqT.of (u3 _ _ kh),SqT.of kt3⟩,rfl,hand_dq (hco5.same u3) (hcn5.same u3) (ho5.same u3) (hn5.same u3),_,rfl,?_⟩
 refine iteF ?_
 dsimp only [tNext]
 have sE:=s14.trans (sd3.trans st3)
 have W0:=(hfF.same sE).w (q:=tq) (n:=4) (sE _ _ ktF) (fun x hx y e=>h4 _ (plain_mem ef hx e))
 refine ⟨_,rfl,tq,rfl,⟨_,SqL.of W0.1⟩,for_list (K:=K) (a:=tq) (xs:=fs.map V.ref) (fun i σ H15=>Same H5 H15∧∃ v6 v7:Option V,σ=[some (.ref sa),some (.ref oq),some (.ref nq),some (.ref hd),some (.ref tq),some (.ref pq),v6,v7]∧FlW H15 tq fs fl (4+i)) ⟨tF.trans sE,_,_,rfl,W0⟩ (fun i σ H15 _ g=>by obtain ⟨_,_,_,_,g,_⟩:=g; exact SqL.of g) ?_ ?_⟩
 ·rintro i y σ H15 hy ⟨s15,v6,v7,rfl,W⟩
  rw [List.getElem?_map] at hy
  obtain ⟨f,e1,rfl⟩:=Option.map_eq_some_iff.mp hy
  have hi:i < fl.length:=by rw [← hfF.len]; exact (List.getElem?_eq_some_iff.mp e1).1
  have e2:fl[i]? = some fl[i]:=List.getElem?_eq_getElem hi
  have fm:=fr _ (List.getElem_mem hi)
  generalize fl[i]=x at e2 fm
  obtain ⟨k,o⟩:=x
  obtain ⟨g0,g⟩:=W.2 i f _ e1 e2
  refine ⟨f,_,rfl,SqT.of g0,rfl,_,_,rfl,_,_,rfl,rfl,?_⟩
  dsimp only [gName]
  cases o with
  | none =>
   refine ⟨_,rfl,rfl,_,rfl,?_⟩
   refine iteF ?_
   exact ⟨s15,_,_,rfl,W.up⟩
  | some y =>
   refine ⟨_,rfl,rfl,_,rfl,?_⟩
   refine iteT ?_
   obtain ⟨z,t,g1,g2,g3⟩:=g y rfl
   rw [cz0]
   refine ⟨_,rfl,_,_,_,_,rfl,rfl,SqT.of g1,rfl,.inl ⟨rfl,_,SqL.of g2⟩,_,_,_,rfl,rfl,g2,?_,?_⟩
   ·rw [rowsV_len]
    exact Nat.lt_of_lt_of_le (show _ < 1000 by omega) (small (Nat.le_refl _))
   ·exact ⟨s15.put (fm y rfl),_,_,rfl,W.put e1 g2 g3⟩
 rintro σ H15 ⟨s15,v6,v7,rfl,W⟩
 refine ⟨_,rfl,_,rfl,_,rfl,le2,fun pt4 hpt4=>?_⟩
 have st4:=same_new hpt4 (.tup [V.ref oq,V.ref nq])
 have kt4:(upd H15 pt4 (.tup [V.ref oq,V.ref nq])) pt4=some (.tup [V.ref oq,V.ref nq]):=upd_same
 generalize upd H15 pt4 (.tup [V.ref oq,V.ref nq])=T4 at st4 kt4 ⊢
 have u4:=(s15).trans st4
 exact ⟨3,hd,pt4,_,_,by decide,rfl,rfl,.inr ⟨SqT.of (u4 _ _ kh),SqT.of kt4⟩,rfl,hand_dq (hco5.same u4) (hcn5.same u4) (ho5.same u4) (hn5.same u4),q _⟩
end
noncomputable abbrev fdA (n:Str) (s:Stmt) (d kV dc pm:Value) (an:Option Addr) (cd ct:Value) : FuncData:=PySem.W.fnOf n n (defArgs s) (defBody s) (defScope s) d kV dc pm an cd ct
abbrev Na (K:PySem.W.Frag) (n:Str) (f:Addr) : Prop:=PySem.W.nsIn K mainGlobals n=some (some (.ref f))
abbrev Lk (K:PySem.W.Frag) (f:Addr) (n:Str) (s:Stmt) (d oc:Value) (od:Option Addr) (sl:Array (Option Value)) (kV dc pm:Value) (an:Option Addr) (cd ct:Value) : Prop:=K.lookup f=some ⟨oc,od,.func (fdA n s d kV dc pm an cd ct),sl⟩
abbrev Cd (K:PySem.W.Frag) (c:Value) (n:Str) : Prop:=PySem.W.codeIn K c n=true
abbrev Kp (K:PySem.W.Frag) (f:Addr) : Prop:=PySem.W.keepIn K (.ref f)=true
abbrev Zn (K:PySem.W.Frag) (n:Str) : Prop:=PySem.W.nsIn K mainGlobals n=some none
theorem us1 {us:List Value} (h:us.length=1) : ∃ a0,us=[a0]:=by
 match us,h with
 | [a0],_=>exact ⟨a0,rfl⟩
theorem us2 {us:List Value} (h:us.length=2) : ∃ a0 a1,us=[a0,a1]:=by
 match us,h with
 | [a0,a1],_=>exact ⟨a0,a1,rfl⟩
theorem txt_mk {P:Program} {w:World} {K:PySem.W.Frag} {h:Heap} {mg:Str→Option Value} (X:K.In h) (G:h.Ns mainGlobals mg)
  {od0 an0 od1 an1 od2 an2 od3 an3 od4 an4 od5 an5 od6 an6 od7 an7 od8 an8 od9 an9 od10 an10 od11 an11 od12 an12 od13 an13:Option Addr} {sl0 sl1 sl2 sl3 sl4 sl5 sl6 sl7 sl8 sl9 sl10 sl11 sl12 sl13:Array (Option Value)} {oc0 kV0 dc0 pm0 cd0 ct0 oc1 kV1 dc1 pm1 cd1 ct1 oc2 kV2 dc2 pm2 cd2 ct2 oc3 kV3 dc3 pm3 cd3 ct3 oc4 kV4 dc4 pm4 cd4 ct4 oc5 kV5 dc5 pm5 cd5 ct5 oc6 kV6 dc6 pm6 cd6 ct6 oc7 kV7 dc7 pm7 cd7 ct7 oc8 kV8 dc8 pm8 cd8 ct8 oc9 kV9 dc9 pm9 cd9 ct9 oc10 kV10 dc10 pm10 cd10 ct10 oc11 kV11 dc11 pm11 cd11 ct11 oc12 kV12 dc12 pm12 cd12 ct12 oc13 kV13 dc13 pm13 cd13 ct13:Value} {f0 f1 f2 f3 f4 f5 f6 f7 f8 f9 f10 f11 f12 f13:Addr}
  (a0:Na K "_law_due" f0) (l0:Lk K f0 "_law_due" s_l_due .none oc0 od0 sl0 kV0 dc0 pm0 an0 cd0 ct0) (c0:Cd K cd0 "_law_due") (k0:Kp K f0)
  (a1:Na K "_law_whole" f1) (l1:Lk K f1 "_law_whole" s_l_whole .none oc1 od1 sl1 kV1 dc1 pm1 an1 cd1 ct1) (c1:Cd K cd1 "_law_whole") (k1:Kp K f1)
  (a2:Na K "_law_is_exchange" f2) (l2:Lk K f2 "_law_is_exchange" s_l_is_exchange .none oc2 od2 sl2 kV2 dc2 pm2 an2 cd2 ct2) (c2:Cd K cd2 "_law_is_exchange") (k2:Kp K f2)
  (a3:Na K "_law_cell_at" f3) (l3:Lk K f3 "_law_cell_at" s_l_cell_at .none oc3 od3 sl3 kV3 dc3 pm3 an3 cd3 ct3) (c3:Cd K cd3 "_law_cell_at") (k3:Kp K f3)
  (a4:Na K "_law_mixed" f4) (l4:Lk K f4 "_law_mixed" s_l_mixed .none oc4 od4 sl4 kV4 dc4 pm4 an4 cd4 ct4) (c4:Cd K cd4 "_law_mixed") (k4:Kp K f4)
  (a5:Na K "_law_row" f5) (l5:Lk K f5 "_law_row" s_l_row .none oc5 od5 sl5 kV5 dc5 pm5 an5 cd5 ct5) (c5:Cd K cd5 "_law_row") (k5:Kp K f5)
  (a6:Na K "_law_new" f6) (l6:Lk K f6 "_law_new" s_l_new .none oc6 od6 sl6 kV6 dc6 pm6 an6 cd6 ct6) (c6:Cd K cd6 "_law_new") (k6:Kp K f6)
  (a7:Na K "_law_first" f7) (l7:Lk K f7 "_law_first" s_l_first .none oc7 od7 sl7 kV7 dc7 pm7 an7 cd7 ct7) (c7:Cd K cd7 "_law_first") (k7:Kp K f7)
  (a8:Na K "_law_old" f8) (l8:Lk K f8 "_law_old" s_l_old .none oc8 od8 sl8 kV8 dc8 pm8 an8 cd8 ct8) (c8:Cd K cd8 "_law_old") (k8:Kp K f8)
  (a9:Na K "_law_pages_copy" f9) (l9:Lk K f9 "_law_pages_copy" s_l_pages_copy .none oc9 od9 sl9 kV9 dc9 pm9 an9 cd9 ct9) (c9:Cd K cd9 "_law_pages_copy") (k9:Kp K f9)
  (a10:Na K "page_copied" f10) (l10:Lk K f10 "page_copied" s_page_copied .none oc10 od10 sl10 kV10 dc10 pm10 an10 cd10 ct10) (c10:Cd K cd10 "page_copied") (k10:Kp K f10)
  (a11:Na K "filed" f11) (l11:Lk K f11 "filed" s_filed .none oc11 od11 sl11 kV11 dc11 pm11 an11 cd11 ct11) (c11:Cd K cd11 "filed") (k11:Kp K f11)
  (a12:Na K "filings_between" f12) (l12:Lk K f12 "filings_between" s_filings_between .none oc12 od12 sl12 kV12 dc12 pm12 an12 cd12 ct12) (c12:Cd K cd12 "filings_between") (k12:Kp K f12)
  (a13:Na K "law" f13) (l13:Lk K f13 "law" s_law .none oc13 od13 sl13 kV13 dc13 pm13 an13 cd13 ct13) (c13:Cd K cd13 "law") (k13:Kp K f13)
  (z_all:Zn K "all")
  (z_bool:Zn K "bool")
  (z_dict:Zn K "dict")
  (z_enumerate:Zn K "enumerate")
  (z_int:Zn K "int")
  (z_isinstance:Zn K "isinstance")
  (z_len:Zn K "len")
  (z_list:Zn K "list")
  (z_max:Zn K "max")
  (z_range:Zn K "range")
  (z_tuple:Zn K "tuple") :
  ∃ a:Adr,Txt P w K mg a:=by
 refine ⟨{ f_l_due:=f0,fd_l_due:=fdA "_law_due" s_l_due .none kV0 dc0 pm0 an0 cd0 ct0,f_l_whole:=f1,fd_l_whole:=fdA "_law_whole" s_l_whole .none kV1 dc1 pm1 an1 cd1 ct1,f_l_is_exchange:=f2,fd_l_is_exchange:=fdA "_law_is_exchange" s_l_is_exchange .none kV2 dc2 pm2 an2 cd2 ct2,f_l_cell_at:=f3,fd_l_cell_at:=fdA "_law_cell_at" s_l_cell_at .none kV3 dc3 pm3 an3 cd3 ct3,f_l_mixed:=f4,fd_l_mixed:=fdA "_law_mixed" s_l_mixed .none kV4 dc4 pm4 an4 cd4 ct4,f_l_row:=f5,fd_l_row:=fdA "_law_row" s_l_row .none kV5 dc5 pm5 an5 cd5 ct5,f_l_new:=f6,fd_l_new:=fdA "_law_new" s_l_new .none kV6 dc6 pm6 an6 cd6 ct6,f_l_first:=f7,fd_l_first:=fdA "_law_first" s_l_first .none kV7 dc7 pm7 an7 cd7 ct7,f_l_old:=f8,fd_l_old:=fdA "_law_old" s_l_old .none kV8 dc8 pm8 an8 cd8 ct8,f_l_pages_copy:=f9,fd_l_pages_copy:=fdA "_law_pages_copy" s_l_pages_copy .none kV9 dc9 pm9 an9 cd9 ct9,f_page_copied:=f10,fd_page_copied:=fdA "page_copied" s_page_copied .none kV10 dc10 pm10 an10 cd10 ct10,f_filed:=f11,fd_filed:=fdA "filed" s_filed .none kV11 dc11 pm11 an11 cd11 ct11,f_filings_between:=f12,fd_filings_between:=fdA "filings_between" s_filings_between .none kV12 dc12 pm12 an12 cd12 ct12,f_law:=f13,fd_law:=fdA "law" s_law .none kV13 dc13 pm13 an13 cd13 ct13 },{
  d_l_due:=defok_mk X G a0 l0 c0 k0 fun _ _ _ _ _ _ us hl=>by obtain ⟨_,⟨_,rfl⟩⟩:=us2 hl; rfl,
  d_l_whole:=defok_mk X G a1 l1 c1 k1 fun _ _ _ _ _ _ us hl=>by obtain ⟨_,rfl⟩:=us1 hl; rfl,
  d_l_is_exchange:=defok_mk X G a2 l2 c2 k2 fun _ _ _ _ _ _ us hl=>by obtain ⟨_,rfl⟩:=us1 hl; rfl,
  d_l_cell_at:=defok_mk X G a3 l3 c3 k3 fun _ _ _ _ _ _ us hl=>by obtain ⟨_,⟨_,rfl⟩⟩:=us2 hl; rfl,
  d_l_mixed:=defok_mk X G a4 l4 c4 k4 fun _ _ _ _ _ _ us hl=>by obtain ⟨_,rfl⟩:=us1 hl; rfl,
  d_l_row:=defok_mk X G a5 l5 c5 k5 fun _ _ _ _ _ _ us hl=>by obtain ⟨_,rfl⟩:=us1 hl; rfl,
  d_l_new:=defok_mk X G a6 l6 c6 k6 fun _ _ _ _ _ _ us hl=>by obtain ⟨_,⟨_,rfl⟩⟩:=us2 hl; rfl,
  d_l_first:=defok_mk X G a7 l7 c7 k7 fun _ _ _ _ _ _ us hl=>by obtain ⟨_,rfl⟩:=us1 hl; rfl,
  d_l_old:=defok_mk X G a8 l8 c8 k8 fun _ _ _ _ _ _ us hl=>by obtain ⟨_,rfl⟩:=us1 hl; rfl,
  d_l_pages_copy:=defok_mk X G a9 l9 c9 k9 fun _ _ _ _ _ _ us hl=>by obtain ⟨_,rfl⟩:=us1 hl; rfl,
  d_page_copied:=defok_mk X G a10 l10 c10 k10 fun _ _ _ _ _ _ us hl=>by obtain ⟨_,rfl⟩:=us1 hl; rfl,
  d_filed:=defok_mk X G a11 l11 c11 k11 fun _ _ _ _ _ _ us hl=>by obtain ⟨_,⟨_,rfl⟩⟩:=us2 hl; rfl,
  d_filings_between:=defok_mk X G a12 l12 c12 k12 fun _ _ _ _ _ _ us hl=>by obtain ⟨_,⟨_,rfl⟩⟩:=us2 hl; rfl,
  d_law:=defok_mk X G a13 l13 c13 k13 fun _ _ _ _ _ _ us hl=>by obtain ⟨_,rfl⟩:=us1 hl; rfl,
  z_all:=PySem.W.mg_none_of X G z_all,
  z_bool:=PySem.W.mg_none_of X G z_bool,
  z_dict:=PySem.W.mg_none_of X G z_dict,
  z_enumerate:=PySem.W.mg_none_of X G z_enumerate,
  z_int:=PySem.W.mg_none_of X G z_int,
  z_isinstance:=PySem.W.mg_none_of X G z_isinstance,
  z_len:=PySem.W.mg_none_of X G z_len,
  z_list:=PySem.W.mg_none_of X G z_list,
  z_max:=PySem.W.mg_none_of X G z_max,
  z_range:=PySem.W.mg_none_of X G z_range,
  z_tuple:=PySem.W.mg_none_of X G z_tuple }⟩
theorem walk {l:PySem.W.OpenLaw} {q:Program} {loose:List Str} {XP:(Str→Option Value)→Heap→Prop} {YP:World→Heap→Prop} {d:DefRec} {K:Params→PySem.W.Frag} (hn:l.most=some 63) (hdf:d.params.defaults=[]) (hnm:d.name = "law")
  (hY:∀ (w:World) (h:Heap),YP w h→(K w.params).In h)
  (F:∀ (w:World) (mg:Str→Option Value) (h:Heap),(K w.params).In h→h.Ns mainGlobals mg→∃ a:Adr,Txt l.prog w (K w.params) mg a) :
  PySem.W.WalkO q loose XP YP l.row.toRowW d [] (fun f vs=>PySem.call f vs):=
 L2.walk_of (n:=63) (k:=3) (x := "script") (CX:=fun _=>CX0) (sp:=fun w=>sp_law (K w.params)) hn (by decide) hdf ⟨rfl,by decide,by decide⟩ hY (fun w mg fa h KX G hmg=>by
  obtain ⟨a,T⟩:=F w mg h KX G
  have e0:=hmg.symm.trans (hnm ▸ T.d_law.mg)
  cases e0
  refine ⟨a.fd_law,fun s u=>.of_eq (T.d_law.ba [u] rfl),fun base _ _=>ok_law T⟩) (fun _ _ a ns hl _ hS=>⟨a,ns,rfl,hS,hl,fun _=>rfl⟩) fun _ _ _ _ _ z=>z
end K72
open PySem PySem.W PyProof.Rows
set_option maxRecDepth 100000 in
set_option maxHeartbeats 0 in
theorem PySem.Challenge.cw_trueleaf_k72_exchanges_holds : PySem.Challenge.rw_trueleaf_k72_exchanges.Holds := by
 w_on; o_law
 refine holds_open (q:=K72.vw) (loose:=K72.ls) (Xt:=K72.xt) (XP:=XL K72.vw []) (Yf:=Hook.obs K72.hk) (Ya:=Hook.val K72.hk) (YP:=InK K72.kk) K72.left
  (Hook.of K72.hk) (Hook.keeps K72.hk) (fun s e=>xl_of s (Bool.and_eq_true_iff.mp e).1) XL.keeps (by rfl) (by rfl) (by rfl)
  (fun s e=>recFacts_of (Bool.and_eq_true_iff.mp e).2) (by rfl) (by assumption) (by decide +kernel) ⟨rfl,rfl,rfl,rfl,rfl,by decide +kernel⟩ ?hw ?hc
 (case hw=>w_witness2)
 k_fill
 refine K72.walk (l:=PySem.Challenge.rw_trueleaf_k72_exchanges) rfl rfl rfl (fun w h Y=>Y) ?F
 case F =>
  intro w mg h KX G
  refine' K72.txt_mk KX G ?a0 ?l0 ?c0 ?k0 ?a1 ?l1 ?c1 ?k1 ?a2 ?l2 ?c2 ?k2 ?a3 ?l3 ?c3 ?k3 ?a4 ?l4 ?c4 ?k4 ?a5 ?l5 ?c5 ?k5 ?a6 ?l6 ?c6 ?k6 ?a7 ?l7 ?c7 ?k7 ?a8 ?l8 ?c8 ?k8 ?a9 ?l9 ?c9 ?k9 ?a10 ?l10 ?c10 ?k10 ?a11 ?l11 ?c11 ?k11 ?a12 ?l12 ?c12 ?k12 ?a13 ?l13 ?c13 ?k13 ?z_all ?z_bool ?z_dict ?z_enumerate ?z_int ?z_isinstance ?z_len ?z_list ?z_max ?z_range ?z_tuple
  (case a0 | l0 | c0 | k0 | a1 | l1 | c1 | k1 | a2 | l2 | c2 | k2 | a3 | l3 | c3 | k3 | a4 | l4 | c4 | k4 | a5 | l5 | c5 | k5 | a6 | l6 | c6 | k6 | a7 | l7 | c7 | k7 | a8 | l8 | c8 | k8 | a9 | l9 | c9 | k9 | a10 | l10 | c10 | k10 | a11 | l11 | c11 | k11 | a12 | l12 | c12 | k12 | a13 | l13 | c13 | k13 | z_all | z_bool | z_dict | z_enumerate | z_int | z_isinstance | z_len | z_list | z_max | z_range | z_tuple=>(first | k_is | (delta K72.Na; k_is) | (delta K72.Lk K72.fdA; k_is) | (delta K72.Cd; k_is) | (delta K72.Kp; k_is) | (delta K72.Zn; k_is)))
