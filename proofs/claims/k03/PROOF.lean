import PyProof.Rows.All
import Wide.All
import OpenK.AllK
import Wide.FinOn
import HandS.ForMost
import HandS.IsInst
import HandS.Evl
import HandS.Steps
import PySem.Challenge.RW_anywithin_k03_whole_records_and_stands
import HandS.Strs
import HandS.Walk
import HandS.Zip
import HandS.NoneIn
import KE.GoesNew
import HandS.DictComp
import KE.SortData
import HandS.SortInts
import HandS.Conv
import HandS.Star
import KE.DataCmp
import HandS.TupAny
import PyProof.SumWalkG
set_option Elab.async false
set_option linter.all false
set_option maxRecDepth 100000
namespace Any
open PySem PySem.Spec PyProof.Rows L2 Evl
def topS (i : Nat) : Stmt := PySem.Challenge.pw_anywithin_k03_whole_records_and_stands.main.body.getD i (.Pass ⟨0, 0, 0, 0⟩)
/-- plain data, and a Kinds -/
inductive D where
  | non | bl (b : Bool) | int (i : Int) | str (x : Str) | lst (xs : List D) | tup (xs : List D) | dct (kvs : List (Key × D)) | obj (fs : List (Str × D))
def tyD (CK : Addr) : D → Value
  | .non => .type "NoneType"
  | .bl _ => .type "bool"
  | .int _ => .type "int"
  | .str _ => .type "str"
  | .lst _ => .type "list"
  | .tup _ => .type "tuple"
  | .dct _ => .type "dict"
  | .obj _ => .ref CK
mutual
def Rep (K : PySem.W.Frag) (CK : Addr) (H : Hp) : D → V → Prop
  | .non, v => v = .non
  | .bl b, v => v = .bl b
  | .int i, v => v = .int i
  | .str x, v => v = .str x ∧ x.length ≤ 1000
  | .lst ds, v => ∃ a vs, v = .ref a ∧ H a = some (.lst vs) ∧ ds.length ≤ 30000 ∧ RepL K CK H ds vs
  | .tup ds, v => ∃ a vs, v = .ref a ∧ H a = some (.tup vs) ∧ ds.length ≤ 30000 ∧ RepL K CK H ds vs
  | .dct kvs, v => ∃ a ps, v = .ref a ∧ H a = some (.dK ps) ∧ RepK K CK H kvs ps
  | .obj fs, v => ∃ a dx gs, v = .ref a ∧ H a = some (.ins CK dx gs) ∧ RepF K CK H fs gs
def RepL (K : PySem.W.Frag) (CK : Addr) (H : Hp) : List D → List V → Prop
  | [], vs => vs = []
  | d :: ds, vs => ∃ v r, vs = v :: r ∧ Rep K CK H d v ∧ RepL K CK H ds r
def RepK (K : PySem.W.Frag) (CK : Addr) (H : Hp) : List (Key × D) → List (Key × V) → Prop
  | [], ps => ps = []
  | (k, d) :: ds, ps => ∃ v r, ps = (k, v) :: r ∧ Rep K CK H d v ∧ RepK K CK H ds r
def RepF (K : PySem.W.Frag) (CK : Addr) (H : Hp) : List (Str × D) → List (Str × V) → Prop
  | [], ps => ps = []
  | (k, d) :: ds, ps => ∃ v r, ps = (k, v) :: r ∧ Rep K CK H d v ∧ RepF K CK H ds r
end
section
variable {K : PySem.W.Frag} {CK : Addr} {H H' : Hp}
mutual
theorem Rep.ex (e : Ex H H') : ∀ {d : D} {v : V}, Rep K CK H d v → Rep K CK H' d v
  | .non, _, h => h
  | .bl _, _, h => h
  | .int _, _, h => h
  | .str _, _, h => h
  | .lst _, _, ⟨a, vs, h1, h2, h4, h3⟩ => ⟨a, vs, h1, e _ _ h2, h4, RepL.ex e h3⟩
  | .tup _, _, ⟨a, vs, h1, h2, h4, h3⟩ => ⟨a, vs, h1, e _ _ h2, h4, RepL.ex e h3⟩
  | .dct _, _, ⟨a, ps, h1, h2, h3⟩ => ⟨a, ps, h1, e _ _ h2, RepK.ex e h3⟩
  | .obj _, _, ⟨a, dx, gs, h1, h2, h3⟩ => ⟨a, dx, gs, h1, e _ _ h2, RepF.ex e h3⟩
theorem RepL.ex (e : Ex H H') : ∀ {ds : List D} {vs : List V}, RepL K CK H ds vs → RepL K CK H' ds vs
  | [], _, h => h
  | _ :: _, _, ⟨v, r, h1, h2, h3⟩ => ⟨v, r, h1, Rep.ex e h2, RepL.ex e h3⟩
theorem RepK.ex (e : Ex H H') : ∀ {ds : List (Key × D)} {vs : List (Key × V)}, RepK K CK H ds vs → RepK K CK H' ds vs
  | [], _, h => h
  | (_, _) :: _, _, ⟨v, r, h1, h2, h3⟩ => ⟨v, r, h1, Rep.ex e h2, RepK.ex e h3⟩
theorem RepF.ex (e : Ex H H') : ∀ {ds : List (Str × D)} {vs : List (Str × V)}, RepF K CK H ds vs → RepF K CK H' ds vs
  | [], _, h => h
  | (_, _) :: _, _, ⟨v, r, h1, h2, h3⟩ => ⟨v, r, h1, Rep.ex e h2, RepF.ex e h3⟩
end
theorem RepL.len : ∀ {ds : List D} {vs : List V}, RepL K CK H ds vs → vs.length = ds.length
  | [], _, h => by rw [show _ = [] from h]; rfl
  | _ :: _, _, ⟨v, r, h1, _, h3⟩ => by rw [h1, List.length_cons, List.length_cons, RepL.len h3]
theorem RepL.get : ∀ {ds : List D} {vs : List V} {i : Nat} {d : D}, RepL K CK H ds vs → ds[i]? = some d → ∃ v, vs[i]? = some v ∧ Rep K CK H d v
  | _ :: _, _, 0, _, ⟨v, r, h1, h2, _⟩, e => by
    cases e; rw [h1]; exact ⟨v, rfl, h2⟩
  | _ :: _, _, i + 1, d, ⟨v, r, h1, _, h3⟩, e => by
    rw [h1]; exact RepL.get (i := i) h3 e
theorem RepL.get' : ∀ {ds : List D} {vs : List V} {i : Nat} {v : V}, RepL K CK H ds vs → vs[i]? = some v → ∃ d, ds[i]? = some d ∧ Rep K CK H d v
  | [], _, i, _, h, e => by rw [show _ = [] from h] at e; cases e
  | d :: _, _, 0, _, ⟨v, r, h1, h2, _⟩, e => by
    rw [h1] at e; cases e; exact ⟨d, rfl, h2⟩
  | _ :: _, _, i + 1, v, ⟨_, r, h1, _, h3⟩, e => by
    rw [h1] at e; exact RepL.get' (i := i) h3 e
/-- the class Kinds as isinstance sees it -/
structure KCls (K : PySem.W.Frag) (CK : Addr) : Prop where
  cl : Cls K CK
  ha : PySem.W.findIn K (.ref CK) "__class__" = some (some (.builtin "object.__class__"))
  hn : PySem.W.specialIn K (.builtin "object.__class__") "__get__" = some (some (.builtin "getset_descriptor.__get__"))
  htk : PySem.W.takesIn K (.builtin "object.__class__") = some true
  hm : PySem.W.mroIn K CK (.type "object") = some true
  kstr : PySem.W.kitOne K (.ref CK) (.type "str") = some false
  klist : PySem.W.kitOne K (.ref CK) (.type "list") = some false
  ktup : PySem.W.kitOne K (.ref CK) (.type "tuple") = some false
  kdict : PySem.W.kitOne K (.ref CK) (.type "dict") = some false
  kbool : PySem.W.kitOne K (.ref CK) (.type "bool") = some false
theorem Rep.ty (T : KCls K CK) : ∀ {d : D} {v : V}, Rep K CK H d v → TyX K H v (tyD CK d)
  | .non, _, h => by rw [show _ = V.non from h]; exact .base .non
  | .bl _, _, h => by rw [show _ = V.bl _ from h]; exact .base (.bl _)
  | .int _, _, h => by rw [show _ = V.int _ from h]; exact .base (.int _)
  | .str _, _, ⟨h, _⟩ => by rw [show _ = V.str _ from h]; exact .base (.str _)
  | .lst _, _, ⟨a, vs, h1, h2, _, _⟩ => by rw [h1]; exact .base (.lst h2)
  | .tup _, _, ⟨a, vs, h1, h2, _, _⟩ => by rw [h1]; exact .base (.tup h2)
  | .dct _, _, ⟨a, ps, h1, h2, _⟩ => by rw [h1]; exact .base (.dK h2)
  | .obj _, _, ⟨a, dx, gs, h1, h2, _⟩ => by rw [h1]; exact .base (.ins h2 T.cl T.ha T.hn T.htk T.hm)
def D.isL : D → Bool
  | .lst _ => true
  | .tup _ => true
  | _ => false
def D.isS : D → Bool
  | .str _ => true
  | _ => false
def D.isB : D → Bool
  | .bl _ => true
  | _ => false
def D.isD : D → Bool
  | .dct _ => true
  | _ => false
def D.items : D → List D
  | .lst xs => xs
  | .tup xs => xs
  | _ => []
theorem kitL0 {t : Value} (h1 : PySem.W.kitOne K t (.type "list") = some false) (h2 : PySem.W.kitOne K t (.type "tuple") = some false) : PySem.W.kitAny K t [.type "list", .type "tuple"] = some false :=
  kitAny_cons h1 (fun _ => kitAny_cons h2 (fun _ => rfl) (fun h => nomatch h)) (fun h => nomatch h)
theorem kb_no {a b : String} (h : kitB a b = some false) : PySem.W.kitOne K (.type a) (.type b) = some false := kit_ty h
theorem kb_yes {a b : String} (h : kitB a b = some true) : PySem.W.kitOne K (.type a) (.type b) = some true := kit_ty h
theorem kit_L (T : KCls K CK) : ∀ d : D, PySem.W.kitAny K (tyD CK d) [.type "list", .type "tuple"] = some d.isL
  | .non => kitL0 (kb_no (by decide +kernel)) (kb_no (by decide +kernel))
  | .bl _ => kitL0 (kb_no (by decide +kernel)) (kb_no (by decide +kernel))
  | .int _ => kitL0 (kb_no (by decide +kernel)) (kb_no (by decide +kernel))
  | .str _ => kitL0 (kb_no (by decide +kernel)) (kb_no (by decide +kernel))
  | .lst _ => kitAny_cons (b := true) (kb_yes (by decide +kernel)) (fun h => nomatch h) (fun _ => rfl)
  | .tup _ => kitAny_cons (b := false) (kb_no (by decide +kernel)) (fun _ => kitAny_cons (b := true) (kb_yes (by decide +kernel)) (fun h => nomatch h) (fun _ => rfl)) (fun h => nomatch h)
  | .dct _ => kitL0 (kb_no (by decide +kernel)) (kb_no (by decide +kernel))
  | .obj _ => kitL0 T.klist T.ktup
theorem kit_S (T : KCls K CK) : ∀ d : D, PySem.W.kitOne K (tyD CK d) (.type "str") = some d.isS
  | .non => kb_no (by decide +kernel)
  | .bl _ => kb_no (by decide +kernel)
  | .int _ => kb_no (by decide +kernel)
  | .str _ => kb_yes (by decide +kernel)
  | .lst _ => kb_no (by decide +kernel)
  | .tup _ => kb_no (by decide +kernel)
  | .dct _ => kb_no (by decide +kernel)
  | .obj _ => T.kstr
theorem kit_B (T : KCls K CK) : ∀ d : D, PySem.W.kitOne K (tyD CK d) (.type "bool") = some d.isB
  | .non => kb_no (by decide +kernel)
  | .bl _ => kb_yes (by decide +kernel)
  | .int _ => kb_no (by decide +kernel)
  | .str _ => kb_no (by decide +kernel)
  | .lst _ => kb_no (by decide +kernel)
  | .tup _ => kb_no (by decide +kernel)
  | .dct _ => kb_no (by decide +kernel)
  | .obj _ => T.kbool
theorem kit_D (T : KCls K CK) : ∀ d : D, PySem.W.kitOne K (tyD CK d) (.type "dict") = some d.isD
  | .non => kb_no (by decide +kernel)
  | .bl _ => kb_no (by decide +kernel)
  | .int _ => kb_no (by decide +kernel)
  | .str _ => kb_no (by decide +kernel)
  | .lst _ => kb_no (by decide +kernel)
  | .tup _ => kb_no (by decide +kernel)
  | .dct _ => kb_yes (by decide +kernel)
  | .obj _ => T.kdict
/-- isinstance(x, (list, tuple)) -/
theorem ev_isL {σ : L2.St} {ta : TE} {d : D} {v : V} (T : KCls K CK) (ha : Ev ta σ H v) (r : Rep K CK H d v) :
    Ev (tCB (rIsiT K) (tCons ta (tCons (tTup (tCons (tC (.ty "list")) (tCons (tC (.ty "tuple")) tNil))) tNil))) σ H (.bl d.isL) := fun H1 e Q q =>
  ha H1 e _ fun H2 e2 => ⟨sz_of (by decide), fun p hp => ⟨v, p, [.ty "list", .ty "tuple"], tyD CK d, [.type "list", .type "tuple"], d.isL, rfl, upd_same, .cons (.ty "list") (.cons (.ty "tuple") .nil),
    (r.ex ((e.trans e2).trans (Ex.new hp))).ty T, kit_L T d, q _ (e2.trans (Ex.new hp))⟩⟩
/-- isinstance(x, str) -/
theorem ev_isS {σ : L2.St} {ta : TE} {d : D} {v : V} (T : KCls K CK) (ha : Ev ta σ H v) (r : Rep K CK H d v) :
    Ev (tCB (rIsi K) (tCons ta (tCons (tC (.ty "str")) tNil))) σ H (.bl d.isS) := fun H1 e Q q =>
  ha H1 e _ fun H2 e2 => ⟨v, .ty "str", tyD CK d, .type "str", d.isS, rfl, .ty "str", (r.ex (e.trans e2)).ty T, kit_S T d, q _ e2⟩
theorem ev_isB {σ : L2.St} {ta : TE} {d : D} {v : V} (T : KCls K CK) (ha : Ev ta σ H v) (r : Rep K CK H d v) :
    Ev (tCB (rIsi K) (tCons ta (tCons (tC (.ty "bool")) tNil))) σ H (.bl d.isB) := fun H1 e Q q =>
  ha H1 e _ fun H2 e2 => ⟨v, .ty "bool", tyD CK d, .type "bool", d.isB, rfl, .ty "bool", (r.ex (e.trans e2)).ty T, kit_B T d, q _ e2⟩

/-! ### two rules for one piece -/
variable {X : Cx}
theorem pe_or {e : Expr} {t1 t2 : TE} (h1 : PE X e t1) (h2 : PE X e t2) : PE X e (fun σ H Q => t1 σ H Q ∨ t2 σ H Q) :=
  ⟨fun pins s σ H Q I h => h.elim (h1.run pins s σ H Q I) (h2.run pins s σ H Q I)⟩
theorem pg_or {e : Expr} {t1 t2 : TG} (h1 : PG X e t1) (h2 : PG X e t2) : PG X e (fun v σ H Q => t1 v σ H Q ∨ t2 v σ H Q) :=
  ⟨fun pins s σ H v u Q I r h => h.elim (h1.run pins s σ H v u Q I r) (h2.run pins s σ H v u Q I r)⟩
theorem pi_or {tg e : Expr} {t1 t2 : TI} (h1 : PI X tg e t1) (h2 : PI X tg e t2) : PI X tg e (fun σ H R => t1 σ H R ∨ t2 σ H R) :=
  ⟨fun pins s σ H R I h => h.elim (h1.run pins s σ H R I) (h2.run pins s σ H R I)⟩

/-! ### the heap behind, less what was not known ahead -/
def hid (H0 H1 H2 : Hp) : Hp := fun a => if (H0 a).isNone = true ∧ (H1 a).isSome = true then none else H2 a
section
variable {H0 H1 H2 H3 : Hp}
theorem ex_none {a : Addr} (e : Ex H1 H2) (h : H2 a = none) : H1 a = none := fresh_back e h
theorem ex_some {a : Addr} {o : HO} (e : Ex H1 H2) (h : H1 a = some o) : H2 a = some o := e a o h
theorem hid_ex (e1 : Ex H0 H1) (e2 : Ex H1 H2) : Ex H0 (hid H0 H1 H2) := fun a o h => by
  unfold hid
  rw [if_neg (by rw [h]; simp)]
  exact e2 a o (e1 a o h)
theorem hid_sub : Ex (hid H0 H1 H2) H2 := fun a o h => by
  unfold hid at h
  split at h
  · cases h
  · exact h
theorem hid_mono (e : Ex H2 H3) : Ex (hid H0 H1 H2) (hid H0 H1 H3) := fun a o h => by
  unfold hid at h ⊢
  split at h
  · cases h
  · rename_i c
    rw [if_neg c]
    exact e a o h
theorem hid_hid (e1 : Ex H0 H1) (e2 : Ex H1 H2) : hid (hid H0 H1 H2) H2 H3 = hid H0 H1 H3 := by
  funext a
  show (if (hid H0 H1 H2 a).isNone = true ∧ (H2 a).isSome = true then none else H3 a) = (if (H0 a).isNone = true ∧ (H1 a).isSome = true then none else H3 a)
  by_cases c : (H0 a).isNone = true ∧ (H1 a).isSome = true
  · rw [if_pos c, if_pos]
    refine ⟨by unfold hid; rw [if_pos c]; rfl, ?_⟩
    cases h : H1 a with
    | none => rw [h] at c; cases c.2
    | some o => rw [e2 a o h]; rfl
  · rw [if_neg c, if_neg]
    intro z
    have z1 := z.1
    unfold hid at z1
    rw [if_neg c] at z1
    cases h : H2 a with
    | none => rw [h] at z; cases z.2
    | some o => rw [h] at z1; cases z1
theorem hid_le (e2 : Ex H1 H2) : Ex (hid H0 H2 H3) (hid H0 H1 H3) := fun a o h => by
  unfold hid at h ⊢
  split at h
  · cases h
  · rename_i c
    rw [if_neg]
    · exact h
    · intro z
      refine c ⟨z.1, ?_⟩
      cases g : H1 a with
      | none => rw [g] at z; cases z.2
      | some u => rw [e2 a u g]; rfl
theorem hid_refl : hid H1 H1 H2 = H2 := by
  funext a
  unfold hid
  rw [if_neg]
  intro z
  cases h : H1 a with
  | none => rw [h] at z; cases z.2
  | some o => rw [h] at z; cases z.1
theorem hid_at {p : Addr} {o : HO} (h : H1 p = none) (h2 : H2 p = some o) : hid H0 H1 H2 p = some o := by
  unfold hid
  rw [if_neg (by rw [h]; simp)]
  exact h2
theorem hid_upd {p : Addr} {o : HO} (h : H0 p = none) (h1 : (H1 p).isSome = true) : hid H0 H1 (upd H2 p o) = hid H0 H1 H2 := by
  funext a
  unfold hid
  by_cases e : a = p
  · subst e
    rw [if_pos ⟨by rw [h]; rfl, h1⟩, if_pos ⟨by rw [h]; rfl, h1⟩]
  · rw [upd_ne e]
end
/-! ### what evaluates to a thing of which R holds: H is what is known -/
def Mono (R : V → Hp → Prop) : Prop := ∀ v H H', Ex H H' → R v H → R v H'
def EvP (te : TE) (σ : L2.St) (H : Hp) (R : V → Hp → Prop) : Prop := ∀ H1, Ex H H1 → ∀ Q : VK, (∀ v H2, Ex H1 H2 → R v (hid H H1 H2) → Q v H2) → te σ H1 Q
def RD (K : PySem.W.Frag) (CK : Addr) (d : D) : V → Hp → Prop := fun v H => Rep K CK H d v
theorem RD.mono {d : D} : Mono (RD K CK d) := fun _ _ _ e r => r.ex e
/-- evaluates to the datum d -/
def EvD (K : PySem.W.Frag) (CK : Addr) (te : TE) (σ : L2.St) (H : Hp) (d : D) : Prop := EvP te σ H (RD K CK d)
def EvAP (ta : TA) (σ : L2.St) (H : Hp) (R : List V → Hp → Prop) : Prop := ∀ H1, Ex H H1 → ∀ Q : List V → Hp → Prop, (∀ vs H2, Ex H1 H2 → R vs (hid H H1 H2) → Q vs H2) → ta σ H1 Q
def EvAD (K : PySem.W.Frag) (CK : Addr) (ta : TA) (σ : L2.St) (H : Hp) (ds : List D) : Prop := EvAP ta σ H (fun vs H2 => RepL K CK H2 ds vs)
/-- more is known -/
theorem EvD.mono {te : TE} {σ : L2.St} {d : D} (e : Ex H H') (h : EvD K CK te σ H d) : EvD K CK te σ H' d := fun H1 e1 Q q => h H1 (e.trans e1) Q fun v H2 e2 r => q v H2 e2 (Rep.ex (fun a o z => by
  unfold hid at z ⊢
  split at z
  · cases z
  · rename_i c
    rw [if_neg]
    · exact z
    · intro y
      refine c ⟨?_, y.2⟩
      cases g : H a with
      | none => rfl
      | some u => rw [e a u g] at y; cases y.1) r)
theorem Ev.p {te : TE} {σ : L2.St} {v : V} (h : Ev te σ H v) {R : V → Hp → Prop} (hr : ∀ H2, Ex H H2 → R v H2) : EvP te σ H R := fun H1 e Q q => h H1 e Q fun H2 e2 => q v H2 e2 (hr _ (hid_ex e e2))
theorem Ev.d {te : TE} {σ : L2.St} {v : V} {d : D} (h : Ev te σ H v) (hr : Rep K CK H d v) : EvD K CK te σ H d := Ev.p h fun _ e => hr.ex e
theorem EvD.b {te : TE} {σ : L2.St} {b : Bool} (h : EvD K CK te σ H (.bl b)) : Ev te σ H (.bl b) := fun H1 e Q q => h H1 e Q fun v H2 e2 r => by
  rw [show v = V.bl b from r]; exact q H2 e2
theorem EvD.i {te : TE} {σ : L2.St} {b : Int} (h : EvD K CK te σ H (.int b)) : Ev te σ H (.int b) := fun H1 e Q q => h H1 e Q fun v H2 e2 r => by
  rw [show v = V.int b from r]; exact q H2 e2
theorem EvD.s {te : TE} {σ : L2.St} {b : Str} (h : EvD K CK te σ H (.str b)) : Ev te σ H (.str b) := fun H1 e Q q => h H1 e Q fun v H2 e2 r => by
  rw [show v = V.str b from r.1]; exact q H2 e2
theorem EvD.n {te : TE} {σ : L2.St} (h : EvD K CK te σ H .non) : Ev te σ H .non := fun H1 e Q q => h H1 e Q fun v H2 e2 r => by
  rw [show v = V.non from r]; exact q H2 e2
theorem ed_var {σ : L2.St} {i : Nat} {v : V} {d : D} (h : σ[i]? = some (some v)) (r : Rep K CK H d v) : EvD K CK (tVar i) σ H d := Ev.d (ev_var h) r
theorem ed_non {σ : L2.St} : EvD K CK (tC .non) σ H .non := Ev.d ev_c rfl
theorem ed_b {σ : L2.St} {b : Bool} : EvD K CK (tC (.bl b)) σ H (.bl b) := Ev.d ev_c rfl
theorem ed_int {σ : L2.St} {i : Int} : EvD K CK (tC (.int i)) σ H (.int i) := Ev.d ev_c rfl
theorem ed_str {σ : L2.St} {x : Str} (h : x.length ≤ 1000 := by decide) : EvD K CK (tC (.str x)) σ H (.str x) := Ev.d ev_c ⟨rfl, h⟩
theorem ead_nil {σ : L2.St} : EvAD K CK tNil σ H [] := fun H1 _ _ q => q [] H1 (Ex.refl H1) rfl
theorem ead_cons {σ : L2.St} {te : TE} {tr : TA} {d : D} {ds : List D} (h : EvD K CK te σ H d) (hr : EvAD K CK tr σ H ds) : EvAD K CK (tCons te tr) σ H (d :: ds) := fun H1 e _ q =>
  h H1 e _ fun v H2 e2 r2 => hr H2 (e.trans e2) _ fun vs H3 e3 r3 => q _ H3 (e2.trans e3) ⟨v, vs, rfl, Rep.ex (hid_mono e3) r2, RepL.ex (hid_le e2) r3⟩
theorem ed_tup {σ : L2.St} {ta : TA} {ds : List D} (h : EvAD K CK ta σ H ds) (hl : ds.length ≤ 30000 := by decide) : EvD K CK (tTup ta) σ H (.tup ds) := fun H1 e _ q =>
  h H1 e _ fun vs H2 e2 r => ⟨by rw [r.len]; exact sz_of (by omega), fun p hp => q _ _ (e2.trans (Ex.new hp)) ⟨p, vs, rfl, hid_at (ex_none e2 hp) upd_same, hl, RepL.ex (hid_mono (Ex.new hp)) r⟩⟩
theorem ed_lst {σ : L2.St} {ta : TA} {ds : List D} (h : EvAD K CK ta σ H ds) (hl : ds.length ≤ 30000 := by decide) : EvD K CK (tLst ta) σ H (.lst ds) := fun H1 e _ q =>
  h H1 e _ fun vs H2 e2 r => ⟨by rw [r.len]; exact sz_of (by omega), fun p hp => q _ _ (e2.trans (Ex.new hp)) ⟨p, vs, rfl, hid_at (ex_none e2 hp) upd_same, hl, RepL.ex (hid_mono (Ex.new hp)) r⟩⟩
theorem RepL.one {d : D} {vs : List V} (h : RepL K CK H [d] vs) : ∃ v, vs = [v] ∧ Rep K CK H d v := by
  obtain ⟨v, r, rfl, h1, rfl⟩ := h
  exact ⟨v, rfl, h1⟩
theorem RepL.two {d d2 : D} {vs : List V} (h : RepL K CK H [d, d2] vs) : ∃ v v2, vs = [v, v2] ∧ Rep K CK H d v ∧ Rep K CK H d2 v2 := by
  obtain ⟨v, r, rfl, h1, h2⟩ := h
  obtain ⟨v2, rfl, h3⟩ := RepL.one h2
  exact ⟨v, v2, rfl, h1, h3⟩
/-- what a pure def promises: from arguments that stand for ds, as H0 knows them, the datum g -/
def spD (K : PySem.W.Frag) (CK : Addr) (n : Nat) (g : List D → D) (pre : List D → Prop) : Sp := fun vs H Q _ => ∃ ds H0, ds.length = n ∧ Ex H0 H ∧ RepL K CK H0 ds vs ∧ pre ds ∧ ∀ v H', Ex H H' → Rep K CK (hid H0 H H') (g ds) v → Q v H'
theorem spD_len {n : Nat} {g : List D → D} {pre : List D → Prop} {vs : List V} {Q : VK} {E : XK} (h : spD K CK n g pre vs H Q E) : vs.length = n := by
  obtain ⟨ds, H0, h1, _, h2, _⟩ := h
  rw [h2.len, h1]
theorem ed_call {σ : L2.St} {n : Nat} {g : List D → D} {pre : List D → Prop} {E : XK} {ta : TA} {ds : List D} (h : EvAD K CK ta σ H ds) (hn : ds.length = n) (hp : pre ds) : EvD K CK (tCall (spD K CK n g pre) [] E ta) σ H (g ds) := fun H1 e Q q =>
  h H1 e _ fun vs H2 e2 r => ⟨ds, hid H H1 H2, hn, hid_sub, by rw [List.append_nil]; exact r, hp, fun v H' e3 r3 => q v H' (e2.trans e3) (by rw [hid_hid e e2] at r3; exact r3)⟩
/-- return e: H0 is known, H stands -/
theorem s_retD {σ : L2.St} {D0 : Ends} {te : TE} {d : D} {H0 : Hp} (h : EvD K CK te σ H0 d) (e0 : Ex H0 H) (k : ∀ v H1, Ex H H1 → Rep K CK (hid H0 H H1) d v → D0.rt v H1) : tRet te D0 σ H := h H e0 _ k
theorem ev_lenD {σ : L2.St} {ta : TE} {d : D} (h : EvD K CK ta σ H d) (hd : d.isL = true) : Ev (tCB (rLenS K) (tCons ta tNil)) σ H (.int (d.items.length : Int)) := fun H1 e Q q =>
  h H1 e _ fun v H2 e2 r => by
    cases d with
    | lst xs => obtain ⟨a, vs, rfl, h1, _, h2⟩ := r; exact ⟨a, vs, rfl, .inl (sq_of (hid_sub _ _ h1)), by rw [h2.len]; exact q H2 e2⟩
    | tup xs => obtain ⟨a, vs, rfl, h1, _, h2⟩ := r; exact ⟨a, vs, rfl, .inr (st_of (hid_sub _ _ h1)), by rw [h2.len]; exact q H2 e2⟩
    | _ => cases hd
def rLenT : List V → Hp → VK → Prop := fun xs H Q => ∃ z, xs = [.str z] ∧ z.length ≤ sizeLine ∧ Q (.int z.length) H
theorem ev_lenS {σ : L2.St} {ta : TE} {x : Str} (h : EvD K CK ta σ H (.str x)) : Ev (tCB rLenT (tCons ta tNil)) σ H (.int (x.length : Int)) := fun H1 e Q q =>
  h H1 e _ fun v H2 e2 r => ⟨x, by rw [r.1], sz_of (by have := r.2; omega), q H2 e2⟩
/-- the names asked of, by place -/
def f1 (g : D → D) : List D → D := fun ds => g (ds.getD 0 .non)
def f2 (g : D → D → D) : List D → D := fun ds => g (ds.getD 0 .non) (ds.getD 1 .non)
theorem d_int (a b : Int) : decide (V.int a = V.int b) = decide (a = b) := by
  by_cases h : a = b
  · subst h; simp
  · rw [decide_eq_false h, decide_eq_false (fun z => h (V.int.inj z))]
theorem d_str (a b : Str) : decide (V.str a = V.str b) = decide (a = b) := by
  by_cases h : a = b
  · subst h; simp
  · rw [decide_eq_false h, decide_eq_false (fun z => h (V.str.inj z))]
theorem ev_eqI {σ : L2.St} {ta tb : TE} {a b : Int} (h1 : Ev ta σ H (.int a)) (h2 : Ev tb σ H (.int b)) : Ev (tOp rEq ta tb) σ H (.bl (decide (a = b))) :=
  ev_is (ev_op h1 h2 (rv_eq rfl)) (congrArg V.bl (d_int a b))
theorem ev_eqS {σ : L2.St} {ta tb : TE} {a b : Str} (h1 : Ev ta σ H (.str a)) (h2 : Ev tb σ H (.str b)) : Ev (tOp rEq ta tb) σ H (.bl (decide (a = b))) :=
  ev_is (ev_op h1 h2 (rv_eq rfl)) (congrArg V.bl (d_str a b))
/-- x in a list, a tuple of texts, or in a dict -/
def rInDk : R2 := fun x y H Q => ∃ a o, y = .ref a ∧ DGet H a x o ∧ Q (.bl o.isSome) H
theorem op_in_dk {X : Cx} (hu : X.A.units + 1 < cLine) : OpR X (compareOp .In) rInDk := by
  intro pins s σ H x y v u Q I rx ry h
  obtain ⟨a, o, rfl, g, q⟩ := h
  obtain rfl : u = Value.ref a := ry
  exact d_in hu I g rx fun s3 I3 => ⟨.bl o.isSome, H, I3, rfl, q⟩
def rNotInDk : R2 := fun x y H Q => ∃ a o, y = .ref a ∧ DGet H a x o ∧ Q (.bl (!o.isSome)) H
theorem op_notIn_dk {X : Cx} (hu : X.A.units + 1 < cLine) : OpR X (compareOp .NotIn) rNotInDk := by
  intro pins s σ H x y v u Q I rx ry h
  obtain ⟨a, o, rfl, g, q⟩ := h
  obtain rfl : u = Value.ref a := ry
  exact d_notIn hu I g rx fun s3 I3 => ⟨.bl (!o.isSome), H, I3, rfl, q⟩
theorem eqV_str (a b : Str) : eqV (.str a) (.str b) = decide (a = b) := by
  show (a == b) = decide (a = b)
  by_cases h : a = b
  · subst h; simp
  · rw [decide_eq_false h]; exact beq_eq_false_iff_ne.mpr h
/-- the texts that a list of texts, or the keys of a dict, has -/
inductive Has (H : Hp) : V → (Str → Bool) → Prop where
  | lst {a : Addr} {xs : List Str} : H a = some (.lst (xs.map V.str)) → Has H (.ref a) (fun z => decide (z ∈ xs))
  | tup {a : Addr} {xs : List Str} : H a = some (.tup (xs.map V.str)) → Has H (.ref a) (fun z => decide (z ∈ xs))
  | dct {a : Addr} {kvs : List (Key × V)} : H a = some (.dK kvs) → Has H (.ref a) (fun z => (valV kvs (Sum.inr z)).isSome)
theorem Has.ex (e : Ex H H') {v : V} {p : Str → Bool} (h : Has H v p) : Has H' v p := by
  cases h with
  | lst h => exact .lst (e _ _ h)
  | tup h => exact .tup (e _ _ h)
  | dct h => exact .dct (e _ _ h)
theorem inV_strs (z : Str) (xs : List Str) : inV (.str z) (xs.map V.str) = decide (z ∈ xs) := by
  unfold inV
  rw [List.any_map]
  induction xs with
  | nil => rfl
  | cons x r ih =>
    rw [List.any_cons, ih]
    show (eqV (.str x) (.str z) || decide (z ∈ r)) = decide (z ∈ x :: r)
    rw [eqV_str]
    by_cases h : x = z
    · subst h; simp
    · have h' : ¬ z = x := fun e => h e.symm
      simp [h, h']
theorem all_flat (xs : List Str) : (xs.map V.str).all flatV = true := by
  rw [List.all_map, List.all_eq_true]
  intro x _
  rfl
def rInAny (K : PySem.W.Frag) : R2 := fun x y H Q => rIn K false x y H Q ∨ rInDk x y H Q
theorem rv_has {x : Str} {v : V} {p : Str → Bool} (h : Has H v p) : RV (rInAny K) (.str x) v H (.bl (p x)) := fun H1 e Q q => by
  cases h.ex e with
  | @lst a xs h2 => exact .inl ⟨_, _, rfl, .inl (sq_of h2), rfl, all_flat xs, by rw [if_neg Bool.false_ne_true, inV_strs]; exact q H1 (Ex.refl H1)⟩
  | @tup a xs h2 => exact .inl ⟨_, _, rfl, .inr (st_of h2), rfl, all_flat xs, by rw [if_neg Bool.false_ne_true, inV_strs]; exact q H1 (Ex.refl H1)⟩
  | @dct a kvs h2 => exact .inr ⟨_, _, rfl, DGet.k (k := Sum.inr x) h2, q H1 (Ex.refl H1)⟩

theorem spD1 {g : List D → D} {pre : List D → Prop} {vs : List V} {Q : VK} {E : XK} (h : spD K CK 1 g pre vs H Q E) : ∃ x v H0, vs = [v] ∧ Ex H0 H ∧ Rep K CK H0 x v ∧ pre [x] ∧ ∀ v H', Ex H H' → Rep K CK (hid H0 H H') (g [x]) v → Q v H' := by
  obtain ⟨ds, H0, hn, e, r, hp, q⟩ := h
  match ds, hn with
  | [x], _ =>
    obtain ⟨v, rfl, r2⟩ := RepL.one r
    exact ⟨x, v, H0, rfl, e, r2, hp, q⟩
theorem spD2 {g : List D → D} {pre : List D → Prop} {vs : List V} {Q : VK} {E : XK} (h : spD K CK 2 g pre vs H Q E) : ∃ x y v w H0, vs = [v, w] ∧ Ex H0 H ∧ Rep K CK H0 x v ∧ Rep K CK H0 y w ∧ pre [x, y] ∧ ∀ v H', Ex H H' → Rep K CK (hid H0 H H') (g [x, y]) v → Q v H' := by
  obtain ⟨ds, H0, hn, e, r, hp, q⟩ := h
  match ds, hn with
  | [x, y], _ =>
    obtain ⟨v, w, rfl, r1, r2⟩ := RepL.two r
    exact ⟨x, y, v, w, H0, rfl, e, r1, r2, hp, q⟩
theorem rep_int {i : Int} {v : V} (r : Rep K CK H (.int i) v) : v = .int i := r
theorem rep_str {x : Str} {v : V} (r : Rep K CK H (.str x) v) : v = .str x := r.1
theorem rep_bl {b : Bool} {v : V} (r : Rep K CK H (.bl b) v) : v = .bl b := r
theorem rep_non {v : V} (r : Rep K CK H .non v) : v = .non := r
end
end Any
set_option Elab.async false
set_option linter.all false
set_option maxRecDepth 100000
namespace Any
open PySem PySem.Spec PyProof.Rows L2 Evl
/-! set(xs) of unlike texts -/
abbrev mk0 (b : Bool) : Obj := { cls := .type "set", dict := none, data := .set #[] 0 (.fresh 0 0 b) }
theorem at_str {its : List Value} {xs : List Str} (r : PyProof.Rows.StrsAre its xs) : ∀ (i : Nat) (v : Value), its[i]? = some v → ∃ t, v = .str (xs.getD i Str.empty) t := by
  induction r with
  | nil => intro i v h; cases h
  | cons y t r ih =>
    intro i v h
    match i with
    | 0 => cases h; exact ⟨t, rfl⟩
    | i + 1 => exact ih i v h
section
variable {P : Program} {w : World} {A : Around} {R : Result → Shared → Prop} {I : Addr} {fp wr : List Addr} {G : Array GenState → Array GenState → Prop} {n : Nat} {PV : Nat → Value → Prop} {St : Nat → Shared → Prop}
theorem any_has {xs : List Str} {i : Nat} (hi : i < xs.length) (k : Str) : ((xs.take i).any (· == k) || decide (k = xs.getD i Str.empty)) = (xs.take (i + 1)).any (· == k) := by
  rw [List.take_add_one, List.getElem?_eq_getElem hi, List.any_append]
  congr 1
  rw [List.getD_eq_getElem?_getD, List.getElem?_eq_getElem hi]
  show decide (k = xs[i]) = ((xs[i] == k) || false)
  rw [Bool.or_false]
  by_cases e : k = xs[i]
  · rw [decide_eq_true e, e]; exact (beq_self_eq_true _).symm
  · rw [decide_eq_false e]; exact (beq_eq_false_iff_ne.mpr fun z => e z.symm).symm
theorem no_before {xs : List Str} (hd : xs.Nodup) {i : Nat} (hi : i < xs.length) : (xs.take i).any (· == xs.getD i Str.empty) = false := by
  rw [List.any_eq_false]
  intro y hy z
  obtain ⟨j, hj, ej⟩ := List.mem_iff_getElem.mp hy
  rw [List.length_take] at hj
  have hj' : j < xs.length := by omega
  rw [List.getElem_take] at ej
  rw [List.getD_eq_getElem?_getD, List.getElem?_eq_getElem hi] at z
  have e2 : xs[j] = xs[i] := ej.trans (eq_of_beq z)
  have := (List.getElem_inj hd).mp e2
  omega
theorem fill_loop (W : WalksS P w A.in1 I fp wr G n PV St) (T : Addr) (hT : T ∉ fp) {xs : List Str} (hx : xs.length = n) (hnd : xs.Nodup) (hn : n ≤ 1000) (val : ∀ i v, PV i v → ∃ t, v = .str (xs.getD i Str.empty) t) :
    ∀ (m i : Nat) (s : Shared), n - i = m → i ≤ n → St i s → s.heap.SetOf (strKind P w) T (fun k => (xs.take i).any (· == k)) i →
      (∀ s', Moved (T :: wr) G s s' → s'.heap.SetOf (strKind P w) T (fun k => (xs.take n).any (· == k)) n → R (.ok (.ret .none)) s') →
      codeAny (model P w) A (.builtin "set.update.loop" ⟨[.ref T, .ref I], []⟩) R s := by
  have out : T ∉ wr := fun h => hT (W.sub _ h)
  intro m
  induction m with
  | zero =>
    intro i s hm hi st hS k
    obtain rfl : i = n := by omega
    refine codeAny_builtin F.entry_set_update_loop ?_
    rw [Around.under_plainId F.plain_set_update_loop _]
    refine wpAny_bind (W.done s _ _ st fun s2 mv => wpAny_pure (k s2 (mv.mono fun b hb => List.mem_cons_of_mem _ hb) ?_))
    obtain ⟨o, es, ep, t, ho, more⟩ := hS
    exact ⟨o, es, ep, t, mv.heap T _ out ho, more⟩
  | succ m ih =>
    intro i s hm hi st hS k
    have lt : i < n := by omega
    refine codeAny_builtin F.entry_set_update_loop ?_
    rw [Around.under_plainId F.plain_set_update_loop _]
    refine wpAny_bind (W.item i s _ _ lt st fun v s2 pv st2 mv => ?_)
    obtain ⟨t, rfl⟩ := val i v pv
    have hS2 : s2.heap.SetOf (strKind P w) T (fun k => (xs.take i).any (· == k)) i := by
      obtain ⟨o, es, ep, t, ho, more⟩ := hS
      exact ⟨o, es, ep, t, mv.heap T _ out ho, more⟩
    refine wpAny_bind (wpAny_holding ?_)
    unfold setAdd
    refine wpAny_holding (wpAny_bind ((strKind P w).pyHash (k := xs.getD i Str.empty) (strKind_is _ _ _ _) ?_))
    refine wpAny_setAddHashed_of (knd := strKind P w) (s := { s2 with toks := s2.toks + 1 }) (strKind_is _ _ _ _) rfl hS2 (by unfold scanBound; omega) fun h3 sb hS3 => ?_
    have nb := no_before hnd (by omega : i < xs.length)
    have hS4 : h3.SetOf (strKind P w) T (fun k => (xs.take (i + 1)).any (· == k)) (i + 1) := by
      refine SetOf_congr hS3 (fun k => any_has (by omega) k) ?_
      rw [if_neg (by rw [nb]; exact Bool.false_ne_true)]
    refine wpAny_pure ⟨plainId_quiet F.plain_set_update_loop _, ih (i + 1) _ (by omega) lt (W.frame _ s2 _ _ st2 (Nat.le_succ _) fun b hb o e => ?_) hS4 fun s5 mv5 hS5 => k s5 (Moved.trans W.gtrans ((mv.mono fun b hb => List.mem_cons_of_mem _ hb).then_heap (Nat.le_succ _) fun b o hb e => ?_) mv5) hS5⟩
    · exact (sb.2 b fun z => hT (z ▸ hb)).trans e
    · exact (sb.2 b fun z => hb (z ▸ List.mem_cons_self)).trans e
end
section
variable {P : Program} {w : World} {A : Around} {E : Value → Shared → Prop} {s : Shared}

set_option maxHeartbeats 3200000 in
theorem set_of_list {l : Addr} {items : Array Value} {xs : List Str} {Q : Value → Shared → Prop} (hh : A.handled = none) (hl : s.heap.IsList l items) (hi : PyProof.Rows.StrsAre items.toList xs) (hnd : xs.Nodup) (hn : xs.length ≤ 1000)
    (k : ∀ (h' : Heap) (tk : Nat), h'.SetOf (strKind P w) s.heap.objs.size (fun k => (xs.take items.size).any (· == k)) items.size → (∀ b o, b < s.heap.objs.size → s.heap.get? b = some o → h'.get? b = some o) → Q (.ref s.heap.objs.size) { s with heap := h', toks := tk }) :
    wpAny (model P w) A (call (.type "set") [.ref l]) Q E s := by
  obtain ⟨c, tl, hmro⟩ := F.called_set.mro
  have f1 := F.called_set.made
  have f2 := F.called_set.sub
  refine wpAny_call (codeAny_of_tree (wpAny_pure ⟨Code.quiet_builtin _ (by decide +kernel), codeAny_builtin F.entry_type_call ?_⟩))
  rw [Around.under_plain (weight_type_call_type "set" [.ref l] []) rfl]
  have f3 := F.called_set.notType
  have f4 := F.called_set.canCreate
  have f5 := F.typeCall_set_1 (.ref l)
  repeat (any_goals (first | assumption | wp_step))
  refine codeAny_mono (code_set_new_1 (.ref l) (E := E) (Q₁ := fun ob s1 => ∃ b : Bool, ob = .ref s.heap.objs.size ∧ s1 = { s with heap := s.heap.push (mk0 b) }) fun b => ⟨b, rfl, rfl⟩) fun r s1 q => ?_
  cases r with
  | error e => exact q
  | ok fl =>
    cases fl with
    | ret ob =>
      obtain ⟨b, rfl, rfl⟩ := q
      have g0 : (s.heap.push (mk0 b)).get? s.heap.objs.size = some (mk0 b) := Heap.get?_push_size _ rfl
      have gT : Shared.TypeIs { s with heap := s.heap.push (mk0 b) } (.ref s.heap.objs.size) "set" := ⟨_, g0, rfl⟩
      have f6 := F.called_set.init.lookup
      have f7 := F.called_set.init.bind (.ref s.heap.objs.size)
      repeat (any_goals (first | assumption | wp_step))
      refine codeAny_mono (codeAny_call_builtin (R := wants (fun r s2 => r = .none ∧ ∃ h' tk, s2 = { s with heap := h', toks := tk } ∧ h'.SetOf (strKind P w) s.heap.objs.size (fun k => (xs.take items.size).any (· == k)) items.size ∧
        ∀ b o, b < s.heap.objs.size → s.heap.get? b = some o → h'.get? b = some o) E) F.called_set.init.plain F.entry_set_init (check_set_init_1 gT ?_)) fun r2 s2 q2 => ?_
      · obtain ⟨⟨c0, d0, dt, sl⟩, hol, hcl, nl, hdl⟩ := hl
        obtain rfl : c0 = .type "list" := hcl
        obtain rfl : dt = .seq items nl := hdl
        have hol2 : (s.heap.push (mk0 b)).get? l = some { cls := .type "list", dict := d0, data := .seq items nl, slots := sl } := Heap.get?_push_of_some _ hol
        have f8 := F.sub_list_set
        have f9 := F.sub_list_frozenset
        have f10 : (Value.type "list" == Value.type "dict") = false := by decide
        have hl1 : (s.heap.push (mk0 b)).IsList l items := ⟨_, hol2, rfl, nl, rfl⟩
        unfold Builtin.«set.__init__» noKeywords Builtin.Frozenset.updateFrom
        generalize hPI : pyIter = PI
        wp_walk
        subst hPI
        refine wpAny_pyIter_list hl1 (wpAny_bind (wpAny_runValue ?_))
        have lS : l < s.heap.objs.size := Heap.lt_size hol
        have hs1 : (s.heap.push (mk0 b)).objs.size = s.heap.objs.size + 1 := Heap.size_push _ _
        have hx : xs.length = items.size := by rw [← StrsAre.len_eq hi, Array.length_toList]
        have hne1 : l ≠ (s.heap.push (mk0 b)).objs.size := by
          rw [hs1]; exact Nat.ne_of_lt (Nat.lt_succ_of_lt lS)
        refine fill_loop ((Walks.list (by simp [hh]) _ l hne1 items).toS) s.heap.objs.size ?a1 hx hnd (hx ▸ hn) (fun i v hv => at_str hi i v (by rw [Array.getElem?_toList]; exact hv)) (items.size - 0) 0 _ (by omega) (Nat.zero_le _)
          ⟨⟨_, Heap.get?_push_size _ rfl, rfl, rfl⟩, hl1.push _⟩ ?a2 ?a3
        case a1 =>
          rw [hs1]
          intro z
          rcases List.mem_cons.mp z with z | z
          · exact absurd z (Nat.ne_of_lt (Nat.lt_succ_self _))
          · rcases List.mem_cons.mp z with z | z
            · exact absurd z (Nat.ne_of_gt lS)
            · cases z
        case a2 =>
          have g1 : ((s.heap.push (mk0 b)).push { cls := .type "list_iterator", data := .fields #[.ref l, .int 0 0] }).get? s.heap.objs.size = some (mk0 b) := Heap.get?_push_of_some _ g0
          exact SetOf_congr ((setObjOf_fresh (knd := strKind P w) b).setOf g1 (by unfold scanBound; omega)) (fun _ => rfl) rfl
        case a3 =>
          rintro ⟨h', g', d', tk', os'⟩ mv hS2
          obtain rfl : g' = s.gens := mv.gens
          obtain rfl : d' = s.drawn := mv.drawn
          obtain rfl : os' = s.os := mv.os
          refine wpAny_pure (wpAny_pure ⟨rfl, h', tk', rfl, hS2, fun b2 o hb e => mv.heap b2 o ?_ (Heap.get?_push_of_some _ (Heap.get?_push_of_some _ e))⟩)
          intro z
          rcases List.mem_cons.mp z with z | z
          · exact absurd z (Nat.ne_of_lt hb)
          · rcases List.mem_cons.mp z with z | z
            · rw [hs1] at z
              exact absurd z (Nat.ne_of_lt (Nat.lt_succ_of_lt hb))
            · cases z
      · cases r2 with
        | error e => exact q2
        | ok fl2 =>
          cases fl2 with
          | ret r =>
            obtain ⟨rfl, h', tk, rfl, hS2, hk⟩ := q2
            repeat (any_goals (first | assumption | wp_step))
            exact k _ _ hS2 hk
          | _ => exact q2.elim
    | _ => exact q.elim

set_option maxHeartbeats 3200000 in
theorem set_of_tuple {l : Addr} {items : Array Value} {xs : List Str} {Q : Value → Shared → Prop} (hh : A.handled = none) (hl : s.heap.IsTuple l items) (hi : PyProof.Rows.StrsAre items.toList xs) (hnd : xs.Nodup) (hn : xs.length ≤ 1000)
    (k : ∀ (h' : Heap) (tk : Nat), h'.SetOf (strKind P w) s.heap.objs.size (fun k => (xs.take items.size).any (· == k)) items.size → (∀ b o, b < s.heap.objs.size → s.heap.get? b = some o → h'.get? b = some o) → Q (.ref s.heap.objs.size) { s with heap := h', toks := tk }) :
    wpAny (model P w) A (call (.type "set") [.ref l]) Q E s := by
  obtain ⟨c, tl, hmro⟩ := F.called_set.mro
  have f1 := F.called_set.made
  have f2 := F.called_set.sub
  refine wpAny_call (codeAny_of_tree (wpAny_pure ⟨Code.quiet_builtin _ (by decide +kernel), codeAny_builtin F.entry_type_call ?_⟩))
  rw [Around.under_plain (weight_type_call_type "set" [.ref l] []) rfl]
  have f3 := F.called_set.notType
  have f4 := F.called_set.canCreate
  have f5 := F.typeCall_set_1 (.ref l)
  repeat (any_goals (first | assumption | wp_step))
  refine codeAny_mono (code_set_new_1 (.ref l) (E := E) (Q₁ := fun ob s1 => ∃ b : Bool, ob = .ref s.heap.objs.size ∧ s1 = { s with heap := s.heap.push (mk0 b) }) fun b => ⟨b, rfl, rfl⟩) fun r s1 q => ?_
  cases r with
  | error e => exact q
  | ok fl =>
    cases fl with
    | ret ob =>
      obtain ⟨b, rfl, rfl⟩ := q
      have g0 : (s.heap.push (mk0 b)).get? s.heap.objs.size = some (mk0 b) := Heap.get?_push_size _ rfl
      have gT : Shared.TypeIs { s with heap := s.heap.push (mk0 b) } (.ref s.heap.objs.size) "set" := ⟨_, g0, rfl⟩
      have f6 := F.called_set.init.lookup
      have f7 := F.called_set.init.bind (.ref s.heap.objs.size)
      repeat (any_goals (first | assumption | wp_step))
      refine codeAny_mono (codeAny_call_builtin (R := wants (fun r s2 => r = .none ∧ ∃ h' tk, s2 = { s with heap := h', toks := tk } ∧ h'.SetOf (strKind P w) s.heap.objs.size (fun k => (xs.take items.size).any (· == k)) items.size ∧
        ∀ b o, b < s.heap.objs.size → s.heap.get? b = some o → h'.get? b = some o) E) F.called_set.init.plain F.entry_set_init (check_set_init_1 gT ?_)) fun r2 s2 q2 => ?_
      · obtain ⟨⟨c0, d0, dt, sl⟩, hol, hcl, nl, hdl⟩ := hl
        obtain rfl : c0 = .type "tuple" := hcl
        obtain rfl : dt = .seq items nl := hdl
        have hol2 : (s.heap.push (mk0 b)).get? l = some { cls := .type "tuple", dict := d0, data := .seq items nl, slots := sl } := Heap.get?_push_of_some _ hol
        have f8 := F.sub_tuple_set
        have f9 := F.sub_tuple_frozenset
        have f10 : (Value.type "tuple" == Value.type "dict") = false := by decide
        have hl1 : (s.heap.push (mk0 b)).IsTuple l items := ⟨_, hol2, rfl, nl, rfl⟩
        unfold Builtin.«set.__init__» noKeywords Builtin.Frozenset.updateFrom
        generalize hPI : pyIter = PI
        wp_walk
        subst hPI
        refine wpAny_pyIter_tuple hl1 (wpAny_bind (wpAny_runValue ?_))
        have lS : l < s.heap.objs.size := Heap.lt_size hol
        have hs1 : (s.heap.push (mk0 b)).objs.size = s.heap.objs.size + 1 := Heap.size_push _ _
        have hx : xs.length = items.size := by rw [← StrsAre.len_eq hi, Array.length_toList]
        have hne1 : l ≠ (s.heap.push (mk0 b)).objs.size := by
          rw [hs1]; exact Nat.ne_of_lt (Nat.lt_succ_of_lt lS)
        refine fill_loop ((Walks.tuple (by simp [hh]) _ l hne1 items).toS) s.heap.objs.size ?a1 hx hnd (hx ▸ hn) (fun i v hv => at_str hi i v (by rw [Array.getElem?_toList]; exact hv)) (items.size - 0) 0 _ (by omega) (Nat.zero_le _)
          ⟨⟨_, Heap.get?_push_size _ rfl, rfl, rfl⟩, hl1.push _⟩ ?a2 ?a3
        case a1 =>
          rw [hs1]
          intro z
          rcases List.mem_cons.mp z with z | z
          · exact absurd z (Nat.ne_of_lt (Nat.lt_succ_self _))
          · rcases List.mem_cons.mp z with z | z
            · exact absurd z (Nat.ne_of_gt lS)
            · cases z
        case a2 =>
          have g1 : ((s.heap.push (mk0 b)).push { cls := .type "tuple_iterator", data := .fields #[.ref l, .int 0 0] }).get? s.heap.objs.size = some (mk0 b) := Heap.get?_push_of_some _ g0
          exact SetOf_congr ((setObjOf_fresh (knd := strKind P w) b).setOf g1 (by unfold scanBound; omega)) (fun _ => rfl) rfl
        case a3 =>
          rintro ⟨h', g', d', tk', os'⟩ mv hS2
          obtain rfl : g' = s.gens := mv.gens
          obtain rfl : d' = s.drawn := mv.drawn
          obtain rfl : os' = s.os := mv.os
          refine wpAny_pure (wpAny_pure ⟨rfl, h', tk', rfl, hS2, fun b2 o hb e => mv.heap b2 o ?_ (Heap.get?_push_of_some _ (Heap.get?_push_of_some _ e))⟩)
          intro z
          rcases List.mem_cons.mp z with z | z
          · exact absurd z (Nat.ne_of_lt hb)
          · rcases List.mem_cons.mp z with z | z
            · rw [hs1] at z
              exact absurd z (Nat.ne_of_lt (Nat.lt_succ_of_lt hb))
            · cases z
      · cases r2 with
        | error e => exact q2
        | ok fl2 =>
          cases fl2 with
          | ret r =>
            obtain ⟨rfl, h', tk, rfl, hS2, hk⟩ := q2
            repeat (any_goals (first | assumption | wp_step))
            exact k _ _ hS2 hk
          | _ => exact q2.elim
    | _ => exact q.elim
end
section
variable {X : Cx}
/-- len(set(xs)), xs unlike texts -/
def tLenSetU (ta : TE) : TE := fun σ H Q => ta σ H fun x H1 => ∃ l, ∃ xs : List Str, x = .ref l ∧ (H1 l = some (.lst (xs.map V.str)) ∨ H1 l = some (.tup (xs.map V.str))) ∧ xs.Nodup ∧ xs.length ≤ 1000 ∧ Q (.int xs.length) H1
theorem strs_vals : ∀ {ys : List Str} {us : List Value}, Vals (ys.map V.str) us → PyProof.Rows.StrsAre us ys
  | [], _, .nil => .nil
  | y :: ys, _, .cons ⟨k, e⟩ t => by subst e; exact .cons y k (strs_vals t)
theorem pe_lenSetU {a : Expr} {ta : TE} {p p2 q pos : Pos} (hg : Gl X "len") (hm : X.mg "len" = none) (hg2 : Gl X "set") (hm2 : X.mg "set" = none) (ha : PE X a ta) (hc : X.calm = true := by rfl)
    (na : starEach [a] X.env = (false, eval a X.env) :: starEach [] X.env := by rfl) : PE X (.Call (.Name "len" p) [.Call (.Name "set" p2) [a] [] q] [] pos) (tLenSetU ta) := by
  refine ⟨fun pins s σ H Q I h => Call_ (ld_blt I hg hm boot_len (callWith_builtin1 (args_cons (Call_ (ld_blt I hg2 hm2 boot_set (callWith_type1 (args_cons (thn (ha.run pins s σ H _ I h) fun v s1 ⟨x, H1, I1, r1, q1⟩ => args_nil ?_) na) na rfl))) rfl) rfl rfl))⟩
  obtain ⟨l, xs, rfl, hq, nd, hl, q1⟩ := q1
  cases r1
  have fin : ∀ (its : List Value), Vals (xs.map V.str) its → ∀ (h' : Heap) (tk : Nat), h'.SetOf (strKind X.prog X.w) s1.heap.objs.size (fun k => (xs.take its.toArray.size).any (· == k)) its.toArray.size → (∀ b o, b < s1.heap.objs.size → s1.heap.get? b = some o → h'.get? b = some o) →
      wpAny (model X.prog X.w) X.A (spliced (backTo pos (starEach [] X.env))) (fun vs s2 => wpAny (model X.prog X.w) X.A (call (.builtin "len") (Value.ref s1.heap.objs.size :: vs)) (EP X pins σ Q) X.xe s2) X.xe { s1 with heap := h', toks := tk } := fun its r h' tk hS hk => by
    refine args_nil ?_
    have he : its.toArray.size = xs.length := by rw [List.size_toArray, ← r.length, List.length_map]
    rw [he] at hS
    obtain ⟨o, es, ep, t, ho, hex, hd, _, _, _, hf, hn⟩ := hS
    have I2 : Inv X pins σ H1 { s1 with heap := h', toks := tk } := I1.kept fun b o e => hk b o (Heap.lt_size e) e
    exact call_len_set ho hex hd hf (by rw [hn]; omega) ⟨.int xs.length, H1, I2.tok _, ⟨_, by rw [hn]⟩, q1⟩
  rcases hq with hq | hq
  · obtain ⟨its, r, pl, hz⟩ := I1.list (.inl (.inl hq))
    exact set_of_list (I1.ok.hd hc) pl.isList (by simpa using strs_vals r) nd hl fun h' tk hS hk => fin its r h' tk hS hk
  · obtain ⟨its, r, pl, hz⟩ := I1.tuple (.inl (.inl hq))
    exact set_of_tuple (I1.ok.hd hc) pl (by simpa using strs_vals r) nd hl fun h' tk hS hk => fin its r h' tk hS hk
end
end Any
set_option Elab.async false
set_option linter.all false
set_option maxRecDepth 100000
set_option maxHeartbeats 1000000
namespace Any
open PySem PySem.Spec PyProof.Rows L2 Evl
section
variable {K : PySem.W.Frag} {CK : Addr} {H H' : Hp} {σ : L2.St}
/-- all but p -/
def cut (p : Addr) (H : Hp) : Hp := fun a => if a = p then none else H a
theorem cut_sub {p : Addr} : Ex (cut p H) H := fun a o h => by
  unfold cut at h
  split at h
  · cases h
  · exact h
theorem cut_ex {p : Addr} (e : Ex H H') (h : H p = none) : Ex H (cut p H') := fun a o z => by
  unfold cut
  rw [if_neg (ne_of_none z h)]
  exact e a o z
theorem cut_mono {p : Addr} (e : Ex H H') : Ex (cut p H) (cut p H') := fun a o z => by
  unfold cut at z ⊢
  split at z
  · cases z
  · rename_i c
    rw [if_neg c]
    exact e a o z
theorem cut_upd {p : Addr} {o : HO} : cut p (upd H p o) = cut p H := by
  funext a
  unfold cut
  by_cases c : a = p
  · rw [if_pos c, if_pos c]
  · rw [if_neg c, if_neg c, upd_ne c]
theorem hid_cut {H0 H1 Hb H4 : Hp} {p : Addr} (e1 : Ex H1 Hb) (h : (Hb p).isSome = true) (h0 : H1 p = none) : hid (hid H0 H1 (cut p Hb)) Hb H4 = hid H0 H1 (cut p H4) := by
  funext a
  show (if (hid H0 H1 (cut p Hb) a).isNone = true ∧ (Hb a).isSome = true then none else H4 a) = (if (H0 a).isNone = true ∧ (H1 a).isSome = true then none else cut p H4 a)
  by_cases c : (H0 a).isNone = true ∧ (H1 a).isSome = true
  · rw [if_pos c, if_pos]
    refine ⟨by unfold hid; rw [if_pos c]; rfl, ?_⟩
    cases g : H1 a with
    | none => rw [g] at c; cases c.2
    | some o => rw [e1 a o g]; rfl
  · rw [if_neg c]
    by_cases d : a = p
    · subst d
      rw [if_pos, show cut a H4 a = none by unfold cut; rw [if_pos rfl]]
      exact ⟨by unfold hid; rw [if_neg c]; unfold cut; rw [if_pos rfl]; rfl, h⟩
    · rw [show cut p H4 a = H4 a by unfold cut; rw [if_neg d], if_neg]
      intro z
      have z1 := z.1
      unfold hid at z1
      rw [if_neg c] at z1
      unfold cut at z1
      rw [if_neg d] at z1
      cases g : Hb a with
      | none => rw [g] at z; cases z.2
      | some o => rw [g] at z1; cases z1
/-- the turn's thing: it stood (as B knows), or it is a new tuple of things that stood -/
def ItemOk (K : PySem.W.Frag) (CK : Addr) (B : Hp) (d : D) (Ha : Hp) (x : V) (Hb : Hp) : Prop :=
  (Hb = Ha ∧ Rep K CK B d x) ∨ ∃ T xs ds, x = V.ref T ∧ Ha T = none ∧ Hb = upd Ha T (.tup xs) ∧ d = .tup ds ∧ ds.length ≤ 30000 ∧ RepL K CK B ds xs
theorem ItemOk.ext {B Ha Hb : Hp} {d : D} {x : V} (h : ItemOk K CK B d Ha x Hb) : Ex Ha Hb := by
  rcases h with ⟨rfl, _⟩ | ⟨T, xs, ds, _, hn, rfl, _⟩
  · exact Ex.refl _
  · exact Ex.new hn
theorem ItemOk.rep {H0 H1 H2 Ha Hb : Hp} {d : D} {x : V} (h : ItemOk K CK (hid H0 H1 H2) d Ha x Hb) (e1 : Ex H1 H2) (e : Ex H2 Ha) : Rep K CK (hid H0 H1 Hb) d x := by
  rcases h with ⟨rfl, r⟩ | ⟨T, xs, ds, rfl, hn, rfl, rfl, hl, r⟩
  · exact r.ex (hid_mono e)
  · exact ⟨T, xs, rfl, hid_at (ex_none (e1.trans e) hn) upd_same, hl, RepL.ex (hid_mono (e.trans (Ex.new hn))) r⟩
theorem ItemOk.repC {H0 H1 H2 Ha Hb : Hp} {d : D} {x : V} {p : Addr} (h : ItemOk K CK (hid H0 H1 H2) d Ha x Hb) (e1 : Ex H1 H2) (e : Ex H2 Ha) (hp : H2 p = none) (ha : (Ha p).isSome = true) : Rep K CK (hid H0 H1 (cut p Hb)) d x := by
  rcases h with ⟨rfl, r⟩ | ⟨T, xs, ds, rfl, hn, rfl, rfl, hl, r⟩
  · exact r.ex (hid_mono (cut_ex e hp))
  · refine ⟨T, xs, rfl, hid_at (ex_none (e1.trans e) hn) ?_, hl, RepL.ex (hid_mono (cut_ex (e.trans (Ex.new hn)) hp)) r⟩
    unfold cut
    rw [if_neg, upd_same]
    rintro rfl
    rw [hn] at ha
    cases ha
/-- walks over the data ds -/
def EvID (K : PySem.W.Frag) (CK : Addr) (wi : TI) (σ : L2.St) (H : Hp) (ds : List D) : Prop := ∀ H1, Ex H H1 → ∀ R : It → Hp → Prop,
  (∀ J H2 (G : Hp → Prop) (Y : Nat → Hp → V → Hp → Prop), Ex H1 H2 → Walk J ds.length G Y → (∀ H3, Ex (hid H H1 H2) H3 → G H3) →
    (∀ (i : Nat) (d : D) Ha x Hb, ds[i]? = some d → Ex (hid H H1 H2) Ha → Y i Ha x Hb → ItemOk K CK (hid H H1 H2) d Ha x Hb) → R J H2) → wi σ H1 R
theorem ei_list {te : TE} {ds : List D} (h : EvD K CK te σ H (.lst ds)) : EvID K CK (iList K te) σ H ds := fun H1 e R q => h H1 e _ fun v H2 e2 r => by
  obtain ⟨a, vs, rfl, ha, _, hr⟩ := r
  have hs : SqL K H2 a vs := sq_of (hid_sub _ _ ha)
  refine ⟨a, rfl, ⟨vs, hs⟩, q (Itl K a) H2 (fun H => SqL K H a vs) (YAt vs) e2 (by rw [← hr.len]; exact walk_list) (fun H3 e3 => sq_of (e3 _ _ ha)) fun i d Ha x Hb hd ea y => .inl ?_⟩
  obtain ⟨rfl, hx⟩ := y
  obtain ⟨x', hx', rx⟩ := hr.get hd
  rw [hx] at hx'
  cases hx'
  exact ⟨rfl, rx⟩
theorem ei_tup {te : TE} {ds : List D} (h : EvD K CK te σ H (.tup ds)) : EvID K CK (iTup K te) σ H ds := fun H1 e R q => h H1 e _ fun v H2 e2 r => by
  obtain ⟨a, vs, rfl, ha, _, hr⟩ := r
  have hs : SqT K H2 a vs := st_of (hid_sub _ _ ha)
  refine ⟨a, rfl, ⟨vs, hs⟩, q (Itt K a) H2 (fun H => SqT K H a vs) (YAt vs) e2 (by rw [← hr.len]; exact walk_tup) (fun H3 e3 => st_of (e3 _ _ ha)) fun i d Ha x Hb hd ea y => .inl ?_⟩
  obtain ⟨rfl, hx⟩ := y
  obtain ⟨x', hx', rx⟩ := hr.get hd
  rw [hx] at hx'
  cases hx'
  exact ⟨rfl, rx⟩
/-- over a list or a tuple -/
def iSeq (K : PySem.W.Frag) (te : TE) : TI := fun σ H R => iList K te σ H R ∨ iTup K te σ H R
theorem pi_seq {X : Cx} {tg l : Expr} {tl : TE} (hl : PE X l tl) : PI X tg l (iSeq X.K tl) := pi_or (pi_list hl) (pi_tup hl)
theorem ei_seq {te : TE} {d : D} (h : EvD K CK te σ H d) (hd : d.isL = true) : EvID K CK (iSeq K te) σ H d.items := fun H1 e R q => by
  cases d with
  | lst xs => exact .inl (ei_list h H1 e R q)
  | tup xs => exact .inr (ei_tup h H1 e R q)
  | _ => cases hd
def signs (z : Str) : List D := z.cps.toList.map fun c => .str ⟨#[c]⟩
theorem ei_str {te : TE} {z : Str} (h : EvD K CK te σ H (.str z)) : EvID K CK (iStr te) σ H (signs z) := fun H1 e R q => h H1 e _ fun v H2 e2 r => by
  refine ⟨z, r.1, q (Its z) H2 (fun _ => True) _ e2 (by rw [show (signs z).length = z.cps.size by simp [signs]]; exact walk_str) (fun _ _ => trivial) fun i d Ha x Hb hd ea y => .inl ?_⟩
  obtain ⟨rfl, c, hc, rfl⟩ := y
  have hd' : (z.cps.toList.map fun c => D.str ⟨#[c]⟩)[i]? = some d := hd
  rw [List.getElem?_map] at hd'
  rw [Array.getElem?_toList, hc] at hd'
  cases hd'
  exact ⟨rfl, rfl, by show (1 : Nat) ≤ 1000; decide⟩
/-- an assignment target: from x the slots become σ2 -/
def EvG (g : TG) (x : V) (σ : L2.St) (H : Hp) (σ2 : L2.St) : Prop := ∀ H1, Ex H H1 → ∀ Q : L2.St → Hp → Prop, (∀ H2, Ex H1 H2 → Q σ2 H2) → g x σ H1 Q
theorem eg_name {i : Nat} {x : V} : EvG (gName i) x σ H (σ.set i (some x)) := fun H1 _ Q q => q H1 (Ex.refl H1)
theorem take_more {α : Type} {xs : List α} {i : Nat} {x : α} (h : xs[i]? = some x) : xs.take (i + 1) = xs.take i ++ [x] := by
  rw [List.take_add_one, h]; rfl
theorem RepL.app : ∀ {ds es : List D} {vs ws : List V}, RepL K CK H ds vs → RepL K CK H es ws → RepL K CK H (ds ++ es) (vs ++ ws)
  | [], _, _, _, h, h2 => by rw [show _ = [] from h]; exact h2
  | _ :: _, _, _, _, ⟨v, r, h1, h2, h3⟩, h4 => by rw [h1]; exact ⟨v, _, rfl, h2, RepL.app h3 h4⟩
/-- a comprehension: which it takes, what it makes of them -/
theorem ed_lc {wi : TI} {g : TG} {tt : TT} {te : TE} {vs : List Nat} {ds : List D} {f : D → Bool} {m : D → D} (hI : EvID K CK wi σ H ds) (hl : ds.length ≤ 30000)
    (turn : ∀ (i : Nat) (d : D) (x : V) (H0 : Hp), Ex H H0 → ds[i]? = some d → Rep K CK H0 d x → ∃ σ2, EvG g x (wipe σ vs) H0 σ2 ∧ wipe σ2 vs = wipe σ vs ∧ EvT tt σ2 H0 (f d) ∧ (f d = true → EvD K CK te σ2 H0 (m d))) :
    EvD K CK (tLc wi g tt te vs) σ H (.lst ((ds.filter f).map m)) := fun H1 e Q q => by
  refine hI H1 e _ fun J H2 G Y e2 w hG hY => ?_
  intro Dl hD
  have h1D : H1 Dl = none := ex_none e2 hD
  refine lc_it w (vs := vs) (fun i H' => Ex H2 H' ∧ ∃ acc, H' Dl = some (.lst acc) ∧ RepL K CK (hid H H1 (cut Dl H')) (((ds.take i).filter f).map m) acc) ?_ ?_ ?_ ?_
  · exact ⟨Ex.new hD, [], upd_same, rfl⟩
  · intro i H' _ ⟨h2, _⟩
    exact hG H' (hid_sub.trans h2)
  · intro i x Ha Hb hi ⟨h2, acc, ha, hr⟩ y
    have hd : ds[i]? = some ds[i] := List.getElem?_eq_getElem hi
    have it := hY i _ Ha x Hb hd (hid_sub.trans h2) y
    have eab := it.ext
    have haS : (Ha Dl).isSome = true := by rw [ha]; rfl
    have hbS : Hb Dl = some (.lst acc) := eab _ _ ha
    have rx := it.repC e2 h2 hD haS
    have e1b : Ex H1 Hb := e2.trans (h2.trans eab)
    have eH : Ex H (hid H H1 (cut Dl Hb)) := hid_ex e (cut_ex e1b h1D)
    obtain ⟨σ2, hg, hw, ht, he⟩ := turn i _ x (hid H H1 (cut Dl Hb)) eH hd rx
    have eB : Ex (hid H H1 (cut Dl Hb)) Hb := fun a o z => cut_sub _ _ (hid_sub _ _ z)
    refine hg Hb eB _ fun H3 e3 => ⟨hw, ht H3 (eB.trans e3) _ fun H4 e4 => ?_⟩
    have e34 : Ex Hb H4 := e3.trans e4
    have hacc : acc.length ≤ 30000 := by
      rw [hr.len, List.length_map]
      refine Nat.le_trans (List.length_filter_le _ _) ?_
      rw [List.length_take]
      omega
    cases hf : f ds[i] with
    | true =>
      rw [if_pos rfl]
      refine he hf H4 (eB.trans e34) _ fun v H5 e5 rv => ?_
      have e35 : Ex Hb H5 := e34.trans e5
      have rv' : Rep K CK (hid H H1 (cut Dl H5)) (m ds[i]) v := by
        have z : Rep K CK (hid (hid H H1 (cut Dl Hb)) H4 H5) (m ds[i]) v := rv
        have z2 := z.ex (hid_le (H3 := H5) e34)
        rw [hid_cut e1b (by rw [hbS]; rfl) h1D] at z2
        exact z2
      refine ⟨acc, e35 _ _ hbS, sz_lt (by omega), (h2.trans (eab.trans e35)).mut hD, acc ++ [v], upd_same, ?_⟩
      rw [cut_upd, take_more hd, List.filter_append, List.map_append, List.filter_cons, if_pos hf]
      exact RepL.app (RepL.ex (hid_mono (cut_mono (eab.trans e35))) hr) ⟨v, [], rfl, rv', rfl⟩
    | false =>
      rw [if_neg Bool.false_ne_true]
      refine ⟨h2.trans (eab.trans e34), acc, e34 _ _ hbS, ?_⟩
      rw [take_more hd, List.filter_append, List.map_append, List.filter_cons, if_neg (by rw [hf]; decide)]
      show RepL K CK _ (_ ++ []) _
      rw [List.append_nil]
      exact RepL.ex (hid_mono (cut_mono (eab.trans e34))) hr
  · intro H' ⟨h2, acc, ha, hr⟩
    rw [List.take_length] at hr
    refine q _ H' (e2.trans h2) ⟨Dl, acc, rfl, hid_at h1D ha, ?_, RepL.ex (hid_mono cut_sub) hr⟩
    rw [List.length_map]
    exact Nat.le_trans (List.length_filter_le _ _) hl

theorem repL_bls : ∀ {bs : List Bool} {vs : List V}, RepL K CK H (bs.map D.bl) vs → vs = bs.map V.bl
  | [], _, h => h
  | _ :: _, _, ⟨v, r, h1, h2, h3⟩ => by rw [h1, show v = V.bl _ from h2, repL_bls h3]; rfl
theorem repL_strs : ∀ {bs : List Str} {vs : List V}, RepL K CK H (bs.map D.str) vs → vs = bs.map V.str
  | [], _, h => h
  | _ :: _, _, ⟨v, r, h1, h2, h3⟩ => by rw [h1, show v = V.str _ from h2.1, repL_strs h3]; rfl
theorem repL_ints : ∀ {bs : List Int} {vs : List V}, RepL K CK H (bs.map D.int) vs → vs = bs.map V.int
  | [], _, h => h
  | _ :: _, _, ⟨v, r, h1, h2, h3⟩ => by rw [h1, show v = V.int _ from h2, repL_ints h3]; rfl
theorem ev_all {te : TE} {bs : List Bool} (h : EvD K CK te σ H (.lst (bs.map D.bl))) : Ev (tCB (rAll K) (tCons te tNil)) σ H (.bl (bs.all id)) := fun H1 e Q q => h H1 e _ fun v H2 e2 r => by
  obtain ⟨a, vs, rfl, ha, _, hr⟩ := r
  rw [repL_bls hr] at ha
  exact ⟨a, bs, rfl, sq_of (hid_sub _ _ ha), q H2 e2⟩
/-- all([c for x in ds]) -/
theorem ev_allD {te : TE} {ds : List D} {p : D → Bool} (h : EvD K CK te σ H (.lst (((ds.filter fun _ => true).map fun d => D.bl (p d))))) : Ev (tCB (rAll K) (tCons te tNil)) σ H (.bl (ds.all p)) := by
  have e : ((ds.filter fun _ => true).map fun d => D.bl (p d)) = (ds.map p).map D.bl := by
    rw [List.filter_eq_self.mpr (fun _ _ => rfl), List.map_map]; rfl
  rw [e] at h
  have z := ev_all h
  rw [List.all_map] at z
  exact z
theorem et_yes {tt : L2.St} : EvT tYes tt H true := fun H1 _ _ q => q H1 (Ex.refl H1)
theorem ev_ixS {ta tb : TE} {z : Str} {j : Nat} {c : Nat} (h : EvD K CK ta σ H (.str z)) (hb : Ev tb σ H (.int j)) (hc : z.cps.toList[j]? = some c) : Ev (tOp rIxS ta tb) σ H (.str ⟨#[c]⟩) := fun H1 e Q q =>
  h H1 e _ fun v H2 e2 r => hb H2 (e.trans e2) _ fun H3 e3 => ⟨z, j, c, r.1, rfl, sz_of (by have := r.2; omega), atI_nat hc, q H3 (e2.trans e3)⟩
theorem ev_inSg {ta tb : TE} {c : Nat} {z : Str} (h : Ev ta σ H (.str ⟨#[c]⟩)) (hb : Ev tb σ H (.str z)) : Ev (tOp rInS ta tb) σ H (.bl (decide (c ∈ z.cps.toList))) :=
  ev_op h hb fun H1 _ _ q => ⟨c, z, rfl, rfl, q H1 (Ex.refl H1)⟩
theorem et_chainLe {ta tb tc : TE} {a b c : Int} (h1 : Ev ta σ H (.int a)) (h2 : Ev tb σ H (.int b)) (h3 : Ev tc σ H (.int c)) :
    EvT (tTest (tChain (rI0 fun i j => .bl (decide (i ≤ j))) (rI0 fun i j => .bl (decide (i ≤ j))) ta tb tc)) σ H (decide (a ≤ b) && decide (b ≤ c)) := fun H1 e Q q =>
  h1 H1 e _ fun H2 e2 => h2 H2 (e.trans e2) _ fun H3 e3 => ⟨a, b, rfl, rfl, decide (a ≤ b), rfl, by
    cases hd : decide (a ≤ b) with
    | false =>
      rw [if_neg Bool.false_ne_true]
      rw [hd] at q
      exact ⟨false, rfl, q H3 (e2.trans e3)⟩
    | true =>
      rw [if_pos rfl]
      rw [hd] at q
      exact h3 H3 ((e.trans e2).trans e3) _ fun H4 e4 => ⟨b, c, rfl, rfl, decide (b ≤ c), rfl, q H4 ((e2.trans e3).trans e4)⟩⟩

theorem ItemOk.rep2 {B Ha Hb : Hp} {d : D} {x : V} (h : ItemOk K CK B d Ha x Hb) (e : Ex B Ha) : ∃ B', Ex B B' ∧ Ex B' Hb ∧ (∀ p, B p = none → (Ha p).isSome = true → B' p = none) ∧ Rep K CK B' d x := by
  rcases h with ⟨rfl, r⟩ | ⟨T, xs, ds, rfl, hn, rfl, rfl, hl, r⟩
  · exact ⟨B, Ex.refl _, e, fun _ z _ => z, r⟩
  · refine ⟨upd B T (.tup xs), Ex.new (ex_none e hn), fun a o z => ?_, fun p z1 z2 => by rw [upd_ne (fun c => by rw [c, hn] at z2; cases z2)]; exact z1, T, xs, rfl, upd_same, hl, RepL.ex (Ex.new (ex_none e hn)) r⟩
    by_cases c : a = T
    · subst c
      rw [upd_same] at z ⊢
      exact z
    · rw [upd_ne c] at z ⊢
      exact e a o z
/-- a for over data: B is what stays known; Pv by the turn, the slots, the heap -/
theorem s_forI {H0 : Hp} {wi : TI} {g : TG} {tb : TS} {D0 : Ends} {ds : List D} (hI : EvID K CK wi σ H0 ds) (e0 : Ex H0 H) (Pv : Hp → Nat → L2.St → Hp → Prop) (start : ∀ H2, Ex H H2 → Pv (hid H0 H H2) 0 σ H2)
    (keep : ∀ B i σ' H', Pv B i σ' H' → Ex B H')
    (turn : ∀ B B' (i : Nat) (d : D) x σ' Ha Hb, Ex H0 B → ds[i]? = some d → Pv B i σ' Ha → Ex Ha Hb → Ex B B' → Ex B' Hb → (∀ p, B p = none → (Ha p).isSome = true → B' p = none) → Rep K CK B' d x → g x σ' Hb fun σ2 H2 => tb { D0 with nx := Pv B (i + 1), ct := Pv B (i + 1), bk := D0.nx } σ2 H2)
    (done : ∀ B σ' H', Ex H0 B → Pv B ds.length σ' H' → D0.nx σ' H') : tFor wi g tb D0 σ H := by
  refine hI H e0 _ fun J H2 G Y e2 w hG hY => for_it w (Pv (hid H0 H H2)) (start H2 e2) (fun i σ' H' _ p => hG H' (keep _ _ _ _ p)) (fun i x σ' Ha Hb hi p y => ?_) (fun σ' H' p => done _ σ' H' (hid_ex e0 e2) p)
  have hd : ds[i]? = some ds[i] := List.getElem?_eq_getElem hi
  have it := hY i _ Ha x Hb hd (keep _ _ _ _ p) y
  obtain ⟨B', b1, b2, b3, r⟩ := it.rep2 (keep _ _ _ _ p)
  exact turn _ B' i _ x σ' Ha Hb (hid_ex e0 e2) hd p it.ext b1 b2 b3 r
theorem q_forI {H0 : Hp} {wi : TI} {g : TG} {tb tz : TS} {D0 : Ends} {ds : List D} (hI : EvID K CK wi σ H0 ds) (e0 : Ex H0 H) (Pv : Hp → Nat → L2.St → Hp → Prop) (start : ∀ H2, Ex H H2 → Pv (hid H0 H H2) 0 σ H2)
    (keep : ∀ B i σ' H', Pv B i σ' H' → Ex B H')
    (turn : ∀ B B' (i : Nat) (d : D) x σ' Ha Hb, Ex H0 B → ds[i]? = some d → Pv B i σ' Ha → Ex Ha Hb → Ex B B' → Ex B' Hb → (∀ p, B p = none → (Ha p).isSome = true → B' p = none) → Rep K CK B' d x → g x σ' Hb fun σ2 H2 => tb { D0 with nx := Pv B (i + 1), ct := Pv B (i + 1), bk := tz D0 } σ2 H2)
    (done : ∀ B σ' H', Ex H0 B → Pv B ds.length σ' H' → tz D0 σ' H') : tSeq (tFor wi g tb) tz D0 σ H := s_forI (D0 := { D0 with nx := tz D0 }) hI e0 Pv start keep turn done

/-- xs[j] of a list or a tuple -/
def rIxLT (K : PySem.W.Frag) : R2 := fun x y H Q => rIxL K x y H Q ∨ rIxT K x y H Q
theorem ix_lt {X : Cx} : IxR X (rIxLT X.K) := ix_list.or ix_tup
theorem ed_ix {ta tb : TE} {d e : D} {j : Nat} (h : EvD K CK ta σ H d) (hb : Ev tb σ H (.int (j : Nat))) (hL : d.isL = true) (hj : d.items[j]? = some e) : EvD K CK (tOp (rIxLT K) ta tb) σ H e := fun H1 e1 Q q =>
  h H1 e1 _ fun v H2 e2 r => hb H2 (e1.trans e2) _ fun H3 e3 => by
    cases d with
    | lst xs =>
      obtain ⟨a, vs, rfl, ha, _, hr⟩ := r
      obtain ⟨u, hu, ru⟩ := hr.get hj
      exact .inl ⟨a, vs, j, u, rfl, rfl, sq_of (e3 _ _ (hid_sub _ _ ha)), atI_nat hu, q u H3 (e2.trans e3) (ru.ex (hid_mono e3))⟩
    | tup xs =>
      obtain ⟨a, vs, rfl, ha, _, hr⟩ := r
      obtain ⟨u, hu, ru⟩ := hr.get hj
      exact .inr ⟨a, vs, j, u, rfl, rfl, st_of (e3 _ _ (hid_sub _ _ ha)), atI_nat hu, q u H3 (e2.trans e3) (ru.ex (hid_mono e3))⟩
    | _ => cases hL
/-- a dict comprehension over a walk -/
theorem dc_it {J : It} {n : Nat} {G : Hp → Prop} {Y : Nat → Hp → V → Hp → Prop} (w : Walk J n G Y) {g : TG} {tt : TT} {tk tv : TE} {vs : List Nat} {H1 : Hp} {Da : Addr} {Qd : Hp → Prop} (Pv : Nat → Hp → Prop) (h0 : Pv 0 (upd H1 Da (.dK []))) (hG : ∀ i H, i ≤ n → Pv i H → G H)
    (hs : ∀ i x H H', i < n → Pv i H → Y i H x H' → g x (wipe σ vs) H' fun σ2 H2 => wipe σ2 vs = wipe σ vs ∧ tt σ2 H2 fun b H3 =>
      if b = true then tk σ2 H3 fun y H4 => tv σ2 H4 fun z H5 => ∃ kvs k, y = kV k ∧ H5 Da = some (.dK kvs) ∧ kvs.length < sizeLine ∧ Pv (i + 1) (upd H5 Da (.dK (putK kvs k z))) else Pv (i + 1) H3) (hd : ∀ H, Pv n H → Qd H) :
    ∃ W : Nat → Nat → Hp → Prop, (∃ m, W 0 m (upd H1 Da (.dK []))) ∧ ∀ i m H, W i m H →
      (J.stop i H ∧ Qd H) ∨ (J.go i H ∧ ∃ Nx : Hp → Prop, (∀ H', Nx H' → ∃ m', m' < m ∧ W (i + 1) m' H') ∧ ∀ x H', J.yld i H x H' → g x (wipe σ vs) H' fun σ2 H2 => wipe σ2 vs = wipe σ vs ∧ tt σ2 H2 fun b H3 =>
        if b = true then tk σ2 H3 fun y H4 => tv σ2 H4 fun z H5 => ∃ kvs k, y = kV k ∧ H5 Da = some (.dK kvs) ∧ kvs.length < sizeLine ∧ Nx (upd H5 Da (.dK (putK kvs k z))) else Nx H3) := by
  refine ⟨fun i m H => m = n - i ∧ i ≤ n ∧ Pv i H, ⟨n - 0, rfl, Nat.zero_le _, h0⟩, ?_⟩
  rintro i m H ⟨rfl, hi, p⟩
  have gg := hG i H hi p
  by_cases lt : i < n
  · exact .inr ⟨w.goes i H lt gg, Pv (i + 1), fun H' p' => ⟨n - (i + 1), by omega, rfl, lt, p'⟩, fun x H' y => hs i x H H' lt p (w.yields i H x H' lt gg y)⟩
  · obtain rfl : i = n := by omega
    exact .inl ⟨w.stops H gg, hd H p⟩
end
end Any
set_option Elab.async false
set_option linter.all false
set_option maxRecDepth 100000
namespace Any
open PySem PySem.Spec PyProof.Rows L2 Evl
/-- a def of the top, where it stands -/
structure Def (K : PySem.W.Frag) (mg : Str → Option Value) (x : Str) (st : Stmt) (ps : List Str) where
  f : Addr
  fd : FuncData
  F : Fun K x x st f fd
  b : Binds K fd ps []
  m : mg x = some (.ref f)
/-- the built-ins' names are nobody's -/
structure Nm (mg : Str → Option Value) : Prop where
  isinstance : mg "isinstance" = none
  list : mg "list" = none
  tuple : mg "tuple" = none
  str : mg "str" = none
  bool : mg "bool" = none
  dict : mg "dict" = none
  len : mg "len" = none
  all : mg "all" = none
  any : mg "any" = none
  set : mg "set" = none
  range : mg "range" = none
  enumerate : mg "enumerate" = none
  zip : mg "zip" = none
  sorted : mg "sorted" = none
  sum : mg "sum" = none
  abs : mg "abs" = none
  int : mg "int" = none
  repr : mg "repr" = none
abbrev sIsName : Stmt := topS 11
abbrev sIsList : Stmt := topS 12
abbrev sIsListOf : Stmt := topS 13
abbrev sIsOneOf : Stmt := topS 14
section
variable {P : Program} {w : World} {K : PySem.W.Frag} {mg : Str → Option Value} {base : Heap} {CK : Addr}
def isListOf (d : D) (m : D) : Bool := match m with
  | .int m => d.isL && decide ((d.items.length : Int) = m)
  | _ => false
theorem scIsList : FnScope ["thing"] ["thing"] (defScope sIsList) := ⟨rfl, rfl, rfl, by decide +kernel, rfl, by decide +kernel, by decide +kernel⟩
abbrev spIsList (K : PySem.W.Frag) (CK : Addr) : Sp := spD K CK 1 (f1 fun d => .bl d.isL) (fun _ => True)
theorem ok_is_list (d : Def K mg "is_list" sIsList ["thing"]) (T : KCls K CK) (N : Nm mg) : FnOk P w K mg base CX0 1 d.f d.fd ["thing"] (spIsList K CK) := by
  refine d.F.ok scIsList (fun vs H Q E h => spD_len h) (fun cdv A outer s H vs Q E hr h => ?_)
  obtain ⟨x, v, H0, rfl, e0, r, _, q⟩ := spD1 h
  refine ⟨_, pss_one (ps_ret (pe_callB call_isiT (by rfl) N.isinstance boot_isinstance (pa_cons (pv 0) (pa_cons (pe_tup (pa_cons (pe_bltn (v := .ty "list") (by rfl) N.list boot_list rfl) (pa_cons (pe_bltn (v := .ty "tuple") (by rfl) N.tuple boot_tuple rfl) pa_nil))) pa_nil)))), ?_⟩
  exact s_ret ((ev_isL T (ev_var rfl) r).mono e0) fun H1 e => q _ H1 e rfl
theorem scIsListOf : FnScope ["thing", "many"] ["thing", "many"] (defScope sIsListOf) := ⟨rfl, rfl, rfl, by decide +kernel, rfl, by decide +kernel, by decide +kernel⟩
abbrev spIsListOf (K : PySem.W.Frag) (CK : Addr) : Sp := spD K CK 2 (f2 fun d m => .bl (isListOf d m)) (fun ds => ∃ d m, ds = [d, .int m])
theorem ok_is_list_of (d : Def K mg "is_list_of" sIsListOf ["thing", "many"]) (dL : Def K mg "is_list" sIsList ["thing"]) (T : KCls K CK) (N : Nm mg) : FnOk P w K mg base CX0 2 d.f d.fd ["thing", "many"] (spIsListOf K CK) := by
  have GL : FnOk P w K mg base CX0 1 dL.f dL.fd ["thing"] (spIsList K CK) := ok_is_list dL T N
  refine d.F.ok scIsListOf (fun vs H Q E h => spD_len h) (fun cdv A outer s H vs Q E hr h => ?_)
  obtain ⟨x, y, v, v2, H0, rfl, e0, r1, r2, ⟨x', m, he⟩, q⟩ := spD2 h
  obtain rfl : y = .int m := by cases he; rfl
  obtain rfl := rep_int r2
  refine ⟨_, pss_one (ps_ret (pe_and (pe_call GL hr (by rfl) dL.m dL.F.kp dL.b .nil pass0 (pa_cons (pv 0) pa_nil)) (pe_one (pe_cmpR op_eq (pe_callB call_len_seq (by rfl) N.len boot_len (pa_cons (pv 0) pa_nil)) (pv 1) (nomark _))))), ?_⟩
  refine s_ret (Ev.mono e0 (ev_andV (EvD.b (ed_call (ds := [x]) (ead_cons (ed_var rfl r1) ead_nil) rfl trivial)) (fun hx => ev_eqI (ev_lenD (ed_var rfl r1) hx) (ev_var rfl)))) fun H1 e => q _ H1 e rfl
theorem scIsOneOf : FnScope ["thing", "names"] ["thing", "names"] (defScope sIsOneOf) := ⟨rfl, rfl, rfl, by decide +kernel, rfl, by decide +kernel, by decide +kernel⟩
def oneOf (d : D) (p : Str → Bool) : Bool := match d with
  | .str x => p x
  | _ => false
def spIsOneOf (K : PySem.W.Frag) (CK : Addr) : Sp := fun vs H Q _ => ∃ d p v n, vs = [v, n] ∧ Rep K CK H d v ∧ Has H n p ∧ RetV (.bl (oneOf d p)) H Q
theorem ok_is_one_of (d : Def K mg "is_one_of" sIsOneOf ["thing", "names"]) (T : KCls K CK) (N : Nm mg) : FnOk P w K mg base CX0 1 d.f d.fd ["thing", "names"] (spIsOneOf K CK) := by
  refine d.F.ok scIsOneOf (fun vs H Q E h => ?_) (fun cdv A outer s H vs Q E hr h => ?_)
  · obtain ⟨_, _, _, _, rfl, _⟩ := h
    rfl
  obtain ⟨x, p, v, n, rfl, r, hp, q⟩ := h
  have hu := hu_of hr
  refine ⟨_, pss_one (ps_ret (pe_and (pe_callB call_isi (by rfl) N.isinstance boot_isinstance (pa_cons (pv 0) (pa_cons (pe_bltn (v := .ty "str") (by rfl) N.str boot_str rfl) pa_nil)))
    (pe_one (pe_cmpR (op_in_seq.or (op_in_dk hu)) (pv 0) (pv 1) (by rfl))))), ?_⟩
  refine s_ret (v := .bl (oneOf x p)) (ev_is (ev_andV (b := oneOf x p) (ev_isS T (ev_var rfl) r) (fun hx => ?_)) ?_) fun H1 e => q H1 e
  · cases x with
    | str z =>
      refine ev_op (ev_var (by rw [show v = V.str z from r.1]; rfl)) (ev_var rfl) (rv_has hp)
    | _ => cases hx
  · cases x <;> rfl
end
end Any
set_option Elab.async false
set_option linter.all false
set_option maxRecDepth 100000
namespace Any
open PySem PySem.Spec PyProof.Rows L2 Evl
def lettersS : Str := "abcdefghijklmnopqrstuvwxyz"
def signsS : Str := "abcdefghijklmnopqrstuvwxyz0123456789"
/-- the texts at the top -/
structure Cn (mg : Str → Option Value) : Prop where
  letters : ∃ t, mg "LETTERS" = some (.str lettersS t)
  signs : ∃ t, mg "SIGNS" = some (.str signsS t)
def isNameS (x : Str) : Bool := (decide (1 ≤ x.length) && decide (x.length ≤ 8)) && ((match x.cps.toList with
  | [] => false
  | c :: _ => decide (c ∈ lettersS.cps.toList)) && x.cps.toList.all fun c => decide (c ∈ signsS.cps.toList))
def isName : D → Bool
  | .str x => isNameS x
  | _ => false
theorem isName_no {d : D} (h : d.isS = false) : isName d = false := by
  cases d with
  | str x => cases h
  | _ => rfl
theorem isS_str {d : D} (h : d.isS = true) : ∃ x, d = .str x := by
  cases d with
  | str x => exact ⟨x, rfl⟩
  | _ => cases h
section
variable {P : Program} {w : World} {K : PySem.W.Frag} {mg : Str → Option Value} {base : Heap} {CK : Addr}
theorem scIsName : FnScope ["thing", "sign"] ["thing"] (defScope sIsName) := ⟨rfl, rfl, rfl, by decide +kernel, rfl, by decide +kernel, by decide +kernel⟩
abbrev spIsName (K : PySem.W.Frag) (CK : Addr) : Sp := spD K CK 1 (f1 fun d => .bl (isName d)) (fun _ => True)
theorem ok_is_name (d : Def K mg "is_name" sIsName ["thing"]) (T : KCls K CK) (N : Nm mg) (C : Cn mg) : FnOk P w K mg base CX0 1 d.f d.fd ["thing"] (spIsName K CK) := by
  refine d.F.ok scIsName (fun vs H Q E h => spD_len h) (fun cdv A outer s H vs Q E hr h => ?_)
  obtain ⟨x, v, H0, rfl, e0, r, _, q⟩ := spD1 h
  obtain ⟨t1, hL⟩ := C.letters
  obtain ⟨t2, hS⟩ := C.signs
  refine ⟨_, pss_cons (ps_if (PW.pt (pw_or (pt_not (pt_val (pe_callB call_isi (by rfl) N.isinstance boot_isinstance (pa_cons (pv 0) (pa_cons (pe_bltn (v := .ty "str") (by rfl) N.str boot_str rfl) pa_nil)))))
      (pw_or1 (pt_not (pt_chain op_le op_le pe_int (pe_callB call_len_str (by rfl) N.len boot_len (pa_cons (pv 0) pa_nil)) pe_int)))))
      (pss_one (ps_ret pe_bl)) pss_nil)
    (pss_one (ps_ret (pe_and (pe_cmpR op_inS (pe_ix ix_str (pv 0) pe_int (fun _ _ => rfl)) (pe_glob (v := .str lettersS) (by rfl) hL ⟨_, rfl⟩) (by rfl))
      (pe_one (pe_callB (cr_all rfl) (by rfl) N.all boot_all (pa_cons (pe_lc (own := [("sign", 1)]) (g := gName 1) (tt := tYes) rfl scIsName.nd (pi_str (pv 0)) (blkOk_by (N := ["thing", "sign"]) (sc := defScope sIsName) (by decide +kernel))
        (fun _ _ _ _ _ => pg_name (i := 1) scIsName.nd rfl (Or.inl rfl)) (fun _ _ _ _ _ => pts_nil)
        (fun _ _ _ _ _ => pe_cmpR op_inS (pv 1) (pe_glob (v := .str signsS) (by rfl) hS ⟨_, rfl⟩) (by rfl))) pa_nil)))))), ?_⟩
  cases hx : x.isS with
  | false =>
    refine q_when (b := true) ((et_is (et_or (a := true) (b := true) (et_is (et_not (et_B (ev_isS T (ev_var rfl) r))) (by rw [hx]; rfl)) (fun z => by cases z)) rfl).mono e0) (fun _ H1 e1 => s_ret ev_c fun H2 e2 => ?_) (fun z => by cases z)
    refine q _ H2 (e1.trans e2) ?_
    show V.bl false = V.bl (isName x)
    rw [isName_no hx]
  | true =>
    obtain ⟨z, rfl⟩ := isS_str hx
    have hz : EvT (tOr (tNot (tB (tCB (rIsi K) (tCons (tVar 0) (tCons (tC (.ty "str")) tNil))))) (tNot (tTest (tChain (rI0 fun i j => .bl (decide (i ≤ j))) (rI0 fun i j => .bl (decide (i ≤ j))) (tC (.int 1)) (tCB rLenT (tCons (tVar 0) tNil)) (tC (.int 8)))))) (start ["thing", "sign"] [v]) H0
        (!(decide (1 ≤ z.length) && decide (z.length ≤ 8))) :=
      et_is (et_or (et_not (et_B (ev_isS T (ev_var rfl) r))) (fun _ => et_not (et_chainLe ev_c (ev_lenS (ed_var rfl r)) ev_c))) (by
        show (false || !(decide ((1 : Int) ≤ ((z.length : Nat) : Int)) && decide (((z.length : Nat) : Int) ≤ 8))) = _
        rw [Bool.false_or]
        congr 2
        · exact decide_eq_decide.mpr (by omega)
        · exact decide_eq_decide.mpr (by omega))
    refine q_when (hz.mono e0) (fun hb H1 e1 => s_ret ev_c fun H2 e2 => ?_) (fun hb H1 e1 => ?_)
    · refine q _ H2 (e1.trans e2) ?_
      show V.bl false = V.bl (isNameS z)
      unfold isNameS
      rw [Bool.not_eq_true'] at hb
      rw [hb, Bool.false_and]
    · rw [Bool.not_eq_false'] at hb
      have hl : 1 ≤ z.length := by
        have := (Bool.and_eq_true_iff.mp hb).1
        exact of_decide_eq_true this
      obtain ⟨c, r', hc⟩ : ∃ c r', z.cps.toList = c :: r' := by
        cases h : z.cps.toList with
        | nil =>
          have : z.cps.toList.length = z.length := by simp [PySem.Str.length]
          rw [h] at this
          simp at this
          omega
        | cons c r' => exact ⟨c, r', rfl⟩
      refine s_ret (v := .bl (isNameS z)) (Ev.mono (e0.trans e1) (ev_is (ev_andV (ev_inSg (ev_ixS (j := 0) (ed_var rfl r) ev_c (by rw [hc]; rfl)) ev_c) (fun _ => ev_allD (p := fun d => match d with
        | .str y => decide (y.cps.toList.head?.getD 0 ∈ signsS.cps.toList)
        | _ => false) (ed_lc (ei_str (ed_var rfl r)) ?_ ?_))) ?_)) fun H2 e2 => q _ H2 (e1.trans e2) rfl
      · have : (signs z).length = z.length := by simp [signs, PySem.Str.length]
        have := r.2
        omega
      · intro i d x H2 e2 hd rx
        obtain ⟨c', rfl⟩ : ∃ c', d = .str ⟨#[c']⟩ := by
          have := List.mem_of_getElem? hd
          obtain ⟨c', _, rfl⟩ := List.mem_map.mp this
          exact ⟨c', rfl⟩
        obtain rfl := rep_str rx
        exact ⟨_, eg_name, rfl, et_yes, fun _ => Ev.d (ev_inSg (ev_var rfl) ev_c) rfl⟩
      · unfold isNameS
        rw [hb, Bool.true_and, hc]
        congr 2
        unfold signs
        rw [hc, List.all_map]
        rfl
end
end Any
set_option Elab.async false
set_option linter.all false
set_option maxRecDepth 100000
namespace Any
open PySem PySem.Spec PyProof.Rows L2 Evl
abbrev sUnlike : Stmt := topS 19
abbrev sIsRow : Stmt := topS 18
def D.strOf : D → Str
  | .str x => x
  | _ => Str.empty
/-- unlike names -/
def unlike (ds : List D) : Bool := ds.all isName && decide ((ds.map D.strOf).Nodup)
theorem strs_of {ds : List D} (h : ds.all isName = true) : ds = (ds.map D.strOf).map D.str := by
  induction ds with
  | nil => rfl
  | cons d r ih =>
    rw [List.all_cons, Bool.and_eq_true] at h
    rw [List.map_cons, List.map_cons, ← ih h.2]
    congr 1
    have h1 := h.1
    cases d with
    | str x => rfl
    | _ => cases h1
section
variable {P : Program} {w : World} {K : PySem.W.Frag} {mg : Str → Option Value} {base : Heap} {CK : Addr} {H : Hp} {σ : L2.St}
theorem ev_lenSet {te : TE} {d : D} (h : EvD K CK te σ H d) (hd : d.isL = true) (ha : d.items.all isName = true) (hn : (d.items.map D.strOf).Nodup) (hl : d.items.length ≤ 1000) : Ev (tLenSetU te) σ H (.int (d.items.length : Int)) := fun H1 e Q q => h H1 e _ fun v H2 e2 r => by
  have es := strs_of ha
  cases d with
  | lst xs =>
    obtain ⟨a, vs, rfl, h1, _, h2⟩ := r
    have es' : xs = (xs.map D.strOf).map D.str := es
    rw [es'] at h2
    rw [repL_strs h2] at h1
    exact ⟨a, xs.map D.strOf, rfl, .inl (hid_sub _ _ h1), hn, by rw [List.length_map]; exact hl, by rw [List.length_map]; exact q H2 e2⟩
  | tup xs =>
    obtain ⟨a, vs, rfl, h1, _, h2⟩ := r
    have es' : xs = (xs.map D.strOf).map D.str := es
    rw [es'] at h2
    rw [repL_strs h2] at h1
    exact ⟨a, xs.map D.strOf, rfl, .inr (hid_sub _ _ h1), hn, by rw [List.length_map]; exact hl, by rw [List.length_map]; exact q H2 e2⟩
  | _ => cases hd
theorem scUnlike : FnScope ["things", "thing"] ["things"] (defScope sUnlike) := ⟨rfl, rfl, rfl, by decide +kernel, rfl, by decide +kernel, by decide +kernel⟩
/-- asked of names that are unlike, or of things one of which is no name -/
abbrev spUnlike (K : PySem.W.Frag) (CK : Addr) : Sp := spD K CK 1 (f1 fun d => .bl (unlike d.items)) (fun ds => ∃ d, ds = [d] ∧ d.isL = true ∧ d.items.length ≤ 1000 ∧ (d.items.all isName = true → (d.items.map D.strOf).Nodup))
theorem ok_unlike (d : Def K mg "_are_unlike_names" sUnlike ["things"]) (dN : Def K mg "is_name" sIsName ["thing"]) (T : KCls K CK) (N : Nm mg) (C : Cn mg) : FnOk P w K mg base CX0 2 d.f d.fd ["things"] (spUnlike K CK) := by
  have GN : FnOk P w K mg base CX0 1 dN.f dN.fd ["thing"] (spIsName K CK) := ok_is_name dN T N C
  refine d.F.ok scUnlike (fun vs H Q E h => spD_len h) (fun cdv A outer s H vs Q E hr h => ?_)
  obtain ⟨x, v, H0, rfl, e0, r, ⟨x', hx, hL, hl, hu⟩, q⟩ := spD1 h
  cases hx
  refine ⟨_, pss_one (ps_ret (pe_and (pe_callB (cr_all rfl) (by rfl) N.all boot_all (pa_cons (pe_lc (own := [("thing", 1)]) (g := gName 1) (tt := tYes) rfl scUnlike.nd (pi_seq (pv 0)) (blkOk_by (N := ["things", "thing"]) (sc := defScope sUnlike) (by decide +kernel))
        (fun _ _ _ _ _ => pg_name (i := 1) scUnlike.nd rfl (Or.inl rfl)) (fun _ _ _ _ _ => pts_nil)
        (fun _ _ _ _ _ => pe_call GN hr (by rfl) dN.m dN.F.kp dN.b .nil pass0 (pa_cons (pv 1) pa_nil))) pa_nil))
      (pe_one (pe_cmpR op_eq (pe_lenSetU (by rfl) N.len (by rfl) N.set (pv 0)) (pe_callB call_len_seq (by rfl) N.len boot_len (pa_cons (pv 0) pa_nil)) (nomark _))))), ?_⟩
  refine s_ret (v := .bl (unlike x.items)) (Ev.mono e0 (ev_is (ev_andV (ev_allD (p := isName) (ed_lc (ei_seq (ed_var rfl r) hL) (by omega) ?_)) (fun ha => ev_eqI (ev_lenSet (ed_var rfl r) hL ha (hu ha) hl) (ev_lenD (ed_var rfl r) hL))) ?_)) fun H2 e2 => q _ H2 e2 rfl
  · intro i d2 y H2 e2 hd ry
    exact ⟨_, eg_name, rfl, et_yes, fun _ => ed_call (ds := [d2]) (ead_cons (ed_var rfl ry) ead_nil) rfl trivial⟩
  · unfold unlike
    rw [decide_eq_true (rfl : ((x.items.length : Nat) : Int) = _), Bool.and_true]
    cases ha : x.items.all isName with
    | false => rfl
    | true => rw [decide_eq_true (hu ha)]; rfl
end
end Any
set_option Elab.async false
set_option linter.all false
set_option maxRecDepth 100000
namespace Any
open PySem PySem.Spec PyProof.Rows L2 Evl
section
variable {K : PySem.W.Frag} {CK : Addr} {H H' H0 : Hp} {σ : L2.St} {X : Cx}
/-- a, b, .. = a tuple or a list -/
def gUnp (K : PySem.W.Frag) (n : Nat) (t : TGs) : TG := fun v σ H Q => gTup K n t v σ H Q ∨ gUnl K n t v σ H Q
theorem pg_unp {es : List Expr} {kk : Nat} {t : TGs} {n : Nat} {pos : Pos} (hc : X.calm = true) (h : PGs X es t) (hn : (assignEach es X.env).length = n := by rfl) (hst : (assignEach es X.env).findIdx? (·.1) = none := by rfl) : PG X (.Tuple es kk pos) (gUnp X.K n t) :=
  pg_or (pg_tup hc h hn hst) (pg_unl hc h hn hst)
theorem gUnp_of {d : D} {x : V} {n : Nat} {t : TGs} {Q : L2.St → Hp → Prop} {B : Hp} (hB : Ex B H) (r : Rep K CK B d x) (hL : d.isL = true) (hn : d.items.length = n) (k : ∀ vs, RepL K CK B d.items vs → t vs σ H Q) : gUnp K n t x σ H Q := by
  cases d with
  | lst xs =>
    obtain ⟨a, vs, rfl, h1, _, h2⟩ := r
    exact .inr ⟨a, vs, rfl, sq_of (hB _ _ h1), h2.len.trans hn, k vs h2⟩
  | tup xs =>
    obtain ⟨a, vs, rfl, h1, _, h2⟩ := r
    exact .inl ⟨a, vs, rfl, st_of (hB _ _ h1), h2.len.trans hn, k vs h2⟩
  | _ => cases hL
theorem eg_unp2 {i j : Nat} {d d1 d2 : D} {x : V} (r : Rep K CK H d x) (hL : d.isL = true) (hi : d.items = [d1, d2]) :
    ∃ v1 v2, Rep K CK H d1 v1 ∧ Rep K CK H d2 v2 ∧ EvG (gUnp K 2 (gCons (gName i) (gCons (gName j) gNil))) x σ H ((σ.set i (some v1)).set j (some v2)) := by
  cases d with
  | lst xs =>
    obtain rfl : xs = [d1, d2] := hi
    obtain ⟨a, vs, rfl, h1, _, h2⟩ := r
    obtain ⟨v1, v2, rfl, r1, r2⟩ := RepL.two h2
    exact ⟨v1, v2, r1, r2, fun H1 e Q q => .inr ⟨a, _, rfl, sq_of (e _ _ h1), rfl, v1, _, rfl, v2, _, rfl, rfl, q H1 (Ex.refl H1)⟩⟩
  | tup xs =>
    obtain rfl : xs = [d1, d2] := hi
    obtain ⟨a, vs, rfl, h1, _, h2⟩ := r
    obtain ⟨v1, v2, rfl, r1, r2⟩ := RepL.two h2
    exact ⟨v1, v2, r1, r2, fun H1 e Q q => .inl ⟨a, _, rfl, st_of (e _ _ h1), rfl, v1, _, rfl, v2, _, rfl, rfl, q H1 (Ex.refl H1)⟩⟩
  | _ => cases hL
theorem RepL.three {d d2 d3 : D} {vs : List V} (h : RepL K CK H [d, d2, d3] vs) : ∃ v v2 v3, vs = [v, v2, v3] ∧ Rep K CK H d v ∧ Rep K CK H d2 v2 ∧ Rep K CK H d3 v3 := by
  obtain ⟨v, r, rfl, h1, h2⟩ := h
  obtain ⟨v2, v3, rfl, r2, r3⟩ := RepL.two h2
  exact ⟨v, v2, v3, rfl, h1, r2, r3⟩
theorem RepL.four {d d2 d3 d4 : D} {vs : List V} (h : RepL K CK H [d, d2, d3, d4] vs) : ∃ v v2 v3 v4, vs = [v, v2, v3, v4] ∧ Rep K CK H d v ∧ Rep K CK H d2 v2 ∧ Rep K CK H d3 v3 ∧ Rep K CK H d4 v4 := by
  obtain ⟨v, r, rfl, h1, h2⟩ := h
  obtain ⟨v2, v3, v4, rfl, r2, r3, r4⟩ := RepL.three h2
  exact ⟨v, v2, v3, v4, rfl, h1, r2, r3, r4⟩
theorem eg_unp3 {i j k : Nat} {d d1 d2 d3 : D} {x : V} (r : Rep K CK H d x) (hL : d.isL = true) (hi : d.items = [d1, d2, d3]) :
    ∃ v1 v2 v3, Rep K CK H d1 v1 ∧ Rep K CK H d2 v2 ∧ Rep K CK H d3 v3 ∧ EvG (gUnp K 3 (gCons (gName i) (gCons (gName j) (gCons (gName k) gNil)))) x σ H (((σ.set i (some v1)).set j (some v2)).set k (some v3)) := by
  cases d with
  | lst xs =>
    obtain rfl : xs = [d1, d2, d3] := hi
    obtain ⟨a, vs, rfl, h1, _, h2⟩ := r
    obtain ⟨v1, v2, v3, rfl, r1, r2, r3⟩ := RepL.three h2
    exact ⟨v1, v2, v3, r1, r2, r3, fun H1 e Q q => .inr ⟨a, _, rfl, sq_of (e _ _ h1), rfl, v1, _, rfl, v2, _, rfl, v3, _, rfl, rfl, q H1 (Ex.refl H1)⟩⟩
  | tup xs =>
    obtain rfl : xs = [d1, d2, d3] := hi
    obtain ⟨a, vs, rfl, h1, _, h2⟩ := r
    obtain ⟨v1, v2, v3, rfl, r1, r2, r3⟩ := RepL.three h2
    exact ⟨v1, v2, v3, r1, r2, r3, fun H1 e Q q => .inl ⟨a, _, rfl, st_of (e _ _ h1), rfl, v1, _, rfl, v2, _, rfl, v3, _, rfl, rfl, q H1 (Ex.refl H1)⟩⟩
  | _ => cases hL
theorem eg_unp4 {i j k l : Nat} {d d1 d2 d3 d4 : D} {x : V} (r : Rep K CK H d x) (hL : d.isL = true) (hi : d.items = [d1, d2, d3, d4]) :
    ∃ v1 v2 v3 v4, Rep K CK H d1 v1 ∧ Rep K CK H d2 v2 ∧ Rep K CK H d3 v3 ∧ Rep K CK H d4 v4 ∧
      EvG (gUnp K 4 (gCons (gName i) (gCons (gName j) (gCons (gName k) (gCons (gName l) gNil))))) x σ H ((((σ.set i (some v1)).set j (some v2)).set k (some v3)).set l (some v4)) := by
  cases d with
  | lst xs =>
    obtain rfl : xs = [d1, d2, d3, d4] := hi
    obtain ⟨a, vs, rfl, h1, _, h2⟩ := r
    obtain ⟨v1, v2, v3, v4, rfl, r1, r2, r3, r4⟩ := RepL.four h2
    exact ⟨v1, v2, v3, v4, r1, r2, r3, r4, fun H1 e Q q => .inr ⟨a, _, rfl, sq_of (e _ _ h1), rfl, v1, _, rfl, v2, _, rfl, v3, _, rfl, v4, _, rfl, rfl, q H1 (Ex.refl H1)⟩⟩
  | tup xs =>
    obtain rfl : xs = [d1, d2, d3, d4] := hi
    obtain ⟨a, vs, rfl, h1, _, h2⟩ := r
    obtain ⟨v1, v2, v3, v4, rfl, r1, r2, r3, r4⟩ := RepL.four h2
    exact ⟨v1, v2, v3, v4, r1, r2, r3, r4, fun H1 e Q q => .inl ⟨a, _, rfl, st_of (e _ _ h1), rfl, v1, _, rfl, v2, _, rfl, v3, _, rfl, v4, _, rfl, rfl, q H1 (Ex.refl H1)⟩⟩
  | _ => cases hL
/-- target = e, then the rest; H0 is known, H stands -/
theorem q_asgD {te : TE} {g : TG} {tz : TS} {D0 : Ends} {d : D} (h : EvD K CK te σ H0 d) (e0 : Ex H0 H)
    (k : ∀ v H1, Ex H H1 → Rep K CK (hid H0 H H1) d v → ∃ σ2, EvG g v σ (hid H0 H H1) σ2 ∧ ∀ H2, Ex H1 H2 → tz D0 σ2 H2) : tSeq (tAsg te g) tz D0 σ H := by
  refine h H e0 _ fun v H1 e1 r => ?_
  obtain ⟨σ2, hg, k2⟩ := k v H1 e1 r
  exact hg H1 hid_sub _ k2
theorem ed_asg {te : TE} {i : Nat} {tz : TS} {D0 : Ends} {d : D} (h : EvD K CK te σ H0 d) (e0 : Ex H0 H)
    (k : ∀ v H1, Ex H H1 → Rep K CK (hid H0 H H1) d v → tz D0 (σ.set i (some v)) H1) : tSeq (tAsg te (gName i)) tz D0 σ H :=
  h H e0 _ fun v H1 e1 r => k v H1 e1 r
end
end Any
set_option Elab.async false
set_option linter.all false
set_option maxRecDepth 100000
namespace Any
open PySem PySem.Spec PyProof.Rows L2 Evl
/-- a row of kinds -/
structure Row where
  kind : Str
  above : Str
  marks : List Str
  lasts : Bool
structure Row.Ok (r : Row) : Prop where
  kind : isNameS r.kind = true
  above : r.above = Str.empty ∨ isNameS r.above = true
  some : r.marks ≠ []
  names : ∀ m ∈ r.marks, isNameS m = true
  nd : r.marks.Nodup
  few : r.marks.length ≤ 100
/-- d is the row r, in whatever form -/
def RowD (r : Row) (d : D) : Prop := d.isL = true ∧ ∃ m, d.items = [.str r.kind, .str r.above, m, .bl r.lasts] ∧ m.isL = true ∧ m.items = r.marks.map D.str
section
variable {P : Program} {w : World} {K : PySem.W.Frag} {mg : Str → Option Value} {base : Heap} {CK : Addr} {H : Hp} {σ : L2.St}
theorem ev_oneOf {ta tb : TE} {d : D} {p : Str → Bool} {E : XK} (h : EvD K CK ta σ H d) (hb : EvP tb σ H (fun v H => Has H v p)) : Ev (tCall (spIsOneOf K CK) [] E (tCons ta (tCons tb tNil))) σ H (.bl (oneOf d p)) := fun H1 e Q q =>
  h H1 e _ fun v H2 e2 r => hb H2 (e.trans e2) _ fun v2 H3 e3 r3 => ⟨d, p, v, v2, rfl, (r.ex hid_sub).ex e3, r3.ex hid_sub, fun H4 e4 => q H4 ((e2.trans e3).trans e4)⟩
theorem has_lst {te : TE} {xs : List Str} (h : EvD K CK te σ H (.lst (xs.map D.str))) : EvP te σ H (fun v H => Has H v (fun z => decide (z ∈ xs))) := fun H1 e Q q =>
  h H1 e Q fun v H2 e2 r => q v H2 e2 (by
    obtain ⟨a, vs, rfl, h1, _, h2⟩ := r
    rw [repL_strs h2] at h1
    exact .lst h1)
theorem scIsRow : FnScope ["thing", "kind", "above", "marks", "lasts"] ["thing"] (defScope sIsRow) := ⟨rfl, rfl, rfl, by decide +kernel, rfl, by decide +kernel, by decide +kernel⟩
abbrev spIsRow (K : PySem.W.Frag) (CK : Addr) : Sp := spD K CK 1 (fun _ => .bl true) (fun ds => ∃ d r, ds = [d] ∧ RowD r d ∧ r.Ok)
theorem ok_is_row (d : Def K mg "is_row" sIsRow ["thing"]) (dU : Def K mg "_are_unlike_names" sUnlike ["things"]) (dN : Def K mg "is_name" sIsName ["thing"]) (dL : Def K mg "is_list" sIsList ["thing"]) (dLO : Def K mg "is_list_of" sIsListOf ["thing", "many"])
    (dOO : Def K mg "is_one_of" sIsOneOf ["thing", "names"]) (T : KCls K CK) (N : Nm mg) (C : Cn mg) : FnOk P w K mg base CX0 3 d.f d.fd ["thing"] (spIsRow K CK) := by
  have GU : FnOk P w K mg base CX0 2 dU.f dU.fd ["things"] (spUnlike K CK) := ok_unlike dU dN T N C
  have GN : FnOk P w K mg base CX0 2 dN.f dN.fd ["thing"] (spIsName K CK) := (ok_is_name dN T N C).mono (by decide)
  have GL : FnOk P w K mg base CX0 2 dL.f dL.fd ["thing"] (spIsList K CK) := (ok_is_list dL T N).mono (by decide)
  have GO : FnOk P w K mg base CX0 2 dLO.f dLO.fd ["thing", "many"] (spIsListOf K CK) := ok_is_list_of dLO dL T N
  have G1 : FnOk P w K mg base CX0 2 dOO.f dOO.fd ["thing", "names"] (spIsOneOf K CK) := (ok_is_one_of dOO T N).mono (by decide)
  refine d.F.ok scIsRow (fun vs H Q E h => spD_len h) (fun cdv A outer s H vs Q E hr h => ?_)
  obtain ⟨x, v, H0, rfl, e0, r, ⟨x', row, hx, ⟨hL, m, hi, hmL, hm⟩, ok⟩, q⟩ := spD1 h
  cases hx
  refine ⟨_, pss_cons (ps_if (pt_not (pt_val (pe_call GO hr (by rfl) dLO.m dLO.F.kp dLO.b .nil pass0 (pa_cons (pv 0) (pa_cons pe_int pa_nil))))) (pss_one (ps_ret pe_bl)) pss_nil)
    (pss_cons (ps_asg (pv 0) (pg_unp rfl (pgs_cons (pg_name (i := 1) scIsRow.nd rfl (.inl rfl)) (pgs_cons (pg_name (i := 2) scIsRow.nd rfl (.inl rfl)) (pgs_cons (pg_name (i := 3) scIsRow.nd rfl (.inl rfl)) (pgs_cons (pg_name (i := 4) scIsRow.nd rfl (.inl rfl)) pgs_nil))))))
    (pss_cons (ps_if (PW.pt (pw_or (pt_not (pt_val (pe_call GN hr (by rfl) dN.m dN.F.kp dN.b .nil pass0 (pa_cons (pv 1) pa_nil))))
        (pw_or1 (pt_not (PW.pt (pw_or (pt_val (pe_call GN hr (by rfl) dN.m dN.F.kp dN.b .nil pass0 (pa_cons (pv 2) pa_nil)))
          (pw_or1 (pt_val (pe_call G1 hr (by rfl) dOO.m dOO.F.kp dOO.b .nil pass0 (pa_cons (pv 2) (pa_cons (pe_lst (pa_cons pe_str pa_nil)) pa_nil)))))))))))
        (pss_one (ps_ret pe_bl)) pss_nil)
    (pss_one (ps_ret (pe_and (pe_callB call_isi (by rfl) N.isinstance boot_isinstance (pa_cons (pv 4) (pa_cons (pe_bltn (v := .ty "bool") (by rfl) N.bool boot_bool rfl) pa_nil)))
      (pe_and (pe_call GL hr (by rfl) dL.m dL.F.kp dL.b .nil pass0 (pa_cons (pv 3) pa_nil))
      (pe_and (pe_cmpR op_gt (pe_callB call_len_seq (by rfl) N.len boot_len (pa_cons (pv 3) pa_nil)) pe_int (nomark _))
      (pe_one (pe_call GU hr (by rfl) dU.m dU.F.kp dU.b .nil pass0 (pa_cons (pv 3) pa_nil)))))))))), ?_⟩
  refine q_when (b := false) (Evl.EvT.mono e0 (et_is (et_not (et_B (EvD.b (ed_call (ds := [x, .int 4]) (ead_cons (ed_var rfl r) (ead_cons ed_int ead_nil)) rfl ⟨_, _, rfl⟩)))) ?_)) (fun z => by cases z) fun _ H1 e1 => ?_
  · show (!(x.isL && decide ((x.items.length : Int) = 4))) = false
    rw [hL, hi]
    rfl
  have e01 : Ex H0 H1 := e0.trans e1
  refine q_asgD (ed_var rfl r) e01 fun v2 H2 e2 r2 => ?_
  obtain ⟨v1, v2', v3, v4, r1, r2', r3, r4, hg⟩ := eg_unp4 (σ := start ["thing", "kind", "above", "marks", "lasts"] [v]) (i := 1) (j := 2) (k := 3) (l := 4) r2 hL hi
  refine ⟨_, hg, fun H3 e3 => ?_⟩
  have eB : Ex (hid H0 H1 H2) H3 := fun a o z => e3 _ _ (hid_sub _ _ z)
  have okA : (isName (.str row.above) || oneOf (.str row.above) (fun z => decide (z ∈ [Str.empty]))) = true := by
    rcases ok.above with z | z
    · show (isNameS row.above || decide (row.above ∈ [Str.empty])) = true
      rw [z]
      rfl
    · show (isNameS row.above || _) = true
      rw [z]
      rfl
  refine q_when (b := false) (Evl.EvT.mono eB (et_is (et_or (a := false) (et_is (et_not (et_B (EvD.b (ed_call (ds := [.str row.kind]) (ead_cons (ed_var rfl r1) ead_nil) rfl trivial)))) ?_) (fun _ => et_not (et_or (et_B (EvD.b (ed_call (ds := [.str row.above]) (ead_cons (ed_var rfl r2') ead_nil) rfl trivial)))
      (fun _ => et_B (b := oneOf (.str row.above) (fun z => decide (z ∈ [Str.empty]))) ?_)))) ?_)) (fun z => by cases z) fun _ H4 e4 => ?_
  · show (!isNameS row.kind) = false
    rw [ok.kind]; rfl
  · exact ev_oneOf (ed_var rfl r2') (has_lst (K := K) (CK := CK) (xs := [Str.empty]) (ed_lst (ead_cons (ed_str (by decide)) ead_nil)))
  · show (false || !((isName (.str row.above)) || oneOf (.str row.above) (fun z => decide (z ∈ [Str.empty])))) = false
    rw [okA]
    rfl
  have e14 : Ex H1 H4 := e2.trans (e3.trans e4)
  have eB4 : Ex (hid H0 H1 H2) H4 := eB.trans e4
  have hall : m.items.all isName = true := by
    rw [hm, List.all_map, List.all_eq_true]
    exact fun z hz => ok.names z hz
  have hstr : m.items.map D.strOf = row.marks := by
    rw [hm, List.map_map]
    exact List.map_id _
  have hlen : m.items.length = row.marks.length := by rw [hm, List.length_map]
  refine s_ret (v := .bl true) (Ev.mono eB4 (ev_is (ev_andV (ev_isB T (ev_var rfl) r4) (fun _ => ev_andV (EvD.b (ed_call (ds := [m]) (ead_cons (ed_var rfl r3) ead_nil) rfl trivial)) (fun _ => ev_andV (ev_op (ev_lenD (ed_var rfl r3) hmL) ev_c rv_I0)
    (fun _ => EvD.b (ed_call (ds := [m]) (ead_cons (ed_var rfl r3) ead_nil) rfl ⟨m, rfl, hmL, by rw [hlen]; have := ok.few; omega, fun _ => by rw [hstr]; exact ok.nd⟩))))) ?_)) fun H5 e5 => q _ H5 (e1.trans (e14.trans e5)) rfl
  show V.bl (true && (m.isL && (decide ((0 : Int) < ((m.items.length : Nat) : Int)) && (m.items.all isName && decide ((m.items.map D.strOf).Nodup))))) = V.bl true
  have hpos : 0 < m.items.length := by
    rw [hlen]
    exact List.length_pos_iff.mpr ok.some
  rw [hmL, hall, hstr, decide_eq_true ok.nd, decide_eq_true (by omega : (0 : Int) < ((m.items.length : Nat) : Int))]
  rfl
end
end Any
set_option Elab.async false
set_option linter.all false
set_option maxRecDepth 100000
namespace Any
open PySem PySem.Spec PyProof.Rows L2 Evl
open AutoSeq1 (wpAny_loadPart')
/-! enumerate(a tuple) -/
abbrev titer (l : Addr) : Obj := { cls := .type "tuple_iterator", data := .fields #[.ref l, .int 0 0] }
abbrev enob (it : Addr) : Obj := { cls := .type "enumerate", data := .fields #[.none, .bool false, .ref it, rawInt 0, .none, .none] }
theorem enum_makes (l : Addr) (items : Array Value) (n : Nat) (dct : Option Addr) (sl : Array (Option Value)) :
    Meets (Builtin.«enumerate.__new__» ⟨[.type "enumerate", .ref l], []⟩) (fun _ R s => s.heap.get? l = some { cls := .type "tuple", dict := dct, data := .seq items n, slots := sl } ∧
      R (.ok (.ret (.ref (s.heap.push (titer l)).objs.size))) { s with heap := (s.heap.push (titer l)).push (enob s.heap.objs.size) }) :=
  .of_wp fun prog w A R s h => by
    obtain ⟨hp, g, d, tk, os⟩ := s
    obtain ⟨hl, h⟩ := h
    have hsub := sub_enumerate
    have isT : Heap.IsTuple (Shared.heap ⟨hp, g, d, tk, os⟩) l items := ⟨_, hl, rfl, n, rfl⟩
    wp_walk using wpAny_loadPart' hl
    refine wpAny_stack_any fun st => wpAny_pure ?_
    split
    · rename_i c _ _ _ _ _
      cases (c == Value.type "enumerate")
      all_goals
        wp_walk using wpAny_loadPart' hl, wpAny_pyIter_tuple isT
        exact ⟨_, rfl, h⟩
    · wp_walk using wpAny_loadPart' hl, wpAny_pyIter_tuple isT
      exact ⟨_, rfl, h⟩
section
variable {prog : Program} {w : World} {A : Around} {E : Value → Shared → Prop} {s : Shared}
theorem enum_of_tuple {l : Addr} {items : Array Value} {Q : Value → Shared → Prop} (hL : s.heap.IsTuple l items)
    (k : ∀ h', IsEnum h' (s.heap.objs.size + 1) s.heap.objs.size 0 .none → h'.IsTupleIter s.heap.objs.size l 0 → (∀ b o, s.heap.get? b = some o → h'.get? b = some o) → Q (.ref (s.heap.objs.size + 1)) { s with heap := h' }) :
    wpAny (model prog w) A (call (.type "enumerate") [.ref l]) Q E s := by
  obtain ⟨⟨c, dct, dt, sl⟩, hl, hc, n, hd⟩ := hL
  obtain rfl : c = .type "tuple" := hc
  obtain rfl : dt = .seq items n := hd
  refine callType_new F.called_enumerate (by decide) (F.typeCall_enumerate_1 _) (F.newCall_enumerate_1 _) (fun obj => F.args_object_init_2 obj _) F.entry_enumerate_new (enum_makes l items n dct sl) ⟨hl, ?_⟩
  have hz : (s.heap.push (titer l)).objs.size = s.heap.objs.size + 1 := Heap.size_push ..
  have he : ((s.heap.push (titer l)).push (enob s.heap.objs.size)).get? (s.heap.objs.size + 1) = some (enob s.heap.objs.size) := by
    have := Heap.get?_push_size (s.heap.push (titer l)) (o := enob s.heap.objs.size) rfl
    rw [hz] at this
    exact this
  show _ ∧ _
  rw [hz]
  exact ⟨⟨_, he, rfl⟩, k _ he ⟨_, Heap.get?_push_of_some _ (Heap.get?_push_size _ rfl), rfl, rfl⟩ fun b o x => Heap.get?_push_of_some _ (Heap.get?_push_of_some _ x)⟩
end
def Itet (K : PySem.W.Frag) (a : Addr) : It :=
  ⟨fun i H => ∃ (xs : List V) (x : V), SqT K H a xs ∧ xs[i]? = some x, fun i H v H' => ∃ T x, v = .ref T ∧ H T = none ∧ H' = upd H T (.tup [.int (i : Nat), x]) ∧ ∀ xs, SqT K H a xs → xs[i]? = some x, fun i H => ∃ xs : List V, SqT K H a xs ∧ xs.length = i⟩
theorem turn_enumT {P : Program} {w : World} {K : PySem.W.Frag} {elts : List Expr} {kk : Nat} {tpos : Pos} (a e it : Addr) (hne : e ≠ it) :
    Turn P w K (.Tuple elts kk tpos) (Itet K a) [e, it] e (fun i h => (∃ old, IsEnum h e it ((i : Nat) : Int) old) ∧ h.IsTupleIter it a i) where
  mem := by simp
  obj := fun i h ⟨⟨old, he⟩, ⟨o, ho, hc, hd⟩⟩ b hb => by
    rcases (by simpa using hb : b = e ∨ b = it) with z | z
    · exact z ▸ ⟨_, he, fun v q => nomatch q⟩
    · exact z ▸ ⟨o, ho, fun v q => by rw [hd] at q; cases q⟩
  keep := fun i h h' ⟨⟨old, he⟩, hi⟩ k => ⟨⟨old, k e (by simp) _ he⟩, hi.at fun o q => k it (by simp) o q⟩
  item := by
    intro X hP hw hK hc i pins s σ H E I hf st hg
    subst hP hw hK
    obtain ⟨⟨old, he⟩, hit⟩ := st
    obtain ⟨xs, x, hq, hx⟩ := hg
    obtain ⟨its, rv, p, hz⟩ := I.tuple hq
    obtain ⟨u, hu, ru⟩ := rv.get hx
    have hd := I.ok.hd hc
    have lt_e : e < s.heap.objs.size := Heap.lt_size he
    have lt_i : it < s.heap.objs.size := by obtain ⟨_, q, _⟩ := hit; exact Heap.lt_size q
    by_cases hai : a = it
    · obtain ⟨o1, q1, c1, _⟩ := p
      obtain ⟨o2, q2, c2, _⟩ := hit
      rw [hai, q2] at q1
      cases q1
      rw [c2] at c1
      simp at c1
    by_cases hae : e = a
    · obtain ⟨o1, q1, c1, _⟩ := p
      have he' : s.heap.get? e = some _ := he
      rw [← hae, he'] at q1
      cases q1
      simp at c1
    have iu : i < its.toArray.size := by
      have := (List.getElem?_eq_some_iff.mp hu).1
      simpa using this
    refine wpAny_pyNext_enum_itemD (Draws.tuple (by simp [hd]) it a hai its.toArray) he ⟨hit, p⟩ iu hne (by
      intro z
      rcases List.mem_cons.mp z with z | z
      · exact hne z
      · rcases List.mem_cons.mp z with z | z
        · exact hae z
        · cases z) fun y h' tk py ho st' hT hsz hk => ?_
    have ey : y = u := by
      have g : its.toArray[i]? = some y := py
      have g2 : its.toArray[i]? = some u := by simpa using hu
      rw [g] at g2
      exact Option.some.inj g2
    subst ey
    refine ⟨_, rfl, wpAny_letOwnedTupleGo_enum (s := { s with heap := h', toks := tk + 1 }) ho fun h2 he' sb => ?_⟩
    have hT2 : h2.get? s.heap.objs.size = some { cls := .type "tuple", data := .seq #[.int i tk, y] } := (sb.2 _ (Nat.ne_of_gt lt_e)).trans hT
    have new : ObjOk X.prog X.w (upd H s.heap.objs.size (.tup [.int (i : Nat), x])) h2 s.heap.objs.size (.tup [.int (i : Nat), x]) :=
      ⟨by show 2 ≤ sizeLine; decide, [.int i tk, y], .cons ⟨_, rfl⟩ (.cons ru .nil), ⟨_, hT2, rfl, _, rfl⟩⟩
    have I1 : Inv X pins σ (upd H s.heap.objs.size (.tup [.int (i : Nat), x])) { s with heap := h2, toks := tk + 1 } :=
      I.turnedNew (ch := [e, it]) (fun b ob hb q => (sb.2 b (fun z => hb (by simp [z]))).trans (hk b ob (fun z => hb (by simp [z])) (fun z => hb (by simp [z])) q)) hf (Nat.le_refl _) new
    refine ⟨.ref s.heap.objs.size, _, I1, rfl, ⟨_, x, rfl, I.hok.fresh (Nat.le_refl _), rfl, fun ys hy => by rw [I.tuple_inj hy hq]; exact hx⟩, ⟨⟨y, ?_⟩, st'.1.at fun o q => (sb.2 it (Ne.symm hne)).trans q⟩, fun b hb => ?_⟩
    · rw [show ((i + 1 : Nat) : Int) = (i : Int) + 1 by omega]; exact he'
    · have lt : b < s.heap.objs.size := by
        rcases (by simpa using hb : b = e ∨ b = it) with z | z
        · exact z ▸ lt_e
        · exact z ▸ lt_i
      rw [upd_ne (Nat.ne_of_lt lt)]
      exact (hf b hb).1
  done := by
    intro X hP hw hK hc i pins s σ H E I hf st hg
    subst hP hw hK
    obtain ⟨⟨old, he⟩, hit⟩ := st
    obtain ⟨xs, hq, hx⟩ := hg
    obtain ⟨its, rv, p, hz⟩ := I.tuple hq
    have hl := rv.length
    by_cases hai : a = it
    · obtain ⟨o1, q1, c1, _⟩ := p
      obtain ⟨o2, q2, c2, _⟩ := hit
      rw [hai, q2] at q1
      cases q1
      rw [c2] at c1
      simp at c1
    obtain ⟨f0, f1, f2, f3, f4, f5⟩ := hf it (by simp)
    have en : i = its.toArray.size := by
      rw [List.size_toArray]
      omega
    refine wpAny_pyNext_enum_endD (Draws.tuple (by simp [I.ok.hd hc]) it a hai its.toArray) he ⟨en ▸ hit, p⟩ fun h' eb => ⟨rfl, I.turned (t' := s.toks) (fun b o hb q => eb b o hb q) f0 f1 f3 f4 f5⟩
  self := fun A i s Q E st h => let ⟨⟨_, he⟩, _⟩ := st; wpAny_pyIter_enum he h
def iEnumT (K : PySem.W.Frag) (ta : TA) : TI := fun σ H R => ta σ H fun vs H1 => ∃ a xs, vs = [.ref a] ∧ SqT K H1 a xs ∧ R (Itet K a) H1
theorem pi_enumT {X : Cx} {e : Expr} {ta : TA} {p pos tpos : Pos} {elts : List Expr} {kk : Nat} (hg : Gl X "enumerate") (hm : X.mg "enumerate" = none) (ha : PA X [e] ta) (hs : starEach [e] X.env = [(false, eval e X.env)] := by rfl) :
    PI X (.Tuple elts kk tpos) (.Call (.Name "enumerate" p) [e] [] pos) (iEnumT X.K ta) := by
  refine ⟨fun pins s σ H R I h => Call_ (ld_blt I hg hm boot_enumerate (callWith_type1 (thn (ha.run pos pins s σ H _ I h) fun us s1 ⟨vs, H1, I1, r1, a, xs, ex, hq, q⟩ => ?_) hs rfl))⟩
  subst ex
  cases r1 with
  | cons r rr =>
    cases rr
    cases r
    obtain ⟨its, rv, p', hz⟩ := I1.tuple hq
    refine enum_of_tuple p' fun h' he hit hk => wpAny_pyIter_enum he ?_
    have I2 : Inv X pins σ H1 { s1 with heap := h' } := I1.kept (t' := s1.toks) hk
    refine ⟨s1.heap.objs.size + 1, [s1.heap.objs.size + 1, s1.heap.objs.size], _, _, H1, rfl, I2, turn_enumT a (s1.heap.objs.size + 1) s1.heap.objs.size (Nat.succ_ne_self _), ⟨⟨.none, he⟩, hit⟩, fun b hb => ?_, q⟩
    have le : s1.heap.objs.size ≤ b := by
      rcases (by simpa using hb : b = s1.heap.objs.size + 1 ∨ b = s1.heap.objs.size) with z | z
      · exact z ▸ Nat.le_add_right _ _
      · exact z ▸ Nat.le_refl _
    exact I1.fpOk le (I1.hok.fresh le)
theorem walk_enumT {K : PySem.W.Frag} {a : Addr} {xs : List V} : Walk (Itet K a) xs.length (fun H => SqT K H a xs) (YPair (fun i => some (.int (i : Nat))) (fun i => xs[i]?)) where
  goes := fun i H hi q => ⟨xs, xs[i], q, by simp [hi]⟩
  stops := fun H q => ⟨xs, q, rfl⟩
  yields := fun i H x H' hi q ⟨T, y, e1, e2, e3, e4⟩ => ⟨T, .int (i : Nat), y, e1, e2, e3, rfl, e4 xs q⟩
/-- enumerate of a list or a tuple -/
def iEnumS (K : PySem.W.Frag) (ta : TA) : TI := fun σ H R => iEnum K ta σ H R ∨ iEnumT K ta σ H R
theorem pi_enumS {X : Cx} {e : Expr} {ta : TA} {p pos tpos : Pos} {elts : List Expr} {kk : Nat} (hg : Gl X "enumerate") (hm : X.mg "enumerate" = none) (ha : PA X [e] ta) (hs : starEach [e] X.env = [(false, eval e X.env)] := by rfl) :
    PI X (.Tuple elts kk tpos) (.Call (.Name "enumerate" p) [e] [] pos) (iEnumS X.K ta) := pi_or (pi_enum hg hm ha hs) (pi_enumT hg hm ha hs)
def enumD (ds : List D) : List D := ds.mapIdx fun i d => .tup [.int (i : Nat), d]
theorem enumD_get {ds : List D} {i : Nat} {p : D} (h : (enumD ds)[i]? = some p) : ∃ d, ds[i]? = some d ∧ p = .tup [.int (i : Nat), d] := by
  unfold enumD at h
  rw [List.getElem?_mapIdx] at h
  cases e : ds[i]? with
  | none => rw [e] at h; cases h
  | some d => rw [e] at h; cases h; exact ⟨d, rfl, rfl⟩
theorem enumD_len (ds : List D) : (enumD ds).length = ds.length := by unfold enumD; rw [List.length_mapIdx]
section
variable {K : PySem.W.Frag} {CK : Addr} {H : Hp} {σ : L2.St}
theorem ei_enum {te : TE} {d : D} (h : EvD K CK te σ H d) (hd : d.isL = true) : EvID K CK (iEnumS K (tCons te tNil)) σ H (enumD d.items) := fun H1 e R q => by
  have pair : ∀ {xs : List D} {vs : List V} {B : Hp}, RepL K CK B xs vs → ∀ (i : Nat) (p : D) Ha x Hb, (enumD xs)[i]? = some p → YPair (fun i => some (.int (i : Nat))) (fun i => vs[i]?) i Ha x Hb → ItemOk K CK B p Ha x Hb := by
    intro xs vs B hr i p Ha x Hb hp ⟨T, y1, y2, e1, e2, e3, e4, e5⟩
    obtain ⟨d, hd, rfl⟩ := enumD_get hp
    obtain ⟨y, hy, ry⟩ := hr.get hd
    cases e4
    have e5' : vs[i]? = some y2 := e5
    rw [hy] at e5'
    have ry2 : Rep K CK B d y2 := by rw [← Option.some.inj e5']; exact ry
    exact .inr ⟨T, _, [.int (i : Nat), d], e1, e2, e3, rfl, (by show 2 ≤ 30000; decide), _, _, rfl, rfl, y2, [], rfl, ry2, rfl⟩
  cases d with
  | lst xs =>
    refine .inl (h H1 e _ fun v H2 e2 r => ?_)
    obtain ⟨a, vs, rfl, ha, _, hr⟩ := r
    have hs : SqL K H2 a vs := sq_of (hid_sub _ _ ha)
    exact ⟨a, vs, rfl, hs, q (Ite K a) H2 (fun H => SqL K H a vs) _ e2 (by rw [enumD_len, show (D.lst xs).items = xs from rfl, ← hr.len]; exact walk_enum) (fun H3 e3 => sq_of (e3 _ _ ha)) fun i p Ha x Hb hp _ y => pair hr i p Ha x Hb hp y⟩
  | tup xs =>
    refine .inr (h H1 e _ fun v H2 e2 r => ?_)
    obtain ⟨a, vs, rfl, ha, _, hr⟩ := r
    have hs : SqT K H2 a vs := st_of (hid_sub _ _ ha)
    exact ⟨a, vs, rfl, hs, q (Itet K a) H2 (fun H => SqT K H a vs) _ e2 (by rw [enumD_len, show (D.tup xs).items = xs from rfl, ← hr.len]; exact walk_enumT) (fun H3 e3 => st_of (e3 _ _ ha)) fun i p Ha x Hb hp _ y => pair hr i p Ha x Hb hp y⟩
  | _ => cases hd
end
end Any
set_option Elab.async false
set_option linter.all false
set_option maxRecDepth 100000
namespace Any
open PySem PySem.Spec PyProof.Rows L2 Evl
abbrev sKIT : Stmt := topS 21
/-- pairs of texts as a dict's entries -/
def kvsOf (ab : List (Str × Str)) : List (Key × V) := ab.map fun p => (Sum.inr p.1, V.str p.2)
theorem valV_kvsOf (ab : List (Str × Str)) (k : Str) : valV (kvsOf ab) (Sum.inr k : Key) = (ab.find? fun p => decide (p.1 = k)).map fun p => V.str p.2 := by
  unfold valV kvsOf
  rw [List.find?_map]
  have e : ((fun (kv : Key × V) => decide (kv.1 = (Sum.inr k : Key))) ∘ fun (p : Str × Str) => ((Sum.inr p.1 : Key), V.str p.2)) = fun p => decide (p.1 = k) := by
    funext p
    show decide ((Sum.inr p.1 : Key) = Sum.inr k) = decide (p.1 = k)
    exact key_rr _ _
  rw [e, Option.map_map]
  rfl
theorem valV_in {ab : List (Str × Str)} {k : Str} {v : V} (h : valV (kvsOf ab) (Sum.inr k : Key) = some v) : ∃ a, (k, a) ∈ ab ∧ v = .str a := by
  rw [valV_kvsOf] at h
  cases e : ab.find? fun p => decide (p.1 = k) with
  | none => rw [e] at h; cases h
  | some p =>
    rw [e] at h
    cases h
    have h1 := List.find?_some e
    have h2 := List.mem_of_find?_eq_some e
    obtain rfl : p.1 = k := of_decide_eq_true h1
    exact ⟨p.2, h2, rfl⟩
theorem valV_no {ab : List (Str × Str)} {k : Str} (h : valV (kvsOf ab) (Sum.inr k : Key) = none) : k ∉ ab.map (·.1) := by
  rw [valV_kvsOf] at h
  have e : (ab.find? fun p => decide (p.1 = k)) = none := by
    cases e : ab.find? fun p => decide (p.1 = k) with
    | none => rfl
    | some p => rw [e] at h; cases h
  intro hm
  obtain ⟨p, hp, rfl⟩ := List.mem_map.mp hm
  have := List.find?_eq_none.mp e p hp
  simp at this
theorem valV_mem {ab : List (Str × Str)} {k : Str} (h : k ∈ ab.map (·.1)) : ∃ a, (k, a) ∈ ab ∧ valV (kvsOf ab) (Sum.inr k : Key) = some (.str a) := by
  cases e : valV (kvsOf ab) (Sum.inr k : Key) with
  | none => exact absurd h (valV_no e)
  | some v =>
    obtain ⟨a, h1, rfl⟩ := valV_in e
    exact ⟨a, h1, rfl⟩
/-- no kind lies in itself: a level falls from each kind to its above -/
structure Acyc (ab : List (Str × Str)) (lv : Str → Nat) : Prop where
  nd : (ab.map (·.1)).Nodup
  few : ab.length ≤ 1000
  le : ∀ k, lv k ≤ 1000
  out : ∀ k, k ∉ ab.map (·.1) → lv k = 0
  falls : ∀ k a, (k, a) ∈ ab → lv a < lv k
section
variable {P : Program} {w : World} {K : PySem.W.Frag} {mg : Str → Option Value} {base : Heap} {CK : Addr}
theorem scKIT : FnScope ["aboves", "rounds", "done", "start", "way", "kind", "member"] ["aboves"] (defScope sKIT) := ⟨rfl, rfl, rfl, by decide +kernel, rfl, by decide +kernel, by decide +kernel⟩
def spKIT : Sp := fun vs H Q _ => ∃ a ab lv, vs = [V.ref a] ∧ H a = some (.dK (kvsOf ab)) ∧ Acyc ab lv ∧ ∀ p H', Ex H H' → H p = none → H' p = some (.dK []) → Q (.ref p) H'
/-- what done tells in the i-th turn, the walk being at kind k (none: the walk is over) -/
def DoneOk (ab : List (Str × Str)) (lv : Str → Nat) (i : Nat) (st : Str) (k : Option Str) (ds : List (Key × V)) : Prop :=
  ∀ x v, valV ds (Sum.inr x : Key) = some v → x ∈ ab.map (·.1) ∧ ((∃ j s, j < i ∧ (ab.map (·.1))[j]? = some s ∧ v = .str s) ∨ ∃ k0, k = some k0 ∧ v = .str st ∧ lv k0 < lv x)
theorem ok_kit (d : Def K mg "_kinds_in_themselves" sKIT ["aboves"]) : FnOk P w K mg base CX0 1 d.f d.fd ["aboves"] spKIT := by
  refine d.F.ok scKIT (fun vs H Q E h => ?_) (fun cdv A outer s H vs Q E hr h => ?_)
  · obtain ⟨_, _, _, rfl, _⟩ := h
    rfl
  obtain ⟨a, ab, lv, rfl, ha, ok, q⟩ := h
  have hu := hu_of hr
  refine ⟨_, pss_cons (ps_set (i := 1) scKIT.nd rfl (.inl rfl) pe_dnewK) (pss_cons (ps_set (i := 2) scKIT.nd rfl (.inl rfl) pe_dnewK)
    (pss_cons (ps_lock (ps_for PassesOwn.never rfl (pi_keys (pv 0)) (pg_name (i := 3) scKIT.nd rfl (.inl rfl))
      (pss_cons (ps_set (i := 4) scKIT.nd rfl (.inl rfl) (pe_lst pa_nil))
      (pss_cons (ps_set (i := 5) scKIT.nd rfl (.inl rfl) (pv 3))
      (pss_cons (ps_while PassesOwn.never (PW.pt (pw_and (pt_cmpR (op_in_dk hu) (pv 5) (pv 0) (by rfl)) (pw_and1 (pt_cmpR (op_notIn_dk hu) (pv 5) (pv 2) (by rfl)))))
        (pss_cons (ps_dput hu (pv 2) (pv 5) (pv 3) rfl)
        (pss_cons (ps_expr (pe_bm PySem.F.plainAttrs_list PySem.F.slot_list_append PySem.F.type_list_append mt_append (pv 4) (pa_cons (pv 5) pa_nil)))
        (pss_one (ps_set (i := 5) scKIT.nd rfl (.inl rfl) (pe_dget hu (pv 0) (pv 5) (fun _ _ => rfl)))))))
      (pss_one (ps_if (pt_cmpR op_eq (pe_dget1 hu (pv 2) (pv 5) ⟨rfl, rfl, rfl, rfl⟩) (pv 3) (nomark _)) (pss_one ps_never) pss_nil)))))))
    (pss_one (ps_ret (pv 1))))), ?_⟩
  -- rounds = {}; done = {}
  intro r nr
  have nra : r ≠ a := (ne_of_none ha nr).symm
  intro dn ndn
  have ndr : dn ≠ r := fun z => by rw [z, upd_same] at ndn; cases ndn
  have nd0 : H dn = none := by rw [upd_ne ndr] at ndn; exact ndn
  have nda : dn ≠ a := (ne_of_none ha nd0).symm
  have hA : (upd (upd H r (.dK [])) dn (.dK [])) a = some (.dK (kvsOf ab)) := by rw [upd_ne nda.symm, upd_ne nra.symm]; exact ha
  -- the loop, aboves locked
  refine ⟨a, _, hA, trivial, fun od => ?_⟩
  have hlen : (kvsOf ab).length = ab.length := by unfold kvsOf; rw [List.length_map]
  let C : Hp → Prop := fun H' => H' a = some (.frz od (.dK (kvsOf ab))) ∧ H' r = some (.dK []) ∧ ∀ b o, H b = some o → b ≠ a → H' b = some o
  refine ⟨.ref a, rfl, a, od, rfl, .inl ⟨kvsOf ab, upd_same, for_it walk_keys (fun i σ' H' => ∃ y3 y4 y5 y6 ds, σ' = [some (.ref a), some (.ref r), some (.ref dn), y3, y4, y5, y6] ∧ C H' ∧ H' dn = some (.dK ds) ∧ ds.length ≤ i * 1002 ∧ DoneOk ab lv i Str.empty none ds) ?_ ?_ ?_ ?_⟩⟩
  · refine ⟨none, none, none, none, [], rfl, ⟨upd_same, ?_, fun b o e hb => ?_⟩, ?_, Nat.zero_le _, fun x v e => by cases e⟩
    · rw [upd_ne nra, upd_ne ndr.symm, upd_same]
    · rw [upd_ne hb, upd_ne (ne_of_none e nd0), upd_ne (ne_of_none e nr)]
      exact e
    · rw [upd_ne nda, upd_same]
  · rintro i σ' H' _ ⟨_, _, _, _, _, _, c, _⟩
    exact c.1
  · rintro i x σ' H' Hb hi ⟨y3, y4, y5, y6, ds, rfl, c, hds, hdl, hok⟩ ⟨rfl, k, v0, hk, rfl⟩
    rw [hlen] at hi
    obtain ⟨st, hst, rfl⟩ : ∃ st, (ab.map (·.1))[i]? = some st ∧ k = Sum.inr st := by
      unfold kvsOf at hk
      rw [List.getElem?_map, List.getElem?_eq_getElem hi] at hk
      refine ⟨ab[i].1, by rw [List.getElem?_map, List.getElem?_eq_getElem hi]; rfl, ?_⟩
      have := (Prod.mk.inj (Option.some.inj hk)).1
      exact this.symm
    -- way = []; kind = start
    refine ⟨Nat.zero_le _, fun w nw => ?_⟩
    have nwa : w ≠ a := (ne_of_none c.1 nw).symm
    have nwr : w ≠ r := (ne_of_none c.2.1 nw).symm
    have nwd : w ≠ dn := (ne_of_none hds nw).symm
    refine ⟨_, rfl, ?_⟩
    -- while
    refine ⟨fun m σ2 H2 => ∃ kd y6 ds ws, σ2 = [some (.ref a), some (.ref r), some (.ref dn), some (.str st), some (.ref w), some (.str kd), y6] ∧ m = lv kd ∧ C H2 ∧ H2 dn = some (.dK ds) ∧ H2 w = some (.lst ws) ∧
        ds.length + lv kd ≤ i * 1002 + 1001 ∧ ws.length + lv kd ≤ 1001 ∧ DoneOk ab lv i st (some kd) ds,
      ⟨lv st, st, y6, ds, [], rfl, rfl, ⟨?_, ?_, fun b o e hb => ?_⟩, ?_, upd_same, ?_, ?_, ?_⟩, ?_⟩
    · rw [upd_ne nwa.symm]; exact c.1
    · rw [upd_ne nwr.symm]; exact c.2.1
    · rw [upd_ne (ne_of_none (c.2.2 b o e hb) nw)]
      exact c.2.2 b o e hb
    · rw [upd_ne nwd.symm]; exact hds
    · have := ok.le st; omega
    · have := ok.le st; show 0 + lv st ≤ 1001; omega
    · intro x v e
      obtain ⟨h1, h2⟩ := hok x v e
      refine ⟨h1, .inl ?_⟩
      rcases h2 with h2 | ⟨k0, z, _⟩
      · exact h2
      · cases z
    · rintro m σ2 H2 ⟨kd, y6, ds, ws, rfl, rfl, c2, hds2, hws, hl1, hl2, hok2⟩
      -- what follows the while: done.get(kind) is not start
      have after : ∀ {D' : Ends}, DoneOk ab lv (i + 1) Str.empty none ds →
          (valV ds (Sum.inr kd : Key) = none ∨ ∃ s0, valV ds (Sum.inr kd : Key) = some (.str s0) ∧ s0 ≠ st) →
          (∀ y3 y4 y5 y6 ds, C H2 → H2 dn = some (.dK ds) → ds.length ≤ (i + 1) * 1002 → DoneOk ab lv (i + 1) Str.empty none ds → D'.nx [some (.ref a), some (.ref r), some (.ref dn), y3, y4, y5, y6] H2) →
          tIfS (tTest (tOp rEq (tDGet1 (tVar 2) (tVar 5)) (tVar 3))) tNever tNext D' [some (.ref a), some (.ref r), some (.ref dn), some (.str st), some (.ref w), some (.str kd), y6] H2 := by
        intro D' hd ho kk
        refine ⟨_, rfl, dn, rfl, .inl ⟨ds, .inl hds2⟩, _, rfl, _, DGet.k (k := Sum.inr kd) hds2, _, rfl, ?_⟩
        have := ok.le kd
        rcases ho with ho | ⟨s0, ho, hne⟩
        · rw [ho]
          exact ⟨rfl, _, rfl, iteF (kk _ _ _ _ ds c2 hds2 (by omega) hd)⟩
        · rw [ho]
          refine ⟨rfl, _, rfl, ?_⟩
          have e1 : decide (((some (V.str s0)).getD .non) = V.str st) = false := decide_eq_false fun z => hne (V.str.inj z)
          rw [e1]
          exact iteF (kk _ _ _ _ ds c2 hds2 (by omega) hd)
      have over : DoneOk ab lv (i + 1) Str.empty none ds := fun x v e => by
        obtain ⟨h1, h2⟩ := hok2 x v e
        refine ⟨h1, .inl ?_⟩
        rcases h2 with ⟨j, s0, hj, h3, h4⟩ | ⟨_, _, h4, _⟩
        · exact ⟨j, s0, by omega, h3, h4⟩
        · exact ⟨i, st, by omega, hst, h4⟩
      -- kind in aboves
      refine ⟨_, rfl, _, rfl, a, _, rfl, .inl ⟨kvsOf ab, Sum.inr kd, .inr ⟨od, c2.1⟩, rfl, rfl⟩, _, rfl, ?_⟩
      cases ea : valV (kvsOf ab) (Sum.inr kd : Key) with
      | none =>
        refine iteF ?_
        have hno : valV ds (Sum.inr kd : Key) = none := by
          cases e : valV ds (Sum.inr kd : Key) with
          | none => rfl
          | some v => exact absurd (hok2 kd v e).1 (valV_no ea)
        exact iteF (after over (.inl hno) fun y3 y4 y5 y6 ds c h1 h2 h3 => ⟨y3, y4, y5, y6, ds, rfl, c, h1, h2, h3⟩)
      | some v1 =>
        obtain ⟨ab1, hab, rfl⟩ := valV_in ea
        refine iteT ?_
        refine ⟨_, rfl, _, rfl, dn, _, rfl, DGet.k (k := Sum.inr kd) hds2, _, rfl, ?_⟩
        cases ed : valV ds (Sum.inr kd : Key) with
        | some v2 =>
          refine iteF ?_
          obtain ⟨_, h2⟩ := hok2 kd v2 ed
          rcases h2 with ⟨j, s0, hj, h3, rfl⟩ | ⟨k0, z, _, h4⟩
          · refine after over (.inr ⟨s0, ed, ?_⟩) fun y3 y4 y5 y6 ds c h1 h2 h3 => ⟨y3, y4, y5, y6, ds, rfl, c, h1, h2, h3⟩
            rintro rfl
            obtain ⟨hj1, h3⟩ := List.getElem?_eq_some_iff.mp h3
            obtain ⟨hi1, h4⟩ := List.getElem?_eq_some_iff.mp hst
            have := (List.getElem_inj ok.nd).mp (h3.trans h4.symm)
            omega
          · cases z
            exact absurd h4 (Nat.lt_irrefl _)
        | none =>
          refine iteT ?_
          have falls := ok.falls kd ab1 hab
          have hkd : kd ∈ ab.map (·.1) := List.mem_map.mpr ⟨(kd, ab1), hab, rfl⟩
          refine ⟨fun σ3 H3 => ∃ m', m' < lv kd ∧ ∃ kd' y6 ds ws, σ3 = [some (.ref a), some (.ref r), some (.ref dn), some (.str st), some (.ref w), some (.str kd'), y6] ∧ m' = lv kd' ∧ C H3 ∧ H3 dn = some (.dK ds) ∧ H3 w = some (.lst ws) ∧
            ds.length + lv kd' ≤ i * 1002 + 1001 ∧ ws.length + lv kd' ≤ 1001 ∧ DoneOk ab lv i st (some kd') ds, fun σ3 H3 z => z, ?_⟩
          have := sizeLine_eq
          have hi2 : i * 1002 ≤ 1000 * 1002 := Nat.mul_le_mul_right _ (by have := ok.few; omega)
          -- done[kind] = start
          refine ⟨_, rfl, _, rfl, _, rfl, dn, _, rfl, DPut.k (k := Sum.inr kd) hds2 (by rw [this]; omega), ?_⟩
          have enew : putK ds (Sum.inr kd : Key) (.str st) = ds ++ [(Sum.inr kd, .str st)] := putK_new _ ed
          have wnd : w ≠ dn := nwd
          have hw3 : (upd H2 dn (.dK (putK ds (Sum.inr kd : Key) (.str st)))) w = some (.lst ws) := by rw [upd_ne wnd]; exact hws
          -- way.append(kind)
          refine ⟨_, rfl, .inl ⟨rfl, ws, sq_of hw3⟩, _, rfl, w, ws, _, rfl, rfl, hw3, sz_lt (by omega), ?_⟩
          have ha4 : ∀ o o', (upd (upd H2 dn o) w o') a = some (.frz od (.dK (kvsOf ab))) := fun o o' => by rw [upd_ne nwa.symm, upd_ne nda.symm]; exact c2.1
          -- kind = aboves[kind]
          refine ⟨_, rfl, _, rfl, a, _, rfl, .inl ⟨kvsOf ab, Sum.inr kd, .inr ⟨od, ha4 _ _⟩, rfl, ea.symm⟩, ?_⟩
          refine ⟨lv ab1, falls, ab1, y6, putK ds (Sum.inr kd : Key) (.str st), _, rfl, rfl, ⟨ha4 _ _, ?_, fun b o e hb => ?_⟩, ?_, upd_same, ?_, ?_, ?_⟩
          · rw [upd_ne nwr.symm, upd_ne ndr.symm]; exact c2.2.1
          · rw [upd_ne (ne_of_none (c.2.2 b o e hb) nw), upd_ne (ne_of_none e nd0)]
            exact c2.2.2 b o e hb
          · rw [upd_ne nwd.symm, upd_same]
          · rw [enew, List.length_append]
            show ds.length + 1 + lv ab1 ≤ _
            omega
          · rw [List.length_append]
            show ws.length + 1 + lv ab1 ≤ _
            omega
          · intro x v e
            rw [valV_put] at e
            split at e
            · rename_i hx
              obtain rfl : x = kd := Sum.inr.inj hx
              cases e
              exact ⟨hkd, .inr ⟨ab1, rfl, rfl, falls⟩⟩
            · obtain ⟨h1, h2⟩ := hok2 x v e
              refine ⟨h1, ?_⟩
              rcases h2 with h2 | ⟨k0, z, h3, h4⟩
              · exact .inl h2
              · cases z
                exact .inr ⟨ab1, rfl, h3, by omega⟩
  · rintro σ' H' ⟨y3, y4, y5, y6, ds, rfl, c, hds, _, _⟩
    refine ⟨c.1, _, rfl, q r _ (fun b o e => ?_) nr ?_⟩
    · by_cases hb : b = a
      · subst hb
        rw [upd_same, ← e, ha]
      · rw [upd_ne hb]
        exact c.2.2 b o e hb
    · rw [upd_ne nra]
      exact c.2.1
end
end Any
set_option Elab.async false
set_option linter.all false
set_option maxRecDepth 100000
namespace Any
open PySem PySem.Spec PyProof.Rows L2 Evl
abbrev sRowsFault : Stmt := topS 20
def abOf (rs : List Row) : List (Str × Str) := rs.map fun r => (r.kind, r.above)
/-- right rows -/
structure RowsOk (rs : List Row) : Prop where
  ok : ∀ r ∈ rs, r.Ok
  lv : ∃ lv, Acyc (abOf rs) lv
  above : ∀ r ∈ rs, r.above ≠ Str.empty → ∃ r' ∈ rs, r'.kind = r.above ∧ (r.lasts = true → r'.lasts = true)
def RowsD (rs : List Row) (ds : List D) : Prop := ds.length = rs.length ∧ ∀ (i : Nat) r d, rs[i]? = some r → ds[i]? = some d → RowD r d
theorem RowD.kind {r : Row} {d : D} (h : RowD r d) : d.items[0]? = some (.str r.kind) := by obtain ⟨_, m, h, _⟩ := h; rw [h]; rfl
theorem RowD.aboveI {r : Row} {d : D} (h : RowD r d) : d.items[1]? = some (.str r.above) := by obtain ⟨_, m, h, _⟩ := h; rw [h]; rfl
theorem RowD.lastsI {r : Row} {d : D} (h : RowD r d) : d.items[3]? = some (.bl r.lasts) := by obtain ⟨_, m, h, _⟩ := h; rw [h]; rfl
theorem valV_none_of {es : List (Key × V)} {k : Key} (h : k ∉ es.map (·.1)) : valV es k = none := by
  unfold valV
  rw [List.find?_eq_none.mpr]
  · rfl
  · intro p hp z
    exact h (List.mem_map.mpr ⟨p, hp, of_decide_eq_true z⟩)
theorem valV_at {es : List (Key × V)} {j : Nat} {k : Key} {u : V} (nd : (es.map (·.1)).Nodup) (h : es[j]? = some (k, u)) : valV es k = some u := by
  cases e : valV es k with
  | none =>
    exfalso
    have hm : (k, u) ∈ es := List.mem_of_getElem? h
    unfold valV at e
    cases f : es.find? fun kv => decide (kv.1 = k) with
    | none => have := List.find?_eq_none.mp f _ hm; simp at this
    | some p => rw [f] at e; cases e
  | some u2 =>
    unfold valV at e
    cases f : es.find? fun kv => decide (kv.1 = k) with
    | none => rw [f] at e; cases e
    | some p =>
      rw [f] at e
      cases e
      have h0 : decide (p.1 = k) = true := List.find?_some (p := fun (kv : Key × V) => decide (kv.1 = k)) f
      have h1 : p.1 = k := of_decide_eq_true h0
      obtain ⟨j2, hj2, e2⟩ := List.mem_iff_getElem.mp (List.mem_of_find?_eq_some f)
      obtain ⟨hj, e1⟩ := List.getElem?_eq_some_iff.mp h
      have l1 : j < (es.map (·.1)).length := by rw [List.length_map]; exact hj
      have l2 : j2 < (es.map (·.1)).length := by rw [List.length_map]; exact hj2
      have eq : (es.map (·.1))[j2] = (es.map (·.1))[j] := by rw [List.getElem_map, List.getElem_map, e2, e1]; exact h1
      obtain rfl := (List.getElem_inj nd).mp eq
      rw [e1] at e2
      rw [← e2]
theorem ed_dget {K : PySem.W.Frag} {CK : Addr} {H : Hp} {σ : L2.St} {i j : Nat} {fo : Addr} {k : Str} {es : List (Key × V)} {d : D} {u : V} (h1 : σ[i]? = some (some (V.ref fo))) (h2 : σ[j]? = some (some (V.str k))) (hd : Rd H fo (.dK es)) (hv : valV es (Sum.inr k : Key) = some u) (r : Rep K CK H d u) :
    EvD K CK (tDGet (tVar i) (tVar j)) σ H d := fun H1 e Q q => ⟨_, h1, _, h2, fo, u, rfl, .inl ⟨es, Sum.inr k, ex_rd e hd, rfl, hv.symm⟩, q u H1 (Ex.refl _) (r.ex (hid_ex e (Ex.refl _)))⟩
/-- what found holds behind i rows -/
def Fnd (K : PySem.W.Frag) (CK : Addr) (rs : List Row) (ds : List D) (i : Nat) (es : List (Key × V)) (H : Hp) : Prop :=
  es.map (·.1) = (rs.take i).map (fun r => (Sum.inr r.kind : Key)) ∧ ∀ (j : Nat) d u k, j < i → ds[j]? = some d → es[j]? = some (k, u) → Rep K CK H d u
theorem Fnd.ex {K : PySem.W.Frag} {CK : Addr} {rs : List Row} {ds : List D} {i : Nat} {es : List (Key × V)} {H H' : Hp} (e : Ex H H') (h : Fnd K CK rs ds i es H) : Fnd K CK rs ds i es H' := ⟨h.1, fun j d u k a b c => (h.2 j d u k a b c).ex e⟩
theorem keys_nd {rs : List Row} (h : ((abOf rs).map (·.1)).Nodup) : (rs.map fun r => (Sum.inr r.kind : Key)).Nodup := by
  have e : (abOf rs).map (·.1) = rs.map (·.kind) := by unfold abOf; rw [List.map_map]; rfl
  rw [e] at h
  rw [show (rs.map fun r => (Sum.inr r.kind : Key)) = (rs.map (·.kind)).map (fun k => (Sum.inr k : Key)) by rw [List.map_map]; rfl]
  exact List.Pairwise.map _ (fun a b hab z => hab (Sum.inr.inj z)) h
section
variable {P : Program} {w : World} {K : PySem.W.Frag} {mg : Str → Option Value} {base : Heap} {CK : Addr}
theorem scRowsFault : FnScope ["rows", "found", "index", "row", "kind", "rounds", "above", "_", "lasts"] ["rows"] (defScope sRowsFault) := ⟨rfl, rfl, rfl, by decide +kernel, rfl, by decide +kernel, by decide +kernel⟩
abbrev spRowsFault (K : PySem.W.Frag) (CK : Addr) : Sp := spD K CK 1 (fun _ => .non) (fun ds => ∃ d rs, ds = [d] ∧ d.isL = true ∧ RowsD rs d.items ∧ RowsOk rs)
theorem ok_rows_fault (d : Def K mg "_rows_fault" sRowsFault ["rows"]) (dR : Def K mg "is_row" sIsRow ["thing"]) (dU : Def K mg "_are_unlike_names" sUnlike ["things"]) (dN : Def K mg "is_name" sIsName ["thing"]) (dL : Def K mg "is_list" sIsList ["thing"]) (dLO : Def K mg "is_list_of" sIsListOf ["thing", "many"])
    (dOO : Def K mg "is_one_of" sIsOneOf ["thing", "names"]) (dK : Def K mg "_kinds_in_themselves" sKIT ["aboves"]) (T : KCls K CK) (N : Nm mg) (C : Cn mg) : FnOk P w K mg base CX0 4 d.f d.fd ["rows"] (spRowsFault K CK) := by
  have GR : FnOk P w K mg base CX0 3 dR.f dR.fd ["thing"] (spIsRow K CK) := ok_is_row dR dU dN dL dLO dOO T N C
  have GL : FnOk P w K mg base CX0 3 dL.f dL.fd ["thing"] (spIsList K CK) := (ok_is_list dL T N).mono (by decide)
  have GK : FnOk P w K mg base CX0 3 dK.f dK.fd ["aboves"] spKIT := (ok_kit dK).mono (by decide)
  refine d.F.ok scRowsFault (fun vs H Q E h => spD_len h) (fun cdv A outer s H vs Q E hr h => ?_)
  obtain ⟨x, v, H0, rfl, e0, r, ⟨x', rs, hx, hL, hrs, ok⟩, q⟩ := spD1 h
  cases hx
  have hu := hu_of hr
  refine ⟨_, pss_cons (ps_if (pt_not (pt_val (pe_call GL hr (by rfl) dL.m dL.F.kp dL.b .nil pass0 (pa_cons (pv 0) pa_nil)))) (pss_one (ps_ret pe_int)) pss_nil)
    (pss_cons (ps_set (i := 1) scRowsFault.nd rfl (.inr rfl) pe_dnewK)
    (pss_cons (ps_for PassesOwn.never rfl (pi_enumS (by rfl) N.enumerate (pa_cons (pv 0) pa_nil)) (pg_unp rfl (pgs_cons (pg_name (i := 2) scRowsFault.nd rfl (.inl rfl)) (pgs_cons (pg_name (i := 3) scRowsFault.nd rfl (.inl rfl)) pgs_nil)))
      (pss_cons (ps_if (PW.pt (pw_or (pt_not (pt_val (pe_call GR hr (by rfl) dR.m dR.F.kp dR.b .nil pass0 (pa_cons (pv 3) pa_nil)))) (pw_or1 (pt_cmpR (op_in_dk hu) (pe_ix (r := rIxLT K) ix_lt (pv 3) pe_int (fun _ _ => rfl)) (pv 1) (by rfl))))) (pss_one (ps_ret (pv 2))) pss_nil)
      (pss_one (ps_dput hu (pv 1) (pe_ix (r := rIxLT K) ix_lt (pv 3) pe_int (fun _ _ => rfl)) (pv 3) rfl))))
    (pss_cons (ps_set (i := 5) scRowsFault.nd rfl (.inl rfl) (pe_call GK hr (by rfl) dK.m dK.F.kp dK.b .nil pass0 (pa_cons
        (pe_lock (pe_dc (own := [("kind", 4)]) (g := gName 4) (tt := tYes) rfl scRowsFault.nd (pi_keys (pv 1)) (blkOk_by (N := ["rows", "found", "index", "row", "kind", "rounds", "above", "_", "lasts"]) (sc := defScope sRowsFault) (by decide +kernel))
          (fun _ _ _ _ _ => pg_name (i := 4) scRowsFault.nd rfl (Or.inl rfl)) (fun _ _ _ _ _ => pts_nil) (fun _ _ _ _ _ => pv 4)
          (fun _ _ _ _ _ => pe_ix (r := rIxLT K) ix_lt (pe_dget (td := tVar 1) (ty := tVar 4) hu (pv 1) (pv 4) (fun _ _ => rfl)) pe_int (fun _ _ => rfl)))) pa_nil)))
    (pss_cons (ps_for PassesOwn.never rfl (pi_enumS (by rfl) N.enumerate (pa_cons (pv 0) pa_nil)) (pg_unp rfl (pgs_cons (pg_name (i := 2) scRowsFault.nd rfl (.inl rfl)) (pgs_cons (pg_unp rfl (pgs_cons (pg_name (i := 4) scRowsFault.nd rfl (.inl rfl))
        (pgs_cons (pg_name (i := 6) scRowsFault.nd rfl (.inl rfl)) (pgs_cons (pg_name (i := 7) scRowsFault.nd rfl (.inl rfl)) (pgs_cons (pg_name (i := 8) scRowsFault.nd rfl (.inl rfl)) pgs_nil))))) pgs_nil)))
      (pss_cons (ps_if (pt_cmpR op_eq (pv 6) pe_str (nomark _)) (pss_one ps_continue) pss_nil)
      (pss_one (ps_if (PW.pt (pw_or (pt_cmpR (op_notIn_dk hu) (pv 6) (pv 1) (by rfl)) (pw_or (pt_cmpR (op_in_dk hu) (pv 4) (pv 5) (by rfl)) (pw_or1 (PW.pt (pw_and (pt_val (pv 8))
        (pw_and1 (pt_not (pt_val (pe_ix (r := rIxLT K) ix_lt (pe_dget hu (pv 1) (pv 6) (fun _ _ => rfl)) pe_int (fun _ _ => rfl)))))))))))
        (pss_one (ps_ret (pv 2))) pss_nil))))
    (pss_one (ps_ret pe_non)))))), ?_⟩
  obtain ⟨lv, hlv⟩ := ok.lv
  have hlen := hrs.1
  have hfew : rs.length ≤ 1000 := by have := hlv.few; unfold abOf at this; rw [List.length_map] at this; exact this
  have hkn := keys_nd hlv.nd
  refine q_when (b := false) (Evl.EvT.mono e0 (et_is (et_not (et_B (EvD.b (ed_call (ds := [x]) (ead_cons (ed_var rfl r) ead_nil) rfl trivial)))) (by show (!x.isL) = false; rw [hL]; rfl))) (fun z => by cases z) fun _ H1 e1 => ?_
  have e01 : Ex H0 H1 := e0.trans e1
  -- found = {}
  intro fo nf
  have nf0 : H0 fo = none := ex_none e01 nf
  have e1f : Ex H1 (upd H1 fo (.dK [])) := Ex.new nf
  -- the first loop
  refine q_forI (ei_enum (ed_var rfl r) hL) (e01.trans e1f) (fun B i σ' H' => ∃ y2 y3 es, σ' = [some v, some (.ref fo), y2, y3, none, none, none, none, none] ∧ B fo = none ∧ Ex B H' ∧ Ex H1 H' ∧ H' fo = some (.dK es) ∧ Fnd K CK rs x.items i es (cut fo H')) ?_ ?_ ?_ ?_
  · intro H2 e2
    refine ⟨none, none, [], rfl, ?_, hid_sub, e1f.trans e2, e2 _ _ upd_same, rfl, fun j d u k h => absurd h (Nat.not_lt_zero _)⟩
    unfold hid
    rw [if_pos ⟨by rw [nf0]; rfl, by rw [upd_same]; rfl⟩]
  · rintro B i σ' H' ⟨_, _, _, _, _, h, _⟩
    exact h
  · rintro B B' i d x' σ' Ha Hb eB hd ⟨y2, y3, es, rfl, hBf, eBa, e1a, hfo, hF⟩ eab eBB eBb hB' rx
    obtain ⟨di, hdi, rfl⟩ := enumD_get hd
    have hi : i < rs.length := by
      have := (List.getElem?_eq_some_iff.mp hdi).1
      omega
    have hri : rs[i]? = some rs[i] := List.getElem?_eq_getElem hi
    have hrow := hrs.2 i _ _ hri hdi
    have hmem : rs[i] ∈ rs := List.getElem_mem hi
    obtain ⟨v1, v2, r1, r2, hg⟩ := eg_unp2 (σ := [some v, some (.ref fo), y2, y3, none, none, none, none, none]) (i := 2) (j := 3) rx rfl rfl
    refine hg Hb eBb _ fun H3 e3 => ?_
    have r23 : Rep K CK H3 di v2 := (r2.ex eBb).ex e3
    have hnone : valV es (Sum.inr rs[i].kind : Key) = none := by
      refine valV_none_of ?_
      rw [hF.1]
      intro z
      obtain ⟨r', hr', e'⟩ := List.mem_map.mp z
      obtain ⟨j, hj, ej⟩ := List.mem_iff_getElem.mp hr'
      rw [List.length_take] at hj
      rw [List.getElem_take] at ej
      have hj' : j < rs.length := by omega
      have l1 : j < (rs.map fun r => (Sum.inr r.kind : Key)).length := by rw [List.length_map]; omega
      have l2 : i < (rs.map fun r => (Sum.inr r.kind : Key)).length := by rw [List.length_map]; omega
      have eq : (rs.map fun r => (Sum.inr r.kind : Key))[j] = (rs.map fun r => (Sum.inr r.kind : Key))[i] := by
        rw [List.getElem_map, List.getElem_map, ej]
        exact e'
      have := (List.getElem_inj hkn).mp eq
      omega
    have hfo3 : H3 fo = some (.dK es) := e3 _ _ (eab _ _ hfo)
    refine q_when (b := false) (et_is (et_or (a := false) (b := false) (et_is (et_not (et_B (EvD.b (ed_call (ds := [di]) (ead_cons (ed_var rfl r23) ead_nil) rfl ⟨di, _, rfl, hrow, ok.ok _ hmem⟩)))) rfl)
      (fun _ => et_test (ev_op (EvD.s (ed_ix (j := 0) (ed_var rfl r23) ev_c hrow.1 hrow.kind)) (ev_var rfl) fun H5 e5 Q5 q5 => ⟨fo, _, rfl, DGet.k (k := Sum.inr rs[i].kind) (e5 _ _ hfo3), by rw [hnone]; exact q5 H5 (Ex.refl _)⟩))) rfl) (fun z => by cases z) fun _ H4 e4 => ?_
    refine ⟨v2, rfl, _, rfl, ?_⟩
    refine EvD.s (ed_ix (j := 0) (ed_var rfl r23) ev_c hrow.1 hrow.kind) H4 e4 _ fun H5 e5 => ?_
    have e35 := e4.trans e5
    have hfo5 : H5 fo = some (.dK es) := e35 _ _ hfo3
    have hesl : es.length = i := by
      have := congrArg List.length hF.1
      rw [List.length_map, List.length_map, List.length_take] at this
      omega
    have ea5 : Ex Ha H5 := eab.trans (e3.trans e35)
    refine ⟨fo, _, rfl, DPut.k (k := Sum.inr rs[i].kind) hfo5 (by rw [hesl, sizeLine_eq]; omega), some v1, some v2, _, rfl, hBf, (eBa.trans ea5).mut hBf, (e1a.trans ea5).mut nf, upd_same, ?_, ?_⟩
    · rw [putK_new _ hnone, List.map_append, hF.1, take_more hri, List.map_append]
      rfl
    · rw [cut_upd, putK_new _ hnone]
      intro j d u k hj hdj huj
      by_cases hji : j < i
      · rw [List.getElem?_append_left (by omega)] at huj
        exact (hF.2 j d u k hji hdj huj).ex (cut_mono ea5)
      · obtain rfl : j = i := by omega
        rw [List.getElem?_append_right (by omega), hesl, Nat.sub_self] at huj
        have hu2 := (Prod.mk.inj (Option.some.inj huj)).2
        rw [hdi] at hdj
        cases hdj
        rw [← hu2]
        have nB' : B' fo = none := hB' fo hBf (by rw [hfo]; rfl)
        exact r2.ex (cut_ex (eBb.trans (e3.trans e35)) nB')
  rintro B σ' H' eB ⟨y2, y3, es, rfl, hBf, eBH, e1H, hfo, hF⟩
  rw [enumD_len, hlen] at hF
  have htake : rs.take rs.length = rs := List.take_length
  have hkeys : es.map (·.1) = rs.map (fun r => (Sum.inr r.kind : Key)) := by rw [hF.1, htake]
  have hesl : es.length = rs.length := by
    have := congrArg List.length hkeys
    rwa [List.length_map, List.length_map] at this
  have hnd : (es.map (·.1)).Nodup := by rw [hkeys]; exact hkn
  have hent : ∀ (j : Nat) r, rs[j]? = some r → ∃ d u, x.items[j]? = some d ∧ es[j]? = some (Sum.inr r.kind, u) ∧ RowD r d ∧ valV es (Sum.inr r.kind : Key) = some u ∧ Rep K CK (cut fo H') d u := by
    intro j r' hj
    have hjl := (List.getElem?_eq_some_iff.mp hj).1
    have l1 : j < x.items.length := by omega
    have l2 : j < es.length := by omega
    have h1 : (es.map (·.1))[j]? = some (Sum.inr r'.kind) := by rw [hkeys, List.getElem?_map, hj]; rfl
    rw [List.getElem?_map, List.getElem?_eq_getElem l2] at h1
    have h2 : es[j]? = some (Sum.inr r'.kind, es[j].2) := by
      rw [List.getElem?_eq_getElem l2]
      have := Option.some.inj h1
      exact congrArg some (Prod.ext this rfl)
    exact ⟨x.items[j], es[j].2, List.getElem?_eq_getElem l1, h2, hrs.2 j _ _ hj (List.getElem?_eq_getElem l1), valV_at hnd h2, hF.2 j _ _ _ hjl (List.getElem?_eq_getElem l1) h2⟩
  -- the dict of the aboves
  refine ⟨fo, _, hfo, trivial, fun od => ?_⟩
  have cutL : Ex (cut fo H') (upd H' fo (.frz od (.dK es))) := fun a o z => by
    have : a ≠ fo := fun c => by rw [c] at z; unfold cut at z; rw [if_pos rfl] at z; cases z
    rw [upd_ne this]
    exact cut_sub _ _ z
  refine ⟨.ref fo, rfl, fo, od, rfl, .inl ⟨es, upd_same, fun Da nDa => dc_it walk_keys (fun j Hc => Hc fo = some (.frz od (.dK es)) ∧ Ex (upd H' fo (.frz od (.dK es))) Hc ∧ Hc Da = some (.dK (kvsOf ((abOf rs).take j)))) ?_ ?_ ?_ ?_⟩⟩
  · have nfd : fo ≠ Da := ne_of_none upd_same nDa
    exact ⟨by rw [upd_ne nfd, upd_same], Ex.new nDa, upd_same⟩
  · rintro j Hc _ ⟨h, _⟩
    exact h
  · rintro j x' Hc Hc' hj ⟨h1, h2, h3⟩ ⟨rfl, k, u0, hk, rfl⟩
    have hjr : j < rs.length := by omega
    obtain ⟨dj, u, hd, hu2, hrow, hval, hrep⟩ := hent j _ (List.getElem?_eq_getElem hjr)
    rw [hk] at hu2
    obtain ⟨rfl, rfl⟩ := Prod.mk.inj (Option.some.inj hu2)
    refine ⟨rfl, ?_⟩
    dsimp only [tYes]
    rw [if_pos rfl]
    refine ⟨_, rfl, ?_⟩
    refine EvD.s (ed_ix (j := 1) (ed_dget (i := 1) (j := 4) rfl rfl (.inr ⟨od, h1⟩) hval (hrep.ex (cutL.trans h2))) ev_c hrow.1 hrow.aboveI) Hc' (Ex.refl _) _ fun H5 e5 => ?_
    have habj : (abOf rs)[j]? = some (rs[j].kind, rs[j].above) := by unfold abOf; rw [List.getElem?_map, List.getElem?_eq_getElem hjr]; rfl
    have hno : valV (kvsOf ((abOf rs).take j)) (Sum.inr rs[j].kind : Key) = none := by
      refine valV_none_of ?_
      intro z
      have hk2 : (kvsOf ((abOf rs).take j)).map (·.1) = (rs.take j).map fun r => (Sum.inr r.kind : Key) := by
        unfold kvsOf abOf
        rw [List.map_map, ← List.map_take, List.map_map]
        rfl
      rw [hk2] at z
      obtain ⟨r', hr', e'⟩ := List.mem_map.mp z
      obtain ⟨m, hm, em⟩ := List.mem_iff_getElem.mp hr'
      rw [List.length_take] at hm
      rw [List.getElem_take] at em
      have hm' : m < rs.length := by omega
      have l1 : m < (rs.map fun r => (Sum.inr r.kind : Key)).length := by rw [List.length_map]; omega
      have l2 : j < (rs.map fun r => (Sum.inr r.kind : Key)).length := by rw [List.length_map]; omega
      have eq : (rs.map fun r => (Sum.inr r.kind : Key))[m] = (rs.map fun r => (Sum.inr r.kind : Key))[j] := by
        rw [List.getElem_map, List.getElem_map, em]
        exact e'
      have := (List.getElem_inj hkn).mp eq
      omega
    have nfd : fo ≠ Da := fun c => by rw [c] at h1; rw [h1] at h3; cases h3
    refine ⟨_, Sum.inr rs[j].kind, rfl, e5 _ _ h3, ?_, ?_, (h2.trans e5).mut nDa, ?_⟩
    · unfold kvsOf
      rw [List.length_map, List.length_take, sizeLine_eq]
      have := hlv.few
      omega
    · rw [upd_ne nfd]
      exact e5 _ _ h1
    · rw [upd_same, putK_new _ hno, take_more habj]
      unfold kvsOf
      rw [List.map_append]
      rfl
  rintro Hc ⟨h1, h2, h3⟩
  refine ⟨h1, ?_⟩
  have nfd : fo ≠ Da := fun c => by rw [c] at h1; rw [h1] at h3; cases h3
  have h3' : Hc Da = some (.dK (kvsOf (abOf rs))) := by
    rw [show es.length = (abOf rs).length by unfold abOf; rw [List.length_map]; exact hesl, List.take_length] at h3
    exact h3
  have hfoU : Ex H' (upd Hc fo (.dK es)) := fun a o z => by
    by_cases c : a = fo
    · subst c
      rw [upd_same, ← hfo]
      exact z
    · rw [upd_ne c]
      exact h2 _ _ (by rw [upd_ne c]; exact z)
  -- rounds
  refine ⟨Da, abOf rs, lv, rfl, by rw [upd_ne nfd.symm]; exact h3', hlv, fun p Hr er np hp => ?_⟩
  have eHr : Ex H' Hr := hfoU.trans er
  have eBr : Ex B Hr := eBH.trans eHr
  have hfor : Hr fo = some (.dK es) := er _ _ upd_same
  -- the second loop
  refine q_forI (ei_enum (ed_var rfl (r.ex eB)) hL) eBr (fun B2 i σ' H2 => ∃ y2 y3 y4 y6 y7 y8, σ' = [some v, some (.ref fo), y2, y3, y4, some (.ref p), y6, y7, y8] ∧ Ex B2 H2 ∧ Ex Hr H2) ?_ ?_ ?_ ?_
  · intro H2 e2
    exact ⟨_, _, _, _, _, _, rfl, hid_sub, e2⟩
  · rintro B2 i σ' H2 ⟨_, _, _, _, _, _, _, h, _⟩
    exact h
  · rintro B2 B' i d x' σ' Ha Hb eB2 hd ⟨y2, y3, y4, y6, y7, y8, rfl, eBa, era⟩ eab eBB eBb hB' rx
    obtain ⟨di, hdi, rfl⟩ := enumD_get hd
    have hi : i < rs.length := by
      have := (List.getElem?_eq_some_iff.mp hdi).1
      omega
    have hri : rs[i]? = some rs[i] := List.getElem?_eq_getElem hi
    have hrow := hrs.2 i _ _ hri hdi
    have hmem : rs[i] ∈ rs := List.getElem_mem hi
    refine gUnp_of eBb rx rfl rfl fun vs hvs => ?_
    obtain ⟨w1, w2, rfl, q1, q2⟩ := RepL.two hvs
    refine ⟨w1, _, rfl, w2, _, rfl, ?_⟩
    obtain ⟨hL2, m, hit, hmL, hm⟩ := id hrow
    obtain ⟨u1, u2, u3, u4, s1, s2, s3, s4, hg⟩ := eg_unp4 (σ := [some v, some (.ref fo), some w1, y3, y4, some (.ref p), y6, y7, y8]) (i := 4) (j := 6) (k := 7) (l := 8) q2 hL2 hit
    refine hg Hb eBb _ fun H3 e3 => ⟨rfl, ?_⟩
    obtain rfl := rep_str s1
    obtain rfl := rep_str s2
    obtain rfl := rep_bl s4
    have er3 : Ex Hr H3 := era.trans (eab.trans e3)
    have eB3 : Ex B2 H3 := eBa.trans (eab.trans e3)
    refine q_when (b := decide (rs[i].above = Str.empty)) (et_test (ev_eqS (ev_var rfl) ev_c)) (fun hb H4 e4 => ?_) fun hb H4 e4 => ?_
    · exact ⟨_, _, _, _, _, _, rfl, eB3.trans e4, er3.trans e4⟩
    · obtain ⟨r', hr', hk', hl'⟩ := ok.above _ hmem (of_decide_eq_false hb)
      obtain ⟨j, hj, ej⟩ := List.mem_iff_getElem.mp hr'
      have hj' : rs[j]? = some r' := by rw [List.getElem?_eq_getElem hj, ej]
      obtain ⟨dj, u, hdj, hu2, hrow', hval, hrep⟩ := hent j _ hj'
      rw [hk'] at hval
      have er4 : Ex Hr H4 := er3.trans e4
      have hfo4 : H4 fo = some (.dK es) := er4 _ _ hfor
      have hrep4 : Rep K CK H4 dj u := hrep.ex (cut_sub.trans (eHr.trans er4))
      refine s_when (b := false) (et_is (et_or (a := false) (b := false) (et_test (ev_op (ev_var rfl) (ev_var rfl) fun H5 e5 Q5 q5 => ⟨fo, _, rfl, DGet.k (k := Sum.inr rs[i].above) (e5 _ _ hfo4), by rw [hval]; exact q5 H5 (Ex.refl _)⟩))
        (fun _ => et_is (et_or (a := false) (b := false) (et_test (ev_op (ev_var rfl) (ev_var rfl) fun H5 e5 Q5 q5 => ⟨p, _, rfl, DGet.k (k := Sum.inr rs[i].kind) (e5 _ _ (er4 _ _ hp)), q5 H5 (Ex.refl _)⟩))
          (fun _ => et_is (et_and (a := rs[i].lasts) (b := !r'.lasts) (et_B (ev_var rfl)) (fun _ => et_not (et_B (EvD.b (ed_ix (j := 3) (ed_dget (i := 1) (j := 6) rfl rfl (.inl hfo4) hval hrep4) ev_c hrow'.1 hrow'.lastsI))))) ?_)) rfl)) rfl) (fun z => by cases z) fun _ H5 e5 => ?_
      · cases hla : rs[i].lasts with
        | false => rfl
        | true => rw [hl' hla]; rfl
      · exact ⟨_, _, _, _, _, _, rfl, eB3.trans (e4.trans e5), er4.trans e5⟩
  · rintro B2 σ' H2 _ ⟨_, _, _, _, _, _, rfl, _, er2⟩
    exact q _ H2 (e1.trans (e1H.trans (eHr.trans er2))) rfl
end
end Any
set_option Elab.async false
set_option linter.all false
set_option maxRecDepth 100000
set_option maxHeartbeats 1000000
namespace Any
open PySem PySem.Spec PyProof.Rows L2 Evl
section
variable {K : PySem.W.Frag} {CK : Addr} {H H' H0 : Hp} {σ : L2.St} {X : Cx}
mutual
def D.py : D → PyData
  | .non => .none
  | .bl b => .bool b
  | .int i => .int i
  | .str x => .str x
  | .lst xs => .list (pyL xs)
  | .tup xs => .tuple (pyL xs)
  | .dct _ => .none
  | .obj _ => .none
def pyL : List D → List PyData
  | [] => []
  | x :: xs => x.py :: pyL xs
end
mutual
/-- no dict, no object in it -/
def D.flat : D → Bool
  | .lst xs => flatL xs
  | .tup xs => flatL xs
  | .dct _ => false
  | .obj _ => false
  | _ => true
def flatL : List D → Bool
  | [] => true
  | x :: xs => x.flat && flatL xs
end
theorem pyL_map : ∀ xs : List D, pyL xs = xs.map D.py
  | [] => rfl
  | _ :: xs => congrArg (_ :: ·) (pyL_map xs)
mutual
theorem Rep.dp : ∀ {d : D} {v : V}, Rep K CK H d v → d.flat = true → Dp K H v d.py
  | .non, _, h, _ => by rw [show _ = V.non from h]; exact .non
  | .bl _, _, h, _ => by rw [show _ = V.bl _ from h]; exact .bl _
  | .int _, _, h, _ => by rw [show _ = V.int _ from h]; exact .int _
  | .str _, _, h, _ => by rw [h.1]; exact .str _
  | .lst _, _, ⟨a, vs, h1, h2, _, h3⟩, hf => by rw [h1]; exact .lst (sq_of h2) (RepL.dp h3 hf)
  | .tup _, _, ⟨a, vs, h1, h2, _, h3⟩, hf => by rw [h1]; exact .tup (st_of h2) (RepL.dp h3 hf)
  | .dct _, _, _, hf => by cases hf
  | .obj _, _, _, hf => by cases hf
theorem RepL.dp : ∀ {ds : List D} {vs : List V}, RepL K CK H ds vs → flatL ds = true → DpAll K H vs (pyL ds)
  | [], _, h, _ => by rw [show _ = [] from h]; exact .nil
  | _ :: _, _, ⟨v, r, h1, h2, h3⟩, hf => by
    rw [h1]
    have hf' := Bool.and_eq_true_iff.mp hf
    exact .cons (Rep.dp h2 hf'.1) (RepL.dp h3 hf'.2)
end
/-- before or alike, as Python says -/
def leD (a b : D) : Bool := !PySem.W.dataLt b.py a.py
def sortD (ds : List D) : List D := ds.mergeSort leD
/-- what sorted asks of its items -/
structure SortOk (ds : List D) : Prop where
  fl : flatL ds = true
  al : PySem.W.AllAlike (ds.map D.py)
  so : PySem.W.Sortable (ds.map D.py)
  dp : ∀ d ∈ ds, d.py.depth ≤ 60
theorem sq_ofL {a : Addr} {vs : List V} (h : SqL K H a vs) : True := trivial
/-- sorted(xs) of data that are alike -/
def rSortedDt (K : PySem.W.Frag) (CK : Addr) : List V → Hp → VK → Prop := fun vs H Q => ∃ (a : Addr) (xs : List V) (ds : List D) (B : Hp), vs = [V.ref a] ∧ SqL K H a xs ∧ Ex B H ∧ RepL K CK B ds xs ∧ SortOk ds ∧
  ∀ (ys : List V) (p : Addr), RepL K CK B (sortD ds) ys → H p = none → Q (.ref p) (upd H p (.lst ys))
theorem RepL.zipAll : ∀ {ds : List D} {vs : List V}, RepL K CK H ds vs → ∀ b ∈ vs.zip ds, Rep K CK H b.2 b.1
  | [], _, h, b, hb => by rw [List.zip_nil_right] at hb; cases hb
  | d :: ds, _, ⟨v, r, rfl, h2, h3⟩, b, hb => by
    rw [List.zip_cons_cons] at hb
    rcases List.mem_cons.mp hb with rfl | hb
    · exact h2
    · exact RepL.zipAll h3 b hb
theorem RepL.ofPairs : ∀ {bs : List (V × D)}, (∀ b ∈ bs, Rep K CK H b.2 b.1) → RepL K CK H (bs.map Prod.snd) (bs.map Prod.fst)
  | [], _ => rfl
  | b :: bs, h => ⟨b.1, bs.map Prod.fst, rfl, h b List.mem_cons_self, RepL.ofPairs fun c hc => h c (List.mem_cons_of_mem _ hc)⟩
theorem each_zip {pins : List (Addr × Obj)} {s : Shared} (I : Inv X pins σ H s) : ∀ {ds : List D} {vs : List V} {us : List Value}, RepL X.K CK H ds vs → flatL ds = true → Vals vs us →
    PySem.W.EachIs (fun u (b : V × D) => RelV b.1 u) us (vs.zip ds) ∧ PySem.W.EachIs (fun u (b : V × D) => ∃ as, Reads s.heap u b.2.py as) us (vs.zip ds)
  | [], _, _, h, _, r => by
    rw [show _ = [] from h] at r ⊢
    cases r
    exact ⟨.nil, .nil⟩
  | d :: ds, _, _, ⟨v, r, rfl, h2, h3⟩, hf, rv => by
    cases rv with
    | cons r1 r2 =>
      have hf' := Bool.and_eq_true_iff.mp hf
      obtain ⟨k1, k2⟩ := each_zip I h3 hf'.2 r2
      rw [List.zip_cons_cons]
      exact ⟨.cons r1 k1, .cons (Dp.reads I _ _ _ (h2.dp hf'.1) r1) k2⟩
theorem each_vals : ∀ {us : List Value} {bs : List (V × D)}, PySem.W.EachIs (fun u (b : V × D) => RelV b.1 u) us bs → Vals (bs.map Prod.fst) us
  | _, _, .nil => .nil
  | _, _, .cons h t => .cons h (each_vals t)
theorem cr_sortedDt (hu : X.A.units + 64 < cLine) : CallR X (.builtin "sorted") (rSortedDt X.K CK) := by
  intro pins s σ H vs us Q I r h
  obtain ⟨a, xs, ds, B, rfl, hs, hB, hr, ok, q⟩ := h
  obtain ⟨its, rv, hl, hz⟩ := I.list hs
  rw [Vals.ref1 r]
  have hrH := RepL.ex hB hr
  obtain ⟨e1, e2⟩ := each_zip I hrH ok.fl rv
  have hlz : xs.length = ds.length := hr.len
  have em : (xs.zip ds).map (fun b : V × D => b.2.py) = ds.map D.py := by
    rw [show (fun b : V × D => b.2.py) = D.py ∘ Prod.snd from rfl, ← List.map_map, List.map_snd_zip (by omega)]
  refine PySem.W.sorted_data (bs := xs.zip ds) (enc := fun b : V × D => b.2.py) (R := fun u (b : V × D) => RelV b.1 u) hl.isList e1 e2 (by rw [em]; exact ok.al) (by rw [em]; exact ok.so) ?_ (fun b hb => ?_) fun out ho he => ?_
  · rw [List.length_zip]
    omega
  · have hm : b.2 ∈ ds := (List.of_mem_zip (a := b.1) (b := b.2) hb).2
    have := ok.dp _ hm
    show X.A.units + 2 + b.2.py.depth < cLine
    omega
  · have es : ((xs.zip ds).mergeSort (PySem.W.dataLe false fun b : V × D => b.2.py)).map Prod.snd = sortD ds := by
      have := List.map_mergeSort (r := PySem.W.dataLe false fun b : V × D => b.2.py) (s := leD) (f := Prod.snd) (l := xs.zip ds) (fun a _ b _ => by rw [PySem.W.dataLe_eq]; rfl)
      rw [this, List.map_snd_zip (by omega)]
      rfl
    have hy : RepL X.K CK B (sortD ds) (((xs.zip ds).mergeSort (PySem.W.dataLe false fun b : V × D => b.2.py)).map Prod.fst) := by
      rw [← es]
      refine RepL.ofPairs fun b hb => ?_
      exact RepL.zipAll hr b ((List.mergeSort_perm _ _).mem_iff.mp hb)
    have hv := each_vals he
    obtain ⟨ep, he'⟩ := PyProof.Rows.sortedAll_at s.heap its out.toArray
    have hlen : (((xs.zip ds).mergeSort (PySem.W.dataLe false fun b : V × D => b.2.py)).map Prod.fst).length ≤ sizeLine := by
      rw [List.length_map, List.length_mergeSort, List.length_zip]
      omega
    exact ⟨.ref _, upd H (s.heap.objs.size + 1) (.lst _), I.laid (t' := s.toks) (fun _ _ => PyProof.Rows.sortedAll_old) (Nat.le_succ _) ⟨hlen, out, ep, hv, he'⟩, rfl, q _ _ hy (I.hok.fresh (Nat.le_succ _))⟩
theorem sortD_len (ds : List D) : (sortD ds).length = ds.length := List.length_mergeSort _
theorem ed_sorted {ta : TE} {ds : List D} (h : EvD K CK ta σ H (.lst ds)) (ok : SortOk ds) : EvD K CK (tCB (rSortedDt K CK) (tCons ta tNil)) σ H (.lst (sortD ds)) := fun H1 e Q q =>
  h H1 e _ fun v H2 e2 r => by
    obtain ⟨a, vs, rfl, h1, hl, h2⟩ := r
    refine ⟨a, vs, ds, hid H H1 H2, rfl, sq_of (hid_sub _ _ h1), hid_sub, h2, ok, fun ys p hy hp => q _ _ (e2.trans (Ex.new hp)) ⟨p, ys, rfl, hid_at (ex_none e2 hp) upd_same, by rw [sortD_len]; exact hl, RepL.ex (hid_mono (Ex.new hp)) hy⟩⟩
end
end Any
set_option Elab.async false
set_option linter.all false
set_option maxRecDepth 100000
set_option maxHeartbeats 1000000
namespace Any
open PySem PySem.Spec PyProof.Rows L2 Evl
abbrev sToldHeap : Stmt := topS 23
abbrev sToldRecord : Stmt := topS 24
abbrev sHeapSize : Stmt := topS 25
abbrev sLSTold : Stmt := topS 49
abbrev sLSSize : Stmt := topS 50
/-! ### the told form -/
/-- records, in any form, of at most n levels -/
def isH : Nat → D → Prop
  | 0, _ => False
  | n + 1, d => d.isL = true ∧ d.items.length ≤ 30000 ∧ ∀ r ∈ d.items, r.isL = true ∧ ∃ k m p, r.items = [.str k, .str m, p] ∧ isH n p
def isR (n : Nat) (r : D) : Prop := r.isL = true ∧ ∃ k m p, r.items = [.str k, .str m, p] ∧ isH n p
def toldH : Nat → D → D
  | 0, _ => .tup []
  | n + 1, d => .tup (sortD (d.items.map fun r => match r.items with
    | [k, m, p] => .tup [k, m, toldH n p]
    | _ => .non))
def toldR (n : Nat) (r : D) : D := match r.items with
  | [k, m, p] => .tup [k, m, toldH n p]
  | _ => .non
theorem toldH_succ (n : Nat) (d : D) : toldH (n + 1) d = .tup (sortD (d.items.map (toldR n))) := rfl
theorem toldR_of {n : Nat} {r k m p : D} (h : r.items = [k, m, p]) : toldR n r = .tup [k, m, toldH n p] := by
  unfold toldR
  rw [h]
theorem sortD_perm (ds : List D) : (sortD ds).Perm ds := List.mergeSort_perm _ _
theorem sortD_mem {ds : List D} {d : D} : d ∈ sortD ds ↔ d ∈ ds := (sortD_perm ds).mem_iff
theorem flatL_all : ∀ ds : List D, flatL ds = true ↔ ∀ d ∈ ds, d.flat = true
  | [] => ⟨fun _ _ h => (by cases h), fun _ => rfl⟩
  | d :: ds => by
    show (d.flat && flatL ds) = true ↔ _
    rw [Bool.and_eq_true, flatL_all ds]
    exact ⟨fun ⟨h1, h2⟩ x hx => (List.mem_cons.mp hx).elim (fun e => e ▸ h1) (h2 x), fun h => ⟨h d List.mem_cons_self, fun x hx => h x (List.mem_cons_of_mem _ hx)⟩⟩
theorem alikeAll_of : ∀ {xs ys : List PyData}, (∀ x ∈ xs, ∀ y ∈ ys, PySem.W.alike x y = true) → PySem.W.alikeAll xs ys = true
  | [], _, _ => by simp [PySem.W.alikeAll]
  | _ :: _, [], _ => by simp [PySem.W.alikeAll]
  | x :: xs, y :: ys, h => by
    rw [PySem.W.alikeAll, h x List.mem_cons_self y List.mem_cons_self, alikeAll_of fun a ha b hb => h a (List.mem_cons_of_mem _ ha) b (List.mem_cons_of_mem _ hb)]
    rfl
theorem depthAll_le {m : Nat} : ∀ {xs : List PyData}, (∀ x ∈ xs, x.depth ≤ m) → PyData.depthAll xs ≤ m
  | [], _ => by simp [PyData.depthAll]
  | x :: xs, h => by
    rw [PyData.depthAll]
    exact Nat.max_le.mpr ⟨h x List.mem_cons_self, depthAll_le fun y hy => h y (List.mem_cons_of_mem _ hy)⟩
/-- what holds of a told form of at most n levels -/
structure ToldOk (n : Nat) (d : D) : Prop where
  fl : d.flat = true
  dp : d.py.depth ≤ 2 * n
theorem toldR_py {n : Nat} {r : D} {k m : Str} {p : D} (h : r.items = [.str k, .str m, p]) : (toldR n r).py = .tuple [.str k, .str m, (toldH n p).py] := by
  rw [toldR_of h]; rfl
theorem toldH_py (n : Nat) (d : D) : (toldH (n + 1) d).py = .tuple ((sortD (d.items.map (toldR n))).map D.py) := by
  rw [toldH_succ, ← pyL_map]; rfl
theorem told_ok : ∀ (n : Nat) (d : D), isH n d → ToldOk n (toldH n d)
  | 0, _, h => h.elim
  | n + 1, d, ⟨_, _, h⟩ => by
    have each : ∀ r ∈ d.items, (toldR n r).flat = true ∧ (toldR n r).py.depth ≤ 2 * n + 1 := fun r hr => by
      obtain ⟨_, k, m, p, e, hp⟩ := h r hr
      have q := told_ok n p hp
      refine ⟨?_, ?_⟩
      · rw [toldR_of e]
        show (true && (true && ((toldH n p).flat && true))) = true
        rw [q.fl]
        rfl
      · rw [toldR_py e]
        have := q.dp
        simp only [PyData.depth, PyData.depthAll]
        omega
    refine ⟨?_, ?_⟩
    · rw [toldH_succ]
      refine (flatL_all _).mpr fun x hx => ?_
      obtain ⟨r, hr, rfl⟩ := List.mem_map.mp (sortD_mem.mp hx)
      exact (each r hr).1
    · rw [toldH_py]
      have : PyData.depthAll ((sortD (d.items.map (toldR n))).map D.py) ≤ 2 * n + 1 := depthAll_le fun x hx => by
        obtain ⟨y, hy, rfl⟩ := List.mem_map.mp hx
        obtain ⟨r, hr, rfl⟩ := List.mem_map.mp (sortD_mem.mp hy)
        exact (each r hr).2
      simp only [PyData.depth]
      omega
theorem told_alike : ∀ (n : Nat) (d e : D), isH n d → isH n e → PySem.W.alike (toldH n d).py (toldH n e).py = true
  | 0, _, _, h, _ => h.elim
  | n + 1, d, e, ⟨_, _, h⟩, ⟨_, _, g⟩ => by
    rw [toldH_py, toldH_py, PySem.W.alike]
    refine alikeAll_of fun x hx y hy => ?_
    obtain ⟨x1, hx1, rfl⟩ := List.mem_map.mp hx
    obtain ⟨y1, hy1, rfl⟩ := List.mem_map.mp hy
    obtain ⟨r, hr, rfl⟩ := List.mem_map.mp (sortD_mem.mp hx1)
    obtain ⟨s, hs, rfl⟩ := List.mem_map.mp (sortD_mem.mp hy1)
    obtain ⟨_, k, m, p, e1, hp⟩ := h r hr
    obtain ⟨_, k2, m2, p2, e2, hp2⟩ := g s hs
    rw [toldR_py e1, toldR_py e2]
    simp only [PySem.W.alike, PySem.W.alikeAll, told_alike n p p2 hp hp2]
    rfl
theorem told_sortOk {n : Nat} {ds : List D} (hn : n ≤ 25) (h : ∀ r ∈ ds, isR n r) : SortOk (ds.map (toldR n)) := by
  have ok : ∀ r ∈ ds, (toldR n r).flat = true ∧ (toldR n r).py.depth ≤ 60 := fun r hr => by
    obtain ⟨_, k, m, p, e, hp⟩ := h r hr
    have q := told_ok n p hp
    refine ⟨?_, ?_⟩
    · rw [toldR_of e]
      show (true && (true && ((toldH n p).flat && true))) = true
      rw [q.fl]
      rfl
    · rw [toldR_py e]
      have := q.dp
      simp only [PyData.depth, PyData.depthAll]
      omega
  refine ⟨(flatL_all _).mpr fun x hx => ?_, fun x hx y hy => ?_, .inl fun x hx => ?_, fun x hx => ?_⟩
  · obtain ⟨r, hr, rfl⟩ := List.mem_map.mp hx
    exact (ok r hr).1
  · obtain ⟨x1, hx1, rfl⟩ := List.mem_map.mp hx
    obtain ⟨y1, hy1, rfl⟩ := List.mem_map.mp hy
    obtain ⟨r, hr, rfl⟩ := List.mem_map.mp hx1
    obtain ⟨s, hs, rfl⟩ := List.mem_map.mp hy1
    obtain ⟨_, k, m, p, e1, hp⟩ := h r hr
    obtain ⟨_, k2, m2, p2, e2, hp2⟩ := h s hs
    rw [toldR_py e1, toldR_py e2]
    simp only [PySem.W.alike, PySem.W.alikeAll, told_alike n p p2 hp hp2]
    rfl
  · obtain ⟨x1, hx1, rfl⟩ := List.mem_map.mp hx
    obtain ⟨r, hr, rfl⟩ := List.mem_map.mp hx1
    obtain ⟨_, k, m, p, e1, hp⟩ := h r hr
    exact ⟨_, _, toldR_py e1⟩
  · obtain ⟨r, hr, rfl⟩ := List.mem_map.mp hx
    exact (ok r hr).2
section
variable {P : Program} {w : World} {K : PySem.W.Frag} {mg : Str → Option Value} {base : Heap} {CK : Addr} {H H' H0 : Hp} {σ : L2.St} {X : Cx}
theorem ed_tupOf {te : TE} {ds : List D} (h : EvD K CK te σ H (.lst ds)) :
    EvD K CK (tCB (fun xs H Q => ∃ p ys, xs = [V.ref p] ∧ ((SqL K H p ys ∧ ∀ l, H l = none → Q (.ref l) (upd H l (.tup ys))) ∨ (SqT K H p ys ∧ Q (.ref p) H))) (tCons te tNil)) σ H (.tup ds) := fun H1 e Q q =>
  h H1 e _ fun v H2 e2 r => by
    obtain ⟨a, vs, rfl, h1, hl, h2⟩ := r
    exact ⟨a, vs, rfl, .inl ⟨sq_of (hid_sub _ _ h1), fun p hp => q _ _ (e2.trans (Ex.new hp)) ⟨p, vs, rfl, hid_at (ex_none e2 hp) upd_same, hl, RepL.ex (hid_mono (Ex.new hp)) h2⟩⟩⟩
/-- a comprehension that takes all -/
theorem ed_map {wi : TI} {g : TG} {te : TE} {vs : List Nat} {ds : List D} {m : D → D} (hI : EvID K CK wi σ H ds) (hl : ds.length ≤ 30000)
    (turn : ∀ (d : D) (x : V) (H0 : Hp), Ex H H0 → d ∈ ds → Rep K CK H0 d x → ∃ σ2, EvG g x (wipe σ vs) H0 σ2 ∧ wipe σ2 vs = wipe σ vs ∧ EvD K CK te σ2 H0 (m d)) :
    EvD K CK (tLc wi g tYes te vs) σ H (.lst (ds.map m)) := by
  have z := ed_lc (f := fun _ => true) (m := m) (g := g) (tt := tYes) (te := te) (vs := vs) hI hl fun i d x H0 e hd r => by
    obtain ⟨σ2, h1, h2, h3⟩ := turn d x H0 e (List.mem_of_getElem? hd) r
    exact ⟨σ2, h1, h2, et_yes, fun _ => h3⟩
  rw [List.filter_eq_self.mpr (fun _ _ => rfl)] at z
  exact z
theorem scToldHeap : FnScope ["records", "record"] ["records"] (defScope sToldHeap) := ⟨rfl, rfl, rfl, by decide +kernel, rfl, by decide +kernel, by decide +kernel⟩
theorem scToldRecord : FnScope ["record", "kind", "mark", "parts"] ["record"] (defScope sToldRecord) := ⟨rfl, rfl, rfl, by decide +kernel, rfl, by decide +kernel, by decide +kernel⟩
abbrev spToldH (K : PySem.W.Frag) (CK : Addr) (n : Nat) : Sp := spD K CK 1 (f1 (toldH n)) (fun ds => ∃ d, ds = [d] ∧ isH n d)
abbrev spToldR (K : PySem.W.Frag) (CK : Addr) (n : Nat) : Sp := spD K CK 1 (f1 (toldR n)) (fun ds => ∃ d, ds = [d] ∧ isR n d)
theorem ok_told (dH : Def K mg "told_heap" sToldHeap ["records"]) (dR : Def K mg "told_record" sToldRecord ["record"]) (N : Nm mg) : ∀ n ≤ 25, FnOk P w K mg base CX0 (2 * n + 1) dH.f dH.fd ["records"] (spToldH K CK n)
  | 0, _ => by
    refine dH.F.ok scToldHeap (fun vs H Q E h => spD_len h) (fun cdv A outer s H vs Q E hr h => ?_)
    obtain ⟨x, v, H0, rfl, e0, r, ⟨x', hx, hH⟩, q⟩ := spD1 h
    exact hH.elim
  | n + 1, hn => by
    have GH := ok_told dH dR N n (by omega)
    have GR : FnOk P w K mg base CX0 (2 * n + 2) dR.f dR.fd ["record"] (spToldR K CK n) := by
      refine dR.F.ok scToldRecord (fun vs H Q E h => spD_len h) (fun cdv A outer s H vs Q E hr h => ?_)
      obtain ⟨x, v, H0, rfl, e0, r, ⟨x', hx, ⟨hL, k, m, p, hi, hp⟩⟩, q⟩ := spD1 h
      cases hx
      refine ⟨_, pss_cons (ps_asg (pv 0) (pg_unp rfl (pgs_cons (pg_name (i := 1) scToldRecord.nd rfl (.inl rfl)) (pgs_cons (pg_name (i := 2) scToldRecord.nd rfl (.inl rfl)) (pgs_cons (pg_name (i := 3) scToldRecord.nd rfl (.inl rfl)) pgs_nil)))))
        (pss_one (ps_ret (pe_tup (pa_cons (pv 1) (pa_cons (pv 2) (pa_cons (pe_call GH hr (by rfl) dH.m dH.F.kp dH.b .nil pass0 (pa_cons (pv 3) pa_nil)) pa_nil)))))), ?_⟩
      refine q_asgD (ed_var rfl r) e0 fun v2 H2 e2 r2 => ?_
      obtain ⟨v1, v2', v3, r1, r2', r3, hg⟩ := eg_unp3 (σ := start ["record", "kind", "mark", "parts"] [v]) (i := 1) (j := 2) (k := 3) r2 hL hi
      refine ⟨_, hg, fun H3 e3 => ?_⟩
      refine s_retD (H0 := hid H0 H H2) (ed_tup (ead_cons (ed_var rfl r1) (ead_cons (ed_var rfl r2') (ead_cons (ed_call (ds := [p]) (ead_cons (ed_var rfl r3) ead_nil) rfl ⟨p, rfl, hp⟩) ead_nil))) (by show (3 : Nat) ≤ 30000; decide)) (hid_sub.trans e3) fun v5 H5 e5 r5 => ?_
      refine q v5 H5 (e2.trans (e3.trans e5)) ?_
      show Rep K CK (hid H0 H H5) (toldR n x) v5
      rw [toldR_of hi]
      have z := r5.ex (hid_le (H3 := H5) e3)
      rw [hid_hid e0 e2] at z
      exact z
    refine dH.F.ok scToldHeap (fun vs H Q E h => spD_len h) (fun cdv A outer s H vs Q E hr h => ?_)
    obtain ⟨x, v, H0, rfl, e0, r, ⟨x', hx, ⟨hL, hl, hall⟩⟩, q⟩ := spD1 h
    cases hx
    have hu := hr.units
    refine ⟨_, pss_one (ps_ret (pe_callTy call_tuple_of (by rfl) N.tuple boot_tuple (pa_cons (pe_callB (cr_sortedDt (CK := CK) hu) (by rfl) N.sorted boot_sorted (pa_cons (pe_lc (own := [("record", 1)]) (g := gName 1) (tt := tYes) rfl scToldHeap.nd (pi_seq (pv 0)) (blkOk_by (N := ["records", "record"]) (sc := defScope sToldHeap) (by decide +kernel))
        (fun _ _ _ _ _ => pg_name (i := 1) scToldHeap.nd rfl (Or.inl rfl)) (fun _ _ _ _ _ => pts_nil)
        (fun _ _ _ _ _ => pe_call GR hr (by rfl) dR.m dR.F.kp dR.b .nil pass0 (pa_cons (pv 1) pa_nil))) pa_nil)) pa_nil))), ?_⟩
    refine s_retD (d := toldH (n + 1) x) (ed_tupOf (ed_sorted (ed_map (m := toldR n) (ei_seq (ed_var rfl r) hL) hl ?_) (told_sortOk (by omega) hall))) e0 fun v5 H5 e5 r5 => q v5 H5 e5 r5
    intro d2 y H2 e2 hd ry
    exact ⟨_, eg_name, rfl, ed_call (ds := [d2]) (ead_cons (ed_var rfl ry) ead_nil) rfl ⟨d2, rfl, hall d2 hd⟩⟩
end
end Any
set_option Elab.async false
set_option linter.all false
set_option maxRecDepth 100000
set_option maxHeartbeats 1000000
namespace Any
open PySem PySem.Spec PyProof.Rows L2 Evl
/-- how many records, at all levels -/
def sizeH : Nat → D → Int
  | 0, _ => 0
  | n + 1, d => (d.items.map fun r => match r.items with
    | [_, _, p] => 1 + sizeH n p
    | _ => 0).sum
def sizeR (n : Nat) (r : D) : Int := match r.items with
  | [_, _, p] => 1 + sizeH n p
  | _ => 0
theorem sizeH_succ (n : Nat) (d : D) : sizeH (n + 1) d = (d.items.map (sizeR n)).sum := rfl
section
variable {P : Program} {w : World} {K : PySem.W.Frag} {mg : Str → Option Value} {base : Heap} {CK : Addr} {H H' H0 : Hp} {σ : L2.St} {X : Cx}
theorem ev_sumD {te : TE} {ns : List Int} (h : EvD K CK te σ H (.lst (ns.map D.int))) : Ev (tCB (rSum K) (tCons te tNil)) σ H (.int ns.sum) := fun H1 e Q q => h H1 e _ fun v H2 e2 r => by
  obtain ⟨a, vs, rfl, ha, _, hr⟩ := r
  rw [repL_ints hr] at ha
  exact ⟨a, ns, rfl, sq_of (hid_sub _ _ ha), q H2 e2⟩
theorem ev_addI {ta tb : TE} {a b : Int} (h1 : Ev ta σ H (.int a)) (h2 : Ev tb σ H (.int b)) : Ev (tOp (rI0 fun i j => .int (i + j)) ta tb) σ H (.int (a + b)) :=
  ev_op h1 h2 fun H1 _ _ q => ⟨a, b, rfl, rfl, q H1 (Ex.refl H1)⟩
theorem scHeapSize : FnScope ["heap", "record"] ["heap"] (defScope sHeapSize) := ⟨rfl, rfl, rfl, by decide +kernel, rfl, by decide +kernel, by decide +kernel⟩
abbrev spSizeH (K : PySem.W.Frag) (CK : Addr) (n : Nat) : Sp := spD K CK 1 (f1 fun d => .int (sizeH n d)) (fun ds => ∃ d, ds = [d] ∧ isH n d)
theorem ok_heap_size (dS : Def K mg "heap_size" sHeapSize ["heap"]) (N : Nm mg) : ∀ n, FnOk P w K mg base CX0 (n + 1) dS.f dS.fd ["heap"] (spSizeH K CK n)
  | 0 => by
    refine dS.F.ok scHeapSize (fun vs H Q E h => spD_len h) (fun cdv A outer s H vs Q E hr h => ?_)
    obtain ⟨x, v, H0, rfl, e0, r, ⟨x', hx, hH⟩, q⟩ := spD1 h
    exact hH.elim
  | n + 1 => by
    have GS := ok_heap_size dS N n
    refine dS.F.ok scHeapSize (fun vs H Q E h => spD_len h) (fun cdv A outer s H vs Q E hr h => ?_)
    obtain ⟨x, v, H0, rfl, e0, r, ⟨x', hx, ⟨hL, hl, hall⟩⟩, q⟩ := spD1 h
    cases hx
    refine ⟨_, pss_one (ps_ret (pe_callB (cr_sum rfl) (by rfl) N.sum boot_sum (pa_cons (pe_lc (own := [("record", 1)]) (g := gName 1) (tt := tYes) rfl scHeapSize.nd (pi_seq (pv 0)) (blkOk_by (N := ["heap", "record"]) (sc := defScope sHeapSize) (by decide +kernel))
        (fun _ _ _ _ _ => pg_name (i := 1) scHeapSize.nd rfl (Or.inl rfl)) (fun _ _ _ _ _ => pts_nil)
        (fun _ _ _ _ _ => pe_op op_add pe_int (pe_call GS hr (by rfl) dS.m dS.F.kp dS.b .nil pass0 (pa_cons (pe_ix (r := rIxLT K) ix_lt (pv 1) pe_int (fun _ _ => rfl)) pa_nil)))) pa_nil))), ?_⟩
    refine s_ret (v := .int (sizeH (n + 1) x)) (Ev.mono e0 (ev_is (ev_sumD (CK := CK) (ns := x.items.map (sizeR n)) ?_) rfl)) fun H1 e => q _ H1 e rfl
    rw [List.map_map]
    refine ed_map (m := D.int ∘ sizeR n) (ei_seq (ed_var rfl r) hL) hl fun d2 y H2 e2 hd ry => ?_
    obtain ⟨hL2, k, m, p, hi, hp⟩ := hall d2 hd
    have e : (D.int ∘ sizeR n) d2 = D.int (1 + sizeH n p) := by
      show D.int (sizeR n d2) = _
      unfold sizeR
      rw [hi]
    rw [e]
    exact ⟨_, eg_name, rfl, Ev.d (ev_addI ev_c (EvD.i (ed_call (ds := [p]) (ead_cons (ed_ix (j := 2) (ed_var rfl ry) ev_c hL2 (by rw [hi]; rfl)) ead_nil) rfl ⟨p, rfl, hp⟩))) rfl⟩
/-! ### the law's own -/
theorem scLSTold : FnScope ["records", "kind", "mark", "parts"] ["records"] (defScope sLSTold) := ⟨rfl, rfl, rfl, by decide +kernel, rfl, by decide +kernel, by decide +kernel⟩
theorem ok_s_told (dH : Def K mg "_law_s_told" sLSTold ["records"]) (N : Nm mg) : ∀ n ≤ 25, FnOk P w K mg base CX0 (n + 1) dH.f dH.fd ["records"] (spToldH K CK n)
  | 0, _ => by
    refine dH.F.ok scLSTold (fun vs H Q E h => spD_len h) (fun cdv A outer s H vs Q E hr h => ?_)
    obtain ⟨x, v, H0, rfl, e0, r, ⟨x', hx, hH⟩, q⟩ := spD1 h
    exact hH.elim
  | n + 1, hn => by
    have GH := ok_s_told dH N n (by omega)
    refine dH.F.ok scLSTold (fun vs H Q E h => spD_len h) (fun cdv A outer s H vs Q E hr h => ?_)
    obtain ⟨x, v, H0, rfl, e0, r, ⟨x', hx, ⟨hL, hl, hall⟩⟩, q⟩ := spD1 h
    cases hx
    have hu := hr.units
    refine ⟨_, pss_one (ps_ret (pe_callTy call_tuple_of (by rfl) N.tuple boot_tuple (pa_cons (pe_callB (cr_sortedDt (CK := CK) hu) (by rfl) N.sorted boot_sorted (pa_cons (pe_lc (own := [("kind", 1), ("mark", 2), ("parts", 3)]) (g := gUnp K 3 (gCons (gName 1) (gCons (gName 2) (gCons (gName 3) gNil)))) (tt := tYes) rfl scLSTold.nd (pi_seq (pv 0)) (blkOk_by (N := ["records", "kind", "mark", "parts"]) (sc := defScope sLSTold) (by decide +kernel))
        (fun _ _ _ _ _ => pg_unp rfl (pgs_cons (pg_name (i := 1) scLSTold.nd rfl (Or.inl rfl)) (pgs_cons (pg_name (i := 2) scLSTold.nd rfl (Or.inl rfl)) (pgs_cons (pg_name (i := 3) scLSTold.nd rfl (Or.inl rfl)) pgs_nil)))) (fun _ _ _ _ _ => pts_nil)
        (fun _ _ _ _ _ => pe_tup (pa_cons (pv 1) (pa_cons (pv 2) (pa_cons (pe_call GH hr (by rfl) dH.m dH.F.kp dH.b .nil pass0 (pa_cons (pv 3) pa_nil)) pa_nil))))) pa_nil)) pa_nil))), ?_⟩
    refine s_retD (d := toldH (n + 1) x) (ed_tupOf (ed_sorted (ed_map (m := toldR n) (ei_seq (ed_var rfl r) hL) hl ?_) (told_sortOk (by omega) hall))) e0 fun v5 H5 e5 r5 => q v5 H5 e5 r5
    intro d2 y H2 e2 hd ry
    obtain ⟨hL2, k, m, p, hi, hp⟩ := hall d2 hd
    obtain ⟨v1, v2, v3, r1, r2, r3, hg⟩ := eg_unp3 (σ := wipe (start ["records", "kind", "mark", "parts"] [v]) [1, 2, 3]) (i := 1) (j := 2) (k := 3) ry hL2 hi
    refine ⟨_, hg, rfl, ?_⟩
    rw [toldR_of hi]
    exact ed_tup (ead_cons (ed_var rfl r1) (ead_cons (ed_var rfl r2) (ead_cons (ed_call (ds := [p]) (ead_cons (ed_var rfl r3) ead_nil) rfl ⟨p, rfl, hp⟩) ead_nil))) (by show (3 : Nat) ≤ 30000; decide)
theorem scLSSize : FnScope ["records", "record"] ["records"] (defScope sLSSize) := ⟨rfl, rfl, rfl, by decide +kernel, rfl, by decide +kernel, by decide +kernel⟩
theorem ok_s_size (dS : Def K mg "_law_s_size" sLSSize ["records"]) (N : Nm mg) : ∀ n, FnOk P w K mg base CX0 (n + 1) dS.f dS.fd ["records"] (spSizeH K CK n)
  | 0 => by
    refine dS.F.ok scLSSize (fun vs H Q E h => spD_len h) (fun cdv A outer s H vs Q E hr h => ?_)
    obtain ⟨x, v, H0, rfl, e0, r, ⟨x', hx, hH⟩, q⟩ := spD1 h
    exact hH.elim
  | n + 1 => by
    have GS := ok_s_size dS N n
    refine dS.F.ok scLSSize (fun vs H Q E h => spD_len h) (fun cdv A outer s H vs Q E hr h => ?_)
    obtain ⟨x, v, H0, rfl, e0, r, ⟨x', hx, ⟨hL, hl, hall⟩⟩, q⟩ := spD1 h
    cases hx
    refine ⟨_, pss_one (ps_ret (pe_callB (cr_sum rfl) (by rfl) N.sum boot_sum (pa_cons (pe_lc (own := [("record", 1)]) (g := gName 1) (tt := tYes) rfl scLSSize.nd (pi_seq (pv 0)) (blkOk_by (N := ["records", "record"]) (sc := defScope sLSSize) (by decide +kernel))
        (fun _ _ _ _ _ => pg_name (i := 1) scLSSize.nd rfl (Or.inl rfl)) (fun _ _ _ _ _ => pts_nil)
        (fun _ _ _ _ _ => pe_op op_add pe_int (pe_call GS hr (by rfl) dS.m dS.F.kp dS.b .nil pass0 (pa_cons (pe_ix (r := rIxLT K) ix_lt (pv 1) pe_int (fun _ _ => rfl)) pa_nil)))) pa_nil))), ?_⟩
    refine s_ret (v := .int (sizeH (n + 1) x)) (Ev.mono e0 (ev_is (ev_sumD (CK := CK) (ns := x.items.map (sizeR n)) ?_) rfl)) fun H1 e => q _ H1 e rfl
    rw [List.map_map]
    refine ed_map (m := D.int ∘ sizeR n) (ei_seq (ed_var rfl r) hL) hl fun d2 y H2 e2 hd ry => ?_
    obtain ⟨hL2, k, m, p, hi, hp⟩ := hall d2 hd
    have e : (D.int ∘ sizeR n) d2 = D.int (1 + sizeH n p) := by
      show D.int (sizeR n d2) = _
      unfold sizeR
      rw [hi]
    rw [e]
    exact ⟨_, eg_name, rfl, Ev.d (ev_addI ev_c (EvD.i (ed_call (ds := [p]) (ead_cons (ed_ix (j := 2) (ed_var rfl ry) ev_c hL2 (by rw [hi]; rfl)) ead_nil) rfl ⟨p, rfl, hp⟩))) rfl⟩
end
end Any
set_option Elab.async false
set_option linter.all false
set_option maxRecDepth 100000
set_option maxHeartbeats 1000000
namespace Any
open PySem PySem.Spec PyProof.Rows L2 Evl
abbrev cKinds : Stmt := topS 16
abbrev sKInit : Stmt := inClass cKinds 0
abbrev sKAll : Stmt := inClass cKinds 3
abbrev sKAbove : Stmt := inClass cKinds 4
abbrev sKMarks : Stmt := inClass cKinds 5
abbrev sKParts : Stmt := inClass cKinds 8
abbrev sKRowOf : Stmt := inClass cKinds 10
abbrev sNeedKinds : Stmt := topS 17
/-- a method of the class -/
structure MDef (K : PySem.W.Frag) (CK : Addr) (x q : Str) (st : Stmt) (ps : List Str) where
  f : Addr
  fd : FuncData
  F : Fun K x q st f fd
  b : Binds K fd ps []
  m : Meth K CK x f
structure KNm (K : PySem.W.Frag) (CK : Addr) : Prop where
  nR : NoAttr K CK "_rows"
  nP : NoAttr K CK "_parts"
def valD (kvs : List (Key × D)) (k : Key) : Option D := (kvs.find? fun kv => decide (kv.1 = k)).map Prod.snd
section
variable {K : PySem.W.Frag} {CK : Addr} {H H' H0 : Hp} {σ : L2.St} {X : Cx}
/-- what is never reached -/
theorem ps_no {s : Stmt} : PS X s (fun _ _ _ => False) := ⟨fun _ _ _ _ _ _ h => h.elim⟩
theorem RepK.keys : ∀ {kvs : List (Key × D)} {ps : List (Key × V)}, RepK K CK H kvs ps → ps.map (·.1) = kvs.map (·.1)
  | [], _, h => by rw [show _ = [] from h]; rfl
  | (k, d) :: kvs, _, ⟨v, r, rfl, _, h3⟩ => by rw [List.map_cons, List.map_cons, RepK.keys h3]
theorem RepK.len : ∀ {kvs : List (Key × D)} {ps : List (Key × V)}, RepK K CK H kvs ps → ps.length = kvs.length := fun h => by
  have := congrArg List.length (RepK.keys h)
  rwa [List.length_map, List.length_map] at this
theorem RepK.val {k : Key} {d : D} : ∀ {kvs : List (Key × D)} {ps : List (Key × V)}, RepK K CK H kvs ps → valD kvs k = some d → ∃ u, valV ps k = some u ∧ Rep K CK H d u
  | [], _, _, e => by cases e
  | (k2, d2) :: kvs, _, ⟨v, r, rfl, h2, h3⟩, e => by
    unfold valD at e
    unfold valV
    by_cases c : k2 = k
    · rw [List.find?_cons_of_pos (by exact decide_eq_true c)] at e
      rw [List.find?_cons_of_pos (by exact decide_eq_true c)]
      cases e
      exact ⟨v, rfl, h2⟩
    · rw [List.find?_cons_of_neg (by simpa using c)] at e
      rw [List.find?_cons_of_neg (by simpa using c)]
      exact RepK.val h3 e
theorem RepK.some {k : Key} : ∀ {kvs : List (Key × D)} {ps : List (Key × V)}, RepK K CK H kvs ps → (valV ps k).isSome = (valD kvs k).isSome
  | [], _, h => by rw [show _ = [] from h]; rfl
  | (k2, d2) :: kvs, _, ⟨v, r, rfl, h2, h3⟩ => by
    unfold valD valV
    by_cases c : k2 = k
    · rw [List.find?_cons_of_pos (by exact decide_eq_true c), List.find?_cons_of_pos (by exact decide_eq_true c)]
      rfl
    · rw [List.find?_cons_of_neg (by simpa using c), List.find?_cons_of_neg (by simpa using c)]
      exact RepK.some h3
theorem RepF.look {x : Str} {d : D} : ∀ {fs : List (Str × D)} {gs : List (Str × V)}, RepF K CK H fs gs → fs.lookup x = some d → ∃ u, gs.lookup x = some u ∧ Rep K CK H d u
  | [], _, _, e => by cases e
  | (k2, d2) :: kvs, _, ⟨v, r, rfl, h2, h3⟩, e => by
    rw [List.lookup_cons] at e ⊢
    cases c : x == k2 with
    | true =>
      rw [c] at e
      cases e
      exact ⟨v, rfl, h2⟩
    | false =>
      rw [c] at e
      exact RepF.look h3 e
theorem RepF.none {x : Str} : ∀ {fs : List (Str × D)} {gs : List (Str × V)}, RepF K CK H fs gs → fs.lookup x = none → gs.lookup x = none
  | [], _, h, _ => by rw [show _ = [] from h]; rfl
  | (k2, d2) :: kvs, _, ⟨v, r, rfl, h2, h3⟩, e => by
    rw [List.lookup_cons] at e ⊢
    cases c : x == k2 with
    | true =>
      rw [c] at e
      cases e
    | false =>
      rw [c] at e
      exact RepF.none h3 e
/-- a pure def, by what it answers -/
def spX (K : PySem.W.Frag) (CK : Addr) (n : Nat) (R : List D → D → Prop) : Sp := fun vs H Q _ => ∃ ds d H0, ds.length = n ∧ Ex H0 H ∧ RepL K CK H0 ds vs ∧ R ds d ∧ ∀ v H', Ex H H' → Rep K CK (hid H0 H H') d v → Q v H'
theorem spX_len {n : Nat} {R : List D → D → Prop} {vs : List V} {Q : VK} {E : XK} (h : spX K CK n R vs H Q E) : vs.length = n := by
  obtain ⟨ds, d, H0, h1, _, h2, _⟩ := h
  rw [h2.len, h1]
theorem ed_callX {n : Nat} {R : List D → D → Prop} {E : XK} {ta : TA} {ds : List D} {d : D} (h : EvAD K CK ta σ H ds) (hn : ds.length = n) (hp : R ds d) : EvD K CK (tCall (spX K CK n R) [] E ta) σ H d := fun H1 e Q q =>
  h H1 e _ fun vs H2 e2 r => ⟨ds, d, hid H H1 H2, hn, hid_sub, by rw [List.append_nil]; exact r, hp, fun v H' e3 r3 => q v H' (e2.trans e3) (by rw [hid_hid e e2] at r3; exact r3)⟩
theorem spX1 {R : List D → D → Prop} {vs : List V} {Q : VK} {E : XK} (h : spX K CK 1 R vs H Q E) : ∃ x d v H0, vs = [v] ∧ Ex H0 H ∧ Rep K CK H0 x v ∧ R [x] d ∧ ∀ v H', Ex H H' → Rep K CK (hid H0 H H') d v → Q v H' := by
  obtain ⟨ds, d, H0, hn, e, r, hp, q⟩ := h
  match ds, hn with
  | [x], _ =>
    obtain ⟨v, rfl, r2⟩ := RepL.one r
    exact ⟨x, d, v, H0, rfl, e, r2, hp, q⟩
theorem spX2 {R : List D → D → Prop} {vs : List V} {Q : VK} {E : XK} (h : spX K CK 2 R vs H Q E) : ∃ x y d v w H0, vs = [v, w] ∧ Ex H0 H ∧ Rep K CK H0 x v ∧ Rep K CK H0 y w ∧ R [x, y] d ∧ ∀ v H', Ex H H' → Rep K CK (hid H0 H H') d v → Q v H' := by
  obtain ⟨ds, d, H0, hn, e, r, hp, q⟩ := h
  match ds, hn with
  | [x, y], _ =>
    obtain ⟨v, w, rfl, r1, r2⟩ := RepL.two r
    exact ⟨x, y, d, v, w, H0, rfl, e, r1, r2, hp, q⟩
theorem spX4 {R : List D → D → Prop} {vs : List V} {Q : VK} {E : XK} (h : spX K CK 4 R vs H Q E) : ∃ x y z t d v w u p H0, vs = [v, w, u, p] ∧ Ex H0 H ∧ Rep K CK H0 x v ∧ Rep K CK H0 y w ∧ Rep K CK H0 z u ∧ Rep K CK H0 t p ∧ R [x, y, z, t] d ∧ ∀ v H', Ex H H' → Rep K CK (hid H0 H H') d v → Q v H' := by
  obtain ⟨ds, d, H0, hn, e, r, hp, q⟩ := h
  match ds, hn with
  | [x, y, z, t], _ =>
    obtain ⟨v, w, u, p, rfl, r1, r2, r3, r4⟩ := RepL.four r
    exact ⟨x, y, z, t, d, v, w, u, p, H0, rfl, e, r1, r2, r3, r4, hp, q⟩
theorem ed_fld {te : TE} {fs : List (Str × D)} {x : Str} {d : D} (c : Cls K CK) (n : NoAttr K CK x) (h : EvD K CK te σ H (.obj fs)) (l : fs.lookup x = some d) : EvD K CK (tFld K te x) σ H d := fun H1 e Q q =>
  h H1 e _ fun v H2 e2 r => by
    obtain ⟨a, dx, gs, rfl, h1, h2⟩ := r
    obtain ⟨u, hu, ru⟩ := h2.look l
    exact ⟨a, CK, dx, gs, u, rfl, hid_sub _ _ h1, c, n, hu, q u H2 e2 ru⟩
theorem ed_meth {n : Nat} {R : List D → D → Prop} {E : XK} {te : TE} {ta : TA} {m : Str} {fs : List (Str × D)} {ds : List D} {d : D} (h : EvD K CK te σ H (.obj fs)) (l : fs.lookup m = none) (ha : EvAD K CK ta σ H ds) (hn : ds.length + 1 = n) (hp : R (.obj fs :: ds) d) :
    EvD K CK (tMeth CK m (spX K CK n R) [] E te ta) σ H d := fun H1 e Q q => h H1 e _ fun v H2 e2 r => by
  obtain ⟨a, dx, gs, rfl, h1, h2⟩ := id r
  refine ⟨a, dx, gs, rfl, hid_sub _ _ h1, h2.none l, ?_⟩
  refine ha H2 (e.trans e2) _ fun vs H3 e3 r3 => ⟨.obj fs :: ds, d, hid H H1 H3, hn, hid_sub, ?_, hp, fun w H' e4 r4 => q w H' (e2.trans (e3.trans e4)) (by rw [hid_hid e (e2.trans e3)] at r4; exact r4)⟩
  rw [List.append_nil]
  exact ⟨_, _, rfl, Rep.ex (hid_mono e3) r, RepL.ex (hid_le e2) r3⟩
theorem ed_dgetD {ta tb : TE} {kvs : List (Key × D)} {k : Str} {d : D} (h : EvD K CK ta σ H (.dct kvs)) (hb : EvD K CK tb σ H (.str k)) (hv : valD kvs (Sum.inr k) = some d) : EvD K CK (tDGet ta tb) σ H d := fun H1 e Q q =>
  h H1 e _ fun v H2 e2 r => hb H2 (e.trans e2) _ fun v3 H3 e3 r3 => by
    obtain ⟨a, ps, rfl, h1, h2⟩ := r
    obtain ⟨u, hu, ru⟩ := h2.val hv
    rw [show v3 = V.str k from r3.1]
    exact ⟨a, u, rfl, .inl ⟨ps, Sum.inr k, .inl (e3 _ _ (hid_sub _ _ h1)), rfl, hu.symm⟩, q u H3 (e2.trans e3) (ru.ex (hid_mono e3))⟩
theorem has_dct {te : TE} {kvs : List (Key × D)} (h : EvD K CK te σ H (.dct kvs)) : EvP te σ H (fun v H => Has H v (fun z => (valD kvs (Sum.inr z)).isSome)) := fun H1 e Q q =>
  h H1 e Q fun v H2 e2 r => q v H2 e2 (by
    obtain ⟨a, ps, rfl, h1, h2⟩ := r
    have e : (fun z : Str => (valD kvs (Sum.inr z)).isSome) = fun z => (valV ps (Sum.inr z)).isSome := funext fun z => (RepK.some h2).symm
    rw [e]
    exact .dct h1)
def kD : Key → D
  | .inl i => .int i
  | .inr x => .str x
def keysOk (kvs : List (Key × D)) : Prop := kvs.length ≤ 30000 ∧ ∀ kv ∈ kvs, match kv.1 with | .inr x => x.length ≤ 1000 | .inl _ => True
theorem repL_keys : ∀ {ks : List Key}, (∀ k ∈ ks, match k with | .inr x => x.length ≤ 1000 | .inl _ => True) → RepL K CK H (ks.map kD) (ks.map kV)
  | [], _ => rfl
  | k :: ks, h => ⟨kV k, ks.map kV, rfl, by
      have := h k List.mem_cons_self
      cases k with
      | inl i => rfl
      | inr x => exact ⟨rfl, this⟩, repL_keys fun k hk => h k (List.mem_cons_of_mem _ hk)⟩
theorem ed_listD {te : TE} {kvs : List (Key × D)} (h : EvD K CK te σ H (.dct kvs)) (ok : keysOk kvs) : EvD K CK (tCB rListD (tCons te tNil)) σ H (.lst (kvs.map fun kv => kD kv.1)) := fun H1 e Q q =>
  h H1 e _ fun v H2 e2 r => by
    obtain ⟨a, ps, rfl, h1, h2⟩ := r
    refine ⟨a, ps, rfl, hid_sub _ _ h1, fun p hp => q _ _ (e2.trans (Ex.new hp)) ⟨p, _, rfl, hid_at (ex_none e2 hp) upd_same, by rw [List.length_map]; exact ok.1, ?_⟩⟩
    rw [show ps.map (fun kv => kV kv.1) = (kvs.map (·.1)).map kV by rw [← h2.keys, List.map_map]; rfl, show kvs.map (fun kv => kD kv.1) = (kvs.map (·.1)).map kD by rw [List.map_map]; rfl]
    exact repL_keys fun k hk => by
      obtain ⟨kv, hkv, rfl⟩ := List.mem_map.mp hk
      exact ok.2 kv hkv
/-- list(xs) of a list or a tuple -/
theorem ed_listOf {te : TE} {d : D} (h : EvD K CK te σ H d) (hL : d.isL = true) :
    EvD K CK (tCB (fun xs H Q => ∃ p ys, xs = [V.ref p] ∧ (SqL K H p ys ∨ SqT K H p ys) ∧ ∀ l, H l = none → Q (.ref l) (upd H l (.lst ys))) (tCons te tNil)) σ H (.lst d.items) := fun H1 e Q q =>
  h H1 e _ fun v H2 e2 r => by
    cases d with
    | lst xs =>
      obtain ⟨a, vs, rfl, h1, hl, h2⟩ := r
      exact ⟨a, vs, rfl, .inl (sq_of (hid_sub _ _ h1)), fun p hp => q _ _ (e2.trans (Ex.new hp)) ⟨p, vs, rfl, hid_at (ex_none e2 hp) upd_same, hl, RepL.ex (hid_mono (Ex.new hp)) h2⟩⟩
    | tup xs =>
      obtain ⟨a, vs, rfl, h1, hl, h2⟩ := r
      exact ⟨a, vs, rfl, .inr (st_of (hid_sub _ _ h1)), fun p hp => q _ _ (e2.trans (Ex.new hp)) ⟨p, vs, rfl, hid_at (ex_none e2 hp) upd_same, hl, RepL.ex (hid_mono (Ex.new hp)) h2⟩⟩
    | _ => cases hL
end
/-! ### kinds -/
def rowD (r : Row) : D := .tup [.str r.kind, .str r.above, .tup (r.marks.map D.str), .bl r.lasts]
def rowsK (rs : List Row) : List (Key × D) := rs.map fun r => (Sum.inr r.kind, rowD r)
def inKind (rs : List Row) (a : Str) : List Str := (rs.filter fun r => decide (r.above = a)).map (·.kind)
def partsK (rs : List Row) : List (Key × D) := (Str.empty :: rs.map (·.kind)).map fun a => (Sum.inr a, .lst ((inKind rs a).map D.str))
def kFields (rs : List Row) : List (Str × D) := [("_rows", .dct (rowsK rs)), ("_parts", .dct (partsK rs))]
def kindsD (rs : List Row) : D := .obj (kFields rs)
/-- kinds as they stand behind __init__ -/
structure KOk (rs : List Row) : Prop where
  nd : (rs.map (·.kind)).Nodup
  nm : ∀ r ∈ rs, isNameS r.kind = true
  few : rs.length ≤ 1000
  ab : ∀ r ∈ rs, r.above = Str.empty ∨ r.above ∈ rs.map (·.kind)
theorem ne_fields : ¬ (("_parts" : Str) = "_rows") := by decide +kernel
theorem look_rows (rs : List Row) : (kFields rs).lookup ("_rows" : Str) = some (.dct (rowsK rs)) := by
  unfold kFields
  rw [List.lookup_cons, beq_self_eq_true]
theorem look_parts (rs : List Row) : (kFields rs).lookup ("_parts" : Str) = some (.dct (partsK rs)) := by
  unfold kFields
  rw [List.lookup_cons, beq_eq_false_iff_ne.mpr ne_fields, List.lookup_cons, beq_self_eq_true]
theorem look_no (rs : List Row) {x : Str} (h1 : ¬ x = "_rows") (h2 : ¬ x = "_parts") : (kFields rs).lookup x = none := by
  unfold kFields
  rw [List.lookup_cons, beq_eq_false_iff_ne.mpr h1, List.lookup_cons, beq_eq_false_iff_ne.mpr h2]
  rfl
theorem find_map {α β : Type} {f : α → Key × β} {p : Key} : ∀ {l : List α} {x : α}, x ∈ l → (f x).1 = p → (∀ y ∈ l, (f y).1 = p → y = x) → ((l.map f).find? fun kv => decide (kv.1 = p)) = some (f x)
  | [], _, h, _, _ => by cases h
  | y :: l, x, h, e, u => by
    rw [List.map_cons]
    by_cases c : (f y).1 = p
    · rw [List.find?_cons_of_pos (by exact decide_eq_true c), u y List.mem_cons_self c]
    · rw [List.find?_cons_of_neg (by simpa using c)]
      rcases List.mem_cons.mp h with rfl | h
      · exact absurd e c
      · exact find_map h e fun z hz => u z (List.mem_cons_of_mem _ hz)
theorem KOk.inj {rs : List Row} (ok : KOk rs) {r s : Row} (hr : r ∈ rs) (hs : s ∈ rs) (e : r.kind = s.kind) : r = s := by
  obtain ⟨i, hi, rfl⟩ := List.mem_iff_getElem.mp hr
  obtain ⟨j, hj, rfl⟩ := List.mem_iff_getElem.mp hs
  have l1 : i < (rs.map (·.kind)).length := by rw [List.length_map]; exact hi
  have l2 : j < (rs.map (·.kind)).length := by rw [List.length_map]; exact hj
  have eq : (rs.map (·.kind))[i] = (rs.map (·.kind))[j] := by rw [List.getElem_map, List.getElem_map, e]
  obtain rfl := (List.getElem_inj ok.nd).mp eq
  rfl
theorem val_rows {rs : List Row} (ok : KOk rs) {r : Row} (hr : r ∈ rs) : valD (rowsK rs) (Sum.inr r.kind) = some (rowD r) := by
  unfold valD rowsK
  rw [find_map (f := fun r : Row => ((Sum.inr r.kind : Key), rowD r)) (p := Sum.inr r.kind) hr rfl fun y hy e => ok.inj hy hr (Sum.inr.inj e)]
  rfl
theorem some_rows (rs : List Row) (k : Str) : (valD (rowsK rs) (Sum.inr k)).isSome = decide (k ∈ rs.map (·.kind)) := by
  unfold valD rowsK
  induction rs with
  | nil => rfl
  | cons r rs ih =>
    rw [List.map_cons]
    by_cases c : r.kind = k
    · rw [List.find?_cons_of_pos (by exact decide_eq_true (congrArg Sum.inr c)), List.map_cons, decide_eq_true (by rw [c]; exact List.mem_cons_self)]
      rfl
    · rw [List.find?_cons_of_neg (by simpa using fun z : (Sum.inr r.kind : Key) = Sum.inr k => c (Sum.inr.inj z)), ih, List.map_cons]
      by_cases m : k ∈ rs.map (·.kind)
      · rw [decide_eq_true m, decide_eq_true (List.mem_cons_of_mem _ m)]
      · rw [decide_eq_false m, decide_eq_false (fun z => (List.mem_cons.mp z).elim (fun e => c e.symm) m)]
theorem val_parts (rs : List Row) {a : Str} (h : a = Str.empty ∨ a ∈ rs.map (·.kind)) : valD (partsK rs) (Sum.inr a) = some (.lst ((inKind rs a).map D.str)) := by
  unfold valD partsK
  rw [find_map (f := fun a : Str => ((Sum.inr a : Key), D.lst ((inKind rs a).map D.str))) (p := Sum.inr a) (x := a) (by rcases h with rfl | h; exact List.mem_cons_self; exact List.mem_cons_of_mem _ h) rfl fun y hy e => Sum.inr.inj e]
  rfl
section
variable {P : Program} {w : World} {K : PySem.W.Frag} {mg : Str → Option Value} {base : Heap} {CK : Addr}
theorem name_len {x : Str} (h : isNameS x = true) : x.length ≤ 1000 := by
  unfold isNameS at h
  rw [Bool.and_eq_true, Bool.and_eq_true] at h
  have := of_decide_eq_true h.1.2
  omega
theorem KOk.keys {rs : List Row} (ok : KOk rs) : keysOk (rowsK rs) := by
  refine ⟨by unfold rowsK; rw [List.length_map]; have := ok.few; omega, fun kv hkv => ?_⟩
  obtain ⟨r, hr, rfl⟩ := List.mem_map.mp hkv
  exact name_len (ok.nm r hr)
theorem scKAll : FnScope ["self"] ["self"] (defScope sKAll) := ⟨rfl, rfl, rfl, by decide +kernel, rfl, by decide +kernel, by decide +kernel⟩
abbrev spKAll (K : PySem.W.Frag) (CK : Addr) : Sp := spX K CK 1 (fun ds d => ∃ rs, ds = [kindsD rs] ∧ KOk rs ∧ d = .lst (rs.map fun r => .str r.kind))
theorem ok_all_kinds (d : MDef K CK "all_kinds" "Kinds.all_kinds" sKAll ["self"]) (T : KCls K CK) (KN : KNm K CK) (N : Nm mg) : FnOk P w K mg base CX0 1 d.f d.fd ["self"] (spKAll K CK) := by
  refine d.F.ok scKAll (fun vs H Q E h => spX_len h) (fun cdv A outer s H vs Q E hr h => ?_)
  obtain ⟨x, d, v, H0, rfl, e0, r, ⟨rs, hx, ok, rfl⟩, q⟩ := spX1 h
  cases hx
  refine ⟨_, pss_one (ps_ret (pe_callTy (call_list_dK rfl) (by rfl) N.list boot_list (pa_cons (pe_fld (pv 0) rfl) pa_nil))), ?_⟩
  refine s_retD (ed_listD (ed_fld T.cl KN.nR (ed_var rfl r) (look_rows rs)) ok.keys) e0 fun v5 H5 e5 r5 => q v5 H5 e5 ?_
  rw [show (rowsK rs).map (fun kv => kD kv.1) = rs.map fun r => D.str r.kind by unfold rowsK; rw [List.map_map]; rfl] at r5
  exact r5
theorem scKRowOf : FnScope ["self", "kind"] ["self", "kind"] (defScope sKRowOf) := ⟨rfl, rfl, rfl, by decide +kernel, rfl, by decide +kernel, by decide +kernel⟩
abbrev spKRowOf (K : PySem.W.Frag) (CK : Addr) : Sp := spX K CK 2 (fun ds d => ∃ rs r, ds = [kindsD rs, .str r.kind] ∧ KOk rs ∧ r ∈ rs ∧ d = rowD r)
theorem ok_row_of (d : MDef K CK "_row_of" "Kinds._row_of" sKRowOf ["self", "kind"]) (dOO : Def K mg "is_one_of" sIsOneOf ["thing", "names"]) (T : KCls K CK) (KN : KNm K CK) (N : Nm mg) : FnOk P w K mg base CX0 2 d.f d.fd ["self", "kind"] (spKRowOf K CK) := by
  have G1 : FnOk P w K mg base CX0 1 dOO.f dOO.fd ["thing", "names"] (spIsOneOf K CK) := ok_is_one_of dOO T N
  refine d.F.ok scKRowOf (fun vs H Q E h => spX_len h) (fun cdv A outer s H vs Q E hr h => ?_)
  obtain ⟨x, y, d, v, v2, H0, rfl, e0, r, r2, ⟨rs, ro, hx, ok, hm, rfl⟩, q⟩ := spX2 h
  cases hx
  have hu := hu_of hr
  refine ⟨_, pss_cons (ps_if (pt_not (pt_val (pe_call G1 hr (by rfl) dOO.m dOO.F.kp dOO.b .nil pass0 (pa_cons (pv 1) (pa_cons (pe_fld (pv 0) rfl) pa_nil))))) (pss_one ps_no) pss_nil)
    (pss_one (ps_ret (pe_dget hu (pe_fld (pv 0) rfl) (pv 1) (fun _ _ => rfl)))), ?_⟩
  refine q_when (b := false) (Evl.EvT.mono e0 (et_is (et_not (et_B (ev_oneOf (ed_var rfl r2) (has_dct (ed_fld T.cl KN.nR (ed_var rfl r) (look_rows rs)))))) ?_)) (fun z => by cases z) fun _ H1 e1 => ?_
  · show (!(valD (rowsK rs) (Sum.inr ro.kind)).isSome) = false
    rw [val_rows ok hm]
    rfl
  · exact s_retD (ed_dgetD (ed_fld T.cl KN.nR (ed_var rfl r) (look_rows rs)) (ed_var rfl r2) (val_rows ok hm)) (e0.trans e1) fun v5 H5 e5 r5 => q v5 H5 (e1.trans e5) (r5.ex (hid_le e1))
theorem scKAbove : FnScope ["self", "kind"] ["self", "kind"] (defScope sKAbove) := ⟨rfl, rfl, rfl, by decide +kernel, rfl, by decide +kernel, by decide +kernel⟩
abbrev spKAbove (K : PySem.W.Frag) (CK : Addr) : Sp := spX K CK 2 (fun ds d => ∃ rs r, ds = [kindsD rs, .str r.kind] ∧ KOk rs ∧ r ∈ rs ∧ d = .str r.above)
theorem ok_above (d : MDef K CK "above" "Kinds.above" sKAbove ["self", "kind"]) (dR : MDef K CK "_row_of" "Kinds._row_of" sKRowOf ["self", "kind"]) (dOO : Def K mg "is_one_of" sIsOneOf ["thing", "names"]) (T : KCls K CK) (KN : KNm K CK) (N : Nm mg) : FnOk P w K mg base CX0 3 d.f d.fd ["self", "kind"] (spKAbove K CK) := by
  have GR : FnOk P w K mg base CX0 2 dR.f dR.fd ["self", "kind"] (spKRowOf K CK) := ok_row_of dR dOO T KN N
  refine d.F.ok scKAbove (fun vs H Q E h => spX_len h) (fun cdv A outer s H vs Q E hr h => ?_)
  obtain ⟨x, y, d, v, v2, H0, rfl, e0, r, r2, ⟨rs, ro, hx, ok, hm, rfl⟩, q⟩ := spX2 h
  cases hx
  refine ⟨_, pss_one (ps_ret (pe_ix (r := rIxLT K) ix_lt (pe_meth (pv 0) T.cl dR.m GR hr dR.b .nil pass0 (pa_cons (pv 1) pa_nil)) pe_int (fun _ _ => rfl))), ?_⟩
  exact s_retD (ed_ix (d := rowD ro) (j := 1) (ed_meth (fs := kFields rs) (ds := [.str ro.kind]) (ed_var rfl r) (look_no rs (by decide +kernel) (by decide +kernel)) (ead_cons (ed_var rfl r2) ead_nil) rfl ⟨rs, ro, rfl, ok, hm, rfl⟩) ev_c rfl rfl) e0 fun v5 H5 e5 r5 => q v5 H5 e5 r5
theorem scKMarks : FnScope ["self", "kind"] ["self", "kind"] (defScope sKMarks) := ⟨rfl, rfl, rfl, by decide +kernel, rfl, by decide +kernel, by decide +kernel⟩
abbrev spKMarks (K : PySem.W.Frag) (CK : Addr) : Sp := spX K CK 2 (fun ds d => ∃ rs r, ds = [kindsD rs, .str r.kind] ∧ KOk rs ∧ r ∈ rs ∧ d = .lst (r.marks.map D.str))
theorem ok_marks (d : MDef K CK "marks" "Kinds.marks" sKMarks ["self", "kind"]) (dR : MDef K CK "_row_of" "Kinds._row_of" sKRowOf ["self", "kind"]) (dOO : Def K mg "is_one_of" sIsOneOf ["thing", "names"]) (T : KCls K CK) (KN : KNm K CK) (N : Nm mg) : FnOk P w K mg base CX0 3 d.f d.fd ["self", "kind"] (spKMarks K CK) := by
  have GR : FnOk P w K mg base CX0 2 dR.f dR.fd ["self", "kind"] (spKRowOf K CK) := ok_row_of dR dOO T KN N
  refine d.F.ok scKMarks (fun vs H Q E h => spX_len h) (fun cdv A outer s H vs Q E hr h => ?_)
  obtain ⟨x, y, d, v, v2, H0, rfl, e0, r, r2, ⟨rs, ro, hx, ok, hm, rfl⟩, q⟩ := spX2 h
  cases hx
  refine ⟨_, pss_one (ps_ret (pe_callTy call_list_of (by rfl) N.list boot_list (pa_cons (pe_ix (r := rIxLT K) ix_lt (pe_meth (pv 0) T.cl dR.m GR hr dR.b .nil pass0 (pa_cons (pv 1) pa_nil)) pe_int (fun _ _ => rfl)) pa_nil))), ?_⟩
  exact s_retD (ed_listOf (d := .tup (ro.marks.map D.str)) (ed_ix (d := rowD ro) (j := 2) (ed_meth (fs := kFields rs) (ds := [.str ro.kind]) (ed_var rfl r) (look_no rs (by decide +kernel) (by decide +kernel)) (ead_cons (ed_var rfl r2) ead_nil) rfl ⟨rs, ro, rfl, ok, hm, rfl⟩) ev_c rfl rfl) rfl) e0 fun v5 H5 e5 r5 => q v5 H5 e5 r5
theorem scKParts : FnScope ["self", "kind"] ["self", "kind"] (defScope sKParts) := ⟨rfl, rfl, rfl, by decide +kernel, rfl, by decide +kernel, by decide +kernel⟩
abbrev spKParts (K : PySem.W.Frag) (CK : Addr) : Sp := spX K CK 2 (fun ds d => ∃ rs a, ds = [kindsD rs, .str a] ∧ KOk rs ∧ (a = Str.empty ∨ a ∈ rs.map (·.kind)) ∧ d = .lst ((inKind rs a).map D.str))
theorem ok_parts (d : MDef K CK "parts" "Kinds.parts" sKParts ["self", "kind"]) (dOO : Def K mg "is_one_of" sIsOneOf ["thing", "names"]) (T : KCls K CK) (KN : KNm K CK) (N : Nm mg) : FnOk P w K mg base CX0 2 d.f d.fd ["self", "kind"] (spKParts K CK) := by
  have G1 : FnOk P w K mg base CX0 1 dOO.f dOO.fd ["thing", "names"] (spIsOneOf K CK) := ok_is_one_of dOO T N
  refine d.F.ok scKParts (fun vs H Q E h => spX_len h) (fun cdv A outer s H vs Q E hr h => ?_)
  obtain ⟨x, y, d, v, v2, H0, rfl, e0, r, r2, ⟨rs, a, hx, ok, hm, rfl⟩, q⟩ := spX2 h
  cases hx
  have hu := hu_of hr
  refine ⟨_, pss_cons (ps_if (pt_not (pt_val (pe_call G1 hr (by rfl) dOO.m dOO.F.kp dOO.b .nil pass0 (pa_cons (pv 1) (pa_cons (pe_fld (pv 0) rfl) pa_nil))))) (pss_one ps_no) pss_nil)
    (pss_one (ps_ret (pe_callTy call_list_of (by rfl) N.list boot_list (pa_cons (pe_dget hu (pe_fld (pv 0) rfl) (pv 1) (fun _ _ => rfl)) pa_nil)))), ?_⟩
  refine q_when (b := false) (Evl.EvT.mono e0 (et_is (et_not (et_B (ev_oneOf (ed_var rfl r2) (has_dct (ed_fld T.cl KN.nP (ed_var rfl r) (look_parts rs)))))) ?_)) (fun z => by cases z) fun _ H1 e1 => ?_
  · show (!(valD (partsK rs) (Sum.inr a)).isSome) = false
    rw [val_parts rs hm]
    rfl
  · exact s_retD (ed_listOf (d := .lst ((inKind rs a).map D.str)) (ed_dgetD (ed_fld T.cl KN.nP (ed_var rfl r) (look_parts rs)) (ed_var rfl r2) (val_parts rs hm)) rfl) (e0.trans e1) fun v5 H5 e5 r5 => q v5 H5 (e1.trans e5) (r5.ex (hid_le e1))
end
end Any
set_option Elab.async false
set_option linter.all false
set_option maxRecDepth 100000
set_option maxHeartbeats 4000000
/-! sorted(t), t a tuple -/
namespace Any
open PySem PySem.Calls PyProof.Rows PySem.W
section
variable {prog : Program} {w : World} {A : Around} {E : Value → Shared → Prop} {s : Shared} {β : Type} {vs : List Value} {bs : List β} {enc : β → PyData} {R : Value → β → Prop}
def grown (h : Heap) (vs : List Value) : Heap := (h.push (seqObj "list" #[] 0)).update h.objs.size (Obj.mapSeq (· ++ vs.toArray))
theorem collT {t : Addr} {Q : List Value → Shared → Prop} (ht : s.heap.IsTuple t vs.toArray) (hz : vs.length ≤ sizeLine) (h : Q vs { s with heap := grown s.heap vs }) : wpAny (model prog w) A (collect (.ref t)) Q E s := by
  obtain ⟨ob, hob, hcl, ep, hdt⟩ := id ht
  unfold collect; refine wpAny_bind (wpAny_runValue (codeAny_builtin entry_proto_collect' ?_))
  show wpAny _ _ (do again (.builtin "list.__iadd__" ⟨[← newList [], .ref t], []⟩)) _ _ s
  refine wpAny_bind (wpAny_newList (wpAny_pure ⟨Code.quiet_builtin _ (by decide +kernel), codeAny_builtin entry_list_iadd' (by
    show wpAny _ _ (Builtin.List.listExtendWith (.ref s.heap.objs.size) (.ref t) (.ref s.heap.objs.size)) _ _ { s with heap := s.heap.push (seqObj "list" #[] 0) }
    have hob' : (s.heap.push (seqObj "list" #[] 0)).get? t = some ob := Heap.get?_push_of_some _ hob
    have y1 : (Value.type "tuple" == Value.type "tuple") = true := by rfl
    unfold Builtin.List.listExtendWith; refine wpAny_bind (wpAny_typeOf (T := "tuple") ⟨ob, hob', hcl⟩ ?_); rw [if_pos (by rw [y1]; simp)]
    refine wpAny_bind (listItems_at hob' hdt ?_); refine wpAny_bind (listItems_at (xs := #[]) (n := 0) (Heap.get?_push_size _ rfl) rfl ?_); rw [if_neg (by simp)]
    refine wpAny_bind (listUpdate_at (xs := #[]) (n := 0) (Heap.get?_push_size _ rfl) rfl ?_ (Nat.zero_le _) (by show (#[] ++ vs.toArray).size ≤ _; simp only [Array.size_append, List.size_toArray, List.length_nil]; omega)); refine wpAny_pure ?_
    show wpAny (model prog w) A (do
        let o ← load s.heap.objs.size
        match o.data with | .seq xs _ => pure xs.toList | _ => unsupported "internal:collect") Q E { s with heap := grown s.heap vs }
    refine wpAny_bind (wpAny_load (get?_update_seq (Heap.get?_push_size _ rfl) _) ?_); show wpAny _ _ (pure ((#[] : Array Value) ++ vs.toArray).toList) Q E _
    rw [show ((#[] : Array Value) ++ vs.toArray).toList = vs by simp]; exact wpAny_pure h)⟩))
theorem sortedT_data {t : Addr} {Q : Value → Shared → Prop} (ht : s.heap.IsTuple t vs.toArray) (e : EachIs R vs bs) (er : EachIs (fun v b => ∃ as, Reads s.heap v (enc b) as) vs bs) (hal : AllAlike (bs.map enc)) (hk : Sortable (bs.map enc))
    (hL : bs.length ≤ sizeLine) (hu : ∀ b, b ∈ bs → A.units + 2 + (enc b).depth < cLine) (h : ∀ out, out.length = bs.length → EachIs R out (bs.mergeSort (dataLe false enc)) → Q (.ref (s.heap.objs.size + 1)) { s with heap := sortedAll s.heap vs (List.toArray out) }) :
    wpAny (model prog w) A (call (.builtin "sorted") [.ref t]) Q E s := by
  have hz : vs.length ≤ sizeLine := by rw [e.length]; exact hL
  have er' : EachIs (fun v b => ∃ as, Reads (sortingHeap (copyHeap s.heap vs) (s.heap.objs.size + 1) vs) v (enc b) as) vs bs := er.mono fun v b hr => hr.elim fun as r => ⟨as, PyProof.Rows.Reads.keeps (fun _ _ => sorting_copy_old) r⟩
  have S := SortsAt.data (prog := prog) (w := w) (A := A.in1.in1) (s := { s with heap := sortingHeap (copyHeap s.heap vs) (s.heap.objs.size + 1) vs }) (each_map (R := fun v d => ∃ as, Reads (sortingHeap (copyHeap s.heap vs) (s.heap.objs.size + 1) vs) v d as) enc er') hal hk (bound_map hu)
  have hq := h _ (by rw [sortVals_length false rfl]; exact e.length) (sortVals_data (h' := sortingHeap (copyHeap s.heap vs) (s.heap.objs.size + 1) vs) false e er' hal)
  refine call_function_entry_kw kind_sorted plain_sorted entry_sorted (args_sorted1 _) ?_
  unfold Builtin.«sorted»; refine wpAny_bind (m := checkCount "sorted" 1 1 _) (wpAny_pure ?_); refine wpAny_bind (collT ht hz ?_); refine wpAny_bind (wpAny_newList ?_ hz)
  have hsz : (grown s.heap vs).objs.size = s.heap.objs.size + 1 := by unfold grown; rw [Heap.size_update, size_push']
  show wpAny _ _ _ _ _ { s with heap := copyHeap s.heap vs }; rw [hsz]
  refine wpAny_bind (wpAny_holding (wpAny_call_entry_kw slot_list_sort ⟨_, copyHeap_at s.heap vs, rfl⟩ entry_list_sort (list_sort_vals (s := { s with heap := copyHeap s.heap vs }) (copyHeap_at s.heap vs) S hz ⟨_, rfl, wpAny_pure ⟨_, rfl, hq⟩⟩) (args_list_sort _)))
end
end Any
namespace Any
open PySem PySem.Spec PyProof.Rows L2 Evl
section
variable {K : PySem.W.Frag} {CK : Addr} {H H' H0 : Hp} {σ : L2.St} {X : Cx}
/-- sorted(xs), xs a list or a tuple of data that are alike -/
def rSortedLT (K : PySem.W.Frag) (CK : Addr) : List V → Hp → VK → Prop := fun vs H Q => ∃ (a : Addr) (xs : List V) (ds : List D) (B : Hp), vs = [V.ref a] ∧ (SqL K H a xs ∨ SqT K H a xs) ∧ Ex B H ∧ RepL K CK B ds xs ∧ SortOk ds ∧
  ∀ (ys : List V) (p : Addr), RepL K CK B (sortD ds) ys → H p = none → Q (.ref p) (upd H p (.lst ys))
theorem cr_sortedLT (hu : X.A.units + 64 < cLine) : CallR X (.builtin "sorted") (rSortedLT X.K CK) := by
  intro pins s σ H vs us Q I r h
  obtain ⟨a, xs, ds, B, rfl, hs | hs, hB, hr, ok, q⟩ := h
  · exact cr_sortedDt hu pins s σ H _ us Q I r ⟨a, xs, ds, B, rfl, hs, hB, hr, ok, q⟩
  obtain ⟨its, rv, hl, hz⟩ := I.tuple hs
  rw [Vals.ref1 r]
  have hrH := RepL.ex hB hr
  obtain ⟨e1, e2⟩ := each_zip I hrH ok.fl rv
  have hlz : xs.length = ds.length := hr.len
  have em : (xs.zip ds).map (fun b : V × D => b.2.py) = ds.map D.py := by
    rw [show (fun b : V × D => b.2.py) = D.py ∘ Prod.snd from rfl, ← List.map_map, List.map_snd_zip (by omega)]
  refine sortedT_data (bs := xs.zip ds) (enc := fun b : V × D => b.2.py) (R := fun u (b : V × D) => RelV b.1 u) hl e1 e2 (by rw [em]; exact ok.al) (by rw [em]; exact ok.so) ?_ (fun b hb => ?_) fun out ho he => ?_
  · rw [List.length_zip]
    omega
  · have hm : b.2 ∈ ds := (List.of_mem_zip (a := b.1) (b := b.2) hb).2
    have := ok.dp _ hm
    show X.A.units + 2 + b.2.py.depth < cLine
    omega
  · have es : ((xs.zip ds).mergeSort (PySem.W.dataLe false fun b : V × D => b.2.py)).map Prod.snd = sortD ds := by
      have := List.map_mergeSort (r := PySem.W.dataLe false fun b : V × D => b.2.py) (s := leD) (f := Prod.snd) (l := xs.zip ds) (fun a _ b _ => by rw [PySem.W.dataLe_eq]; rfl)
      rw [this, List.map_snd_zip (by omega)]
      rfl
    have hy : RepL X.K CK B (sortD ds) (((xs.zip ds).mergeSort (PySem.W.dataLe false fun b : V × D => b.2.py)).map Prod.fst) := by
      rw [← es]
      refine RepL.ofPairs fun b hb => ?_
      exact RepL.zipAll hr b ((List.mergeSort_perm _ _).mem_iff.mp hb)
    have hv := each_vals he
    obtain ⟨ep, he'⟩ := PyProof.Rows.sortedAll_at s.heap its out.toArray
    have hlen : (((xs.zip ds).mergeSort (PySem.W.dataLe false fun b : V × D => b.2.py)).map Prod.fst).length ≤ sizeLine := by
      rw [List.length_map, List.length_mergeSort, List.length_zip]
      omega
    exact ⟨.ref _, upd H (s.heap.objs.size + 1) (.lst _), I.laid (t' := s.toks) (fun _ _ => PyProof.Rows.sortedAll_old) (Nat.le_succ _) ⟨hlen, out, ep, hv, he'⟩, rfl, q _ _ hy (I.hok.fresh (Nat.le_succ _))⟩
theorem ed_sortedLT {ta : TE} {d : D} (h : EvD K CK ta σ H d) (hL : d.isL = true) (ok : SortOk d.items) : EvD K CK (tCB (rSortedLT K CK) (tCons ta tNil)) σ H (.lst (sortD d.items)) := fun H1 e Q q =>
  h H1 e _ fun v H2 e2 r => by
    cases d with
    | lst xs =>
      obtain ⟨a, vs, rfl, h1, hl, h2⟩ := r
      refine ⟨a, vs, xs, hid H H1 H2, rfl, .inl (sq_of (hid_sub _ _ h1)), hid_sub, h2, ok, fun ys p hy hp => q _ _ (e2.trans (Ex.new hp)) ⟨p, ys, rfl, hid_at (ex_none e2 hp) upd_same, by rw [sortD_len]; exact hl, RepL.ex (hid_mono (Ex.new hp)) hy⟩⟩
    | tup xs =>
      obtain ⟨a, vs, rfl, h1, hl, h2⟩ := r
      refine ⟨a, vs, xs, hid H H1 H2, rfl, .inr (st_of (hid_sub _ _ h1)), hid_sub, h2, ok, fun ys p hy hp => q _ _ (e2.trans (Ex.new hp)) ⟨p, ys, rfl, hid_at (ex_none e2 hp) upd_same, by rw [sortD_len]; exact hl, RepL.ex (hid_mono (Ex.new hp)) hy⟩⟩
    | _ => cases hL
end
end Any
set_option Elab.async false
set_option linter.all false
set_option maxRecDepth 100000
set_option maxHeartbeats 1000000
namespace Any
open PySem PySem.Spec PyProof.Rows L2 Evl
section
variable {K : PySem.W.Frag} {CK : Addr} {H H' H0 : Hp} {σ : L2.St} {X : Cx}
/-! ### *d, d a dict of ints and texts -/
def tStarD (te : TE) (t : TA) : TA := fun σ H Q => te σ H fun x H1 => ∃ p kvs, x = V.ref p ∧ H1 p = some (.dK kvs) ∧ t σ H1 fun ys H2 => Q ((kvs.map fun kv => kV kv.1) ++ ys) H2
theorem starD_run {pins : List (Addr × Obj)} {s : Shared} {a : Addr} {kvs : List (Key × V)} {E : Value → Shared → Prop} {Q : List Value → Shared → Prop} (hc : X.calm = true) (I : Inv X pins σ H s) (h : H a = some (.dK kvs))
    (hQ : ∀ us s', Inv X pins σ H s' → Vals (kvs.map fun kv => kV kv.1) us → Q us s') : PySem.W.StarOf (model X.prog X.w) X.A E (.ref a) Q s := by
  obtain ⟨z, lo, vs, rk, hd⟩ := (show ObjOk X.prog X.w H s.heap a (.dK kvs) from I.hok a _ h)
  obtain ⟨ep, hat⟩ := hd.dictAt
  have hl : kvs.length = vs.length := Paired.length rk
  have hT : s.TypeIs (.ref a) "dict" := hd.typeIs
  have run : wpAny (model X.prog X.w) X.A (collect (.ref a)) Q E s := by
    refine PySem.W.kdu_collect (A := X.A) (PySem.W.kdl_dict (knd := mixKind X.prog X.w) (kvs := vs) (ep := ep) lo) (I.ok.hd hc) hat (by rw [← hl]; exact z) fun h' tk acc hk hacc => hQ _ _ (I.kept (t' := tk) hk) ?_
    have el : acc.toList.length = acc.size := by simp
    refine vals_of_at (by rw [List.length_map, el, hacc.1, hl]) fun j x w h1 h2 => ?_
    obtain ⟨k, y, hky, hi⟩ := hacc.2 j w (by rw [← Array.getElem?_toList]; exact h2)
    have e1 : (kvs.map (·.1))[j]? = some k := by rw [KV.keys rk, List.getElem?_map, hky]; rfl
    rw [show (kvs.map fun kv => kV kv.1) = (kvs.map (·.1)).map kV by rw [List.map_map]; rfl, List.getElem?_map, e1] at h1
    cases h1
    exact keyIs_rel hi
  unfold PySem.W.StarOf notIterableAtAll; exact wpAny_bind (wpAny_specialOf hT PySem.F.slot_dict_iter.lookup (wpAny_pure ⟨rfl, run⟩))
theorem pa_starD {e : Expr} {es : List Expr} {te : TE} {t : TA} {p : Pos} (hc : X.calm = true) (he : PE X e te) (hr : PA X es t) (hs : starEach (.Starred e p :: es) X.env = (true, eval e X.env) :: starEach es X.env := by rfl) : PA X (.Starred e p :: es) (tStarD te t) := by
  refine ⟨fun pos pins s σ H Q I h => PySem.W.items_star (thn (he.run pins s σ H _ I h) fun v s1 ⟨y, H1, I1, ry, a, xs, ey, hx, q⟩ => ?_) hs⟩
  subst ey
  obtain rfl : v = Value.ref a := ry
  refine starD_run hc I1 hx fun us s2 I2 rv => thn (hr.run pos pins s2 σ H1 _ I2 q) fun ws s3 ⟨vs, H3, I3, r3, q3⟩ => ⟨_, H3, I3, rv.append r3, q3⟩
theorem ead_starD {te : TE} {t : TA} {kvs : List (Key × D)} {ds : List D} (h : EvD K CK te σ H (.dct kvs)) (ok : keysOk kvs) (hr : EvAD K CK t σ H ds) : EvAD K CK (tStarD te t) σ H ((kvs.map fun kv => kD kv.1) ++ ds) := fun H1 e Q q =>
  h H1 e _ fun v H2 e2 r => by
    obtain ⟨a, ps, rfl, h1, h2⟩ := r
    refine ⟨a, ps, rfl, hid_sub _ _ h1, hr H2 (e.trans e2) _ fun vs H3 e3 r3 => q _ H3 (e2.trans e3) (RepL.app ?_ (RepL.ex (hid_le e2) r3))⟩
    rw [show ps.map (fun kv => kV kv.1) = (kvs.map (·.1)).map kV by rw [← h2.keys, List.map_map]; rfl, show kvs.map (fun kv => kD kv.1) = (kvs.map (·.1)).map kD by rw [List.map_map]; rfl]
    exact repL_keys fun k hk => by
      obtain ⟨kv, hkv, rfl⟩ := List.mem_map.mp hk
      exact ok.2 kv hkv
/-! ### dict comprehensions, the keys unlike texts -/
theorem RepK.app : ∀ {ds es : List (Key × D)} {vs ws : List (Key × V)}, RepK K CK H ds vs → RepK K CK H es ws → RepK K CK H (ds ++ es) (vs ++ ws)
  | [], _, _, _, h, h2 => by rw [show _ = [] from h]; exact h2
  | (_, _) :: _, _, _, _, ⟨v, r, h1, h2, h3⟩, h4 => by rw [h1]; exact ⟨v, _, rfl, h2, RepK.app h3 h4⟩
theorem ed_dc {wi : TI} {g : TG} {tk tv : TE} {vs : List Nat} {ds : List D} {kf : D → Str} {m : D → D} (hI : EvID K CK wi σ H ds) (hl : ds.length ≤ 30000) (nd : (ds.map kf).Nodup)
    (turn : ∀ (d : D) (x : V) (H0 : Hp), Ex H H0 → d ∈ ds → Rep K CK H0 d x → ∃ σ2, EvG g x (wipe σ vs) H0 σ2 ∧ wipe σ2 vs = wipe σ vs ∧ EvD K CK tk σ2 H0 (.str (kf d)) ∧ EvD K CK tv σ2 H0 (m d)) :
    EvD K CK (tDc wi g tYes tk tv vs) σ H (.dct (ds.map fun d => (Sum.inr (kf d), m d))) := fun H1 e Q q => by
  refine hI H1 e _ fun J H2 G Y e2 w hG hY => ?_
  intro Da hD
  have h1D : H1 Da = none := ex_none e2 hD
  refine dc_it w (vs := vs) (fun i H' => Ex H2 H' ∧ ∃ acc, H' Da = some (.dK acc) ∧ RepK K CK (hid H H1 (cut Da H')) ((ds.take i).map fun d => (Sum.inr (kf d), m d)) acc) ?_ ?_ ?_ ?_
  · exact ⟨Ex.new hD, [], upd_same, rfl⟩
  · intro i H' _ ⟨h2, _⟩
    exact hG H' (hid_sub.trans h2)
  · intro i x Ha Hb hi ⟨h2, acc, ha, hr⟩ y
    have hd : ds[i]? = some ds[i] := List.getElem?_eq_getElem hi
    have it := hY i _ Ha x Hb hd (hid_sub.trans h2) y
    have eab := it.ext
    have haS : (Ha Da).isSome = true := by rw [ha]; rfl
    have hbS : Hb Da = some (.dK acc) := eab _ _ ha
    have rx := it.repC e2 h2 hD haS
    have e1b : Ex H1 Hb := e2.trans (h2.trans eab)
    have eH : Ex H (hid H H1 (cut Da Hb)) := hid_ex e (cut_ex e1b h1D)
    obtain ⟨σ2, hg, hw, hk, he⟩ := turn _ x (hid H H1 (cut Da Hb)) eH (List.mem_of_getElem? hd) rx
    have eB : Ex (hid H H1 (cut Da Hb)) Hb := fun a o z => cut_sub _ _ (hid_sub _ _ z)
    refine hg Hb eB _ fun H3 e3 => ⟨hw, ?_⟩
    dsimp only [tYes]
    rw [if_pos rfl]
    refine hk H3 (eB.trans e3) _ fun v4 H4 e4 r4 => he H4 ((eB.trans e3).trans e4) _ fun v H5 e5 rv => ?_
    have e34 : Ex Hb H4 := e3.trans e4
    have e35 : Ex Hb H5 := e34.trans e5
    have hacl : acc.length = i := by
      rw [hr.len, List.length_map, List.length_take]
      omega
    have rv' : Rep K CK (hid H H1 (cut Da H5)) (m ds[i]) v := by
      have z : Rep K CK (hid (hid H H1 (cut Da Hb)) H4 H5) (m ds[i]) v := rv
      have z2 := z.ex (hid_le (H3 := H5) e34)
      rw [hid_cut e1b (by rw [hbS]; rfl) h1D] at z2
      exact z2
    have hno : valV acc (Sum.inr (kf ds[i]) : Key) = none := by
      refine valV_none_of fun z => ?_
      rw [hr.keys, List.map_map] at z
      obtain ⟨d', hd', e'⟩ := List.mem_map.mp z
      obtain ⟨j, hj, ej⟩ := List.mem_iff_getElem.mp hd'
      rw [List.length_take] at hj
      rw [List.getElem_take] at ej
      have l1 : j < (ds.map kf).length := by rw [List.length_map]; omega
      have l2 : i < (ds.map kf).length := by rw [List.length_map]; omega
      have eq : (ds.map kf)[j] = (ds.map kf)[i] := by
        rw [List.getElem_map, List.getElem_map, ej]
        exact Sum.inr.inj e'
      have := (List.getElem_inj nd).mp eq
      omega
    refine ⟨acc, Sum.inr (kf ds[i]), r4.1, e35 _ _ hbS, by rw [hacl, sizeLine_eq]; omega, (h2.trans (eab.trans e35)).mut hD, _, upd_same, ?_⟩
    rw [cut_upd, putK_new _ hno, take_more hd, List.map_append]
    exact RepK.app (RepK.ex (hid_mono (cut_mono (eab.trans e35))) hr) ⟨v, [], rfl, rv', rfl⟩
  · intro H' ⟨h2, acc, ha, hr⟩
    rw [List.take_length] at hr
    exact q _ H' (e2.trans h2) ⟨Da, acc, rfl, hid_at h1D ha, RepK.ex (hid_mono cut_sub) hr⟩
/-! ### data without objects -/
mutual
def D.noObj : D → Bool
  | .lst xs => noObjL xs
  | .tup xs => noObjL xs
  | .dct kvs => noObjK kvs
  | .obj _ => false
  | _ => true
def noObjL : List D → Bool
  | [] => true
  | x :: xs => x.noObj && noObjL xs
def noObjK : List (Key × D) → Bool
  | [] => true
  | (_, x) :: xs => x.noObj && noObjK xs
end
def isIns : HO → Bool
  | .ins _ _ _ => true
  | _ => false
/-- all of H but objects -/
def ExN (H H' : Hp) : Prop := ∀ a o, H a = some o → isIns o = false → H' a = some o
mutual
theorem Rep.exN (e : ExN H H') : ∀ {d : D} {v : V}, d.noObj = true → Rep K CK H d v → Rep K CK H' d v
  | .non, _, _, h => h
  | .bl _, _, _, h => h
  | .int _, _, _, h => h
  | .str _, _, _, h => h
  | .lst _, _, n, ⟨a, vs, h1, h2, h4, h3⟩ => ⟨a, vs, h1, e _ _ h2 rfl, h4, RepL.exN e n h3⟩
  | .tup _, _, n, ⟨a, vs, h1, h2, h4, h3⟩ => ⟨a, vs, h1, e _ _ h2 rfl, h4, RepL.exN e n h3⟩
  | .dct _, _, n, ⟨a, ps, h1, h2, h3⟩ => ⟨a, ps, h1, e _ _ h2 rfl, RepK.exN e n h3⟩
  | .obj _, _, n, _ => by cases n
theorem RepL.exN (e : ExN H H') : ∀ {ds : List D} {vs : List V}, noObjL ds = true → RepL K CK H ds vs → RepL K CK H' ds vs
  | [], _, _, h => h
  | _ :: _, _, n, ⟨v, r, h1, h2, h3⟩ => ⟨v, r, h1, Rep.exN e (Bool.and_eq_true_iff.mp n).1 h2, RepL.exN e (Bool.and_eq_true_iff.mp n).2 h3⟩
theorem RepK.exN (e : ExN H H') : ∀ {ds : List (Key × D)} {vs : List (Key × V)}, noObjK ds = true → RepK K CK H ds vs → RepK K CK H' ds vs
  | [], _, _, h => h
  | (_, _) :: _, _, n, ⟨v, r, h1, h2, h3⟩ => ⟨v, r, h1, Rep.exN e (Bool.and_eq_true_iff.mp n).1 h2, RepK.exN e (Bool.and_eq_true_iff.mp n).2 h3⟩
end
end
end Any
set_option Elab.async false
set_option linter.all false
set_option maxRecDepth 100000
set_option maxHeartbeats 2000000
namespace Any
open PySem PySem.Spec PyProof.Rows L2 Evl
/-! ### the rows as Kinds keeps them -/
def leS (a b : Str) : Bool := leD (.str a) (.str b)
def leR (a b : Row) : Bool := leD (rowD a) (rowD b)
def sMarks (ms : List Str) : List Str := ms.mergeSort leS
def rowS (r : Row) : Row := { r with marks := sMarks r.marks }
def sortRows (rs : List Row) : List Row := rs.mergeSort leR
def kindsOf (rs : List Row) : List Row := sortRows (rs.map rowS)
theorem sMarks_D (ms : List Str) : (sMarks ms).map D.str = sortD (ms.map D.str) := List.map_mergeSort (r := leS) (s := leD) (f := D.str) (l := ms) (fun _ _ _ _ => rfl)
theorem sortRows_D (rs : List Row) : (sortRows rs).map rowD = sortD (rs.map rowD) := List.map_mergeSort (r := leR) (s := leD) (f := rowD) (l := rs) (fun _ _ _ _ => rfl)
theorem sMarks_perm (ms : List Str) : (sMarks ms).Perm ms := List.mergeSort_perm _ _
theorem sortRows_perm (rs : List Row) : (sortRows rs).Perm rs := List.mergeSort_perm _ _
theorem kindsOf_perm (rs : List Row) : (kindsOf rs).Perm (rs.map rowS) := sortRows_perm _
/-- a row, as it is told -/
def rowT (d : D) : D := match d.items with
  | [k, a, m, l] => .tup [k, a, .tup (sortD m.items), l]
  | _ => .non
theorem rowT_of {r : Row} {d : D} (h : RowD r d) : rowT d = rowD (rowS r) := by
  obtain ⟨_, m, hi, hL, hm⟩ := h
  unfold rowT
  rw [hi]
  show D.tup [_, _, .tup (sortD m.items), _] = rowD (rowS r)
  rw [hm, ← sMarks_D]
  rfl
theorem rowsT {rs : List Row} {ds : List D} (h : RowsD rs ds) : ds.map rowT = (rs.map rowS).map rowD := by
  refine List.ext_getElem? fun i => ?_
  rw [List.getElem?_map, List.getElem?_map, List.getElem?_map]
  by_cases hi : i < rs.length
  · have hd : i < ds.length := by rw [h.1]; exact hi
    rw [List.getElem?_eq_getElem hi, List.getElem?_eq_getElem hd]
    exact congrArg some (rowT_of (h.2 i _ _ (List.getElem?_eq_getElem hi) (List.getElem?_eq_getElem hd)))
  · rw [List.getElem?_eq_none (show ds.length ≤ i by rw [h.1]; omega), List.getElem?_eq_none (show rs.length ≤ i by omega)]
    rfl
theorem alike_strs : ∀ xs ys : List Str, PySem.W.alikeAll (xs.map fun x => PyData.str x) (ys.map fun x => PyData.str x) = true := fun xs ys => alikeAll_of fun x hx y hy => by
  obtain ⟨a, _, rfl⟩ := List.mem_map.mp hx
  obtain ⟨b, _, rfl⟩ := List.mem_map.mp hy
  rfl
theorem py_strs (xs : List Str) : pyL (xs.map D.str) = xs.map fun x => PyData.str x := by
  rw [pyL_map, List.map_map]; rfl
theorem flat_strs (xs : List Str) : flatL (xs.map D.str) = true := (flatL_all _).mpr fun d hd => by
  obtain ⟨x, _, rfl⟩ := List.mem_map.mp hd
  rfl
theorem sortOk_strs (xs : List Str) : SortOk (xs.map D.str) := by
  refine ⟨flat_strs xs, fun x hx y hy => ?_, .inr fun x hx => ?_, fun d hd => ?_⟩
  · rw [List.map_map] at hx hy
    obtain ⟨a, _, rfl⟩ := List.mem_map.mp hx
    obtain ⟨b, _, rfl⟩ := List.mem_map.mp hy
    rfl
  · rw [List.map_map] at hx
    obtain ⟨a, _, rfl⟩ := List.mem_map.mp hx
    exact ⟨(fun z => nomatch z), fun _ z => nomatch z⟩
  · obtain ⟨x, _, rfl⟩ := List.mem_map.mp hd
    exact Nat.zero_le _
theorem rowD_py (r : Row) : (rowD r).py = .tuple [.str r.kind, .str r.above, .tuple (r.marks.map fun x => PyData.str x), .bool r.lasts] := by
  show PyData.tuple [.str r.kind, .str r.above, .tuple (pyL (r.marks.map D.str)), .bool r.lasts] = _
  rw [py_strs]
theorem sortOk_rows (rs : List Row) : SortOk (rs.map rowD) := by
  refine ⟨(flatL_all _).mpr fun d hd => ?_, fun x hx y hy => ?_, .inl fun x hx => ?_, fun d hd => ?_⟩
  · obtain ⟨r, _, rfl⟩ := List.mem_map.mp hd
    show (true && (true && (flatL (r.marks.map D.str) && (true && true)))) = true
    rw [flat_strs]
    rfl
  · rw [List.map_map] at hx hy
    obtain ⟨a, _, rfl⟩ := List.mem_map.mp hx
    obtain ⟨b, _, rfl⟩ := List.mem_map.mp hy
    show PySem.W.alike (rowD a).py (rowD b).py = true
    rw [rowD_py, rowD_py]
    simp only [PySem.W.alike, PySem.W.alikeAll, alike_strs]
    rfl
  · rw [List.map_map] at hx
    obtain ⟨a, _, rfl⟩ := List.mem_map.mp hx
    exact ⟨_, _, rowD_py a⟩
  · obtain ⟨r, _, rfl⟩ := List.mem_map.mp hd
    rw [rowD_py]
    have : PyData.depthAll (r.marks.map fun x => PyData.str x) ≤ 0 := depthAll_le fun x hx => by
      obtain ⟨a, _, rfl⟩ := List.mem_map.mp hx
      exact Nat.le_refl _
    simp only [PyData.depth, PyData.depthAll]
    omega
theorem kindsOf_kinds (rs : List Row) : ((kindsOf rs).map (·.kind)).Perm (rs.map (·.kind)) := by
  have := (kindsOf_perm rs).map (·.kind)
  rw [List.map_map] at this
  exact this
theorem kindsOf_ok {rs : List Row} (ok : RowsOk rs) : KOk (kindsOf rs) := by
  obtain ⟨lv, hlv⟩ := ok.lv
  have e : (abOf rs).map (·.1) = rs.map (·.kind) := by unfold abOf; rw [List.map_map]; rfl
  refine ⟨?_, fun r hr => ?_, ?_, fun r hr => ?_⟩
  · have := hlv.nd
    rw [e] at this
    exact (kindsOf_kinds rs).nodup_iff.mpr this
  · obtain ⟨r', hr', rfl⟩ := List.mem_map.mp ((kindsOf_perm rs).mem_iff.mp hr)
    exact (ok.ok r' hr').kind
  · rw [(kindsOf_perm rs).length_eq, List.length_map]
    have := hlv.few
    unfold abOf at this
    rw [List.length_map] at this
    exact this
  · obtain ⟨r', hr', rfl⟩ := List.mem_map.mp ((kindsOf_perm rs).mem_iff.mp hr)
    by_cases c : r'.above = Str.empty
    · exact .inl c
    · obtain ⟨s, hs, hk, _⟩ := ok.above r' hr' c
      refine .inr ((kindsOf_kinds rs).mem_iff.mpr ?_)
      show r'.above ∈ _
      rw [← hk]
      exact List.mem_map.mpr ⟨s, hs, rfl⟩
theorem noObj_strs : ∀ xs : List Str, noObjL (xs.map D.str) = true
  | [] => rfl
  | _ :: xs => noObj_strs xs
theorem noObj_rows : ∀ rs : List Row, noObjK (rowsK rs) = true
  | [] => rfl
  | r :: rs => by
    show ((true && (true && (noObjL (r.marks.map D.str) && (true && true)))) && noObjK (rowsK rs)) = true
    rw [noObj_strs, noObj_rows rs]
    rfl
theorem noObj_parts (rs : List Row) : noObjK (partsK rs) = true := by
  unfold partsK
  generalize (Str.empty :: rs.map (·.kind)) = as
  induction as with
  | nil => rfl
  | cons a as ih =>
    rw [List.map_cons]
    show (noObjL ((inKind rs a).map D.str) && _) = true
    rw [noObj_strs, Bool.true_and]
    exact ih
section
variable {K : PySem.W.Frag} {CK : Addr} {H H' H0 H1 H2 : Hp} {σ : L2.St}
theorem ev_notN {ta : TE} {v : V} (h : Ev ta σ H v) : Ev (tNotN ta) σ H (.bl (!decide (v = .non))) := fun H1 e Q q => h H1 e _ fun H2 e2 => q H2 e2
def kindOfD (d : D) : Str := match d with
  | .tup (.str k :: _) => k
  | _ => Str.empty
theorem dct_rows (R : List Row) : ((R.map rowD).map fun d => ((Sum.inr (kindOfD d) : Key), d)) = rowsK R := by
  rw [List.map_map]; rfl
theorem s_fldD {B : Hp} {tv : TE} {i : Nat} {f : Str} {D0 : Ends} {d : D} (h : EvD K CK tv σ B d) (eB : Ex B H) (c : Cls K CK) (n : NoAttr K CK f)
    (k : ∀ v H1, Ex H H1 → Rep K CK (hid B H H1) d v → ∃ p dx fs, σ[i]? = some (some (V.ref p)) ∧ H1 p = some (.ins CK dx fs) ∧ fs.length < 1000 ∧ D0.nx σ (upd H1 p (.ins CK dx (putF f v fs)))) : sFld K (tVar i) tv f D0 σ H :=
  h H eB _ fun v H1 e r => by
    obtain ⟨p, dx, fs, h1, h2, h3, h4⟩ := k v H1 e r
    exact ⟨_, h1, p, CK, dx, fs, rfl, h2, c, n, h3, h4⟩
theorem q_fldD {B : Hp} {tv : TE} {i : Nat} {f : Str} {D0 : Ends} {tz : TS} {d : D} (h : EvD K CK tv σ B d) (eB : Ex B H) (c : Cls K CK) (n : NoAttr K CK f)
    (k : ∀ v H1, Ex H H1 → Rep K CK (hid B H H1) d v → ∃ p dx fs, σ[i]? = some (some (V.ref p)) ∧ H1 p = some (.ins CK dx fs) ∧ fs.length < 1000 ∧ tz D0 σ (upd H1 p (.ins CK dx (putF f v fs)))) : tSeq (sFld K (tVar i) tv f) tz D0 σ H :=
  s_fldD (D0 := { D0 with nx := tz D0 }) h eB c n k
theorem hid_no {a : Addr} (h : H0 a = none) (h1 : (H1 a).isSome = true) : hid H0 H1 H2 a = none := by
  unfold hid
  rw [if_pos ⟨by rw [h]; rfl, h1⟩]
def aboveOfD (d : D) : Str := match d with
  | .tup (_ :: .str k :: _) => k
  | _ => Str.empty
theorem in_rows (R : List Row) (a : Str) : ((R.map rowD).filter fun d => decide (aboveOfD d = a)).map (fun d => D.str (kindOfD d)) = (inKind R a).map D.str := by
  unfold inKind
  rw [List.filter_map, List.map_map, List.map_map]
  rfl
theorem dct_parts (R : List Row) : (((Str.empty :: R.map (·.kind)).map D.str).map fun d => ((Sum.inr d.strOf : Key), D.lst ((inKind R d.strOf).map D.str))) = partsK R := by
  unfold partsK
  rw [List.map_map]
  rfl
theorem empty_no : isNameS Str.empty = false := by decide +kernel
theorem kinds_rows (R : List Row) : (R.map rowD).map kindOfD = R.map (·.kind) := by
  rw [List.map_map]; rfl
end
section
variable {P : Program} {w : World} {K : PySem.W.Frag} {mg : Str → Option Value} {base : Heap} {CK : Addr}
/-- tuple(xs) -/
abbrev rTupOf (K : PySem.W.Frag) : List V → Hp → VK → Prop := fun xs H Q => ∃ p ys, xs = [V.ref p] ∧ ((SqL K H p ys ∧ ∀ l, H l = none → Q (.ref l) (upd H l (.tup ys))) ∨ (SqT K H p ys ∧ Q (.ref p) H))
theorem scKInit : FnScope ["self", "rows", "index", "told", "kind", "above", "marks", "lasts", "row"] ["self", "rows"] (defScope sKInit) := ⟨rfl, rfl, rfl, by decide +kernel, rfl, by decide +kernel, by decide +kernel⟩
/-- __init__ at a new instance p -/
def spKInit (K : PySem.W.Frag) (CK : Addr) : Sp := fun vs H Q _ => ∃ p dx rv H0 d rs, vs = [V.ref p, rv] ∧ Ex H0 H ∧ H0 p = none ∧ H p = some (.ins CK dx []) ∧ Rep K CK H0 d rv ∧ d.isL = true ∧ RowsD rs d.items ∧ RowsOk rs ∧
  ∀ H', Ex (cut p H) H' → Rep K CK (hid H0 (cut p H) H') (kindsD (kindsOf rs)) (.ref p) → Q .non H'
theorem ok_kinit (d : MDef K CK "__init__" "Kinds.__init__" sKInit ["self", "rows"]) (dF : Def K mg "_rows_fault" sRowsFault ["rows"]) (GF : FnOk P w K mg base CX0 4 dF.f dF.fd ["rows"] (spRowsFault K CK)) (T : KCls K CK) (KN : KNm K CK) (N : Nm mg) :
    FnOk P w K mg base CX0 5 d.f d.fd ["self", "rows"] (spKInit K CK) := by
  refine d.F.ok scKInit (fun vs H Q E h => ?_) (fun cdv A outer s H vs Q E hr h => ?_)
  · obtain ⟨_, _, _, _, _, _, rfl, _⟩ := h
    rfl
  obtain ⟨p, dx, rv, H0, x, rs, rfl, e0, hp0, hp, r, hL, hrs, ok, q⟩ := h
  have hu := hr.units
  refine ⟨_, pss_cons (ps_set (i := 2) scKInit.nd rfl (.inl rfl) (pe_call GF hr (by rfl) dF.m dF.F.kp dF.b .nil pass0 (pa_cons (pv 1) pa_nil)))
    (pss_cons (ps_if (pt_cmp (pc_notN (pv 2))) (pss_one ps_no) pss_nil)
    (pss_cons (ps_set (i := 3) scKInit.nd rfl (.inr rfl) (pe_callB (cr_sortedDt (CK := CK) hu) (by rfl) N.sorted boot_sorted (pa_cons (pe_lc (own := [("kind", 4), ("above", 5), ("marks", 6), ("lasts", 7)]) (g := gUnp K 4 (gCons (gName 4) (gCons (gName 5) (gCons (gName 6) (gCons (gName 7) gNil))))) (tt := tYes) (te := tTup (tCons (tVar 4) (tCons (tVar 5) (tCons (tCB (rTupOf K) (tCons (tCB (rSortedLT K CK) (tCons (tVar 6) tNil)) tNil)) (tCons (tVar 7) tNil))))) rfl scKInit.nd (pi_seq (pv 1))
        (blkOk_by (N := ["self", "rows", "index", "told", "kind", "above", "marks", "lasts", "row"]) (sc := defScope sKInit) (by decide +kernel))
        (fun _ _ _ _ _ => pg_unp rfl (pgs_cons (pg_name (i := 4) scKInit.nd rfl (Or.inl rfl)) (pgs_cons (pg_name (i := 5) scKInit.nd rfl (Or.inl rfl)) (pgs_cons (pg_name (i := 6) scKInit.nd rfl (Or.inl rfl)) (pgs_cons (pg_name (i := 7) scKInit.nd rfl (Or.inl rfl)) pgs_nil))))) (fun _ _ _ _ _ => pts_nil)
        (fun _ _ _ _ _ => pe_tup (pa_cons (pv 4) (pa_cons (pv 5) (pa_cons (pe_callTy call_tuple_of (by rfl) N.tuple boot_tuple (pa_cons (pe_callB (cr_sortedLT (CK := CK) hu) (by rfl) N.sorted boot_sorted (pa_cons (pv 6) pa_nil)) pa_nil)) (pa_cons (pv 7) pa_nil)))))) pa_nil)))
    (pss_cons (ps_fld (pv 0) (pe_dc (own := [("row", 8)]) (g := gName 8) (tt := tYes) rfl scKInit.nd (pi_list (pv 3)) (blkOk_by (N := ["self", "rows", "index", "told", "kind", "above", "marks", "lasts", "row"]) (sc := defScope sKInit) (by decide +kernel))
        (fun _ _ _ _ _ => pg_name (i := 8) scKInit.nd rfl (Or.inl rfl)) (fun _ _ _ _ _ => pts_nil) (fun _ _ _ _ _ => pe_ix (r := rIxLT K) ix_lt (pv 8) pe_int (fun _ _ => rfl)) (fun _ _ _ _ _ => pv 8)) rfl)
    (pss_one (ps_fld (pv 0) (pe_dc (own := [("above", 5)]) (g := gName 5) (tt := tYes) rfl scKInit.nd (pi_list (pe_lst (pa_cons pe_str (pa_starD rfl (pe_fld (pv 0) rfl) pa_nil)))) (blkOk_by (N := ["self", "rows", "index", "told", "kind", "above", "marks", "lasts", "row"]) (sc := defScope sKInit) (by decide +kernel))
        (fun _ _ _ _ _ => pg_name (i := 5) scKInit.nd rfl (Or.inr rfl)) (fun _ _ _ _ _ => pts_nil) (fun _ _ _ _ _ => pv 5)
        (fun _ _ _ _ _ => pe_lc (own := [("row", 8)]) (g := gName 8) (wi := iList K (tVar 3)) (tt := tTest (tOp rEq (tOp (rIxLT K) (tVar 8) (tC (.int 1))) (tVar 5))) (te := tOp (rIxLT K) (tVar 8) (tC (.int 0))) rfl scKInit.nd (pi_list (pv 3))
          (blkOk_by (N := ["self", "rows", "index", "told", "kind", "above", "marks", "lasts", "row"]) (sc := { kind := .function, names := [(".0", .local), ("above", .cell), ("told", .cell)], isGenerator := false, isCoroutine := false, more := [] }) (by decide +kernel))
          (fun _ _ _ _ _ => pg_name (i := 8) scKInit.nd rfl (Or.inl rfl)) (fun _ _ _ _ _ => pts_one (pt_cmpR op_eq (pe_ix (r := rIxLT K) ix_lt (pv 8) pe_int (fun _ _ => rfl)) (pv 5) (nomark _)))
          (fun _ _ _ _ _ => pe_ix (r := rIxLT K) ix_lt (pv 8) pe_int (fun _ _ => rfl)))) rfl))))), ?_⟩
  have hlen : x.items.length ≤ 1000 := by
    obtain ⟨lv, hlv⟩ := ok.lv
    have := hlv.few
    unfold abOf at this
    rw [List.length_map] at this
    rw [hrs.1]
    exact this
  have KO := kindsOf_ok ok
  -- index
  refine ed_asg (K := K) (CK := CK) (d := .non) (ed_call (ds := [x]) (ead_cons (ed_var rfl r) ead_nil) rfl ⟨x, rs, rfl, hL, hrs, ok⟩) e0 fun v1 Ha e1 r1 => ?_
  obtain rfl := rep_non r1
  refine q_when (b := false) (et_B (ev_notN (v := .non) (ev_var rfl))) (fun z => by cases z) fun _ Hb e2 => ?_
  have e0b : Ex H0 Hb := e0.trans (e1.trans e2)
  -- told
  refine ed_asg (K := K) (CK := CK) (d := .lst ((kindsOf rs).map rowD)) ?_ e0b fun v3 Hc e3 r3 => ?_
  · have z := ed_sorted (CK := CK) (H := H0) (ed_map (m := rowT) (ei_seq (K := K) (te := tVar 1) (σ := [some (.ref p), some rv, some .non, none, none, none, none, none, none]) (ed_var rfl r) hL) (g := gUnp K 4 (gCons (gName 4) (gCons (gName 5) (gCons (gName 6) (gCons (gName 7) gNil)))))
      (te := tTup (tCons (tVar 4) (tCons (tVar 5) (tCons (tCB (rTupOf K) (tCons (tCB (rSortedLT K CK) (tCons (tVar 6) tNil)) tNil)) (tCons (tVar 7) tNil))))) (vs := [4, 5, 6, 7]) (by omega) ?_) (by rw [rowsT hrs]; exact sortOk_rows _)
    · rw [rowsT hrs] at z
      unfold kindsOf
      rw [sortRows_D]
      exact z
    · intro d2 y H2 e2 hd ry
      obtain ⟨i, hi, ei⟩ := List.mem_iff_getElem.mp hd
      have hri : i < rs.length := by rw [← hrs.1]; exact hi
      have hrow : RowD rs[i] d2 := hrs.2 i _ _ (List.getElem?_eq_getElem hri) (by rw [List.getElem?_eq_getElem hi, ei])
      have hok := ok.ok rs[i] (List.getElem_mem hri)
      rw [rowT_of hrow]
      obtain ⟨hL2, m, hit, hmL, hm⟩ := hrow
      obtain ⟨u1, u2, u3, u4, s1, s2, s3, s4, hg⟩ := eg_unp4 (σ := wipe [some (.ref p), some rv, some .non, none, none, none, none, none, none] [4, 5, 6, 7]) (i := 4) (j := 5) (k := 6) (l := 7) ry hL2 hit
      refine ⟨_, hg, rfl, ?_⟩
      have em : (rowS rs[i]).marks.map D.str = sortD m.items := by
        rw [hm]
        exact sMarks_D _
      show EvD K CK _ _ H2 (.tup [.str rs[i].kind, .str rs[i].above, .tup ((rowS rs[i]).marks.map D.str), .bl rs[i].lasts])
      rw [em]
      refine ed_tup (ead_cons (ed_var rfl s1) (ead_cons (ed_var rfl s2) (ead_cons (ed_tupOf (ed_sortedLT (ed_var rfl s3) hmL (by rw [hm]; exact sortOk_strs _))) (ead_cons (ed_var rfl s4) ead_nil)))) (by show (4 : Nat) ≤ 30000; decide)
  -- self._rows
  have hcp : Hc p = some (.ins CK dx []) := e3 _ _ (e2 _ _ (e1 _ _ hp))
  have hB1p : hid H0 Hb Hc p = none := by
    unfold hid
    rw [if_pos ⟨by rw [hp0]; rfl, by rw [e2 _ _ (e1 _ _ hp)]; rfl⟩]
  have E4 : EvD K CK (tDc (iList K (tVar 3)) (gName 8) tYes (tOp (rIxLT K) (tVar 8) (tC (.int 0))) (tVar 8) [8]) [some (.ref p), some rv, some .non, some v3, none, none, none, none, none] (hid H0 Hb Hc) (.dct (rowsK (kindsOf rs))) := by
    have z := ed_dc (K := K) (CK := CK) (H := hid H0 Hb Hc) (wi := iList K (tVar 3)) (g := gName 8) (tk := tOp (rIxLT K) (tVar 8) (tC (.int 0))) (tv := tVar 8) (vs := [8]) (σ := [some (.ref p), some rv, some .non, some v3, none, none, none, none, none])
      (ds := (kindsOf rs).map rowD) (kf := kindOfD) (m := fun d => d) (ei_list (ed_var rfl r3)) (by rw [List.length_map]; have := KO.few; omega) (by rw [kinds_rows]; exact KO.nd) ?_
    · rw [dct_rows] at z
      exact z
    · intro d2 y H2 e2 hd ry
      obtain ⟨ro, hro, rfl⟩ := List.mem_map.mp hd
      exact ⟨_, eg_name, rfl, ed_ix (d := rowD ro) (j := 0) (ed_var rfl ry) ev_c rfl rfl, ed_var rfl ry⟩
  refine q_fldD E4 hid_sub T.cl KN.nR fun v4 Hd e4 r4 => ?_
  have hdp : Hd p = some (.ins CK dx []) := e4 _ _ hcp
  refine ⟨p, dx, [], rfl, hdp, (by show 0 < 1000; decide), ?_⟩
  have hB2p : hid (hid H0 Hb Hc) Hc Hd p = none := hid_no hB1p (by rw [hcp]; rfl)
  have exB : Ex (upd (hid (hid H0 Hb Hc) Hc Hd) p (.ins CK dx [("_rows", v4)])) (upd Hd p (.ins CK dx [("_rows", v4)])) := fun a o z => by
    by_cases c : a = p
    · subst c
      rw [upd_same] at z ⊢
      exact z
    · rw [upd_ne c] at z ⊢
      exact hid_sub _ _ z
  have exN1 : Ex (hid H0 Hb Hc) (upd (hid (hid H0 Hb Hc) Hc Hd) p (.ins CK dx [("_rows", v4)])) := (hid_ex hid_sub e4).trans (Ex.new hB2p)
  have rself : Rep K CK (upd (hid (hid H0 Hb Hc) Hc Hd) p (.ins CK dx [("_rows", v4)])) (.obj [("_rows", .dct (rowsK (kindsOf rs)))]) (.ref p) := ⟨p, dx, _, rfl, upd_same, ⟨v4, [], rfl, r4.ex (Ex.new hB2p), rfl⟩⟩
  have E5 : EvD K CK (tDc (iList K (tLst (tCons (tC (.str Str.empty)) (tStarD (tFld K (tVar 0) "_rows") tNil)))) (gName 5) tYes (tVar 5)
      (tLc (iList K (tVar 3)) (gName 8) (tTest (tOp rEq (tOp (rIxLT K) (tVar 8) (tC (.int 1))) (tVar 5))) (tOp (rIxLT K) (tVar 8) (tC (.int 0))) [8]) [5]) [some (.ref p), some rv, some .non, some v3, none, none, none, none, none]
      (upd (hid (hid H0 Hb Hc) Hc Hd) p (.ins CK dx [("_rows", v4)])) (.dct (partsK (kindsOf rs))) := by
    have few := KO.few
    have z := ed_dc (K := K) (CK := CK) (H := upd (hid (hid H0 Hb Hc) Hc Hd) p (.ins CK dx [("_rows", v4)])) (wi := iList K (tLst (tCons (tC (.str Str.empty)) (tStarD (tFld K (tVar 0) "_rows") tNil)))) (g := gName 5) (tk := tVar 5)
      (tv := tLc (iList K (tVar 3)) (gName 8) (tTest (tOp rEq (tOp (rIxLT K) (tVar 8) (tC (.int 1))) (tVar 5))) (tOp (rIxLT K) (tVar 8) (tC (.int 0))) [8]) (vs := [5]) (σ := [some (.ref p), some rv, some .non, some v3, none, none, none, none, none])
      (ds := (Str.empty :: (kindsOf rs).map (·.kind)).map D.str) (kf := D.strOf) (m := fun d => .lst ((inKind (kindsOf rs) d.strOf).map D.str)) (ei_list ?_) (by rw [List.length_map, List.length_cons, List.length_map]; omega) ?_ ?_
    · rw [dct_parts] at z
      exact z
    · have e : (Str.empty :: (kindsOf rs).map (·.kind)).map D.str = .str Str.empty :: ((rowsK (kindsOf rs)).map (fun kv => kD kv.1) ++ []) := by
        unfold rowsK
        rw [List.append_nil, List.map_cons, List.map_map, List.map_map]
        rfl
      rw [e]
      exact ed_lst (ead_cons (ed_str (by decide)) (ead_starD (ed_fld T.cl KN.nR (ed_var rfl rself) (by rw [List.lookup_cons, beq_self_eq_true])) KO.keys ead_nil)) (by rw [List.append_nil, List.length_cons, List.length_map]; unfold rowsK; rw [List.length_map]; omega)
    · rw [List.map_map]
      show ((Str.empty :: (kindsOf rs).map (·.kind)).map fun x => x).Nodup
      rw [List.map_id']
      refine List.nodup_cons.mpr ⟨fun hm => ?_, KO.nd⟩
      obtain ⟨ro, hro, he⟩ := List.mem_map.mp hm
      have := KO.nm ro hro
      rw [he, empty_no] at this
      cases this
    · intro d2 y H2 e2 hd ry
      obtain ⟨a, _, rfl⟩ := List.mem_map.mp hd
      obtain rfl := rep_str ry
      refine ⟨_, eg_name, rfl, ed_var rfl ry, ?_⟩
      have w := ed_lc (K := K) (CK := CK) (H := H2) (wi := iList K (tVar 3)) (g := gName 8) (tt := tTest (tOp rEq (tOp (rIxLT K) (tVar 8) (tC (.int 1))) (tVar 5))) (te := tOp (rIxLT K) (tVar 8) (tC (.int 0))) (vs := [8])
        (σ := [some (.ref p), some rv, some .non, some v3, none, some (.str a), none, none, none]) (ds := (kindsOf rs).map rowD) (f := fun d => decide (aboveOfD d = a)) (m := fun d => .str (kindOfD d)) (ei_list (ed_var rfl ((r3.ex exN1).ex e2))) (by rw [List.length_map]; omega) ?_
      · rw [in_rows] at w
        exact w
      · intro i d3 y3 H3 e3 hd3 ry3
        obtain ⟨ro, _, rfl⟩ := List.mem_map.mp (List.mem_of_getElem? hd3)
        exact ⟨_, eg_name, rfl, et_test (ev_eqS (EvD.s (ed_ix (d := rowD ro) (j := 1) (ed_var rfl ry3) ev_c rfl rfl)) (ev_var rfl)), fun _ => ed_ix (d := rowD ro) (j := 0) (ed_var rfl ry3) ev_c rfl rfl⟩
  refine s_fldD E5 exB T.cl KN.nP fun v5 Hf e5' r5' => ⟨p, dx, _, rfl, e5' _ _ upd_same, (by show 1 < 1000; decide), ?_⟩
  have e5 : Ex (upd Hd p (.ins CK dx [("_rows", v4)])) Hf := e5'
  have r5 : Rep K CK (hid (upd (hid (hid H0 Hb Hc) Hc Hd) p (.ins CK dx [("_rows", v4)])) (upd Hd p (.ins CK dx [("_rows", v4)])) Hf) (.dct (partsK (kindsOf rs))) v5 := r5'
  have old : ∀ a o, cut p H a = some o → a ≠ p ∧ H a = some o := fun a o z => by
    unfold cut at z
    split at z
    · cases z
    · exact ⟨by assumption, z⟩
  have exHf : ∀ a o, a ≠ p → Hd a = some o → Hf a = some o := fun a o c z => e5 _ _ (by rw [upd_ne c]; exact z)
  have exHd : ∀ a o, H a = some o → Hd a = some o := fun a o z => e4 _ _ (e3 _ _ (e2 _ _ (e1 _ _ z)))
  have gone : ∀ a, H0 a = none → (cut p H a).isSome = true → hid (hid H0 Hb Hc) Hc Hd a = none := fun a h0 h1 => by
    cases e : cut p H a with
    | none => rw [e] at h1; cases h1
    | some o =>
      obtain ⟨c, hz⟩ := old a o e
      have hb := e2 _ _ (e1 _ _ hz)
      exact hid_no (hid_no h0 (by rw [hb]; rfl)) (by rw [e3 _ _ hb]; rfl)
  refine q _ (fun a o z => ?_) ?_
  · obtain ⟨c, hz⟩ := old a o z
    rw [upd_ne c]
    exact exHf a o c (exHd a o hz)
  · have cp : cut p H p = none := by unfold cut; rw [if_pos rfl]
    refine ⟨p, dx, [("_rows", v4), ("_parts", v5)], rfl, hid_at cp ?_, ⟨v4, _, rfl, r4.ex fun a o z => ?_, v5, _, rfl, Rep.exN (fun a o z ni => ?_) (noObj_parts _) r5, rfl⟩⟩
    · rw [upd_same]
      rfl
    · have c : a ≠ p := fun c => by rw [c, hB2p] at z; cases z
      unfold hid
      rw [if_neg (fun y => by rw [gone a (by simpa using y.1) y.2] at z; cases z), upd_ne c]
      exact exHf a o c (hid_sub _ _ z)
    · have c : a ≠ p := fun c => by
        subst c
        have := hid_sub _ _ z
        rw [e5 _ _ upd_same] at this
        cases this
        cases ni
      unfold hid
      rw [if_neg fun y => ?_, upd_ne c]
      · exact hid_sub _ _ z
      · have g := gone a (by simpa using y.1) y.2
        have g2 : upd (hid (hid H0 Hb Hc) Hc Hd) p (.ins CK dx [("_rows", v4)]) a = none := by rw [upd_ne c]; exact g
        have g3 : (upd Hd p (.ins CK dx [("_rows", v4)]) a).isSome = true := by
          rw [upd_ne c]
          cases e : cut p H a with
          | none => rw [e] at y; cases y.2
          | some o2 => rw [exHd a o2 (old a o2 e).2]; rfl
        rw [hid_no g2 g3] at z
        cases z
end
end Any
set_option Elab.async false
set_option linter.all false
set_option maxRecDepth 100000
set_option maxHeartbeats 2000000
namespace Any
open PySem PySem.Spec PyProof.Rows L2 Evl StX
abbrev sPartsFault : Stmt := topS 30
abbrev sRecordFault : Stmt := topS 31
/-! ### the first fault -/
/-- lists in it, two levels a step, at most n deep -/
def dpt : Nat → D → Prop
  | 0, d => d.isL = false
  | n + 1, d => d.isL = true → ∀ x ∈ d.items, x.isL = true → ∀ y ∈ x.items, dpt n y
def firstF (f : Nat → D → D) : Nat → List D → D
  | _, [] => .non
  | i, x :: xs => match f i x with
    | .non => firstF f (i + 1) xs
    | d => d
def wayD (way : List Int) : D := .tup (way.map D.int)
def badD (x : String) (way : List Int) : D := .tup [.str x, wayD way]
def marksOf (rs : List Row) (k : Str) : List Str := match rs.find? fun r => decide (r.kind = k) with
  | some r => r.marks
  | none => []
def faultM (rec : Str → D → List Int → D) (rs : List Row) (k : Str) (m p : D) (way : List Int) : D := match m with
  | .str m => if decide (m ∈ marksOf rs k) then (if p.isL then firstF (fun i y => rec k y (way ++ [(i : Int)])) 0 p.items else badD "list" way) else badD "mark" way
  | _ => badD "mark" way
def faultK (rec : Str → D → List Int → D) (rs : List Row) (above : Str) (k m p : D) (way : List Int) : D := match k with
  | .str k => if decide (k ∈ inKind rs above) then faultM rec rs k m p way else badD "kind" way
  | _ => badD "kind" way
def faultR (rs : List Row) : Nat → Str → D → List Int → D
  | 0, _, _, way => badD "record" way
  | n + 1, above, d, way => if d.isL && decide (d.items.length = 3) then (match d.items with
      | [k, m, p] => faultK (faultR rs n) rs above k m p way
      | _ => .non) else badD "record" way
theorem faultR_no {rs : List Row} {n : Nat} {above : Str} {d : D} {way : List Int} (h : (d.isL && decide (d.items.length = 3)) = false) : faultR rs (n + 1) above d way = badD "record" way := by
  unfold faultR
  rw [h]
  rfl
theorem faultR_yes {rs : List Row} {n : Nat} {above : Str} {d k m p : D} {way : List Int} (h : (d.isL && decide (d.items.length = 3)) = true) (hi : d.items = [k, m, p]) : faultR rs (n + 1) above d way = faultK (faultR rs n) rs above k m p way := by
  unfold faultR
  rw [h, hi]
  rfl
theorem faultK_no {rec : Str → D → List Int → D} {rs : List Row} {above : Str} {k m p : D} {way : List Int} (h : oneOf k (fun z => decide (z ∈ inKind rs above)) = false) : faultK rec rs above k m p way = badD "kind" way := by
  cases k with
  | str k =>
    have h' : decide (k ∈ inKind rs above) = false := h
    unfold faultK
    dsimp only
    rw [h']
    rfl
  | _ => rfl
theorem faultK_yes {rec : Str → D → List Int → D} {rs : List Row} {above k : Str} {m p : D} {way : List Int} (h : k ∈ inKind rs above) : faultK rec rs above (.str k) m p way = faultM rec rs k m p way := by
  unfold faultK
  dsimp only
  rw [decide_eq_true h]
  rfl
theorem faultM_no {rec : Str → D → List Int → D} {rs : List Row} {k : Str} {m p : D} {way : List Int} (h : oneOf m (fun z => decide (z ∈ marksOf rs k)) = false) : faultM rec rs k m p way = badD "mark" way := by
  cases m with
  | str m =>
    have h' : decide (m ∈ marksOf rs k) = false := h
    unfold faultM
    dsimp only
    rw [h']
    rfl
  | _ => rfl
theorem faultM_yes {rec : Str → D → List Int → D} {rs : List Row} {k m : Str} {p : D} {way : List Int} (h : m ∈ marksOf rs k) : faultM rec rs k (.str m) p way = if p.isL then firstF (fun i y => rec k y (way ++ [(i : Int)])) 0 p.items else badD "list" way := by
  unfold faultM
  dsimp only
  rw [decide_eq_true h]
  rfl
def partsF (rs : List Row) (n : Nat) (above : Str) (ds : List D) (way : List Int) : D := firstF (fun i y => faultR rs n above y (way ++ [(i : Int)])) 0 ds
theorem firstF_at {f : Nat → D → D} : ∀ {xs : List D} {k i : Nat} {x : D}, xs[i]? = some x → (∀ j y, j < i → xs[j]? = some y → f (k + j) y = .non) → f (k + i) x ≠ .non → firstF f k xs = f (k + i) x
  | [], _, _, _, h, _, _ => by cases h
  | y :: ys, k, 0, x, h, _, hne => by
    cases h
    unfold firstF
    show (match f k y with | .non => firstF f (k + 1) ys | d => d) = f k y
    have : f k y ≠ .non := hne
    cases e : f k y with
    | non => exact absurd e this
    | _ => rfl
  | y :: ys, k, i + 1, x, h, hp, hne => by
    unfold firstF
    rw [show f k y = .non from hp 0 y (Nat.succ_pos _) rfl]
    have := firstF_at (f := f) (xs := ys) (k := k + 1) (i := i) (x := x) h (fun j z hj hz => by have := hp (j + 1) z (Nat.succ_lt_succ hj) hz; rwa [show k + (j + 1) = k + 1 + j by omega] at this) (by rwa [show k + (i + 1) = k + 1 + i by omega] at hne)
    rw [show k + (i + 1) = k + 1 + i by omega]
    exact this
theorem firstF_none {f : Nat → D → D} : ∀ {xs : List D} {k : Nat}, (∀ j y, xs[j]? = some y → f (k + j) y = .non) → firstF f k xs = .non
  | [], _, _ => rfl
  | y :: ys, k, h => by
    unfold firstF
    rw [show f k y = .non from h 0 y rfl]
    exact firstF_none (f := f) (xs := ys) (k := k + 1) fun j z hz => by have := h (j + 1) z hz; rwa [show k + (j + 1) = k + 1 + j by omega] at this
theorem inKind_of {rs : List Row} {k a : Str} (h : k ∈ inKind rs a) : ∃ r ∈ rs, r.kind = k ∧ r.above = a := by
  obtain ⟨r, hr, rfl⟩ := List.mem_map.mp h
  obtain ⟨h1, h2⟩ := List.mem_filter.mp hr
  exact ⟨r, h1, rfl, of_decide_eq_true h2⟩
theorem marksOf_of {rs : List Row} (ok : KOk rs) {r : Row} (hr : r ∈ rs) : marksOf rs r.kind = r.marks := by
  unfold marksOf
  cases e : rs.find? fun s => decide (s.kind = r.kind) with
  | none =>
    have := List.find?_eq_none.mp e r hr
    simp at this
  | some s =>
    have h1 : decide (s.kind = r.kind) = true := List.find?_some (p := fun (s : Row) => decide (s.kind = r.kind)) e
    rw [ok.inj (List.mem_of_find?_eq_some e) hr (of_decide_eq_true h1)]
section
variable {K : PySem.W.Frag} {CK : Addr} {H H' H0 H1 H2 H3 H4 B' : Hp} {σ : L2.St} {X : Cx}
theorem pss_no {ss : List Stmt} : PSs X ss (fun _ _ _ => False) := ⟨fun _ _ _ _ _ _ h => h.elim⟩
def D.isN : D → Bool
  | .non => true
  | _ => false
theorem rep_isN {d : D} {v : V} (r : Rep K CK H d v) : decide (v = .non) = d.isN := by
  cases d with
  | non => rw [rep_non r]; rfl
  | bl b => rw [rep_bl r]; rfl
  | int b => rw [rep_int r]; rfl
  | str b => rw [rep_str r]; rfl
  | lst xs => obtain ⟨a, _, rfl, _⟩ := r; rfl
  | tup xs => obtain ⟨a, _, rfl, _⟩ := r; rfl
  | dct xs => obtain ⟨a, _, rfl, _⟩ := r; rfl
  | obj xs => obtain ⟨a, _, _, rfl, _⟩ := r; rfl
theorem hid_out (h : ∀ a, H0 a = none → (H a).isSome = true → B' a = none) (e : Ex H H3) : Ex (hid B' H3 H4) (hid H0 H H4) := fun a o z => by
  unfold hid
  rw [if_neg]
  · exact hid_sub _ _ z
  · rintro ⟨z1, z2⟩
    have b := h a (by simpa using z1) z2
    have h3 : (H3 a).isSome = true := by
      cases c : H a with
      | none => rw [c] at z2; cases z2
      | some u => rw [e a u c]; rfl
    rw [hid_no b h3] at z
    cases z
/-- *e, e a list or a tuple -/
theorem ead_star {te : TE} {t : TA} {d : D} {ds : List D} (h : EvD K CK te σ H d) (hL : d.isL = true) (hr : EvAD K CK t σ H ds) : EvAD K CK (tStar K te t) σ H (d.items ++ ds) := fun H1 e Q q =>
  h H1 e _ fun v H2 e2 r => by
    cases d with
    | lst xs =>
      obtain ⟨a, ps, rfl, h1, _, h2⟩ := r
      exact ⟨a, ps, rfl, .inr (sq_of (hid_sub _ _ h1)), hr H2 (e.trans e2) _ fun vs H3 e3 r3 => q _ H3 (e2.trans e3) (RepL.app (RepL.ex (hid_mono e3) h2) (RepL.ex (hid_le e2) r3))⟩
    | tup xs =>
      obtain ⟨a, ps, rfl, h1, _, h2⟩ := r
      exact ⟨a, ps, rfl, .inl (st_of (hid_sub _ _ h1)), hr H2 (e.trans e2) _ fun vs H3 e3 r3 => q _ H3 (e2.trans e3) (RepL.app (RepL.ex (hid_mono e3) h2) (RepL.ex (hid_le e2) r3))⟩
    | _ => cases hL
/-- isinstance(x, the class) -/
theorem ev_isO {ta : TE} {fs : List (Str × D)} (T : KCls K CK) (ha : EvD K CK ta σ H (.obj fs)) : Ev (tCB (rIsi K) (tCons ta (tCons (tC (.ref CK)) tNil))) σ H (.bl true) := fun H1 e Q q =>
  ha H1 e _ fun v H2 e2 r => ⟨v, .ref CK, .ref CK, .ref CK, true, rfl, .own CK, (r.ex hid_sub).ty T, by unfold PySem.W.kitOne; rw [if_pos (by simp)], q _ e2⟩
end
section
variable {P : Program} {w : World} {K : PySem.W.Frag} {mg : Str → Option Value} {base : Heap} {CK : Addr}
theorem scNeedKinds : FnScope ["kinds"] ["kinds"] (defScope sNeedKinds) := ⟨rfl, rfl, rfl, by decide +kernel, rfl, by decide +kernel, by decide +kernel⟩
abbrev spNeedKinds (K : PySem.W.Frag) (CK : Addr) : Sp := spX K CK 1 (fun ds d => ∃ rs, ds = [kindsD rs] ∧ d = .non)
theorem ok_need_kinds (d : Def K mg "need_kinds" sNeedKinds ["kinds"]) (mk : mg "Kinds" = some (.ref CK)) (T : KCls K CK) (N : Nm mg) : FnOk P w K mg base CX0 1 d.f d.fd ["kinds"] (spNeedKinds K CK) := by
  refine d.F.ok scNeedKinds (fun vs H Q E h => spX_len h) (fun cdv A outer s H vs Q E hr h => ?_)
  obtain ⟨x, d, v, H0, rfl, e0, r, ⟨rs, hx, rfl⟩, q⟩ := spX1 h
  cases hx
  refine ⟨_, pss_one (ps_if (pt_not (pt_val (pe_callB call_isi (by rfl) N.isinstance boot_isinstance (pa_cons (pv 0) (pa_cons (pe_glob (v := .ref CK) (by rfl) mk rfl) pa_nil))))) (pss_one ps_no) pss_nil), ?_⟩
  exact s_when (b := false) (Evl.EvT.mono e0 (et_is (et_not (et_B (ev_isO T (ed_var rfl r)))) rfl)) (fun z => by cases z) fun _ H1 e1 => q _ H1 e1 rfl
theorem scPartsFault : FnScope ["kinds", "above", "things", "way", "index", "thing", "fault"] ["kinds", "above", "things", "way"] (defScope sPartsFault) := ⟨rfl, rfl, rfl, by decide +kernel, rfl, by decide +kernel, by decide +kernel⟩
theorem scRecordFault : FnScope ["kinds", "above", "thing", "way", "kind", "mark", "parts"] ["kinds", "above", "thing", "way"] (defScope sRecordFault) := ⟨rfl, rfl, rfl, by decide +kernel, rfl, by decide +kernel, by decide +kernel⟩
abbrev spPartsF (K : PySem.W.Frag) (CK : Addr) (n : Nat) : Sp := spX K CK 4 (fun ds d => ∃ rs above things way, ds = [kindsD rs, .str above, things, wayD way] ∧ KOk rs ∧ (above = Str.empty ∨ above ∈ rs.map (·.kind)) ∧ things.isL = true ∧ (∀ y ∈ things.items, dpt n y) ∧ way.length + n < 1000 ∧ d = partsF rs n above things.items way)
abbrev spRecordF (K : PySem.W.Frag) (CK : Addr) (n : Nat) : Sp := spX K CK 4 (fun ds d => ∃ rs above thing way, ds = [kindsD rs, .str above, thing, wayD way] ∧ KOk rs ∧ (above = Str.empty ∨ above ∈ rs.map (·.kind)) ∧ dpt n thing ∧ way.length + n ≤ 1000 ∧ d = faultR rs n above thing way)
theorem ok_parts_of {n j : Nat} (d : Def K mg "_parts_fault" sPartsFault ["kinds", "above", "things", "way"]) (dR : Def K mg "_record_fault" sRecordFault ["kinds", "above", "thing", "way"])
    (GR : FnOk P w K mg base CX0 j dR.f dR.fd ["kinds", "above", "thing", "way"] (spRecordF K CK n)) (N : Nm mg) : FnOk P w K mg base CX0 (j + 1) d.f d.fd ["kinds", "above", "things", "way"] (spPartsF K CK n) := by
  refine d.F.ok scPartsFault (fun vs H Q E h => spX_len h) (fun cdv A outer s H vs Q E hr h => ?_)
  obtain ⟨x, y, z, t, d, v, w', u, p, H0, rfl, e0, r1, r2, r3, r4, ⟨rs, above, things, way, hx, ok, hab, hL, hd, hw, rfl⟩, q⟩ := spX4 h
  cases hx
  refine ⟨_, pss_cons (ps_for PassesOwn.never rfl (pi_enumS (by rfl) N.enumerate (pa_cons (pv 2) pa_nil)) (pg_unp rfl (pgs_cons (pg_name (i := 4) scPartsFault.nd rfl (.inl rfl)) (pgs_cons (pg_name (i := 5) scPartsFault.nd rfl (.inl rfl)) pgs_nil)))
      (pss_cons (ps_set (i := 6) scPartsFault.nd rfl (.inl rfl) (pe_call GR hr (by rfl) dR.m dR.F.kp dR.b .nil pass0 (pa_cons (pv 0) (pa_cons (pv 1) (pa_cons (pv 5) (pa_cons (pe_tup (pa_star (pv 3) (pa_cons (pv 4) pa_nil))) pa_nil))))))
      (pss_one (ps_if (pt_cmp (pc_notN (pv 6))) (pss_one (ps_ret (pv 6))) pss_nil))))
    (pss_one (ps_ret pe_non)), ?_⟩
  refine q_forI (H0 := H0) (ei_enum (ed_var rfl r3) hL) e0 (fun B i σ' H' => ∃ y4 y5 y6, σ' = [some v, some w', some u, some p, y4, y5, y6] ∧ Ex B H' ∧ Ex H H' ∧ (∀ a, H0 a = none → (H a).isSome = true → B a = none) ∧
    ∀ j d, j < i → z.items[j]? = some d → faultR rs n above d (way ++ [(j : Int)]) = .non) ?_ ?_ ?_ ?_
  · intro H2 e2
    exact ⟨_, _, _, rfl, hid_sub, e2, fun a h1 h2 => hid_no h1 h2, fun j d hj => absurd hj (Nat.not_lt_zero _)⟩
  · rintro B i σ' H' ⟨_, _, _, _, h, _⟩
    exact h
  · rintro B B' i dd x σ' Ha Hb eB hdd ⟨y4, y5, y6, rfl, eBa, eHa, hB, hp⟩ eab eBB eBb hB' rx
    obtain ⟨di, hdi, rfl⟩ := enumD_get hdd
    obtain ⟨v1, v2, s1, s2, hg⟩ := eg_unp2 (σ := [some v, some w', some u, some p, y4, y5, y6]) (i := 4) (j := 5) rx rfl rfl
    refine hg Hb eBb _ fun H3 e3 => ?_
    have eB3 : Ex B' H3 := eBb.trans e3
    have e03 : Ex H0 B' := eB.trans eBB
    refine ed_asg (K := K) (CK := CK) (d := faultR rs n above di (way ++ [(i : Int)])) (ed_callX (ds := [kindsD rs, .str above, di, wayD (way ++ [(i : Int)])]) (ead_cons (ed_var rfl (r1.ex e03)) (ead_cons (ed_var rfl (r2.ex e03)) (ead_cons (ed_var rfl s2) (ead_cons ?_ ead_nil)))) rfl
      ⟨rs, above, di, _, rfl, ok, hab, hd di (List.mem_of_getElem? hdi), by rw [List.length_append]; show way.length + 1 + n ≤ 1000; omega, rfl⟩) eB3 fun v5 H4 e4 r5 => ?_
    · have e : wayD (way ++ [(i : Int)]) = .tup ((wayD way).items ++ [.int (i : Int)]) := by
        unfold wayD
        rw [List.map_append]
        rfl
      rw [e]
      exact ed_tup (ead_star (ed_var rfl (r4.ex e03)) rfl (ead_cons (ed_var rfl s1) ead_nil)) (by rw [List.length_append]; show (way.map D.int).length + 1 ≤ 30000; rw [List.length_map]; omega)
    have eH4 : Ex H H4 := eHa.trans (eab.trans (e3.trans e4))
    have hB2 : ∀ a, H0 a = none → (H a).isSome = true → B' a = none := fun a h1 h2 => hB' a (hB a h1 h2) (by
      cases c : H a with
      | none => rw [c] at h2; cases h2
      | some o => rw [eHa a o c]; rfl)
    have r6 : Rep K CK (hid H0 H H4) (faultR rs n above di (way ++ [(i : Int)])) v5 := r5.ex (hid_out hB2 (eHa.trans (eab.trans e3)))
    refine s_when (b := !(faultR rs n above di (way ++ [(i : Int)])).isN) (et_B (ev_is (ev_notN (v := v5) (ev_var rfl)) (by rw [rep_isN r5]))) (fun hb H5 e5 => ?_) fun hb H5 e5 => ?_
    · refine ev_var (H := H5) (v := v5) rfl H5 (Ex.refl _) _ fun H6 e6 => q v5 H6 (eH4.trans (e5.trans e6)) ?_
      have hne : faultR rs n above di (way ++ [(i : Int)]) ≠ .non := fun c => by rw [c] at hb; cases hb
      have hf := firstF_at (f := fun i y => faultR rs n above y (way ++ [(i : Int)])) (k := 0) hdi (fun j d hj hz => by rw [Nat.zero_add]; exact hp j d hj hz) (by rw [Nat.zero_add]; exact hne)
      rw [Nat.zero_add] at hf
      unfold partsF
      rw [hf]
      exact r6.ex (hid_mono (e5.trans e6))
    · refine ⟨_, _, _, rfl, eBa.trans (eab.trans (e3.trans (e4.trans e5))), eH4.trans e5, hB, fun j d hj hdj => ?_⟩
      by_cases c : j < i
      · exact hp j d c hdj
      · obtain rfl : j = i := by omega
        rw [hdi] at hdj
        cases hdj
        cases e : faultR rs n above di (way ++ [(j : Int)]) with
        | non => rfl
        | _ => rw [e] at hb; cases hb
  · rintro B σ' H' eB ⟨y4, y5, y6, rfl, eBa, eHa, hB, hp⟩
    rw [enumD_len] at hp
    refine q _ H' eHa ?_
    unfold partsF
    rw [firstF_none (f := fun i y => faultR rs n above y (way ++ [(i : Int)])) (k := 0) fun j d hj => by rw [Nat.zero_add]; exact hp j d (List.getElem?_eq_some_iff.mp hj).1 hj]
    rfl
end
end Any
set_option Elab.async false
set_option linter.all false
set_option maxRecDepth 100000
set_option maxHeartbeats 2000000
namespace Any
open PySem PySem.Spec PyProof.Rows L2 Evl StX
section
variable {K : PySem.W.Frag} {CK : Addr} {H H' H0 H1 H2 H3 H4 B : Hp} {σ σ2 : L2.St} {X : Cx}
theorem q_unp {i : Nat} {v : V} {g : TG} {tz : TS} {D0 : Ends} (h : σ[i]? = some (some v)) (hg : EvG g v σ B σ2) (eB : Ex B H) (k : ∀ H2, Ex H H2 → tz D0 σ2 H2) : tSeq (tAsg (tVar i) g) tz D0 σ H := ⟨v, h, hg H eB _ k⟩
end
section
variable {P : Program} {w : World} {K : PySem.W.Frag} {mg : Str → Option Value} {base : Heap} {CK : Addr}
/-- what the faults' functions call -/
structure Fns (P : Program) (w : World) (K : PySem.W.Frag) (mg : Str → Option Value) (base : Heap) (CK : Addr) where
  dL : Def K mg "is_list" sIsList ["thing"]
  dLO : Def K mg "is_list_of" sIsListOf ["thing", "many"]
  dOO : Def K mg "is_one_of" sIsOneOf ["thing", "names"]
  dP : MDef K CK "parts" "Kinds.parts" sKParts ["self", "kind"]
  dM : MDef K CK "marks" "Kinds.marks" sKMarks ["self", "kind"]
  dRo : MDef K CK "_row_of" "Kinds._row_of" sKRowOf ["self", "kind"]
  dPF : Def K mg "_parts_fault" sPartsFault ["kinds", "above", "things", "way"]
  dRF : Def K mg "_record_fault" sRecordFault ["kinds", "above", "thing", "way"]
  T : KCls K CK
  KN : KNm K CK
  N : Nm mg
theorem ok_record0 (F : Fns P w K mg base CK) : FnOk P w K mg base CX0 4 F.dRF.f F.dRF.fd ["kinds", "above", "thing", "way"] (spRecordF K CK 0) := by
  have GO : FnOk P w K mg base CX0 3 F.dLO.f F.dLO.fd ["thing", "many"] (spIsListOf K CK) := (ok_is_list_of F.dLO F.dL F.T F.N).mono (by decide)
  refine F.dRF.F.ok scRecordFault (fun vs H Q E h => spX_len h) (fun cdv A outer s H vs Q E hr h => ?_)
  obtain ⟨x, y, z, t, d, v, w', u, p, H0, rfl, e0, r1, r2, r3, r4, ⟨rs, above, things, way, hx, ok, hab, hd, hw, rfl⟩, q⟩ := spX4 h
  cases hx
  refine ⟨_, pss_cons (ps_if (pt_not (pt_val (pe_call GO hr (by rfl) F.dLO.m F.dLO.F.kp F.dLO.b .nil pass0 (pa_cons (pv 2) (pa_cons pe_int pa_nil))))) (pss_one (ps_ret (pe_tup (pa_cons pe_str (pa_cons (pv 3) pa_nil))))) pss_nil) pss_no, ?_⟩
  have hz : z.isL = false := hd
  refine q_when (b := true) (Evl.EvT.mono e0 (et_is (et_not (et_B (EvD.b (ed_call (ds := [z, .int 3]) (ead_cons (ed_var rfl r3) (ead_cons ed_int ead_nil)) rfl ⟨_, _, rfl⟩)))) ?_)) (fun _ H1 e1 => ?_) (fun hb => by cases hb)
  · show (!(z.isL && decide ((z.items.length : Int) = 3))) = true
    rw [hz]
    rfl
  · exact s_retD (ed_tup (ead_cons (ed_str (by decide)) (ead_cons (ed_var rfl r4) ead_nil)) (by show (2 : Nat) ≤ 30000; decide)) (e0.trans e1) fun v5 H5 e5 r5 => q v5 H5 (e1.trans e5) (r5.ex (hid_le e1))
theorem three {d : D} (h : d.items.length = 3) : ∃ a b c, d.items = [a, b, c] := by
  match e : d.items, h with
  | [a, b, c], _ => exact ⟨a, b, c, rfl⟩
theorem ok_record_of {n j : Nat} (F : Fns P w K mg base CK) (GP : FnOk P w K mg base CX0 j F.dPF.f F.dPF.fd ["kinds", "above", "things", "way"] (spPartsF K CK n)) (hj : 3 ≤ j) : FnOk P w K mg base CX0 (j + 1) F.dRF.f F.dRF.fd ["kinds", "above", "thing", "way"] (spRecordF K CK (n + 1)) := by
  have GO : FnOk P w K mg base CX0 j F.dLO.f F.dLO.fd ["thing", "many"] (spIsListOf K CK) := (ok_is_list_of F.dLO F.dL F.T F.N).mono (by omega)
  have G1 : FnOk P w K mg base CX0 j F.dOO.f F.dOO.fd ["thing", "names"] (spIsOneOf K CK) := (ok_is_one_of F.dOO F.T F.N).mono (by omega)
  have GL : FnOk P w K mg base CX0 j F.dL.f F.dL.fd ["thing"] (spIsList K CK) := (ok_is_list F.dL F.T F.N).mono (by omega)
  have GK : FnOk P w K mg base CX0 j F.dP.f F.dP.fd ["self", "kind"] (spKParts K CK) := (ok_parts F.dP F.dOO F.T F.KN F.N).mono (by omega)
  have GM : FnOk P w K mg base CX0 j F.dM.f F.dM.fd ["self", "kind"] (spKMarks K CK) := (ok_marks F.dM F.dRo F.dOO F.T F.KN F.N).mono (by omega)
  refine F.dRF.F.ok scRecordFault (fun vs H Q E h => spX_len h) (fun cdv A outer s H vs Q E hr h => ?_)
  obtain ⟨x, y, z, t, d, v, w', u, p, H0, rfl, e0, r1, r2, r3, r4, ⟨rs, above, things, way, hx, ok, hab, hd, hw, rfl⟩, q⟩ := spX4 h
  cases hx
  refine ⟨_, pss_cons (ps_if (pt_not (pt_val (pe_call GO hr (by rfl) F.dLO.m F.dLO.F.kp F.dLO.b .nil pass0 (pa_cons (pv 2) (pa_cons pe_int pa_nil))))) (pss_one (ps_ret (pe_tup (pa_cons pe_str (pa_cons (pv 3) pa_nil))))) pss_nil)
    (pss_cons (ps_asg (pv 2) (pg_unp rfl (pgs_cons (pg_name (i := 4) scRecordFault.nd rfl (.inl rfl)) (pgs_cons (pg_name (i := 5) scRecordFault.nd rfl (.inl rfl)) (pgs_cons (pg_name (i := 6) scRecordFault.nd rfl (.inl rfl)) pgs_nil)))))
    (pss_cons (ps_if (pt_not (pt_val (pe_call G1 hr (by rfl) F.dOO.m F.dOO.F.kp F.dOO.b .nil pass0 (pa_cons (pv 4) (pa_cons (pe_meth (pv 0) F.T.cl F.dP.m GK hr F.dP.b .nil pass0 (pa_cons (pv 1) pa_nil)) pa_nil))))) (pss_one (ps_ret (pe_tup (pa_cons pe_str (pa_cons (pv 3) pa_nil))))) pss_nil)
    (pss_cons (ps_if (pt_not (pt_val (pe_call G1 hr (by rfl) F.dOO.m F.dOO.F.kp F.dOO.b .nil pass0 (pa_cons (pv 5) (pa_cons (pe_meth (pv 0) F.T.cl F.dM.m GM hr F.dM.b .nil pass0 (pa_cons (pv 4) pa_nil)) pa_nil))))) (pss_one (ps_ret (pe_tup (pa_cons pe_str (pa_cons (pv 3) pa_nil))))) pss_nil)
    (pss_cons (ps_if (pt_not (pt_val (pe_call GL hr (by rfl) F.dL.m F.dL.F.kp F.dL.b .nil pass0 (pa_cons (pv 6) pa_nil)))) (pss_one (ps_ret (pe_tup (pa_cons pe_str (pa_cons (pv 3) pa_nil))))) pss_nil)
    (pss_one (ps_ret (pe_call GP hr (by rfl) F.dPF.m F.dPF.F.kp F.dPF.b .nil pass0 (pa_cons (pv 0) (pa_cons (pv 4) (pa_cons (pv 6) (pa_cons (pv 3) pa_nil))))))))))), ?_⟩
  -- what a fault tells
  have bad : ∀ (x : String) (σ' : L2.St) (Hc : Hp), Ex H Hc → (Str.ofString x).length ≤ 1000 → σ'[3]? = some (some p) → faultR rs (n + 1) above z way = badD x way → tRet (tTup (tCons (tC (.str x)) (tCons (tVar 3) tNil))) { nx := fun _ H' => Q V.non H', rt := Q } σ' Hc := fun x σ' Hc e hl h3 hf => by
    refine s_retD (H0 := H0) (d := badD x way) (ed_tup (ead_cons (ed_str hl) (ead_cons (ed_var h3 r4) ead_nil)) (by show (2 : Nat) ≤ 30000; decide)) (e0.trans e) fun v5 H5 e5 r5 => q v5 H5 (e.trans e5) ?_
    rw [hf]
    exact r5.ex (hid_le e)
  have hfl : isListOf z (.int 3) = (z.isL && decide (z.items.length = 3)) := by
    show (z.isL && decide ((z.items.length : Int) = 3)) = _
    congr 1
    exact decide_eq_decide.mpr (by omega)
  refine q_when (b := !isListOf z (.int 3)) (Evl.EvT.mono e0 (et_not (et_B (EvD.b (ed_call (ds := [z, .int 3]) (ead_cons (ed_var rfl r3) (ead_cons ed_int ead_nil)) rfl ⟨_, _, rfl⟩))))) (fun hb H1 e1 => ?_) fun hb H1 e1 => ?_
  · refine bad "record" _ H1 e1 (by decide) rfl ?_
    exact faultR_no (by rw [← hfl]; simpa using hb)
  have hc : (z.isL && decide (z.items.length = 3)) = true := by rw [← hfl]; simpa using hb
  have hL : z.isL = true := (Bool.and_eq_true_iff.mp hc).1
  obtain ⟨k, m, pp, hi⟩ := three (of_decide_eq_true (Bool.and_eq_true_iff.mp hc).2)
  obtain ⟨v1, v2, v3, s1, s2, s3, hg⟩ := eg_unp3 (σ := [some v, some w', some u, some p, none, none, none]) (i := 4) (j := 5) (k := 6) r3 hL hi
  refine q_unp rfl hg (e0.trans e1) fun H2 e2 => ?_
  have e02 : Ex H0 H2 := e0.trans (e1.trans e2)
  have eq1 : faultR rs (n + 1) above z way = faultK (faultR rs n) rs above k m pp way := faultR_yes hc hi
  have P1 : EvP (tMeth CK "parts" (spKParts K CK) [] E0 (tVar 0) (tCons (tVar 1) tNil)) [some v, some w', some u, some p, some v1, some v2, some v3] H0 (fun v H => Has H v (fun z => decide (z ∈ inKind rs above))) :=
    has_lst (ed_meth (fs := kFields rs) (ds := [.str above]) (ed_var rfl r1) (look_no rs (by decide +kernel) (by decide +kernel)) (ead_cons (ed_var rfl r2) ead_nil) rfl ⟨rs, above, rfl, ok, hab, rfl⟩)
  refine q_when (b := !oneOf k (fun z => decide (z ∈ inKind rs above))) (Evl.EvT.mono e02 (et_not (et_B (ev_oneOf (ed_var rfl s1) P1)))) (fun hb H3 e3 => ?_) fun hb H3 e3 => ?_
  · refine bad "kind" _ H3 (e1.trans (e2.trans e3)) (by decide) rfl ?_
    rw [eq1]
    exact faultK_no (by simpa using hb)
  obtain ⟨kk, rfl, hk⟩ : ∃ kk, k = .str kk ∧ kk ∈ inKind rs above := by
    cases k with
    | str k => exact ⟨k, rfl, by simpa [oneOf] using hb⟩
    | _ => exact absurd hb (by simp [oneOf])
  obtain ⟨ro, hro, rfl, hra⟩ := inKind_of hk
  have e13 : Ex H H3 := e1.trans (e2.trans e3)
  rw [faultK_yes hk] at eq1
  have P2 : EvP (tMeth CK "marks" (spKMarks K CK) [] E0 (tVar 0) (tCons (tVar 4) tNil)) [some v, some w', some u, some p, some v1, some v2, some v3] H0 (fun v H => Has H v (fun z => decide (z ∈ ro.marks))) :=
    has_lst (ed_meth (fs := kFields rs) (ds := [.str ro.kind]) (ed_var rfl r1) (look_no rs (by decide +kernel) (by decide +kernel)) (ead_cons (ed_var rfl s1) ead_nil) rfl ⟨rs, ro, rfl, ok, hro, rfl⟩)
  refine q_when (b := !oneOf m (fun z => decide (z ∈ ro.marks))) (Evl.EvT.mono (e0.trans e13) (et_not (et_B (ev_oneOf (ed_var rfl s2) P2)))) (fun hb H4 e4 => ?_) fun hb H4 e4 => ?_
  · refine bad "mark" _ H4 (e13.trans e4) (by decide) rfl ?_
    rw [eq1]
    exact faultM_no (by rw [marksOf_of ok hro]; simpa using hb)
  obtain ⟨mm, rfl, hm⟩ : ∃ mm, m = .str mm ∧ mm ∈ ro.marks := by
    cases m with
    | str m => exact ⟨m, rfl, by simpa [oneOf] using hb⟩
    | _ => exact absurd hb (by simp [oneOf])
  rw [faultM_yes (by rw [marksOf_of ok hro]; exact hm)] at eq1
  have e14 : Ex H H4 := e13.trans e4
  refine q_when (b := !pp.isL) (Evl.EvT.mono (e0.trans e14) (et_not (et_B (EvD.b (ed_call (ds := [pp]) (ead_cons (ed_var rfl s3) ead_nil) rfl trivial))))) (fun hb H5 e5 => ?_) fun hb H5 e5 => ?_
  · refine bad "list" _ H5 (e14.trans e5) (by decide) rfl ?_
    rw [eq1, if_neg (by simpa using hb)]
  have hpL : pp.isL = true := by simpa using hb
  rw [if_pos hpL] at eq1
  have e15 : Ex H H5 := e14.trans e5
  refine s_retD (H0 := H0) (ed_callX (d := partsF rs n ro.kind pp.items way) (ds := [kindsD rs, .str ro.kind, pp, wayD way]) (ead_cons (ed_var rfl r1) (ead_cons (ed_var rfl s1) (ead_cons (ed_var rfl s3) (ead_cons (ed_var rfl r4) ead_nil)))) rfl
    ⟨rs, ro.kind, pp, way, rfl, ok, .inr (List.mem_map.mpr ⟨ro, hro, rfl⟩), hpL, hd hL pp (by rw [hi]; simp) hpL, by omega, rfl⟩) (e0.trans e15) fun v5 H6 e6 r6 => q v5 H6 (e15.trans e6) ?_
  rw [eq1]
  exact r6.ex (hid_le e15)
theorem ok_record (F : Fns P w K mg base CK) : ∀ n, FnOk P w K mg base CX0 (2 * n + 4) F.dRF.f F.dRF.fd ["kinds", "above", "thing", "way"] (spRecordF K CK n)
  | 0 => ok_record0 F
  | n + 1 => ok_record_of F (ok_parts_of F.dPF F.dRF (ok_record F n) F.N) (by omega)
theorem ok_parts_fault (F : Fns P w K mg base CK) (n : Nat) : FnOk P w K mg base CX0 (2 * n + 5) F.dPF.f F.dPF.fd ["kinds", "above", "things", "way"] (spPartsF K CK n) := ok_parts_of F.dPF F.dRF (ok_record F n) F.N
end
end Any
set_option Elab.async false
set_option linter.all false
set_option maxRecDepth 100000
set_option maxHeartbeats 2000000
namespace Any
open PySem PySem.Spec PyProof.Rows L2 Evl StX
abbrev sIsRecord : Stmt := topS 27
abbrev sIsStand : Stmt := topS 28
abbrev sStandFault : Stmt := topS 29
abbrev sStandIndex : Stmt := topS 32
abbrev sNeedStand : Stmt := topS 33
abbrev sNeedMate : Stmt := topS 34
abbrev sToldStand : Stmt := topS 35
abbrev sAreAlike : Stmt := topS 36
abbrev sSizeOf : Stmt := topS 37
def standF (rs : List Row) (n : Nat) (d : D) : D := if d.isL then partsF rs n Str.empty d.items [] else badD "list" []
def aboveOf (rs : List Row) (k : Str) : Str := match rs.find? fun r => decide (r.kind = k) with
  | some r => r.above
  | none => Str.empty
theorem aboveOf_of {rs : List Row} (ok : KOk rs) {r : Row} (hr : r ∈ rs) : aboveOf rs r.kind = r.above := by
  unfold aboveOf
  cases e : rs.find? fun s => decide (s.kind = r.kind) with
  | none =>
    have := List.find?_eq_none.mp e r hr
    simp at this
  | some s =>
    have h1 : decide (s.kind = r.kind) = true := List.find?_some (p := fun (s : Row) => decide (s.kind = r.kind)) e
    rw [ok.inj (List.mem_of_find?_eq_some e) hr (of_decide_eq_true h1)]
/-- is it a record, of any kind -/
def recOf (rs : List Row) (n : Nat) (d : D) : Bool := d.isL && (decide (d.items.length = 3) && match d.items.getD 0 .non with
  | .str k => decide (k ∈ rs.map (·.kind)) && (faultR rs n (aboveOf rs k) d []).isN
  | _ => false)
section
variable {K : PySem.W.Frag} {CK : Addr} {H H' H0 H1 H2 H3 H4 B : Hp} {σ σ2 : L2.St} {X : Cx}
theorem ev_isN {ta : TE} {d : D} (h : EvD K CK ta σ H d) : Ev (tIsN ta) σ H (.bl d.isN) := fun H1 e Q q => h H1 e _ fun v H2 e2 r => by
  rw [rep_isN r]
  exact q H2 e2
theorem ev_notND {ta : TE} {d : D} (h : EvD K CK ta σ H d) : Ev (tNotN ta) σ H (.bl (!d.isN)) := fun H1 e Q q => h H1 e _ fun v H2 e2 r => by
  rw [rep_isN r]
  exact q H2 e2
theorem ev_eqD {ta tb : TE} {d e : D} (h1 : EvD K CK ta σ H d) (h2 : EvD K CK tb σ H e) (f1 : d.flat = true) (f2 : e.flat = true) (s1 : SeqAt.shaped d.py = true) (s2 : SeqAt.shaped e.py = true) : Ev (tOp (rEqD K) ta tb) σ H (.bl (PyData.eqv d.py e.py)) := fun H1 e1 Q q =>
  h1 H1 e1 _ fun v H2 e2 r => h2 H2 (e1.trans e2) _ fun v2 H3 e3 r2 => ⟨d.py, e.py, ((r.ex hid_sub).ex e3).dp f1, (r2.ex hid_sub).dp f2, s1, s2, q H3 (e2.trans e3)⟩
/-- an expression stands as a statement -/
theorem q_dropD {te : TE} {tz : TS} {D0 : Ends} {d : D} (h : EvD K CK te σ B d) (eB : Ex B H) (k : ∀ H1, Ex H H1 → tz D0 σ H1) : tSeq (tDrop te) tz D0 σ H := h H eB _ fun v H1 e _ => k H1 e
end
section
variable {P : Program} {w : World} {K : PySem.W.Frag} {mg : Str → Option Value} {base : Heap} {CK : Addr}
structure Sts (P : Program) (w : World) (K : PySem.W.Frag) (mg : Str → Option Value) (base : Heap) (CK : Addr) extends Fns P w K mg base CK where
  dNK : Def K mg "need_kinds" sNeedKinds ["kinds"]
  mgK : mg "Kinds" = some (.ref CK)
  dA : MDef K CK "all_kinds" "Kinds.all_kinds" sKAll ["self"]
  dAb : MDef K CK "above" "Kinds.above" sKAbove ["self", "kind"]
  dTH : Def K mg "told_heap" sToldHeap ["records"]
  dTR : Def K mg "told_record" sToldRecord ["record"]
  dHS : Def K mg "heap_size" sHeapSize ["heap"]
  dSF : Def K mg "stand_fault" sStandFault ["kinds", "thing"]
  dSI : Def K mg "stand_index" sStandIndex ["kinds", "thing"]
  dNS : Def K mg "need_stand" sNeedStand ["kinds", "stand"]
  dNM : Def K mg "need_mate_stand" sNeedMate ["kinds", "mate"]
  dTS : Def K mg "told_stand" sToldStand ["kinds", "stand"]
theorem scStandFault : FnScope ["kinds", "thing"] ["kinds", "thing"] (defScope sStandFault) := ⟨rfl, rfl, rfl, by decide +kernel, rfl, by decide +kernel, by decide +kernel⟩
abbrev spStandF (K : PySem.W.Frag) (CK : Addr) (n : Nat) : Sp := spX K CK 2 (fun ds d => ∃ rs thing, ds = [kindsD rs, thing] ∧ KOk rs ∧ n < 1000 ∧ (thing.isL = true → ∀ y ∈ thing.items, dpt n y) ∧ d = standF rs n thing)
theorem ok_stand_fault (F : Sts P w K mg base CK) (n : Nat) : FnOk P w K mg base CX0 (2 * n + 6) F.dSF.f F.dSF.fd ["kinds", "thing"] (spStandF K CK n) := by
  have GN : FnOk P w K mg base CX0 (2 * n + 5) F.dNK.f F.dNK.fd ["kinds"] (spNeedKinds K CK) := (ok_need_kinds F.dNK F.mgK F.T F.N).mono (by omega)
  have GL : FnOk P w K mg base CX0 (2 * n + 5) F.dL.f F.dL.fd ["thing"] (spIsList K CK) := (ok_is_list F.dL F.T F.N).mono (by omega)
  have GP : FnOk P w K mg base CX0 (2 * n + 5) F.dPF.f F.dPF.fd ["kinds", "above", "things", "way"] (spPartsF K CK n) := ok_parts_fault F.toFns n
  refine F.dSF.F.ok scStandFault (fun vs H Q E h => spX_len h) (fun cdv A outer s H vs Q E hr h => ?_)
  obtain ⟨x, y, d, v, v2, H0, rfl, e0, r1, r2, ⟨rs, thing, hx, ok, hn, hd, rfl⟩, q⟩ := spX2 h
  cases hx
  refine ⟨_, pss_cons (ps_expr (pe_call GN hr (by rfl) F.dNK.m F.dNK.F.kp F.dNK.b .nil pass0 (pa_cons (pv 0) pa_nil)))
    (pss_cons (ps_if (pt_not (pt_val (pe_call GL hr (by rfl) F.dL.m F.dL.F.kp F.dL.b .nil pass0 (pa_cons (pv 1) pa_nil)))) (pss_one (ps_ret (pe_tup (pa_cons pe_str (pa_cons (pe_tup pa_nil) pa_nil))))) pss_nil)
    (pss_one (ps_ret (pe_call GP hr (by rfl) F.dPF.m F.dPF.F.kp F.dPF.b .nil pass0 (pa_cons (pv 0) (pa_cons pe_str (pa_cons (pv 1) (pa_cons (pe_tup pa_nil) pa_nil)))))))), ?_⟩
  refine q_dropD (ed_callX (ds := [kindsD rs]) (ead_cons (ed_var rfl r1) ead_nil) rfl ⟨rs, rfl, rfl⟩) e0 fun H1 e1 => ?_
  refine q_when (b := !y.isL) (Evl.EvT.mono (e0.trans e1) (et_not (et_B (EvD.b (ed_call (ds := [y]) (ead_cons (ed_var rfl r2) ead_nil) rfl trivial))))) (fun hb H2 e2 => ?_) fun hb H2 e2 => ?_
  · have e02 : Ex H H2 := e1.trans e2
    refine s_retD (K := K) (CK := CK) (H0 := H0) (d := badD "list" []) (ed_tup (ead_cons (ed_str (by decide)) (ead_cons (ed_tup ead_nil (by show (0 : Nat) ≤ 30000; decide)) ead_nil)) (by show (2 : Nat) ≤ 30000; decide)) (e0.trans e02) fun v5 H5 e5 r5 => q v5 H5 (e02.trans e5) ?_
    unfold standF
    rw [if_neg (by simpa using hb)]
    exact r5.ex (hid_le e02)
  · have e02 : Ex H H2 := e1.trans e2
    have hL : y.isL = true := by simpa using hb
    refine s_retD (K := K) (CK := CK) (H0 := H0) (d := partsF rs n Str.empty y.items []) (ed_callX (ds := [kindsD rs, .str Str.empty, y, wayD []]) (ead_cons (ed_var rfl r1) (ead_cons (ed_str (by decide)) (ead_cons (ed_var rfl r2) (ead_cons (ed_tup ead_nil (by show (0 : Nat) ≤ 30000; decide)) ead_nil)))) rfl
      ⟨rs, Str.empty, y, [], rfl, ok, .inl rfl, hL, hd hL, by show 0 + n < 1000; omega, rfl⟩) (e0.trans e02) fun v5 H5 e5 r5 => q v5 H5 (e02.trans e5) ?_
    unfold standF
    rw [if_pos hL]
    exact r5.ex (hid_le e02)
theorem scIsStand : FnScope ["kinds", "thing"] ["kinds", "thing"] (defScope sIsStand) := ⟨rfl, rfl, rfl, by decide +kernel, rfl, by decide +kernel, by decide +kernel⟩
abbrev spIsStand (K : PySem.W.Frag) (CK : Addr) (n : Nat) : Sp := spX K CK 2 (fun ds d => ∃ rs thing, ds = [kindsD rs, thing] ∧ KOk rs ∧ n < 1000 ∧ (thing.isL = true → ∀ y ∈ thing.items, dpt n y) ∧ d = .bl (standF rs n thing).isN)
theorem ok_is_stand (d : Def K mg "is_stand" sIsStand ["kinds", "thing"]) (F : Sts P w K mg base CK) (n : Nat) : FnOk P w K mg base CX0 (2 * n + 7) d.f d.fd ["kinds", "thing"] (spIsStand K CK n) := by
  have GS : FnOk P w K mg base CX0 (2 * n + 6) F.dSF.f F.dSF.fd ["kinds", "thing"] (spStandF K CK n) := ok_stand_fault F n
  refine d.F.ok scIsStand (fun vs H Q E h => spX_len h) (fun cdv A outer s H vs Q E hr h => ?_)
  obtain ⟨x, y, d, v, v2, H0, rfl, e0, r1, r2, ⟨rs, thing, hx, ok, hn, hd, rfl⟩, q⟩ := spX2 h
  cases hx
  refine ⟨_, pss_one (ps_ret (pe_cmp (pc_isN (pe_call GS hr (by rfl) F.dSF.m F.dSF.F.kp F.dSF.b .nil pass0 (pa_cons (pv 0) (pa_cons (pv 1) pa_nil)))))), ?_⟩
  exact s_ret (Ev.mono e0 (ev_isN (ed_callX (ds := [kindsD rs, y]) (ead_cons (ed_var rfl r1) (ead_cons (ed_var rfl r2) ead_nil)) rfl ⟨rs, y, rfl, ok, hn, hd, rfl⟩))) fun H1 e => q _ H1 e rfl
theorem scIsRecord : FnScope ["kinds", "thing"] ["kinds", "thing"] (defScope sIsRecord) := ⟨rfl, rfl, rfl, by decide +kernel, rfl, by decide +kernel, by decide +kernel⟩
abbrev spIsRecord (K : PySem.W.Frag) (CK : Addr) (n : Nat) : Sp := spX K CK 2 (fun ds d => ∃ rs thing, ds = [kindsD rs, thing] ∧ KOk rs ∧ n ≤ 1000 ∧ dpt n thing ∧ d = .bl (recOf rs n thing))
theorem ok_is_record (d : Def K mg "is_record" sIsRecord ["kinds", "thing"]) (F : Sts P w K mg base CK) (n : Nat) : FnOk P w K mg base CX0 (2 * n + 5) d.f d.fd ["kinds", "thing"] (spIsRecord K CK n) := by
  have GN : FnOk P w K mg base CX0 (2 * n + 4) F.dNK.f F.dNK.fd ["kinds"] (spNeedKinds K CK) := (ok_need_kinds F.dNK F.mgK F.T F.N).mono (by omega)
  have GO : FnOk P w K mg base CX0 (2 * n + 4) F.dLO.f F.dLO.fd ["thing", "many"] (spIsListOf K CK) := (ok_is_list_of F.dLO F.dL F.T F.N).mono (by omega)
  have G1 : FnOk P w K mg base CX0 (2 * n + 4) F.dOO.f F.dOO.fd ["thing", "names"] (spIsOneOf K CK) := (ok_is_one_of F.dOO F.T F.N).mono (by omega)
  have GA : FnOk P w K mg base CX0 (2 * n + 4) F.dA.f F.dA.fd ["self"] (spKAll K CK) := (ok_all_kinds F.dA F.T F.KN F.N).mono (by omega)
  have GB : FnOk P w K mg base CX0 (2 * n + 4) F.dAb.f F.dAb.fd ["self", "kind"] (spKAbove K CK) := (ok_above F.dAb F.dRo F.dOO F.T F.KN F.N).mono (by omega)
  have GR : FnOk P w K mg base CX0 (2 * n + 4) F.dRF.f F.dRF.fd ["kinds", "above", "thing", "way"] (spRecordF K CK n) := ok_record F.toFns n
  refine d.F.ok scIsRecord (fun vs H Q E h => spX_len h) (fun cdv A outer s H vs Q E hr h => ?_)
  obtain ⟨x, y, d, v, v2, H0, rfl, e0, r1, r2, ⟨rs, thing, hx, ok, hn, hd, rfl⟩, q⟩ := spX2 h
  cases hx
  refine ⟨_, pss_cons (ps_expr (pe_call GN hr (by rfl) F.dNK.m F.dNK.F.kp F.dNK.b .nil pass0 (pa_cons (pv 0) pa_nil)))
    (pss_cons (ps_if (PW.pt (pw_or (pt_not (pt_val (pe_call GO hr (by rfl) F.dLO.m F.dLO.F.kp F.dLO.b .nil pass0 (pa_cons (pv 1) (pa_cons pe_int pa_nil)))))
        (pw_or1 (pt_not (pt_val (pe_call G1 hr (by rfl) F.dOO.m F.dOO.F.kp F.dOO.b .nil pass0 (pa_cons (pe_ix (r := rIxLT K) ix_lt (pv 1) pe_int (fun _ _ => rfl)) (pa_cons (pe_meth0 (pv 0) F.T.cl F.dA.m GA hr F.dA.b .nil pass0) pa_nil)))))))) (pss_one (ps_ret pe_bl)) pss_nil)
    (pss_one (ps_ret (pe_cmp (pc_isN (pe_call GR hr (by rfl) F.dRF.m F.dRF.F.kp F.dRF.b .nil pass0 (pa_cons (pv 0) (pa_cons (pe_meth (pv 0) F.T.cl F.dAb.m GB hr F.dAb.b .nil pass0 (pa_cons (pe_ix (r := rIxLT K) ix_lt (pv 1) pe_int (fun _ _ => rfl)) pa_nil))
      (pa_cons (pv 1) (pa_cons (pe_tup pa_nil) pa_nil)))))))))), ?_⟩
  refine q_dropD (ed_callX (ds := [kindsD rs]) (ead_cons (ed_var rfl r1) ead_nil) rfl ⟨rs, rfl, rfl⟩) e0 fun H1 e1 => ?_
  have hfl : isListOf y (.int 3) = (y.isL && decide (y.items.length = 3)) := by
    show (y.isL && decide ((y.items.length : Int) = 3)) = _
    congr 1
    exact decide_eq_decide.mpr (by omega)
  have T1 : EvT (tNot (tB (tCall (spIsListOf K CK) [] E0 (tCons (tVar 1) (tCons (tC (.int 3)) tNil))))) [some v, some v2] H0 (!isListOf y (.int 3)) := et_not (et_B (EvD.b (ed_call (ds := [y, .int 3]) (ead_cons (ed_var rfl r2) (ead_cons ed_int ead_nil)) rfl ⟨_, _, rfl⟩)))
  have eA : (kindsD rs) = .obj (kFields rs) := rfl
  refine q_when (b := !isListOf y (.int 3) || !oneOf (y.items.getD 0 .non) (fun z => decide (z ∈ rs.map (·.kind)))) (Evl.EvT.mono (e0.trans e1) (et_or T1 fun hb => ?_)) (fun hb H2 e2 => ?_) fun hb H2 e2 => ?_
  · have hc : (y.isL && decide (y.items.length = 3)) = true := by rw [← hfl]; simpa using hb
    obtain ⟨k, m, pp, hi⟩ := three (of_decide_eq_true (Bool.and_eq_true_iff.mp hc).2)
    refine et_not (et_B (ev_oneOf (ed_ix (j := 0) (ed_var rfl r2) ev_c (Bool.and_eq_true_iff.mp hc).1 (by rw [hi]; rfl)) (has_lst (ed_meth (fs := kFields rs) (ds := []) (ed_var rfl r1) (look_no rs (by decide +kernel) (by decide +kernel)) ead_nil rfl ⟨rs, rfl, ok, ?_⟩))))
    rw [List.map_map]
    rfl
  · have e02 : Ex H H2 := e1.trans e2
    refine s_retD (K := K) (CK := CK) (H0 := H0) (d := .bl false) ed_b (e0.trans e02) fun v5 H5 e5 r5 => q v5 H5 (e02.trans e5) ?_
    have : recOf rs n y = false := by
      unfold recOf
      rw [hfl] at hb
      cases c1 : y.isL with
      | false => rfl
      | true =>
        cases c2 : decide (y.items.length = 3) with
        | false => rfl
        | true =>
          rw [c1, c2] at hb
          have hb2 : oneOf (y.items.getD 0 .non) (fun z => decide (z ∈ rs.map (·.kind))) = false := by simpa using hb
          rw [Bool.true_and, Bool.true_and]
          cases c3 : y.items.getD 0 .non with
          | str k =>
            rw [c3] at hb2
            have hb3 : decide (k ∈ rs.map (·.kind)) = false := hb2
            dsimp only
            rw [hb3]
            rfl
          | _ => rfl
    rw [this]
    exact r5
  · have e02 : Ex H H2 := e1.trans e2
    rw [Bool.or_eq_false_iff] at hb
    have hc : (y.isL && decide (y.items.length = 3)) = true := by rw [← hfl]; simpa using hb.1
    obtain ⟨k, m, pp, hi⟩ := three (of_decide_eq_true (Bool.and_eq_true_iff.mp hc).2)
    have h1 : oneOf k (fun z => decide (z ∈ rs.map (·.kind))) = true := by have := hb.2; rw [hi] at this; simpa using this
    obtain ⟨kk, rfl, hk⟩ : ∃ kk, k = .str kk ∧ kk ∈ rs.map (·.kind) := by
      cases k with
      | str k => exact ⟨k, rfl, of_decide_eq_true h1⟩
      | _ => cases h1
    obtain ⟨ro, hro, rfl⟩ := List.mem_map.mp hk
    have hex : EvD K CK (tOp (rIxLT K) (tVar 1) (tC (.int 0))) [some v, some v2] H0 (.str ro.kind) := ed_ix (j := 0) (ed_var rfl r2) ev_c (Bool.and_eq_true_iff.mp hc).1 (by rw [hi]; rfl)
    have hab : ro.above = Str.empty ∨ ro.above ∈ rs.map (·.kind) := ok.ab ro hro
    refine s_ret (Ev.mono (e0.trans e02) (ev_isN (ed_callX (d := faultR rs n ro.above y []) (ds := [kindsD rs, .str ro.above, y, wayD []]) (ead_cons (ed_var rfl r1) (ead_cons (ed_meth (fs := kFields rs) (ds := [.str ro.kind]) (ed_var rfl r1) (look_no rs (by decide +kernel) (by decide +kernel)) (ead_cons hex ead_nil) rfl ⟨rs, ro, rfl, ok, hro, rfl⟩)
      (ead_cons (ed_var rfl r2) (ead_cons (ed_tup ead_nil (by show (0 : Nat) ≤ 30000; decide)) ead_nil)))) rfl ⟨rs, ro.above, y, [], rfl, ok, hab, hd, by show 0 + n ≤ 1000; omega, rfl⟩))) fun H3 e3 => q _ H3 (e02.trans e3) ?_
    have : recOf rs n y = (faultR rs n ro.above y []).isN := by
      unfold recOf
      rw [(Bool.and_eq_true_iff.mp hc).1, (Bool.and_eq_true_iff.mp hc).2, hi]
      show (true && (true && (decide (ro.kind ∈ rs.map (·.kind)) && (faultR rs n (aboveOf rs ro.kind) y []).isN))) = _
      rw [decide_eq_true hk, aboveOf_of ok hro]
      rfl
    rw [this]
    rfl
end
end Any
set_option Elab.async false
set_option linter.all false
set_option maxRecDepth 100000
set_option maxHeartbeats 2000000
/-! == of tuples of data that are alike -/
namespace Any
open PySem PySem.W PyProof.Rows
theorem rcAt_tups {xs ys : List PyData} {A : Around} {s : Shared} {a b : Value} {as bs : List Addr} (ra : Reads s.heap a (.tuple xs) as) (rb : Reads s.heap b (.tuple ys) bs) (hal : alikeAll xs ys = true) (hd : PyData.depthAll xs ≤ 60)
    (hu : A.units + 64 < cLine) : SeqAt.RcAt A s a b (PyData.eqvAll xs ys) := by
  cases ra with
  | @tuple l o vs n _ as₁ h1 h2 h3 h4 =>
    cases rb with
    | @tuple l' o' vs' n' _ bs₁ k1 k2 k3 k4 =>
      have n1 : vs.size = xs.length := by simpa using SeqAt.ReadsAll.length _ _ _ h4
      have n2 : vs'.size = ys.length := by simpa using SeqAt.ReadsAll.length _ _ _ k4
      rw [← SeqAt.eqvAll_eq xs ys, ← n1, ← n2]
      refine SeqAt.RcAt.tuples ⟨_, h1, h2, _, h3⟩ ⟨_, k1, k2, _, k3⟩ (by omega) fun j j1 j2 => ?_
      have := eqAt_alikeAll xs ys A.in1 s vs.toList vs'.toList _ _ h4 k4 hal (by show A.units + 1 + min (PyData.depthAll xs) (PyData.depthAll ys) < cLine; omega) j (by simpa using j1) (by simpa using j2)
      simpa using this
end Any
namespace Any
open PySem PySem.Spec PyProof.Rows L2 Evl StX
section
variable {K : PySem.W.Frag} {CK : Addr} {H H' H0 H1 H2 H3 H4 B : Hp} {σ σ2 : L2.St} {X : Cx}
def rEqT (K : PySem.W.Frag) : R2 := fun x y H Q => ∃ xs ys, Dp K H x (.tuple xs) ∧ Dp K H y (.tuple ys) ∧ PySem.W.alikeAll xs ys = true ∧ PyData.depthAll xs ≤ 60 ∧ Q (.bl (PyData.eqvAll xs ys)) H
theorem op_eqT (hu : X.A.units + 64 < cLine) : OpR X (compareOp .Eq) (rEqT X.K) := by
  intro pins s σ H x y v u Q I rx ry h
  obtain ⟨xs, ys, hd, he, hal, hdp, q⟩ := h
  obtain ⟨as, r1⟩ := Dp.reads I _ x v hd rx
  obtain ⟨bs, r2⟩ := Dp.reads I _ y u he ry
  exact rcAt_tups r1 r2 hal hdp hu X.prog X.w _ _ ⟨.bl _, H, I, rfl, q⟩
end
/-! ### told forms are told -/
theorem toldR_items {n : Nat} {r k m p : D} (h : r.items = [k, m, p]) : (toldR n r).isL = true ∧ (toldR n r).items = [k, m, toldH n p] := by
  rw [toldR_of h]
  exact ⟨rfl, rfl⟩
theorem isH_told : ∀ (n : Nat) (d : D), isH n d → isH n (toldH n d)
  | 0, _, h => h.elim
  | n + 1, d, ⟨_, hl, h⟩ => by
    rw [toldH_succ]
    refine ⟨rfl, by show (sortD _).length ≤ 30000; rw [sortD_len, List.length_map]; exact hl, fun r hr => ?_⟩
    have hr2 : r ∈ sortD (d.items.map (toldR n)) := hr
    obtain ⟨r0, hr0, rfl⟩ := List.mem_map.mp (sortD_mem.mp hr2)
    obtain ⟨_, k, m, p, e, hp⟩ := h r0 hr0
    exact ⟨(toldR_items e).1, k, m, toldH n p, (toldR_items e).2, isH_told n p hp⟩
theorem sum_perm {l m : List Int} (h : l.Perm m) : l.sum = m.sum := by
  induction h with
  | nil => rfl
  | cons x _ ih => rw [List.sum_cons, List.sum_cons, ih]
  | swap x y l => simp only [List.sum_cons]; omega
  | trans _ _ h1 h2 => exact h1.trans h2
theorem size_told : ∀ (n : Nat) (d : D), isH n d → sizeH n (toldH n d) = sizeH n d
  | 0, _, h => h.elim
  | n + 1, d, ⟨_, _, h⟩ => by
    rw [toldH_succ, sizeH_succ, sizeH_succ]
    show ((sortD (d.items.map (toldR n))).map (sizeR n)).sum = _
    rw [sum_perm ((sortD_perm _).map (sizeR n)), List.map_map]
    congr 1
    refine List.map_congr_left fun r hr => ?_
    obtain ⟨_, k, m, p, e, hp⟩ := h r hr
    show sizeR n (toldR n r) = sizeR n r
    unfold sizeR
    rw [(toldR_items e).2, e]
    show 1 + sizeH n (toldH n p) = 1 + sizeH n p
    rw [size_told n p hp]
section
variable {P : Program} {w : World} {K : PySem.W.Frag} {mg : Str → Option Value} {base : Heap} {CK : Addr}
theorem scStandIndex : FnScope ["kinds", "thing", "fault"] ["kinds", "thing"] (defScope sStandIndex) := ⟨rfl, rfl, rfl, by decide +kernel, rfl, by decide +kernel, by decide +kernel⟩
/-- a right stand, however it is passed -/
structure Right (rs : List Row) (n : Nat) (d : D) : Prop where
  ok : KOk rs
  n25 : n ≤ 25
  dp : d.isL = true → ∀ y ∈ d.items, dpt n y
  no : standF rs n d = .non
  h : isH n d
abbrev spRight (K : PySem.W.Frag) (CK : Addr) (n : Nat) (g : D → D) : Sp := spX K CK 2 (fun ds d => ∃ rs x, ds = [kindsD rs, x] ∧ Right rs n x ∧ d = g x)
theorem ok_stand_index (F : Sts P w K mg base CK) (n : Nat) : FnOk P w K mg base CX0 (2 * n + 7) F.dSI.f F.dSI.fd ["kinds", "thing"] (spRight K CK n fun _ => .non) := by
  have GS : FnOk P w K mg base CX0 (2 * n + 6) F.dSF.f F.dSF.fd ["kinds", "thing"] (spStandF K CK n) := ok_stand_fault F n
  refine F.dSI.F.ok scStandIndex (fun vs H Q E h => spX_len h) (fun cdv A outer s H vs Q E hr h => ?_)
  obtain ⟨x, y, d, v, v2, H0, rfl, e0, r1, r2, ⟨rs, thing, hx, ok, rfl⟩, q⟩ := spX2 h
  cases hx
  refine ⟨_, pss_cons (ps_set (i := 2) scStandIndex.nd rfl (.inl rfl) (pe_call GS hr (by rfl) F.dSF.m F.dSF.F.kp F.dSF.b .nil pass0 (pa_cons (pv 0) (pa_cons (pv 1) pa_nil))))
    (pss_cons (ps_if (pt_cmp (pc_isN (pv 2))) (pss_one (ps_ret pe_non)) pss_nil) pss_no), ?_⟩
  refine ed_asg (K := K) (CK := CK) (d := .non) (ed_callX (ds := [kindsD rs, y]) (ead_cons (ed_var rfl r1) (ead_cons (ed_var rfl r2) ead_nil)) rfl ⟨rs, y, rfl, ok.ok, by have := ok.n25; omega, ok.dp, ok.no.symm⟩) e0 fun v3 H1 e1 r3 => ?_
  obtain rfl := rep_non r3
  refine q_when (b := true) (et_B (ev_isN (K := K) (CK := CK) (d := .non) (ed_var (H := H1) rfl rfl))) (fun _ H2 e2 => ?_) (fun hb => by cases hb)
  exact q _ H2 (e1.trans e2) rfl
theorem scNeedStand : FnScope ["kinds", "stand", "index"] ["kinds", "stand"] (defScope sNeedStand) := ⟨rfl, rfl, rfl, by decide +kernel, rfl, by decide +kernel, by decide +kernel⟩
theorem ok_need_stand (F : Sts P w K mg base CK) (n : Nat) : FnOk P w K mg base CX0 (2 * n + 8) F.dNS.f F.dNS.fd ["kinds", "stand"] (spRight K CK n (toldH n)) := by
  have GI : FnOk P w K mg base CX0 (2 * n + 7) F.dSI.f F.dSI.fd ["kinds", "thing"] (spRight K CK n fun _ => .non) := ok_stand_index F n
  refine F.dNS.F.ok scNeedStand (fun vs H Q E h => spX_len h) (fun cdv A outer s H vs Q E hr h => ?_)
  obtain ⟨x, y, d, v, v2, H0, rfl, e0, r1, r2, ⟨rs, thing, hx, ok, rfl⟩, q⟩ := spX2 h
  cases hx
  have GT : FnOk P w K mg base CX0 (2 * n + 7) F.dTH.f F.dTH.fd ["records"] (spToldH K CK n) := (ok_told F.dTH F.dTR F.N n ok.n25).mono (by omega)
  refine ⟨_, pss_cons (ps_set (i := 2) scNeedStand.nd rfl (.inl rfl) (pe_call GI hr (by rfl) F.dSI.m F.dSI.F.kp F.dSI.b .nil pass0 (pa_cons (pv 0) (pa_cons (pv 1) pa_nil))))
    (pss_cons (ps_if (pt_cmp (pc_notN (pv 2))) (pss_one ps_no) pss_nil) (pss_one (ps_ret (pe_call GT hr (by rfl) F.dTH.m F.dTH.F.kp F.dTH.b .nil pass0 (pa_cons (pv 1) pa_nil))))), ?_⟩
  refine ed_asg (K := K) (CK := CK) (d := .non) (ed_callX (ds := [kindsD rs, y]) (ead_cons (ed_var rfl r1) (ead_cons (ed_var rfl r2) ead_nil)) rfl ⟨rs, y, rfl, ok, rfl⟩) e0 fun v3 H1 e1 r3 => ?_
  obtain rfl := rep_non r3
  refine q_when (b := false) (et_B (ev_notN (v := .non) (ev_var rfl))) (fun z => by cases z) fun _ H2 e2 => ?_
  have e02 : Ex H H2 := e1.trans e2
  exact s_retD (K := K) (CK := CK) (H0 := H0) (d := toldH n y) (ed_call (ds := [y]) (ead_cons (ed_var rfl r2) ead_nil) rfl ⟨y, rfl, ok.h⟩) (e0.trans e02) fun v5 H5 e5 r5 => q v5 H5 (e02.trans e5) (r5.ex (hid_le e02))
theorem scNeedMate : FnScope ["kinds", "mate", "index"] ["kinds", "mate"] (defScope sNeedMate) := ⟨rfl, rfl, rfl, by decide +kernel, rfl, by decide +kernel, by decide +kernel⟩
theorem ok_need_mate (F : Sts P w K mg base CK) (n : Nat) : FnOk P w K mg base CX0 (2 * n + 8) F.dNM.f F.dNM.fd ["kinds", "mate"] (spRight K CK n (toldH n)) := by
  have GI : FnOk P w K mg base CX0 (2 * n + 7) F.dSI.f F.dSI.fd ["kinds", "thing"] (spRight K CK n fun _ => .non) := ok_stand_index F n
  refine F.dNM.F.ok scNeedMate (fun vs H Q E h => spX_len h) (fun cdv A outer s H vs Q E hr h => ?_)
  obtain ⟨x, y, d, v, v2, H0, rfl, e0, r1, r2, ⟨rs, thing, hx, ok, rfl⟩, q⟩ := spX2 h
  cases hx
  have GT : FnOk P w K mg base CX0 (2 * n + 7) F.dTH.f F.dTH.fd ["records"] (spToldH K CK n) := (ok_told F.dTH F.dTR F.N n ok.n25).mono (by omega)
  refine ⟨_, pss_cons (ps_set (i := 2) scNeedMate.nd rfl (.inl rfl) (pe_call GI hr (by rfl) F.dSI.m F.dSI.F.kp F.dSI.b .nil pass0 (pa_cons (pv 0) (pa_cons (pv 1) pa_nil))))
    (pss_cons (ps_if (pt_cmp (pc_notN (pv 2))) (pss_one ps_no) pss_nil) (pss_one (ps_ret (pe_call GT hr (by rfl) F.dTH.m F.dTH.F.kp F.dTH.b .nil pass0 (pa_cons (pv 1) pa_nil))))), ?_⟩
  refine ed_asg (K := K) (CK := CK) (d := .non) (ed_callX (ds := [kindsD rs, y]) (ead_cons (ed_var rfl r1) (ead_cons (ed_var rfl r2) ead_nil)) rfl ⟨rs, y, rfl, ok, rfl⟩) e0 fun v3 H1 e1 r3 => ?_
  obtain rfl := rep_non r3
  refine q_when (b := false) (et_B (ev_notN (v := .non) (ev_var rfl))) (fun z => by cases z) fun _ H2 e2 => ?_
  have e02 : Ex H H2 := e1.trans e2
  exact s_retD (K := K) (CK := CK) (H0 := H0) (d := toldH n y) (ed_call (ds := [y]) (ead_cons (ed_var rfl r2) ead_nil) rfl ⟨y, rfl, ok.h⟩) (e0.trans e02) fun v5 H5 e5 r5 => q v5 H5 (e02.trans e5) (r5.ex (hid_le e02))
theorem scToldStand : FnScope ["kinds", "stand"] ["kinds", "stand"] (defScope sToldStand) := ⟨rfl, rfl, rfl, by decide +kernel, rfl, by decide +kernel, by decide +kernel⟩
theorem ok_told_stand (F : Sts P w K mg base CK) (n : Nat) : FnOk P w K mg base CX0 (2 * n + 9) F.dTS.f F.dTS.fd ["kinds", "stand"] (spRight K CK n (toldH n)) := by
  have GN : FnOk P w K mg base CX0 (2 * n + 8) F.dNS.f F.dNS.fd ["kinds", "stand"] (spRight K CK n (toldH n)) := ok_need_stand F n
  refine F.dTS.F.ok scToldStand (fun vs H Q E h => spX_len h) (fun cdv A outer s H vs Q E hr h => ?_)
  obtain ⟨x, y, d, v, v2, H0, rfl, e0, r1, r2, ⟨rs, thing, hx, ok, rfl⟩, q⟩ := spX2 h
  cases hx
  refine ⟨_, pss_one (ps_ret (pe_call GN hr (by rfl) F.dNS.m F.dNS.F.kp F.dNS.b .nil pass0 (pa_cons (pv 0) (pa_cons (pv 1) pa_nil)))), ?_⟩
  exact s_retD (K := K) (CK := CK) (H0 := H0) (d := toldH n y) (ed_callX (ds := [kindsD rs, y]) (ead_cons (ed_var rfl r1) (ead_cons (ed_var rfl r2) ead_nil)) rfl ⟨rs, y, rfl, ok, rfl⟩) e0 fun v5 H5 e5 r5 => q v5 H5 e5 r5
theorem scSizeOf : FnScope ["kinds", "stand"] ["kinds", "stand"] (defScope sSizeOf) := ⟨rfl, rfl, rfl, by decide +kernel, rfl, by decide +kernel, by decide +kernel⟩
theorem ok_size_of (d : Def K mg "size_of" sSizeOf ["kinds", "stand"]) (F : Sts P w K mg base CK) (n : Nat) : FnOk P w K mg base CX0 (2 * n + 9) d.f d.fd ["kinds", "stand"] (spRight K CK n fun x => .int (sizeH n x)) := by
  have GN : FnOk P w K mg base CX0 (2 * n + 8) F.dNS.f F.dNS.fd ["kinds", "stand"] (spRight K CK n (toldH n)) := ok_need_stand F n
  have GS : FnOk P w K mg base CX0 (2 * n + 8) F.dHS.f F.dHS.fd ["heap"] (spSizeH K CK n) := (ok_heap_size F.dHS F.N n).mono (by omega)
  refine d.F.ok scSizeOf (fun vs H Q E h => spX_len h) (fun cdv A outer s H vs Q E hr h => ?_)
  obtain ⟨x, y, d, v, v2, H0, rfl, e0, r1, r2, ⟨rs, thing, hx, ok, rfl⟩, q⟩ := spX2 h
  cases hx
  refine ⟨_, pss_one (ps_ret (pe_call GS hr (by rfl) F.dHS.m F.dHS.F.kp F.dHS.b .nil pass0 (pa_cons (pe_call GN hr (by rfl) F.dNS.m F.dNS.F.kp F.dNS.b .nil pass0 (pa_cons (pv 0) (pa_cons (pv 1) pa_nil))) pa_nil))), ?_⟩
  refine s_retD (K := K) (CK := CK) (H0 := H0) (ed_call (ds := [toldH n y]) (ead_cons (ed_callX (d := toldH n y) (ds := [kindsD rs, y]) (ead_cons (ed_var rfl r1) (ead_cons (ed_var rfl r2) ead_nil)) rfl ⟨rs, y, rfl, ok, rfl⟩) ead_nil) rfl ⟨_, rfl, isH_told n y ok.h⟩) e0 fun v5 H5 e5 r5 => q v5 H5 e5 ?_
  show Rep K CK (hid H0 H H5) (.int (sizeH n y)) v5
  rw [← size_told n y ok.h]
  exact r5
theorem scAreAlike : FnScope ["kinds", "stand", "mate", "told"] ["kinds", "stand", "mate"] (defScope sAreAlike) := ⟨rfl, rfl, rfl, by decide +kernel, rfl, by decide +kernel, by decide +kernel⟩
/-- two told forms are equal -/
def eqTold (n : Nat) (d e : D) : Bool := PyData.eqv (toldH n d).py (toldH n e).py
theorem told_tup {n : Nat} {d : D} (h : isH n d) : ∃ xs, (toldH n d).py = .tuple xs ∧ PyData.depthAll xs ≤ 2 * n := by
  cases n with
  | zero => exact h.elim
  | succ n =>
    refine ⟨_, toldH_py n d, ?_⟩
    have := (told_ok (n + 1) d h).dp
    rw [toldH_py] at this
    simp only [PyData.depth] at this
    omega
theorem ev_eqTold {ta tb : TE} {H : Hp} {σ : L2.St} {n : Nat} {d e d0 e0 : D} (hn : n ≤ 25) (h1 : EvD K CK ta σ H d) (h2 : EvD K CK tb σ H e) (i1 : d = toldH n d0) (i2 : e = toldH n e0) (j1 : isH n d0) (j2 : isH n e0) : Ev (tOp (rEqT K) ta tb) σ H (.bl (eqTold n d0 e0)) := fun H1 e1 Q q =>
  h1 H1 e1 _ fun v H2 e2 r => h2 H2 (e1.trans e2) _ fun v2 H3 e3 r2 => by
    subst i1 i2
    obtain ⟨xs, hx, dx⟩ := told_tup j1
    obtain ⟨ys, hy, dy⟩ := told_tup j2
    have a1 := ((r.ex hid_sub).ex e3).dp (told_ok n d0 j1).fl
    have a2 := (r2.ex hid_sub).dp (told_ok n e0 j2).fl
    have al := told_alike n d0 e0 j1 j2
    rw [hx, hy] at al
    rw [hx] at a1
    rw [hy] at a2
    refine ⟨xs, ys, a1, a2, by simpa [PySem.W.alike] using al, by omega, ?_⟩
    have : eqTold n d0 e0 = PyData.eqvAll xs ys := by
      unfold eqTold
      rw [hx, hy, PyData.eqv]
    rw [← this]
    exact q H3 (e2.trans e3)
theorem ok_are_alike (d : Def K mg "are_alike" sAreAlike ["kinds", "stand", "mate"]) (F : Sts P w K mg base CK) (n : Nat) : FnOk P w K mg base CX0 (2 * n + 9) d.f d.fd ["kinds", "stand", "mate"]
    (spX K CK 3 (fun ds d => ∃ rs x y, ds = [kindsD rs, x, y] ∧ Right rs n x ∧ Right rs n y ∧ d = .bl (eqTold n x y))) := by
  have GN : FnOk P w K mg base CX0 (2 * n + 8) F.dNS.f F.dNS.fd ["kinds", "stand"] (spRight K CK n (toldH n)) := ok_need_stand F n
  have GM : FnOk P w K mg base CX0 (2 * n + 8) F.dNM.f F.dNM.fd ["kinds", "mate"] (spRight K CK n (toldH n)) := ok_need_mate F n
  refine d.F.ok scAreAlike (fun vs H Q E h => spX_len h) (fun cdv A outer s H vs Q E hr h => ?_)
  obtain ⟨ds, d, H0, hn, e0, r, ⟨rs, x, y, rfl, ok1, ok2, rfl⟩, q⟩ := h
  obtain ⟨v, v2, v3, rfl, r1, r2, r3⟩ := RepL.three r
  have hu := hr.units
  refine ⟨_, pss_cons (ps_set (i := 3) scAreAlike.nd rfl (.inl rfl) (pe_call GN hr (by rfl) F.dNS.m F.dNS.F.kp F.dNS.b .nil pass0 (pa_cons (pv 0) (pa_cons (pv 1) pa_nil))))
    (pss_one (ps_ret (pe_cmpR (op_eqT hu) (pv 3) (pe_call GM hr (by rfl) F.dNM.m F.dNM.F.kp F.dNM.b .nil pass0 (pa_cons (pv 0) (pa_cons (pv 2) pa_nil))) (nomark _)))), ?_⟩
  refine ed_asg (K := K) (CK := CK) (d := toldH n x) (ed_callX (ds := [kindsD rs, x]) (ead_cons (ed_var rfl r1) (ead_cons (ed_var rfl r2) ead_nil)) rfl ⟨rs, x, rfl, ok1, rfl⟩) e0 fun v4 H1 e1 r4 => ?_
  have ex1 : Ex H0 (hid H0 H H1) := hid_ex e0 e1
  exact s_ret (Ev.mono hid_sub (ev_eqTold ok1.n25 (ed_var rfl r4) (ed_callX (d := toldH n y) (ds := [kindsD rs, y]) (ead_cons (ed_var rfl (r1.ex ex1)) (ead_cons (ed_var rfl (r3.ex ex1)) ead_nil)) rfl ⟨rs, y, rfl, ok2, rfl⟩) rfl rfl ok1.h ok2.h)) fun H2 e2 => q _ H2 (e1.trans e2) rfl
end
end Any
set_option Elab.async false
set_option linter.all false
set_option maxRecDepth 100000
set_option maxHeartbeats 2000000
namespace Any
open PySem PySem.Spec PyProof.Rows L2 Evl StX
abbrev sLFault : Stmt := topS 60
section
variable {K : PySem.W.Frag} {CK : Addr} {H H' H0 H1 H2 H3 H4 B : Hp} {σ σ2 : L2.St} {X : Cx}
theorem ed_catT {ta tb : TE} {xs ys : List D} (h1 : EvD K CK ta σ H (.tup xs)) (h2 : EvD K CK tb σ H (.tup ys)) (hl : xs.length + ys.length ≤ 30000) : EvD K CK (tOp (rCatA K) ta tb) σ H (.tup (xs ++ ys)) := fun H1 e1 Q q =>
  h1 H1 e1 _ fun v H2 e2 r => h2 H2 (e1.trans e2) _ fun v2 H3 e3 r2 => by
    obtain ⟨a, vs, rfl, ha, la, ra⟩ := r
    obtain ⟨b, ws, rfl, hb, lb, rb⟩ := r2
    have ra3 : RepL K CK (hid H H1 H3) xs vs := RepL.ex (hid_mono e3) ra
    have rb3 : RepL K CK (hid H H1 H3) ys ws := RepL.ex (hid_le e2) rb
    have ha3 : hid H H1 H3 a = some (.tup vs) := hid_mono e3 _ _ ha
    have hb3 : hid H H1 H3 b = some (.tup ws) := hid_le e2 _ _ hb
    refine ⟨a, b, vs, ws, rfl, rfl, st_of (hid_sub _ _ ha3), st_of (hid_sub _ _ hb3), by rw [ra.len, rb.len, sizeLine_eq]; omega, fun hx => ?_, fun _ hy => ?_, fun _ _ p hp => ?_⟩
    · have : xs = [] := List.eq_nil_of_length_eq_zero (by rw [← ra.len, hx]; rfl)
      subst this
      exact q _ H3 (e2.trans e3) ⟨b, ws, rfl, hb3, lb, rb3⟩
    · have : ys = [] := List.eq_nil_of_length_eq_zero (by rw [← rb.len, hy]; rfl)
      subst this
      refine q _ H3 (e2.trans e3) ?_
      show Rep K CK _ (.tup (xs ++ [])) _
      rw [List.append_nil]
      exact ⟨a, vs, rfl, ha3, la, ra3⟩
    · exact q _ _ ((e2.trans e3).trans (Ex.new hp)) ⟨p, _, rfl, hid_at (ex_none (e2.trans e3) hp) upd_same, by rw [List.length_append]; exact hl, RepL.app (RepL.ex (hid_mono (Ex.new hp)) ra3) (RepL.ex (hid_mono (Ex.new hp)) rb3)⟩
/-- xs == [] -/
def rEqN (K : PySem.W.Frag) : R2 := fun x y H Q => ∃ a b xs, x = .ref a ∧ y = .ref b ∧ SqL K H a xs ∧ SqL K H b [] ∧ Q (.bl xs.isEmpty) H
theorem op_eqN (hu : X.A.units + 64 < cLine) : OpR X (compareOp .Eq) (rEqN X.K) := by
  intro pins s σ H x y v u Q I rx ry h
  obtain ⟨a, b, xs, rfl, rfl, ha, hb, q⟩ := h
  cases rx
  cases ry
  obtain ⟨its, r1, p1, _⟩ := I.list ha
  obtain ⟨its2, r2, p2, _⟩ := I.list hb
  cases r2
  have hl := r1.length
  cases xs with
  | nil =>
    cases r1
    exact (SeqAt.RcAt.lists (e := fun _ => true) p1.isList p2.isList rfl (by omega) fun j j1 => absurd j1 (by simp)) X.prog X.w _ _ ⟨.bl true, H, I, rfl, q⟩
  | cons z zs =>
    refine (SeqAt.RcAt.lists_lengths p1.isList p2.isList ?_ (by omega)) X.prog X.w _ _ ⟨.bl false, H, I, rfl, q⟩
    rw [List.size_toArray, List.size_toArray, ← hl]
    simp
theorem ev_eqN {ta tb : TE} {xs : List D} (h1 : EvD K CK ta σ H (.lst xs)) (h2 : EvD K CK tb σ H (.lst [])) : Ev (tOp (rEqN K) ta tb) σ H (.bl xs.isEmpty) := fun H1 e1 Q q =>
  h1 H1 e1 _ fun v H2 e2 r => h2 H2 (e1.trans e2) _ fun v2 H3 e3 r2 => by
    obtain ⟨a, vs, rfl, ha, la, ra⟩ := r
    obtain ⟨b, ws, rfl, hb, lb, rb⟩ := r2
    rw [show ws = [] from rb] at hb
    refine ⟨a, b, vs, rfl, rfl, sq_of (e3 _ _ (hid_sub _ _ ha)), sq_of (hid_sub _ _ hb), ?_⟩
    have : vs.isEmpty = xs.isEmpty := by
      have := ra.len
      cases vs <;> cases xs <;> first | rfl | (simp at this)
    rw [this]
    exact q H3 (e2.trans e3)
theorem ev_notInT {ta tb : TE} {m : Str} {xs : List Str} (h1 : Ev ta σ H (.str m)) (h2 : EvD K CK tb σ H (.tup (xs.map D.str))) : Ev (tOp (rIn K true) ta tb) σ H (.bl (!decide (m ∈ xs))) := fun H1 e1 Q q =>
  h1 H1 e1 _ fun H2 e2 => h2 H2 (e1.trans e2) _ fun v2 H3 e3 r2 => by
    obtain ⟨b, ws, rfl, hb, lb, rb⟩ := r2
    rw [repL_strs rb] at hb
    exact ⟨b, _, rfl, .inr (st_of (hid_sub _ _ hb)), rfl, all_flat xs, by rw [if_pos rfl, inV_strs]; exact q H3 (e2.trans e3)⟩
theorem ev_isSD {ta : TE} {d : D} (T : KCls K CK) (ha : EvD K CK ta σ H d) : Ev (tCB (rIsi K) (tCons ta (tCons (tC (.ty "str")) tNil))) σ H (.bl d.isS) := fun H1 e Q q =>
  ha H1 e _ fun v H2 e2 r => ⟨v, .ty "str", tyD CK d, .type "str", d.isS, rfl, .ty "str", (r.ex hid_sub).ty T, kit_S T d, q _ e2⟩
theorem faultR_bad {rs : List Row} {n : Nat} {above : Str} {d : D} {way : List Int} (h : (d.isL && decide (d.items.length = 3)) = false) : faultR rs n above d way = badD "record" way := by
  cases n with
  | zero => rfl
  | succ n => exact faultR_no h
theorem ev_neI {ta tb : TE} {a b : Int} (h1 : Ev ta σ H (.int a)) (h2 : Ev tb σ H (.int b)) : Ev (tOp rNe ta tb) σ H (.bl (!decide (a = b))) :=
  ev_is (ev_op h1 h2 (rv_ne rfl)) (congrArg V.bl (by rw [d_int]))
end
def lawF (rs : List Row) (n : Nat) (above : Str) (thing : D) (way : List Int) : D := if thing.isL then partsF rs n above thing.items way else badD "list" way
theorem lawF_stand (rs : List Row) (n : Nat) (d : D) : lawF rs n Str.empty d [] = standF rs n d := rfl
/-- the rows of that kind that lie in that one -/
def someR (rs : List Row) (one0 : D) (above : Str) : List Row := rs.filter fun r => one0.isS && (decide (r.kind = one0.strOf) && decide (r.above = above))
theorem some_none {rs : List Row} {d : D} {above : Str} : (someR rs d above).isEmpty = !oneOf d (fun z => decide (z ∈ inKind rs above)) := by
  cases h : oneOf d (fun z => decide (z ∈ inKind rs above)) with
  | false =>
    have : someR rs d above = [] := by
      unfold someR
      refine List.filter_eq_nil_iff.mpr fun r hr z => ?_
      cases d with
      | str k =>
        have z1 := Bool.and_eq_true_iff.mp (show (decide (r.kind = k) && decide (r.above = above)) = true from z)
        have : k ∈ inKind rs above := List.mem_map.mpr ⟨r, List.mem_filter.mpr ⟨hr, z1.2⟩, of_decide_eq_true z1.1⟩
        have h' : decide (k ∈ inKind rs above) = false := h
        exact of_decide_eq_false h' this
      | _ => cases z
    rw [this]
    rfl
  | true =>
    cases d with
    | str k =>
      obtain ⟨r, hr, hk, ha⟩ := inKind_of (of_decide_eq_true (show decide (k ∈ inKind rs above) = true from h))
      have hm : r ∈ someR rs (.str k) above := List.mem_filter.mpr ⟨hr, by show (decide (r.kind = k) && decide (r.above = above)) = true; rw [decide_eq_true hk, decide_eq_true ha]; rfl⟩
      cases e : someR rs (.str k) above with
      | nil => rw [e] at hm; cases hm
      | cons _ _ => rfl
    | _ => cases h
theorem some_D (rs : List Row) (k : D) (above : Str) : (((rs.map rowD).filter fun d => k.isS && (decide (kindOfD d = k.strOf) && decide (aboveOfD d = above))).map fun d => d) = (someR rs k above).map rowD := by
  rw [List.map_id', List.filter_map]
  rfl
section
variable {P : Program} {w : World} {K : PySem.W.Frag} {mg : Str → Option Value} {base : Heap} {CK : Addr}
theorem scLFault : FnScope ["rows", "above", "thing", "way", "at", "one", "here", "some", "fault", "row"] ["rows", "above", "thing", "way"] (defScope sLFault) := ⟨rfl, rfl, rfl, by decide +kernel, rfl, by decide +kernel, by decide +kernel⟩
def rowsD (rs : List Row) : D := .lst (rs.map rowD)
abbrev spLF (K : PySem.W.Frag) (CK : Addr) (n : Nat) : Sp := spX K CK 4 (fun ds d => ∃ rs above thing way, ds = [rowsD rs, .str above, thing, wayD way] ∧ KOk rs ∧ (thing.isL = true → ∀ y ∈ thing.items, dpt n y) ∧ way.length + n < 1000 ∧ d = lawF rs n above thing way)
def spLF' (K : PySem.W.Frag) (CK : Addr) : Nat → Sp
  | 0 => fun _ _ _ _ => False
  | n + 1 => spLF K CK n
theorem ok_lfault_of {n j : Nat} (d : Def K mg "_law_s_fault" sLFault ["rows", "above", "thing", "way"]) (GF : FnOk P w K mg base CX0 j d.f d.fd ["rows", "above", "thing", "way"] (spLF' K CK n)) (T : KCls K CK) (N : Nm mg) :
    FnOk P w K mg base CX0 (j + 1) d.f d.fd ["rows", "above", "thing", "way"] (spLF K CK n) := by
  refine d.F.ok scLFault (fun vs H Q E h => spX_len h) (fun cdv A outer s H vs Q E hr h => ?_)
  obtain ⟨x, y, z, t, dd, v, w', u, p, H0, rfl, e0, r1, r2, r3, r4, ⟨rs, above, thing, way, hx, ok, hd, hw, rfl⟩, q⟩ := spX4 h
  cases hx
  have hu := hr.units
  refine ⟨_, pss_cons (ps_if (pt_not (pt_val (pe_callB call_isiT (by rfl) N.isinstance boot_isinstance (pa_cons (pv 2) (pa_cons (pe_tup (pa_cons (pe_bltn (v := .ty "list") (by rfl) N.list boot_list rfl) (pa_cons (pe_bltn (v := .ty "tuple") (by rfl) N.tuple boot_tuple rfl) pa_nil))) pa_nil)))))
      (pss_one (ps_ret (pe_tup (pa_cons pe_str (pa_cons (pv 3) pa_nil))))) pss_nil)
    (pss_cons (ps_for PassesOwn.never rfl (pi_enumS (by rfl) N.enumerate (pa_cons (pv 2) pa_nil)) (pg_unp rfl (pgs_cons (pg_name (i := 4) scLFault.nd rfl (.inl rfl)) (pgs_cons (pg_name (i := 5) scLFault.nd rfl (.inr rfl)) pgs_nil)))
      (pss_cons (ps_set (i := 6) scLFault.nd rfl (.inl rfl) (pe_op op_catA (pv 3) (pe_tup (pa_cons (pv 4) pa_nil))))
      (pss_cons (ps_if (PW.pt (pw_or (pt_not (pt_val (pe_callB call_isiT (by rfl) N.isinstance boot_isinstance (pa_cons (pv 5) (pa_cons (pe_tup (pa_cons (pe_bltn (v := .ty "list") (by rfl) N.list boot_list rfl) (pa_cons (pe_bltn (v := .ty "tuple") (by rfl) N.tuple boot_tuple rfl) pa_nil))) pa_nil)))))
          (pw_or1 (pt_cmpR op_ne (pe_callB call_len_seq (by rfl) N.len boot_len (pa_cons (pv 5) pa_nil)) pe_int (nomark _))))) (pss_one (ps_ret (pe_tup (pa_cons pe_str (pa_cons (pv 6) pa_nil))))) pss_nil)
      (pss_cons (ps_setLc (i := 7) (own := [("row", 9)]) (g := gName 9) (tt := tAnd (tB (tCB (rIsi K) (tCons (tOp (rIxLT K) (tVar 5) (tC (.int 0))) (tCons (tC (.ty "str")) tNil)))) (tAnd (tTest (tOp rEq (tOp (rIxLT K) (tVar 9) (tC (.int 0))) (tOp (rIxLT K) (tVar 5) (tC (.int 0))))) (tTest (tOp rEq (tOp (rIxLT K) (tVar 9) (tC (.int 1))) (tVar 1))))) rfl scLFault.nd rfl rfl (sw_true rfl rfl rfl (by decide +kernel)) (pi_list (pv 0)) (blkOk_by (N := ["rows", "above", "thing", "way", "at", "one", "here", "some", "fault", "row"]) (sc := defScope sLFault) (by decide +kernel))
          (fun _ _ _ _ _ => pg_name (i := 9) scLFault.nd rfl (Or.inl rfl))
          (fun _ _ _ _ _ => pts_one (PW.pt (pw_and (pt_val (pe_callB call_isi (by rfl) N.isinstance boot_isinstance (pa_cons (pe_ix (r := rIxLT K) ix_lt (pv 5) pe_int (fun _ _ => rfl)) (pa_cons (pe_bltn (v := .ty "str") (by rfl) N.str boot_str rfl) pa_nil))))
            (pw_and (pt_cmpR op_eq (pe_ix (r := rIxLT K) ix_lt (pv 9) pe_int (fun _ _ => rfl)) (pe_ix (r := rIxLT K) ix_lt (pv 5) pe_int (fun _ _ => rfl)) (nomark _))
            (pw_and1 (pt_cmpR op_eq (pe_ix (r := rIxLT K) ix_lt (pv 9) pe_int (fun _ _ => rfl)) (pv 1) (nomark _)))))))
          (fun _ _ _ _ _ => pv 9))
      (pss_cons (ps_if (pt_cmpR (op_eqN hu) (pv 7) (pe_lst pa_nil) (nomark _)) (pss_one (ps_ret (pe_tup (pa_cons pe_str (pa_cons (pv 6) pa_nil))))) pss_nil)
      (pss_cons (ps_if (PW.pt (pw_or (pt_not (pt_val (pe_callB call_isi (by rfl) N.isinstance boot_isinstance (pa_cons (pe_ix (r := rIxLT K) ix_lt (pv 5) pe_int (fun _ _ => rfl)) (pa_cons (pe_bltn (v := .ty "str") (by rfl) N.str boot_str rfl) pa_nil)))))
          (pw_or1 (pt_cmpR op_notIn_seq (pe_ix (r := rIxLT K) ix_lt (pv 5) pe_int (fun _ _ => rfl)) (pe_ix (r := rIxLT K) ix_lt (pe_ix (r := rIxLT K) ix_lt (pv 7) pe_int (fun _ _ => rfl)) pe_int (fun _ _ => rfl)) (by rfl))))) (pss_one (ps_ret (pe_tup (pa_cons pe_str (pa_cons (pv 6) pa_nil))))) pss_nil)
      (pss_cons (ps_set (i := 8) scLFault.nd rfl (.inl rfl) (pe_call GF hr (by rfl) d.m d.F.kp d.b .nil pass0 (pa_cons (pv 0) (pa_cons (pe_ix (r := rIxLT K) ix_lt (pv 5) pe_int (fun _ _ => rfl)) (pa_cons (pe_ix (r := rIxLT K) ix_lt (pv 5) pe_int (fun _ _ => rfl)) (pa_cons (pv 6) pa_nil))))))
      (pss_one (ps_if (pt_cmp (pc_notN (pv 8))) (pss_one (ps_ret (pv 8))) pss_nil)))))))))
    (pss_one (ps_ret pe_non))), ?_⟩
  have few := ok.few
  have fin : ∀ (te : TE) (d : D) (σ' : L2.St) (Bk Hx : Hp), (∀ a, H0 a = none → (H a).isSome = true → Bk a = none) → Ex Bk Hx → Ex H Hx → EvD K CK te σ' Bk d → lawF rs n above z way = d → te σ' Hx Q := fun te d σ' Bk Hx hB eB eH hE hd => by
    refine hE Hx eB _ fun v5 H5 e5 r5 => q v5 H5 (eH.trans e5) ?_
    rw [hd]
    exact Rep.ex (hid_out hB eH) r5
  refine q_when (b := !z.isL) (Evl.EvT.mono e0 (et_not (et_B (ev_isL T (ev_var rfl) r3)))) (fun hb H1 e1 => ?_) fun hb H1 e1 => ?_
  · refine fin _ (badD "list" way) _ (hid H0 H H1) H1 (fun a h1 h2 => hid_no h1 h2) hid_sub e1 (ed_tup (ead_cons (ed_str (by decide)) (ead_cons (ed_var rfl (r4.ex (hid_ex e0 e1))) ead_nil)) (by show (2 : Nat) ≤ 30000; decide)) ?_
    unfold lawF
    rw [if_neg (by simpa using hb)]
  have hL : z.isL = true := by simpa using hb
  have eqL : lawF rs n above z way = partsF rs n above z.items way := by unfold lawF; rw [if_pos hL]
  refine q_forI (H0 := H0) (ei_enum (ed_var rfl r3) hL) (e0.trans e1) (fun B i σ' H' => ∃ y4 y5 y6 y7 y8 y9, σ' = [some v, some w', some u, some p, y4, y5, y6, y7, y8, y9] ∧ Ex B H' ∧ Ex H H' ∧ (∀ a, H0 a = none → (H a).isSome = true → B a = none) ∧
    ∀ j d, j < i → z.items[j]? = some d → faultR rs n above d (way ++ [(j : Int)]) = .non) ?_ ?_ ?_ ?_
  · intro H2 e2
    refine ⟨_, _, _, _, _, _, rfl, hid_sub, e1.trans e2, fun a h1 h2 => hid_no h1 ?_, fun j d hj => absurd hj (Nat.not_lt_zero _)⟩
    cases c : H a with
    | none => rw [c] at h2; cases h2
    | some o => rw [e1 a o c]; rfl
  · rintro B i σ' H' ⟨_, _, _, _, _, _, _, h, _⟩
    exact h
  · rintro B B' i dd x σ' Ha Hb eB hdd ⟨y4, y5, y6, y7, y8, y9, rfl, eBa, eHa, hB, hp⟩ eab eBB eBb hB' rx
    obtain ⟨di, hdi, rfl⟩ := enumD_get hdd
    obtain ⟨v1, v2, s1, s2, hg⟩ := eg_unp2 (σ := [some v, some w', some u, some p, y4, y5, y6, y7, y8, y9]) (i := 4) (j := 5) rx rfl rfl
    refine hg Hb eBb _ fun H3 e3 => ?_
    obtain rfl := rep_int s1
    have eB3 : Ex B' H3 := eBb.trans e3
    have e03 : Ex H0 B' := eB.trans eBB
    have eH3 : Ex H H3 := eHa.trans (eab.trans e3)
    have lift : ∀ {a : Addr} {Hx : Hp}, Ex H Hx → (H a).isSome = true → (Hx a).isSome = true := fun {a Hx} e h2 => by
      cases c : H a with
      | none => rw [c] at h2; cases h2
      | some o => rw [e a o c]; rfl
    have hB2 : ∀ a, H0 a = none → (H a).isSome = true → B' a = none := fun a h1 h2 => hB' a (hB a h1 h2) (lift eHa h2)
    -- how a fault of this turn ends
    have hat : ∀ d, d ≠ .non → faultR rs n above di (way ++ [(i : Int)]) = d → lawF rs n above z way = d := fun d hne hf => by
      rw [eqL]
      have := firstF_at (f := fun i y => faultR rs n above y (way ++ [(i : Int)])) (k := 0) hdi (fun j d hj hz => by rw [Nat.zero_add]; exact hp j d hj hz) (by rw [Nat.zero_add, hf]; exact hne)
      rw [Nat.zero_add, hf] at this
      exact this
    -- here
    have ew : wayD (way ++ [(i : Int)]) = .tup (way.map D.int ++ [.int (i : Int)]) := by
      unfold wayD
      rw [List.map_append]
      rfl
    refine ed_asg (K := K) (CK := CK) (d := wayD (way ++ [(i : Int)])) (by rw [ew]; exact ed_catT (ed_var rfl (r4.ex e03)) (ed_tup (ead_cons (ed_var rfl s1) ead_nil) (by show (1 : Nat) ≤ 30000; decide)) (by rw [List.length_map]; show way.length + 1 ≤ 30000; omega)) eB3 fun v6 H4 e4 r6 => ?_
    have b6 : ∀ a, H0 a = none → (H a).isSome = true → hid B' H3 H4 a = none := fun a h1 h2 => hid_no (hB2 a h1 h2) (lift eH3 h2)
    have x6 : Ex B' (hid B' H3 H4) := hid_ex eB3 e4
    have eH4 : Ex H H4 := eH3.trans e4
    generalize hB6 : hid B' H3 H4 = B6 at r6 b6 x6
    have s26 := s2.ex x6
    have e66 : Ex B6 H4 := by rw [← hB6]; exact hid_sub
    -- is it a list of three
    refine q_when (b := !di.isL || !decide ((di.items.length : Int) = 3)) (Evl.EvT.mono e66 (et_or (et_not (et_B (ev_isL T (ev_var rfl) s26))) fun hb => et_test (ev_neI (ev_lenD (ed_var rfl s26) (by simpa using hb)) ev_c))) (fun hb H5 e5 => ?_) fun hb H5 e5 => ?_
    · refine fin _ (badD "record" (way ++ [(i : Int)])) _ B6 H5 b6 (e66.trans e5) (eH4.trans e5) (ed_tup (ead_cons (ed_str (by decide)) (ead_cons (ed_var rfl r6) ead_nil)) (by show (2 : Nat) ≤ 30000; decide)) (hat _ (fun z => nomatch z) (faultR_bad ?_))
      cases c1 : di.isL with
      | false => rfl
      | true =>
        rw [c1] at hb
        have : decide ((di.items.length : Int) = 3) = false := by simpa using hb
        have h3 := of_decide_eq_false this
        rw [Bool.true_and, decide_eq_false]
        omega
    rw [Bool.or_eq_false_iff] at hb
    have hLi : di.isL = true := by simpa using hb.1
    have h3 : di.items.length = 3 := by
      have : decide ((di.items.length : Int) = 3) = true := by simpa using hb.2
      have := of_decide_eq_true this
      omega
    obtain ⟨k, mk, pp, hi⟩ := three h3
    cases n with
    | zero =>
      have := hd hL di (List.mem_of_getElem? hdi)
      rw [show dpt 0 di = (di.isL = false) from rfl, hLi] at this
      cases this
    | succ m =>
    have eqF : faultR rs (m + 1) above di (way ++ [(i : Int)]) = faultK (faultR rs m) rs above k mk pp (way ++ [(i : Int)]) := faultR_yes (by rw [hLi, decide_eq_true h3]; rfl) hi
    have ix : ∀ {σ' : L2.St} {Hk : Hp} (j : Nat) (e : D), σ'[5]? = some (some v2) → Ex B6 Hk → di.items[j]? = some e → EvD K CK (tOp (rIxLT K) (tVar 5) (tC (.int (j : Nat)))) σ' Hk e := fun j e h5 eb hj => ed_ix (ed_var h5 (s26.ex eb)) ev_c hLi hj
    have i0 : di.items[0]? = some k := by rw [hi]; rfl
    have i1 : di.items[1]? = some mk := by rw [hi]; rfl
    have i2 : di.items[2]? = some pp := by rw [hi]; rfl
    -- some
    refine ed_asg (K := K) (CK := CK) (d := .lst ((someR rs k above).map rowD)) ?_ (e66.trans e5) fun v7 H6 e6 r7 => ?_
    · have w := ed_lc (K := K) (CK := CK) (H := B6) (wi := iList K (tVar 0)) (g := gName 9) (tt := tAnd (tB (tCB (rIsi K) (tCons (tOp (rIxLT K) (tVar 5) (tC (.int 0))) (tCons (tC (.ty "str")) tNil)))) (tAnd (tTest (tOp rEq (tOp (rIxLT K) (tVar 9) (tC (.int 0))) (tOp (rIxLT K) (tVar 5) (tC (.int 0))))) (tTest (tOp rEq (tOp (rIxLT K) (tVar 9) (tC (.int 1))) (tVar 1))))) (te := tVar 9) (vs := [9])
        (σ := [some v, some w', some u, some p, some (.int (i : Nat)), some v2, some v6, y7, y8, y9]) (ds := rs.map rowD) (f := fun d => k.isS && (decide (kindOfD d = k.strOf) && decide (aboveOfD d = above))) (m := fun d => d) (ei_list (ed_var rfl (r1.ex (e03.trans x6)))) (by rw [List.length_map]; omega) ?_
      · rw [some_D] at w
        exact w
      · intro i' d3 y3 Hz ez hd3 ry3
        obtain ⟨ro, _, rfl⟩ := List.mem_map.mp (List.mem_of_getElem? hd3)
        refine ⟨_, eg_name, rfl, et_and (et_B (ev_isSD T (ix 0 k rfl ez i0))) (fun hk => ?_), fun _ => ed_var rfl ry3⟩
        obtain ⟨kk, rfl⟩ : ∃ kk, k = .str kk := by
          cases k with
          | str k => exact ⟨k, rfl⟩
          | _ => cases hk
        have hw0 : w' = .str above := rep_str r2
        exact et_and (et_test (ev_eqS (EvD.s (ed_ix (d := rowD ro) (j := 0) (ed_var rfl ry3) ev_c rfl rfl)) (EvD.s (ix 0 _ rfl ez i0)))) (fun _ => et_test (ev_eqS (EvD.s (ed_ix (d := rowD ro) (j := 1) (ed_var rfl ry3) ev_c rfl rfl)) (ev_var (by rw [hw0]; rfl))))
    have b7 : ∀ a, H0 a = none → (H a).isSome = true → hid B6 H5 H6 a = none := fun a h1 h2 => hid_no (b6 a h1 h2) (lift (eH4.trans e5) h2)
    have x7 : Ex B6 (hid B6 H5 H6) := hid_ex (e66.trans e5) e6
    have eH6 : Ex H H6 := (eH4.trans e5).trans e6
    generalize hB7 : hid B6 H5 H6 = B7 at r7 b7 x7
    have e77 : Ex B7 H6 := by rw [← hB7]; exact hid_sub
    -- some == []
    refine q_when (b := ((someR rs k above).map rowD).isEmpty) (Evl.EvT.mono e77 (et_test (ev_eqN (ed_var rfl r7) (ed_lst ead_nil (by show (0 : Nat) ≤ 30000; decide))))) (fun hb H7 e7 => ?_) fun hb H7 e7 => ?_
    · refine fin _ (badD "kind" (way ++ [(i : Int)])) _ B7 H7 b7 (e77.trans e7) (eH6.trans e7) (ed_tup (ead_cons (ed_str (by decide)) (ead_cons (ed_var rfl (r6.ex x7)) ead_nil)) (by show (2 : Nat) ≤ 30000; decide)) (hat _ (fun z => nomatch z) ?_)
      rw [eqF]
      refine faultK_no ?_
      rw [List.isEmpty_map, some_none] at hb
      simpa using hb
    have hk1 : oneOf k (fun z => decide (z ∈ inKind rs above)) = true := by
      rw [List.isEmpty_map, some_none] at hb
      simpa using hb
    obtain ⟨kk, rfl, hk⟩ : ∃ kk, k = .str kk ∧ kk ∈ inKind rs above := by
      cases k with
      | str k => exact ⟨k, rfl, of_decide_eq_true hk1⟩
      | _ => cases hk1
    obtain ⟨ro, hro, rfl, hra⟩ := inKind_of hk
    have hhd : ((someR rs (.str ro.kind) above).map rowD)[0]? = some (rowD ro) := by
      cases e : someR rs (.str ro.kind) above with
      | nil => rw [e] at hb; cases hb
      | cons r0 rest =>
        have hm : r0 ∈ someR rs (.str ro.kind) above := by rw [e]; exact List.mem_cons_self
        obtain ⟨hm1, hm2⟩ := List.mem_filter.mp hm
        have hm3 := Bool.and_eq_true_iff.mp (show (decide (r0.kind = ro.kind) && decide (r0.above = above)) = true from hm2)
        rw [ok.inj hm1 hro (of_decide_eq_true hm3.1)]
        rfl
    rw [faultK_yes hk] at eqF
    -- the mark
    have x67 : Ex B6 B7 := x7
    refine q_when (b := !mk.isS || !decide (mk.strOf ∈ ro.marks)) (Evl.EvT.mono (e77.trans e7) (et_or (et_not (et_B (ev_isSD T (ix 1 mk rfl x67 i1)))) fun hs => ?_)) (fun hb H8 e8 => ?_) fun hb H8 e8 => ?_
    · obtain ⟨mm, rfl⟩ : ∃ mm, mk = .str mm := by
        cases mk with
        | str m => exact ⟨m, rfl⟩
        | _ => cases hs
      exact et_test (ev_notInT (EvD.s (ix 1 _ rfl x67 i1)) (ed_ix (d := rowD ro) (j := 2) (ed_ix (d := .lst ((someR rs (.str ro.kind) above).map rowD)) (j := 0) (ed_var rfl r7) ev_c rfl hhd) ev_c rfl rfl))
    · refine fin _ (badD "mark" (way ++ [(i : Int)])) _ B7 H8 b7 ((e77.trans e7).trans e8) ((eH6.trans e7).trans e8) (ed_tup (ead_cons (ed_str (by decide)) (ead_cons (ed_var rfl (r6.ex x7)) ead_nil)) (by show (2 : Nat) ≤ 30000; decide)) (hat _ (fun z => nomatch z) ?_)
      rw [eqF]
      refine faultM_no ?_
      rw [marksOf_of ok hro]
      cases mk with
      | str m =>
        have hb' : (!decide (m ∈ ro.marks)) = true := hb
        exact decide_eq_false (by simpa using hb')
      | _ => rfl
    rw [Bool.or_eq_false_iff] at hb
    obtain ⟨mm, rfl⟩ : ∃ mm, mk = .str mm := by
      have := hb.1
      cases mk with
      | str m => exact ⟨m, rfl⟩
      | _ => cases this
    have hm : mm ∈ ro.marks := by
      have : (!decide (mm ∈ ro.marks)) = false := hb.2
      simpa using this
    rw [faultM_yes (by rw [marksOf_of ok hro]; exact hm)] at eqF
    have eqG : faultR rs (m + 1) above di (way ++ [(i : Int)]) = lawF rs m ro.kind pp (way ++ [(i : Int)]) := eqF
    -- the parts
    have e78 : Ex B7 H8 := (e77.trans e7).trans e8
    refine ed_asg (K := K) (CK := CK) (d := lawF rs m ro.kind pp (way ++ [(i : Int)])) (ed_callX (ds := [rowsD rs, .str ro.kind, pp, wayD (way ++ [(i : Int)])]) (ead_cons (ed_var rfl (r1.ex ((e03.trans x6).trans x7))) (ead_cons (ix 0 _ rfl x67 i0) (ead_cons (ix 2 _ rfl x67 i2) (ead_cons (ed_var rfl (r6.ex x7)) ead_nil)))) rfl
      ⟨rs, ro.kind, pp, _, rfl, ok, fun hpL => hd hL di (List.mem_of_getElem? hdi) hLi pp (by rw [hi]; simp) hpL, by rw [List.length_append]; show way.length + 1 + m < 1000; omega, rfl⟩) e78 fun v8 H9 e9 r8 => ?_
    have eH8 : Ex H H8 := (eH6.trans e7).trans e8
    have r9 : Rep K CK (hid H0 H H9) (lawF rs m ro.kind pp (way ++ [(i : Int)])) v8 := r8.ex (hid_out b7 eH8)
    refine s_when (b := !(lawF rs m ro.kind pp (way ++ [(i : Int)])).isN) (et_B (ev_is (ev_notN (v := v8) (ev_var rfl)) (by rw [rep_isN r8]))) (fun hb H10 e10 => ?_) fun hb H10 e10 => ?_
    · refine ev_var (H := H10) (v := v8) rfl H10 (Ex.refl _) _ fun H11 e11 => q v8 H11 ((eH8.trans e9).trans (e10.trans e11)) ?_
      rw [hat _ (fun c => by rw [c] at hb; cases hb) eqG]
      exact r9.ex (hid_mono (e10.trans e11))
    · refine ⟨_, _, _, _, _, _, rfl, ?_, (eH8.trans e9).trans e10, hB, fun j d hj hdj => ?_⟩
      · exact eBa.trans (eab.trans (e3.trans (e4.trans (e5.trans (e6.trans (e7.trans (e8.trans (e9.trans e10))))))))
      by_cases c : j < i
      · exact hp j d c hdj
      · obtain rfl : j = i := by omega
        rw [hdi] at hdj
        cases hdj
        rw [eqG]
        cases e : lawF rs m ro.kind pp (way ++ [(j : Int)]) with
        | non => rfl
        | _ => rw [e] at hb; cases hb
  · rintro B σ' H' eB ⟨y4, y5, y6, y7, y8, y9, rfl, eBa, eHa, hB, hp⟩
    rw [enumD_len] at hp
    refine q _ H' eHa ?_
    rw [eqL]
    unfold partsF
    rw [firstF_none (f := fun i y => faultR rs n above y (way ++ [(i : Int)])) (k := 0) fun j d hj => by rw [Nat.zero_add]; exact hp j d (List.getElem?_eq_some_iff.mp hj).1 hj]
    rfl
theorem ok_lfault (d : Def K mg "_law_s_fault" sLFault ["rows", "above", "thing", "way"]) (T : KCls K CK) (N : Nm mg) : ∀ n, FnOk P w K mg base CX0 (n + 2) d.f d.fd ["rows", "above", "thing", "way"] (spLF K CK n)
  | 0 => ok_lfault_of d (d.F.ok scLFault (fun _ _ _ _ h => h.elim) (fun _ _ _ _ _ _ _ _ _ h => h.elim)) T N
  | n + 1 => ok_lfault_of d (ok_lfault d T N n) T N
end
end Any
set_option Elab.async false
set_option linter.all false
set_option maxRecDepth 100000
set_option maxHeartbeats 2000000
namespace Any
open PySem PySem.Spec PyProof.Rows L2 Evl StX
abbrev sLHolder : Stmt := topS 61
section
variable {K : PySem.W.Frag} {CK : Addr} {H H' H0 H1 H2 H3 H4 B : Hp} {σ σ2 : L2.St} {X : Cx}
/-- xs != [] -/
def rNeN (K : PySem.W.Frag) : R2 := fun x y H Q => ∃ a b xs, x = .ref a ∧ y = .ref b ∧ SqL K H a xs ∧ SqL K H b [] ∧ Q (.bl (!xs.isEmpty)) H
theorem op_neN (hu : X.A.units + 64 < cLine) : OpR X (compareOp .NotEq) (rNeN X.K) := by
  intro pins s σ H x y v u Q I rx ry h
  obtain ⟨a, b, xs, rfl, rfl, ha, hb, q⟩ := h
  cases rx
  cases ry
  obtain ⟨its, r1, p1, _⟩ := I.list ha
  obtain ⟨its2, r2, p2, _⟩ := I.list hb
  cases r2
  have hl := r1.length
  cases xs with
  | nil =>
    cases r1
    exact (SeqAt.RcNeAt.lists (e := fun _ => true) p1.isList p2.isList rfl (by omega) fun j j1 => absurd j1 (by simp)) X.prog X.w _ _ ⟨.bl false, H, I, rfl, q⟩
  | cons z zs =>
    refine (SeqAt.RcNeAt.lists_lengths p1.isList p2.isList ?_ (by omega)) X.prog X.w _ _ ⟨.bl true, H, I, rfl, q⟩
    rw [List.size_toArray, List.size_toArray, ← hl]
    simp
theorem ev_neN {ta tb : TE} {xs : List D} (h1 : EvD K CK ta σ H (.lst xs)) (h2 : EvD K CK tb σ H (.lst [])) : Ev (tOp (rNeN K) ta tb) σ H (.bl (!xs.isEmpty)) := fun H1 e1 Q q =>
  h1 H1 e1 _ fun v H2 e2 r => h2 H2 (e1.trans e2) _ fun v2 H3 e3 r2 => by
    obtain ⟨a, vs, rfl, ha, la, ra⟩ := r
    obtain ⟨b, ws, rfl, hb, lb, rb⟩ := r2
    rw [show ws = [] from rb] at hb
    refine ⟨a, b, vs, rfl, rfl, sq_of (e3 _ _ (hid_sub _ _ ha)), sq_of (hid_sub _ _ hb), ?_⟩
    have : vs.isEmpty = xs.isEmpty := by
      have := ra.len
      cases vs <;> cases xs <;> first | rfl | (simp at this)
    rw [this]
    exact q H3 (e2.trans e3)
theorem ed_if {t : TT} {ta tb : TE} {b : Bool} {d : D} (h : EvT t σ H b) (h1 : b = true → EvD K CK ta σ H d) (h2 : b = false → EvD K CK tb σ H d) : EvD K CK (tIf t ta tb) σ H d := fun H1 e Q q => h H1 e _ fun H2 e2 => by
  cases b with
  | true => exact h1 rfl H2 (e.trans e2) Q fun v H3 e3 r => q v H3 (e2.trans e3) (Rep.ex (hid_le e2) r)
  | false => exact h2 rfl H2 (e.trans e2) Q fun v H3 e3 r => q v H3 (e2.trans e3) (Rep.ex (hid_le e2) r)
end
/-- the kind in which a thing would lie, if it names a kind -/
def holderF (rs : List Row) (d : D) : D := if d.isL && decide (d.items.length = 3) then (match d.items.getD 0 .non with
  | .str k => if decide (k ∈ rs.map (·.kind)) then .str (aboveOf rs k) else .non
  | _ => .non) else .non
theorem some_K (rs : List Row) (k : Str) : (((rs.map rowD).filter fun d => decide (kindOfD d = k)).map fun d => D.str (aboveOfD d)) = (rs.filter fun r => decide (r.kind = k)).map fun r => D.str r.above := by
  rw [List.filter_map, List.map_map]
  rfl
section
variable {P : Program} {w : World} {K : PySem.W.Frag} {mg : Str → Option Value} {base : Heap} {CK : Addr}
theorem scLHolder : FnScope ["rows", "thing", "some", "row"] ["rows", "thing"] (defScope sLHolder) := ⟨rfl, rfl, rfl, by decide +kernel, rfl, by decide +kernel, by decide +kernel⟩
abbrev spHolder (K : PySem.W.Frag) (CK : Addr) : Sp := spX K CK 2 (fun ds d => ∃ rs thing, ds = [rowsD rs, thing] ∧ KOk rs ∧ d = holderF rs thing)
theorem ok_holder (d : Def K mg "_law_holder" sLHolder ["rows", "thing"]) (T : KCls K CK) (N : Nm mg) : FnOk P w K mg base CX0 1 d.f d.fd ["rows", "thing"] (spHolder K CK) := by
  refine d.F.ok scLHolder (fun vs H Q E h => spX_len h) (fun cdv A outer s H vs Q E hr h => ?_)
  obtain ⟨x, y, d, v, v2, H0, rfl, e0, r1, r2, ⟨rs, thing, hx, ok, rfl⟩, q⟩ := spX2 h
  cases hx
  have hu := hr.units
  have few := ok.few
  refine ⟨_, pss_cons (ps_if (PW.pt (pw_or (pt_not (pt_val (pe_callB call_isiT (by rfl) N.isinstance boot_isinstance (pa_cons (pv 1) (pa_cons (pe_tup (pa_cons (pe_bltn (v := .ty "list") (by rfl) N.list boot_list rfl) (pa_cons (pe_bltn (v := .ty "tuple") (by rfl) N.tuple boot_tuple rfl) pa_nil))) pa_nil)))))
        (pw_or (pt_cmpR op_ne (pe_callB call_len_seq (by rfl) N.len boot_len (pa_cons (pv 1) pa_nil)) pe_int (nomark _))
        (pw_or1 (pt_not (pt_val (pe_callB call_isi (by rfl) N.isinstance boot_isinstance (pa_cons (pe_ix (r := rIxLT K) ix_lt (pv 1) pe_int (fun _ _ => rfl)) (pa_cons (pe_bltn (v := .ty "str") (by rfl) N.str boot_str rfl) pa_nil))))))))) (pss_one (ps_ret pe_non)) pss_nil)
    (pss_cons (ps_setLc (i := 2) (own := [("row", 3)]) (g := gName 3) rfl scLHolder.nd rfl rfl (sw_true rfl rfl rfl (by decide +kernel)) (pi_list (pv 0)) (blkOk_by (N := ["rows", "thing", "some", "row"]) (sc := defScope sLHolder) (by decide +kernel))
        (fun _ _ _ _ _ => pg_name (i := 3) scLHolder.nd rfl (Or.inl rfl)) (fun _ _ _ _ _ => pts_one (pt_cmpR op_eq (pe_ix (r := rIxLT K) ix_lt (pv 3) pe_int (fun _ _ => rfl)) (pe_ix (r := rIxLT K) ix_lt (pv 1) pe_int (fun _ _ => rfl)) (nomark _)))
        (fun _ _ _ _ _ => pe_ix (r := rIxLT K) ix_lt (pv 3) pe_int (fun _ _ => rfl)))
    (pss_one (ps_ret (pe_ifExp (pt_cmpR (op_neN hu) (pv 2) (pe_lst pa_nil) (nomark _)) (pe_ix (r := rIxLT K) ix_lt (pv 2) pe_int (fun _ _ => rfl)) pe_non)))), ?_⟩
  refine q_when (b := !y.isL || (!decide ((y.items.length : Int) = 3) || !(y.items.getD 0 .non).isS)) (Evl.EvT.mono e0 (et_or (et_not (et_B (ev_isL T (ev_var rfl) r2))) fun hb => et_or (et_test (ev_neI (ev_lenD (ed_var rfl r2) (by simpa using hb)) ev_c)) fun hc => ?_)) (fun hb H1 e1 => ?_) fun hb H1 e1 => ?_
  · have h3 : y.items.length = 3 := by
      have : decide ((y.items.length : Int) = 3) = true := by simpa using hc
      have := of_decide_eq_true this
      omega
    obtain ⟨a, b, c, hi⟩ := three h3
    exact et_not (et_B (ev_isSD T (ed_ix (j := 0) (ed_var rfl r2) ev_c (by simpa using hb) (by rw [hi]; rfl))))
  · refine q _ H1 e1 ?_
    have : holderF rs y = .non := by
      unfold holderF
      cases c1 : y.isL with
      | false => rfl
      | true =>
        by_cases h3 : y.items.length = 3
        · rw [c1, decide_eq_true (by omega : (y.items.length : Int) = 3)] at hb
          have hs : (y.items.getD 0 .non).isS = false := by simpa using hb
          rw [decide_eq_true h3]
          show (match y.items.getD 0 .non with | .str k => _ | _ => D.non) = .non
          cases e : y.items.getD 0 .non with
          | str k => rw [e] at hs; cases hs
          | _ => rfl
        · rw [decide_eq_false h3]
          rfl
    rw [this]
    rfl
  rw [Bool.or_eq_false_iff, Bool.or_eq_false_iff] at hb
  have hL : y.isL = true := by simpa using hb.1
  have h3 : y.items.length = 3 := by
    have : decide ((y.items.length : Int) = 3) = true := by simpa using hb.2.1
    have := of_decide_eq_true this
    omega
  obtain ⟨k, m, p, hi⟩ := three h3
  obtain ⟨kk, rfl⟩ : ∃ kk, k = .str kk := by
    have : (y.items.getD 0 .non).isS = true := by simpa using hb.2.2
    rw [hi] at this
    cases k with
    | str k => exact ⟨k, rfl⟩
    | _ => cases this
  have e01 : Ex H0 H1 := e0.trans e1
  refine ed_asg (K := K) (CK := CK) (d := .lst ((rs.filter fun r => decide (r.kind = kk)).map fun r => D.str r.above)) ?_ e01 fun v3 H2 e2 r3 => ?_
  · have w := ed_lc (K := K) (CK := CK) (H := H0) (wi := iList K (tVar 0)) (g := gName 3) (tt := tTest (tOp rEq (tOp (rIxLT K) (tVar 3) (tC (.int 0))) (tOp (rIxLT K) (tVar 1) (tC (.int 0))))) (te := tOp (rIxLT K) (tVar 3) (tC (.int 1))) (vs := [3])
      (σ := [some v, some v2, none, none]) (ds := rs.map rowD) (f := fun d => decide (kindOfD d = kk)) (m := fun d => .str (aboveOfD d)) (ei_list (ed_var rfl r1)) (by rw [List.length_map]; omega) ?_
    · rw [some_K] at w
      exact w
    · intro i' d3 y3 Hz ez hd3 ry3
      obtain ⟨ro, _, rfl⟩ := List.mem_map.mp (List.mem_of_getElem? hd3)
      exact ⟨_, eg_name, rfl, et_test (ev_eqS (EvD.s (ed_ix (d := rowD ro) (j := 0) (ed_var rfl ry3) ev_c rfl rfl)) (EvD.s (ed_ix (j := 0) (ed_var rfl (r2.ex ez)) ev_c hL (by rw [hi]; rfl)))), fun _ => ed_ix (d := rowD ro) (j := 1) (ed_var rfl ry3) ev_c rfl rfl⟩
  have eqH : holderF rs y = if decide (kk ∈ rs.map (·.kind)) then .str (aboveOf rs kk) else .non := by
    unfold holderF
    rw [hL, decide_eq_true h3, hi]
    rfl
  have ex2 : Ex (hid H0 H1 H2) H2 := hid_sub
  refine s_retD (K := K) (CK := CK) (H0 := hid H0 H1 H2) (d := holderF rs y) (ed_if (et_test (ev_neN (ed_var rfl r3) (ed_lst ead_nil (by show (0 : Nat) ≤ 30000; decide)))) (fun hb => ?_) (fun hb => ?_)) hid_sub fun v5 H5 e5 r5 => q v5 H5 (e1.trans (e2.trans e5)) (r5.ex (hid_out (fun a h1 h2 => hid_no h1 ?_) (e1.trans e2)))
  · by_cases hk : kk ∈ rs.map (·.kind)
    · obtain ⟨ro, hro, rfl⟩ := List.mem_map.mp hk
      rw [eqH, decide_eq_true hk, if_pos rfl, aboveOf_of ok hro]
      refine ed_ix (d := .lst ((rs.filter fun r => decide (r.kind = ro.kind)).map fun r => D.str r.above)) (j := 0) (ed_var rfl r3) ev_c rfl ?_
      show ((rs.filter fun r => decide (r.kind = ro.kind)).map fun r => D.str r.above)[0]? = _
      have hm : ro ∈ rs.filter fun r => decide (r.kind = ro.kind) := List.mem_filter.mpr ⟨hro, decide_eq_true rfl⟩
      cases e : rs.filter fun r => decide (r.kind = ro.kind) with
      | nil => rw [e] at hm; cases hm
      | cons r0 rest =>
        have hm0 : r0 ∈ rs.filter fun r => decide (r.kind = ro.kind) := by rw [e]; exact List.mem_cons_self
        obtain ⟨h1, h2⟩ := List.mem_filter.mp hm0
        rw [ok.inj h1 hro (of_decide_eq_true h2)]
        rfl
    · exfalso
      have : rs.filter (fun r => decide (r.kind = kk)) = [] := List.filter_eq_nil_iff.mpr fun r hr z => hk (List.mem_map.mpr ⟨r, hr, of_decide_eq_true z⟩)
      rw [this] at hb
      cases hb
  · have hk : ¬ kk ∈ rs.map (·.kind) := fun hk => by
      obtain ⟨ro, hro, rfl⟩ := List.mem_map.mp hk
      have hm : ro ∈ rs.filter fun r => decide (r.kind = ro.kind) := List.mem_filter.mpr ⟨hro, decide_eq_true rfl⟩
      cases e : rs.filter fun r => decide (r.kind = ro.kind) with
      | nil => rw [e] at hm; cases hm
      | cons _ _ => rw [e] at hb; cases hb
    rw [eqH, decide_eq_false hk, if_neg Bool.false_ne_true]
    exact ed_non
  · cases c : H a with
    | none => rw [c] at h2; cases h2
    | some o => rw [e1 a o c]; rfl
end
end Any
set_option Elab.async false
set_option linter.all false
set_option maxRecDepth 100000
set_option maxHeartbeats 2000000
namespace Any
open PySem PySem.Spec PyProof.Rows L2 Evl StX
abbrev sLPRow : Stmt := topS 45
abbrev sLPChain : Stmt := topS 46
section
variable {P : Program} {w : World} {K : PySem.W.Frag} {mg : Str → Option Value} {base : Heap} {CK : Addr}
theorem scLPRow : FnScope ["rows", "kind", "row"] ["rows", "kind"] (defScope sLPRow) := ⟨rfl, rfl, rfl, by decide +kernel, rfl, by decide +kernel, by decide +kernel⟩
/-- rows of unlike kinds -/
structure Un (rs : List Row) : Prop where
  nd : (rs.map (·.kind)).Nodup
  few : rs.length ≤ 1000
theorem Un.inj {rs : List Row} (ok : Un rs) {r s : Row} (hr : r ∈ rs) (hs : s ∈ rs) (e : r.kind = s.kind) : r = s := by
  obtain ⟨i, hi, rfl⟩ := List.mem_iff_getElem.mp hr
  obtain ⟨j, hj, rfl⟩ := List.mem_iff_getElem.mp hs
  have l1 : i < (rs.map (·.kind)).length := by rw [List.length_map]; exact hi
  have l2 : j < (rs.map (·.kind)).length := by rw [List.length_map]; exact hj
  have eq : (rs.map (·.kind))[i] = (rs.map (·.kind))[j] := by rw [List.getElem_map, List.getElem_map, e]
  obtain rfl := (List.getElem_inj ok.nd).mp eq
  rfl
abbrev spPRow (K : PySem.W.Frag) (CK : Addr) : Sp := spX K CK 2 (fun ds d => ∃ rs r, ds = [rowsD rs, .str r.kind] ∧ Un rs ∧ r ∈ rs ∧ d = rowD r)
theorem ok_p_row (d : Def K mg "_law_p_row" sLPRow ["rows", "kind"]) (T : KCls K CK) (N : Nm mg) : FnOk P w K mg base CX0 1 d.f d.fd ["rows", "kind"] (spPRow K CK) := by
  refine d.F.ok scLPRow (fun vs H Q E h => spX_len h) (fun cdv A outer s H vs Q E hr h => ?_)
  obtain ⟨x, y, d, v, v2, H0, rfl, e0, r1, r2, ⟨rs, r, hx, ok, hm, rfl⟩, q⟩ := spX2 h
  cases hx
  have few := ok.few
  refine ⟨_, pss_one (ps_ret (pe_ix (r := rIxLT K) ix_lt (pe_lc (own := [("row", 2)]) (g := gName 2) (tt := tTest (tOp rEq (tOp (rIxLT K) (tVar 2) (tC (.int 0))) (tVar 1))) rfl scLPRow.nd (pi_list (pv 0)) (blkOk_by (N := ["rows", "kind", "row"]) (sc := defScope sLPRow) (by decide +kernel))
      (fun _ _ _ _ _ => pg_name (i := 2) scLPRow.nd rfl (Or.inl rfl)) (fun _ _ _ _ _ => pts_one (pt_cmpR op_eq (pe_ix (r := rIxLT K) ix_lt (pv 2) pe_int (fun _ _ => rfl)) (pv 1) (nomark _))) (fun _ _ _ _ _ => pv 2)) pe_int (fun _ _ => rfl))), ?_⟩
  have w := ed_lc (K := K) (CK := CK) (H := H0) (wi := iList K (tVar 0)) (g := gName 2) (tt := tTest (tOp rEq (tOp (rIxLT K) (tVar 2) (tC (.int 0))) (tVar 1))) (te := tVar 2) (vs := [2])
    (σ := [some v, some v2, none]) (ds := rs.map rowD) (f := fun d => decide (kindOfD d = r.kind)) (m := fun d => d) (ei_list (ed_var rfl r1)) (by rw [List.length_map]; omega) (fun i' d3 y3 Hz ez hd3 ry3 => by
      obtain ⟨ro, _, rfl⟩ := List.mem_map.mp (List.mem_of_getElem? hd3)
      have hv : v2 = .str r.kind := rep_str r2
      exact ⟨_, eg_name, rfl, et_test (ev_eqS (EvD.s (ed_ix (d := rowD ro) (j := 0) (ed_var rfl ry3) ev_c rfl rfl)) (ev_var (by rw [hv]; rfl))), fun _ => ed_var rfl ry3⟩)
  refine s_retD (K := K) (CK := CK) (H0 := H0) (d := rowD r) (ed_ix (j := 0) w ev_c rfl ?_) e0 fun v5 H5 e5 r5 => q v5 H5 e5 r5
  show (((rs.map rowD).filter fun d => decide (kindOfD d = r.kind)).map fun d => d)[0]? = _
  rw [List.map_id', List.filter_map]
  have hm' : r ∈ rs.filter ((fun d => decide (kindOfD d = r.kind)) ∘ rowD) := List.mem_filter.mpr ⟨hm, decide_eq_true rfl⟩
  cases e : rs.filter ((fun d => decide (kindOfD d = r.kind)) ∘ rowD) with
  | nil => rw [e] at hm'; cases hm'
  | cons r0 rest =>
    have hm0 : r0 ∈ rs.filter ((fun d => decide (kindOfD d = r.kind)) ∘ rowD) := by rw [e]; exact List.mem_cons_self
    obtain ⟨h1, h2⟩ := List.mem_filter.mp hm0
    have h2' : decide (r0.kind = r.kind) = true := h2
    rw [ok.inj h1 hm (of_decide_eq_true h2')]
    rfl
end
end Any
set_option Elab.async false
set_option linter.all false
set_option maxRecDepth 100000
set_option maxHeartbeats 2000000
namespace Any
open PySem PySem.Spec PyProof.Rows L2 Evl StX
abbrev sLDraw : Stmt := topS 40
/-- the well that the law draws from; m: how often it may be drawn from yet -/
def WellAt (W : Addr) (m : Nat) (H : Hp) : Prop := ∃ a b c : Int, H W = some (.lst [.int a, .int b, .int c]) ∧ 0 ≤ b ∧ b < 8589934592 ∧ 0 ≤ c ∧ c + (m : Int) ≤ 1099511627776
section
variable {K : PySem.W.Frag} {CK : Addr} {H H' H0 H1 H2 H3 H4 B : Hp} {σ σ2 : L2.St} {X : Cx}
theorem q_setV {te : TE} {i : Nat} {tz : TS} {D0 : Ends} {v : V} (h : Ev te σ H v) (k : ∀ H1, Ex H H1 → tz D0 (σ.set i (some v)) H1) : tSeq (tAsg te (gName i)) tz D0 σ H := h H (Ex.refl H) _ k
theorem q_setI {te : TE} {i : Nat} {n : Int} {j : Nat} {W : Addr} {xs : List V} {tz : TS} {D0 : Ends} {v : V} (h : Ev te σ H v) (hi : σ[i]? = some (some (V.ref W))) (hW : H W = some (.lst xs)) (hj : ixN xs.length n = some j)
    (k : ∀ H1, Ex H H1 → tz D0 σ (upd H1 W (.lst (xs.set j v)))) : tSeq (tAsg te (gSub (tVar i) (tC (.int n)) rSetL)) tz D0 σ H := h H (Ex.refl H) _ fun H1 e1 => ⟨_, hi, W, xs, n, j, rfl, rfl, e1 _ _ hW, hj, k H1 e1⟩
theorem ev_ixW {i : Nat} {n : Int} {W : Addr} {xs : List V} {v : V} (hi : σ[i]? = some (some (V.ref W))) (hW : H W = some (.lst xs)) (ha : atI xs n = some v) : Ev (tOp (rIxL K) (tVar i) (tC (.int n))) σ H v :=
  ev_op (ev_var hi) ev_c (rv_ixL (sq_of hW) ha)
theorem ev_int {te : TE} {n : Int} (h : Ev te σ H (.int n)) : Ev (tCB (fun xs H Q => (∃ i, xs = [V.int i] ∧ Q (.int i) H) ∨ ∃ k, xs = [V.bl k] ∧ Q (.int (if k then 1 else 0)) H) (tCons te tNil)) σ H (.int n) := fun H1 e Q q => h H1 e _ fun H2 e2 => .inl ⟨n, rfl, q H2 e2⟩
theorem ev_modI {ta tb : TE} {a b : Int} (h1 : Ev ta σ H (.int a)) (h2 : Ev tb σ H (.int b)) (hb : 0 < b) : Ev (tOp (rI (fun _ j => 0 < j) fun i j => .int (i % j)) ta tb) σ H (.int (a % b)) :=
  ev_op h1 h2 fun H1 _ _ q => ⟨a, b, rfl, rfl, hb, q H1 (Ex.refl H1)⟩
theorem ev_divI {ta tb : TE} {a b : Int} (h1 : Ev ta σ H (.int a)) (h2 : Ev tb σ H (.int b)) (hb : 0 < b) (hb2 : b < 1073741824) : Ev (tOp (rI CDiv fun i j => .int (i / j)) ta tb) σ H (.int (a / b)) :=
  ev_op h1 h2 fun H1 _ _ q => ⟨a, b, rfl, rfl, ⟨hb, hb2⟩, q H1 (Ex.refl H1)⟩
theorem ev_mulI {ta tb : TE} {a b : Int} (h1 : Ev ta σ H (.int a)) (h2 : Ev tb σ H (.int b)) (hc : CMul a b) : Ev (tOp (rI CMul fun i j => .int (i * j)) ta tb) σ H (.int (a * b)) :=
  ev_op h1 h2 fun H1 _ _ q => ⟨a, b, rfl, rfl, hc, q H1 (Ex.refl H1)⟩
theorem ev_powI {ta tb : TE} {a b : Int} (h1 : Ev ta σ H (.int a)) (h2 : Ev tb σ H (.int b)) (hc : CPow a b) : Ev (tOp (rI CPow fun i j => .int (i ^ j.toNat)) ta tb) σ H (.int (a ^ b.toNat)) :=
  ev_op h1 h2 fun H1 _ _ q => ⟨a, b, rfl, rfl, hc, q H1 (Ex.refl H1)⟩
theorem cut_of {W : Addr} (h : ∀ a o, a ≠ W → H a = some o → H' a = some o) : Ex (cut W H) H' := fun a o z => by
  unfold cut at z
  split at z
  · cases z
  · exact h a o (by assumption) z
end
section
variable {P : Program} {w : World} {K : PySem.W.Frag} {mg : Str → Option Value} {base : Heap} {CK : Addr}
theorem scLDraw : FnScope ["well", "many", "digit", "spread"] ["well", "many"] (defScope sLDraw) := ⟨rfl, rfl, rfl, by decide +kernel, rfl, by decide +kernel, by decide +kernel⟩
def spDraw : Sp := fun vs H Q _ => ∃ W m many, vs = [V.ref W, .int many] ∧ WellAt W (m + 1) H ∧ 0 < many ∧ many < 1000000 ∧ ∀ (i : Int) H', 0 ≤ i → i < many → WellAt W m H' → Ex (cut W H) H' → Q (.int i) H'
theorem ok_draw (d : Def K mg "_law_draw" sLDraw ["well", "many"]) (N : Nm mg) : FnOk P w K mg base CX0 1 d.f d.fd ["well", "many"] spDraw := by
  refine d.F.ok scLDraw (fun vs H Q E h => ?_) (fun cdv A outer s H vs Q E hr h => ?_)
  · obtain ⟨_, _, _, rfl, _⟩ := h
    rfl
  obtain ⟨W, m, many, rfl, ⟨a, b, c, hW, hb0, hb1, hc0, hc1⟩, hm0, hm1, q⟩ := h
  refine ⟨_, pss_cons (ps_if (pt_cmpR op_gt (pe_ix ix_list (pv 0) pe_int (fun _ _ => rfl)) pe_int (nomark _))
      (pss_cons (ps_set (i := 2) scLDraw.nd rfl (.inl rfl) (pe_op op_mod (pe_callTy call_int1 (by rfl) N.int boot_int (pa_cons (pe_ix ix_list (pv 0) pe_int (fun _ _ => rfl)) pa_nil)) (pv 1)))
      (pss_cons (ps_asg (pe_op op_fdiv (pe_ix ix_list (pv 0) pe_int (fun _ _ => rfl)) (pv 1)) (pg_sub (pv 0) pe_int set_list))
      (pss_one (ps_ret (pv 2))))) pss_nil)
    (pss_cons (ps_asg (pe_op op_add (pe_ix ix_list (pv 0) pe_int (fun _ _ => rfl)) pe_int) (pg_sub (pv 0) pe_int set_list))
    (pss_cons (ps_set (i := 3) scLDraw.nd rfl (.inl rfl) (pe_op op_mod (pe_op op_pow (pe_callTy call_int1 (by rfl) N.int boot_int (pa_cons (pe_op op_add (pe_op op_add (pe_ix ix_list (pv 0) pe_int (fun _ _ => rfl)) (pe_op op_mul pe_int (pe_ix ix_list (pv 0) pe_int (fun _ _ => rfl)))) pe_int) pa_nil)) pe_int) pe_int))
    (pss_one (ps_ret (pe_op op_mod (pe_op op_fdiv (pe_op op_mod (pe_callTy call_int1 (by rfl) N.int boot_int (pa_cons (pe_op op_mul (pe_op op_add (pv 3) (pe_op op_mul pe_int (pe_ix ix_list (pv 0) pe_int (fun _ _ => rfl)))) pe_int) pa_nil)) pe_int) pe_int) (pv 1)))))), ?_⟩
  refine q_when (b := decide (0 < a)) (et_test (ev_op (ev_ixW rfl hW rfl) ev_c rv_I0)) (fun hb H1 e1 => ?_) fun hb H1 e1 => ?_
  · refine q_setV (v := .int (a % many)) (ev_modI (ev_int (ev_ixW rfl (e1 _ _ hW) rfl)) (ev_var rfl) hm0) fun H2 e2 => ?_
    have hW2 := e2 _ _ (e1 _ _ hW)
    refine q_setI (W := W) (j := 0) (ev_divI (ev_ixW rfl hW2 rfl) (ev_var rfl) hm0 (by omega)) rfl hW2 rfl fun H3 e3 => ?_
    refine s_ret (ev_var rfl) fun H4 e4 => q _ H4 (Int.emod_nonneg _ (by omega)) (Int.emod_lt_of_pos _ hm0) ⟨a / many, b, c, e4 _ _ upd_same, hb0, hb1, hc0, by omega⟩ (cut_of fun x o hx z => e4 _ _ (by rw [upd_ne hx]; exact e3 _ _ (e2 _ _ (e1 _ _ z))))
  · have hW1 := e1 _ _ hW
    refine q_setI (W := W) (j := 2) (ev_addI (ev_ixW rfl hW1 rfl) ev_c) rfl hW1 rfl fun H2 e2 => ?_
    have hW2 : upd H2 W (.lst [.int a, .int b, .int (c + 1)]) W = some (.lst [.int a, .int b, .int (c + 1)]) := upd_same
    refine q_setV (v := .int ((b + 8191 * (c + 1) + 65537) ^ (5 : Int).toNat % 2147483647)) (ev_modI (ev_powI (ev_int (ev_addI (ev_addI (ev_ixW rfl hW2 rfl) (ev_mulI ev_c (ev_ixW rfl hW2 rfl) (.inl ⟨by decide, by decide⟩))) ev_c)) ev_c ⟨by decide, by decide, by omega⟩) ev_c (by decide)) fun H3 e3 => ?_
    have hW3 := e3 _ _ hW2
    generalize hs : (b + 8191 * (c + 1) + 65537) ^ (5 : Int).toNat % 2147483647 = sp
    have s0 : 0 ≤ sp := by rw [← hs]; exact Int.emod_nonneg _ (by decide)
    have s1 : sp < 2147483647 := by rw [← hs]; exact Int.emod_lt_of_pos _ (by decide)
    refine s_ret (v := .int ((sp + 7 * (c + 1)) * 48271 % 2147483629 / 9 % many)) (ev_modI (ev_divI (ev_modI (ev_int (ev_mulI (ev_addI (ev_var rfl) (ev_mulI ev_c (ev_ixW rfl hW3 rfl) (.inl ⟨by decide, by decide⟩))) ev_c (.inr ⟨by decide, by decide⟩))) ev_c (by decide)) ev_c (by decide) (by decide)) (ev_var rfl) hm0) fun H4 e4 =>
      q _ H4 (Int.emod_nonneg _ (by omega)) (Int.emod_lt_of_pos _ hm0) ⟨a, b, c + 1, e4 _ _ hW3, hb0, hb1, by omega, by omega⟩ (cut_of fun x o hx z => e4 _ _ (e3 _ _ (by rw [upd_ne hx]; exact e2 _ _ (e1 _ _ z))))
end
end Any
set_option Elab.async false
set_option linter.all false
set_option maxRecDepth 100000
set_option maxHeartbeats 2000000
/-! what draws from the well: H0 is known and does not have the well at W; all but the well stays -/
namespace Any
open PySem PySem.Spec PyProof.Rows L2 Evl StX
abbrev sLPick : Stmt := topS 41
section
variable {K : PySem.W.Frag} {CK : Addr} {H H' H0 H1 H2 H3 H4 B : Hp} {σ σ2 : L2.St} {X : Cx} {W : Addr} {m m' k : Nat}
def ExW (W : Addr) (H1 H2 : Hp) : Prop := Ex (cut W H1) H2
theorem cut_at {a : Addr} {o : HO} (h : a ≠ W) (z : H a = some o) : cut W H a = some o := by unfold cut; rw [if_neg h]; exact z
theorem cut_none : cut W H W = none := by unfold cut; rw [if_pos rfl]
theorem ExW.of (e : Ex H H') : ExW W H H' := cut_sub.trans e
theorem ExW.refl : ExW W H H := cut_sub
theorem ExW.trans (e1 : ExW W H1 H2) (e2 : ExW W H2 H3) : ExW W H1 H3 := fun a o z => by
  have c : a ≠ W := fun c => by rw [c, cut_none] at z; cases z
  exact e2 _ _ (cut_at c (e1 _ _ z))
theorem ExW.known (e : ExW W H1 H2) (hb : Ex B H1) (hw : B W = none) : Ex B H2 := fun a o z => by
  have c : a ≠ W := fun c => by rw [c, hw] at z; cases z
  exact e _ _ (cut_at c (hb _ _ z))
theorem WellAt.ex (e : Ex H H') (h : WellAt W m H) : WellAt W m H' := by
  obtain ⟨a, b, c, h1, h2⟩ := h
  exact ⟨a, b, c, e _ _ h1, h2⟩
theorem WellAt.less (h : WellAt W m H) (hk : k ≤ m) : WellAt W k H := by
  obtain ⟨a, b, c, h1, h2, h3, h4, h5⟩ := h
  exact ⟨a, b, c, h1, h2, h3, h4, by omega⟩
theorem WellAt.some (h : WellAt W m H) : (H W).isSome = true := by
  obtain ⟨a, b, c, h1, _⟩ := h
  rw [h1]
  rfl
theorem ExW.isSome (e : ExW W H1 H2) {a : Addr} (hw : (H2 W).isSome = true) (h : (H1 a).isSome = true) : (H2 a).isSome = true := by
  by_cases c : a = W
  · rw [c]; exact hw
  · cases g : H1 a with
    | none => rw [g] at h; cases h
    | some o => rw [e _ _ (cut_at c g)]; rfl
/-- evaluates, drawing from the well, to a datum of which R holds -/
def EvW (K : PySem.W.Frag) (CK : Addr) (W : Addr) (m m' : Nat) (te : TE) (σ : L2.St) (B : Hp) (R : D → Prop) : Prop := ∀ H1, Ex B H1 → B W = none → WellAt W m H1 → ∀ Q : VK, (∀ d v H2, R d → ExW W H1 H2 → WellAt W m' H2 → Rep K CK (hid B H1 H2) d v → Q v H2) → te σ H1 Q
theorem EvD.w {te : TE} {d : D} (h : EvD K CK te σ B d) : EvW K CK W m m te σ B (fun e => e = d) := fun H1 e hb hw Q q => h H1 e Q fun v H2 e2 r => q d v H2 rfl (.of e2) (hw.ex e2) r
theorem EvW.imp {te : TE} {R R' : D → Prop} (h : EvW K CK W m m' te σ B R) (i : ∀ d, R d → R' d) : EvW K CK W m m' te σ B R' := fun H1 e hb hw Q q => h H1 e hb hw Q fun d v H2 hd => q d v H2 (i d hd)
/-- a def that draws: its first argument is the well, the others are ds -/
def spW (K : PySem.W.Frag) (CK : Addr) (n k : Nat) (R : List D → D → Prop) (pre : List D → Prop) : Sp := fun vs H Q _ => ∃ W m ws ds H0, vs = V.ref W :: ws ∧ ds.length = n ∧ Ex H0 H ∧ H0 W = none ∧ WellAt W (m + k) H ∧ RepL K CK H0 ds ws ∧ pre ds ∧
  ∀ d v H', R ds d → ExW W H H' → WellAt W m H' → Rep K CK (hid H0 H H') d v → Q v H'
theorem spW_len {n k : Nat} {R : List D → D → Prop} {pre : List D → Prop} {vs : List V} {Q : VK} {E : XK} (h : spW K CK n k R pre vs H Q E) : vs.length = n + 1 := by
  obtain ⟨W, m, ws, ds, H0, rfl, h1, _, _, _, h2, _⟩ := h
  rw [List.length_cons, h2.len, h1]
theorem ew_call {n k i : Nat} {R : List D → D → Prop} {pre : List D → Prop} {E : XK} {ta : TA} {ds : List D} (hi : σ[i]? = some (some (V.ref W))) (h : EvAD K CK ta σ B ds) (hn : ds.length = n) (hp : pre ds) : EvW K CK W (m + k) m (tCall (spW K CK n k R pre) [] E (tCons (tVar i) ta)) σ B (R ds) :=
  fun H1 e hb hw Q q => ⟨_, hi, h H1 e _ fun vs H2 e2 r => ⟨W, m, vs, ds, hid B H1 H2, by rw [List.append_nil], hn, hid_sub, hid_no hb hw.some, hw.ex e2, r, hp, fun d v H' hR e3 hw3 r3 => q d v H' hR ((ExW.of e2).trans e3) hw3 (r3.ex fun a o z => by
    by_cases c : B a = none ∧ (H1 a).isSome = true
    · have h1 : hid B H1 H2 a = none := hid_no c.1 c.2
      have h2 : (H2 a).isSome = true := by
        cases g : H1 a with
        | none => rw [g] at c; cases c.2
        | some u => rw [e2 a u g]; rfl
      rw [hid_no h1 h2] at z
      cases z
    · unfold hid
      rw [if_neg (fun y => c ⟨by simpa using y.1, y.2⟩)]
      exact hid_sub _ _ z)⟩⟩
end
section
variable {P : Program} {w : World} {K : PySem.W.Frag} {mg : Str → Option Value} {base : Heap} {CK : Addr}
theorem scLPick : FnScope ["well", "some"] ["well", "some"] (defScope sLPick) := ⟨rfl, rfl, rfl, by decide +kernel, rfl, by decide +kernel, by decide +kernel⟩
abbrev spPick (K : PySem.W.Frag) (CK : Addr) : Sp := spW K CK 1 1 (fun ds d => d ∈ (ds.getD 0 .non).items) (fun ds => ∃ s, ds = [s] ∧ s.isL = true ∧ s.items ≠ [])
theorem ok_pick (d : Def K mg "_law_pick" sLPick ["well", "some"]) (dD : Def K mg "_law_draw" sLDraw ["well", "many"]) (N : Nm mg) : FnOk P w K mg base CX0 2 d.f d.fd ["well", "some"] (spPick K CK) := by
  have GD : FnOk P w K mg base CX0 1 dD.f dD.fd ["well", "many"] spDraw := ok_draw dD N
  refine d.F.ok scLPick (fun vs H Q E h => spW_len h) (fun cdv A outer s H vs Q E hr h => ?_)
  obtain ⟨W, m, ws, ds, H0, rfl, _, e0, hw0, hw, hr0, ⟨sm, rfl, hL, hne⟩, q⟩ := h
  obtain ⟨v, rfl, r⟩ := RepL.one hr0
  have hl : sm.items.length ≤ 30000 := by
    cases sm with
    | lst xs => obtain ⟨_, _, _, _, h, _⟩ := r; exact h
    | tup xs => obtain ⟨_, _, _, _, h, _⟩ := r; exact h
    | _ => cases hL
  have hpos : 0 < sm.items.length := List.length_pos_iff.mpr hne
  refine ⟨_, pss_one (ps_ret (pe_ix (r := rIxLT K) ix_lt (pv 1) (pe_call GD hr (by rfl) dD.m dD.F.kp dD.b .nil pass0 (pa_cons (pv 0) (pa_cons (pe_callB call_len_seq (by rfl) N.len boot_len (pa_cons (pv 1) pa_nil)) pa_nil))) (fun _ _ => rfl))), ?_⟩
  refine ⟨v, rfl, _, rfl, ?_⟩
  refine (ev_lenD (σ := [some (.ref W), some v]) (ed_var rfl r) hL) H e0 _ fun H1 e1 => ⟨W, m, _, rfl, hw.ex e1, by omega, by omega, fun i H2 h0 h1 hw2 e2 => ?_⟩
  obtain ⟨j, rfl⟩ := Int.eq_ofNat_of_zero_le h0
  have hj : j < sm.items.length := by omega
  have eW : ExW W H H2 := (ExW.of e1).trans e2
  have e02 : Ex H0 H2 := eW.known e0 hw0
  have hget : sm.items[j]? = some sm.items[j] := List.getElem?_eq_getElem hj
  have key := ed_ix (K := K) (CK := CK) (H := H0) (σ := [some (.ref W), some v]) (ta := tVar 1) (tb := tC (.int (j : Nat))) (ed_var rfl r) ev_c hL hget
  obtain ⟨x, hx, hk⟩ := key H2 e02 _ fun v5 H5 e5 r5 => q sm.items[j] v5 H5 (List.getElem_mem hj) (eW.trans (.of e5)) (hw2.ex e5) (r5.ex fun a o z => by
    unfold hid
    rw [if_neg]
    · exact hid_sub _ _ z
    · rintro ⟨y1, y2⟩
      rw [hid_no (by simpa using y1) (eW.isSome hw2.some y2)] at z
      cases z)
  cases hx
  exact hk
end
end Any
set_option Elab.async false
set_option linter.all false
set_option maxRecDepth 100000
set_option maxHeartbeats 2000000
namespace Any
open PySem PySem.Spec PyProof.Rows L2 Evl StX
abbrev sLMixed : Stmt := topS 42
section
variable {K : PySem.W.Frag} {CK : Addr} {H H' H0 H1 H2 H3 H4 B : Hp} {σ σ2 : L2.St} {X : Cx} {W : Addr} {m m' k : Nat}
/-- what is known, at the end -/
theorem known_hid (h0 : Ex H0 H) (e : ∀ a o, H0 a = some o → H' a = some o) : Ex H0 (hid H0 H H') := fun a o z => by
  unfold hid
  rw [if_neg (by rw [z]; simp)]
  exact e a o z
theorem perm_erase {α : Type} : ∀ (l : List α) (j : Nat) (h : j < l.length), (l[j] :: l.eraseIdx j).Perm l
  | x :: l, 0, _ => List.Perm.refl _
  | x :: l, j + 1, h => (List.Perm.swap _ _ _).trans ((perm_erase l j (Nat.lt_of_succ_lt_succ h)).cons x)
theorem perm_move {α : Type} {ds es items : List α} {j : Nat} (h : j < ds.length) (p : (ds ++ es).Perm items) : (ds.eraseIdx j ++ (es ++ [ds[j]])).Perm items := by
  refine List.Perm.trans ?_ p
  have h1 : (ds[j] :: ds.eraseIdx j).Perm ds := perm_erase ds j h
  have h2 : (ds.eraseIdx j ++ (es ++ [ds[j]])).Perm (ds[j] :: (ds.eraseIdx j ++ es)) := by
    rw [← List.append_assoc]
    exact List.perm_append_singleton _ _
  exact h2.trans (h1.append_right es)
theorem RepL.erase : ∀ {ds : List D} {vs : List V} (j : Nat), RepL K CK H ds vs → RepL K CK H (ds.eraseIdx j) (vs.eraseIdx j)
  | [], _, _, h => by rw [show _ = [] from h]; rfl
  | d :: ds, _, 0, ⟨v, r, rfl, _, h3⟩ => h3
  | d :: ds, _, j + 1, ⟨v, r, rfl, h2, h3⟩ => ⟨v, _, rfl, h2, RepL.erase j h3⟩
/-- x = list(xs): a new list of the same -/
theorem q_listOf {i j : Nat} {tz : TS} {D0 : Ends} {d : D} {v : V} (hv : σ[j]? = some (some v)) (r : Rep K CK B d v) (eB : Ex B H) (hL : d.isL = true) (k : ∀ L vs, H L = none → RepL K CK B d.items vs → tz D0 (σ.set i (some (.ref L))) (upd H L (.lst vs))) :
    tSeq (tAsg (tCB (fun xs H Q => ∃ p ys, xs = [V.ref p] ∧ (SqL K H p ys ∨ SqT K H p ys) ∧ ∀ l, H l = none → Q (.ref l) (upd H l (.lst ys))) (tCons (tVar j) tNil)) (gName i)) tz D0 σ H := by
  cases d with
  | lst xs =>
    obtain ⟨a, vs, rfl, h1, _, h2⟩ := r
    exact ⟨_, hv, a, vs, rfl, .inl (sq_of (eB _ _ h1)), fun L hn => k L vs hn h2⟩
  | tup xs =>
    obtain ⟨a, vs, rfl, h1, _, h2⟩ := r
    exact ⟨_, hv, a, vs, rfl, .inr (st_of (eB _ _ h1)), fun L hn => k L vs hn h2⟩
  | _ => cases hL
end
section
variable {P : Program} {w : World} {K : PySem.W.Frag} {mg : Str → Option Value} {base : Heap} {CK : Addr}
theorem scLMixed : FnScope ["well", "some", "left", "k"] ["well", "some"] (defScope sLMixed) := ⟨rfl, rfl, rfl, by decide +kernel, rfl, by decide +kernel, by decide +kernel⟩
abbrev spMixed (K : PySem.W.Frag) (CK : Addr) : Sp := spW K CK 1 1000 (fun ds d => ∃ es, d = .lst es ∧ es.Perm (ds.getD 0 .non).items) (fun ds => ∃ s, ds = [s] ∧ s.isL = true ∧ s.items.length ≤ 1000)
theorem ok_mixed (d : Def K mg "_law_mixed" sLMixed ["well", "some"]) (dD : Def K mg "_law_draw" sLDraw ["well", "many"]) (N : Nm mg) : FnOk P w K mg base CX0 2 d.f d.fd ["well", "some"] (spMixed K CK) := by
  have GD : FnOk P w K mg base CX0 1 dD.f dD.fd ["well", "many"] spDraw := ok_draw dD N
  refine d.F.ok scLMixed (fun vs H Q E h => spW_len h) (fun cdv A outer s H vs Q E hr h => ?_)
  obtain ⟨W, m, ws, ds, H0, rfl, _, e0, hw0, hw, hr0, ⟨sm, rfl, hL, hl⟩, q⟩ := h
  obtain ⟨v, rfl, r⟩ := RepL.one hr0
  refine ⟨_, pss_cons (ps_set (i := 2) scLMixed.nd rfl (.inr rfl) (pe_callTy call_list_of (by rfl) N.list boot_list (pa_cons (pv 1) pa_nil)))
    (pss_one (ps_ret (pe_lc (own := [("k", 3)]) (g := gName 3) (tt := tYes) (te := tBM K "list" rPopAt (tVar 2) (tCons (tCall spDraw [] E0 (tCons (tVar 0) (tCons (tCB (rLenS K) (tCons (tVar 2) tNil)) tNil))) tNil)) rfl scLMixed.nd (pi_range1 (by rfl) N.range (pa_cons (pe_callB call_len_seq (by rfl) N.len boot_len (pa_cons (pv 2) pa_nil)) pa_nil)) (blkOk_by (N := ["well", "some", "left", "k"]) (sc := defScope sLMixed) (by decide +kernel))
      (fun _ _ _ _ _ => pg_name (i := 3) scLMixed.nd rfl (Or.inl rfl)) (fun _ _ _ _ _ => pts_nil)
      (fun _ _ _ _ _ => pe_bm PySem.F.plainAttrs_list PySem.F.slot_list_pop PySem.F.type_list_pop mt_popAt (pv 2) (pa_cons (pe_call GD hr (by rfl) dD.m dD.F.kp dD.b .nil pass0 (pa_cons (pv 0) (pa_cons (pe_callB call_len_seq (by rfl) N.len boot_len (pa_cons (pv 2) pa_nil)) pa_nil))) pa_nil))))), ?_⟩
  refine q_listOf (i := 2) (j := 1) rfl r e0 hL fun L vs hLn hvs => ?_
  have wn : W ≠ L := fun c => by
    have := hw.some
    rw [c, hLn] at this
    cases this
  have hlen := hvs.len
  refine ⟨_, rfl, L, vs, rfl, .inl (sq_of upd_same), (vs.length : Int), rfl, by omega, by omega, ?_⟩
  intro Da hDn
  have dl : L ≠ Da := ne_of_none upd_same hDn
  have hDH : H Da = none := by rwa [upd_ne dl.symm] at hDn
  have wd : W ≠ Da := fun c => by
    have := hw.some
    rw [c, hDH] at this
    cases this
  refine lc_it (walk_range (lo := 0) (n := vs.length)) (vs := [3]) (fun i H' => ∃ xs acc ds es, H' L = some (.lst xs) ∧ H' Da = some (.lst acc) ∧ RepL K CK H0 ds xs ∧ RepL K CK H0 es acc ∧ xs.length + i = vs.length ∧ (ds ++ es).Perm sm.items ∧ WellAt W (m + (1000 - i)) H' ∧
    (∀ a o, a ≠ W → H a = some o → H' a = some o)) ?_ (fun _ _ _ _ => trivial) ?_ ?_
  · refine ⟨vs, [], sm.items, [], by rw [upd_ne dl, upd_same], upd_same, hvs, rfl, rfl, by rw [List.append_nil], ?_, fun a o _ z => ?_⟩
    · obtain ⟨a, b, c, h1, h2⟩ := hw
      exact ⟨a, b, c, by rw [upd_ne wd, upd_ne wn]; exact h1, h2⟩
    · rw [upd_ne (ne_of_none z hDH), upd_ne (ne_of_none z hLn)]
      exact z
  · rintro i x Ha Hb hi ⟨xs, acc, ds, es, hLa, hDa, rds, res, hxl, hp, hwa, hk⟩ ⟨rfl, rfl⟩
    refine ⟨rfl, ?_⟩
    dsimp only [tYes]
    rw [if_pos rfl]
    have hxpos : 0 < xs.length := by omega
    obtain ⟨m2, hm2⟩ : ∃ m2, m + (1000 - i) = m2 + 1 := ⟨m + (1000 - i) - 1, by omega⟩
    rw [hm2] at hwa
    refine ⟨_, rfl, .inl ⟨rfl, _, sq_of hLa⟩, _, rfl, _, rfl, L, xs, rfl, .inl (sq_of hLa), W, m2, _, rfl, hwa, by omega, by omega, fun j H3 j0 j1 hw3 e3 => ?_⟩
    obtain ⟨jn, rfl⟩ := Int.eq_ofNat_of_zero_le j0
    have hjx : jn < xs.length := by omega
    have hjd : jn < ds.length := by rw [← rds.len]; exact hjx
    have hL3 : H3 L = some (.lst xs) := e3 _ _ (cut_at wn.symm hLa)
    have hD3 : H3 Da = some (.lst acc) := e3 _ _ (cut_at wd.symm hDa)
    obtain ⟨y, hy, ry⟩ := rds.get (i := jn) (List.getElem?_eq_getElem hjd)
    refine ⟨L, xs, (jn : Nat), jn, y, rfl, rfl, hL3, by omega, by omega, (ixN_seq (show ixN xs.length ((jn : Nat) : Int) = some jn by unfold ixN; rw [if_pos (by omega), if_pos (by omega)]; rfl)).1, hy, acc, ?_, ?_, xs.eraseIdx jn, acc ++ [y], ds.eraseIdx jn, es ++ [ds[jn]], ?_, upd_same, rds.erase jn, RepL.app res ⟨y, [], rfl, ry, rfl⟩, ?_, perm_move hjd hp, ?_, fun a o c z => ?_⟩
    · rw [upd_ne dl.symm]; exact hD3
    · have h1 := res.len
      have h2 := hp.length_eq
      rw [List.length_append] at h2
      rw [h1, sizeLine_eq]
      omega
    · rw [upd_ne dl, upd_same]
    · rw [List.length_eraseIdx, if_pos hjx]
      omega
    · obtain ⟨a, b, c, h1, h2, h3, h4, h5⟩ := hw3
      exact ⟨a, b, c, by rw [upd_ne wd, upd_ne wn]; exact h1, h2, h3, h4, by omega⟩
    · rw [upd_ne (ne_of_none z hDH), upd_ne (ne_of_none z hLn)]
      exact e3 _ _ (cut_at c (hk a o c z))
  · rintro H' ⟨xs, acc, ds, es, hLa, hDa, rds, res, hxl, hp, hwa, hk⟩
    have hx0 : xs = [] := List.eq_nil_of_length_eq_zero (by omega)
    have hd0 : ds = [] := List.eq_nil_of_length_eq_zero (by rw [← rds.len, hx0]; rfl)
    subst hd0
    rw [List.nil_append] at hp
    have e0' : ∀ a o, H0 a = some o → H' a = some o := fun a o z => hk a o (fun c => by rw [c, hw0] at z; cases z) (e0 _ _ z)
    refine q (.lst es) _ H' ⟨es, rfl, hp⟩ (cut_of hk) (hwa.less (by omega)) ⟨Da, acc, rfl, hid_at hDH hDa, by rw [hp.length_eq]; omega, RepL.ex (known_hid e0 e0') res⟩
end
end Any
set_option Elab.async false
set_option linter.all false
set_option maxRecDepth 100000
set_option maxHeartbeats 2000000
namespace Any
open PySem PySem.Spec PyProof.Rows L2 Evl StX RZ
abbrev sLSame : Stmt := topS 43
section
variable {K : PySem.W.Frag} {CK : Addr} {H H' H0 H1 H2 H3 H4 B : Hp} {σ σ2 : L2.St} {X : Cx}
theorem walk_zipTT {a b : Addr} {xs ys : List V} (hl : ys.length = xs.length) : Walk (ItzT K a b) xs.length (fun H => SqT K H a xs ∧ SqT K H b ys) (YPair (fun i => xs[i]?) (fun i => ys[i]?)) where
  goes := fun i H hi q => ⟨xs, ys, xs[i], ys[i], q.1, q.2, by simp [hi], by simp [hl, hi]⟩
  stops := fun H q => ⟨xs, ys, q.1, q.2, .inl (Nat.le_refl _)⟩
  yields := fun i H x H' hi q ⟨T, y, z, e1, e2, e3, e4, e5⟩ => ⟨T, y, z, e1, e2, e3, e4 xs q.1, e5 ys q.2⟩
def pairsD (ds : List D) : List D := ds.map fun d => .tup [d, d]
theorem ei_zip {ta tb : TE} {d : D} (h1 : EvD K CK ta σ H d) (h2 : EvD K CK tb σ H d) (hL : d.isL = true) : EvID K CK (iZipA K (tCons ta (tCons tb tNil))) σ H (pairsD d.items) := fun H1 e R q =>
  h1 H1 e _ fun v H2 e2 r => h2 H2 (e.trans e2) _ fun v2 H3 e3 r2 => by
    have pair : ∀ {xs : List D} {vs ws : List V} {B : Hp}, RepL K CK B xs vs → RepL K CK B xs ws → ∀ (i : Nat) (p : D) Ha x Hb, (pairsD xs)[i]? = some p → YPair (fun i => vs[i]?) (fun i => ws[i]?) i Ha x Hb → ItemOk K CK B p Ha x Hb := by
      intro xs vs ws B hr hr2 i p Ha x Hb hp ⟨T, y1, y2, e1, e2, e3, e4, e5⟩
      unfold pairsD at hp
      rw [List.getElem?_map] at hp
      cases hx : xs[i]? with
      | none => rw [hx] at hp; cases hp
      | some d =>
        rw [hx] at hp
        cases hp
        obtain ⟨u1, hu1, ru1⟩ := hr.get hx
        obtain ⟨u2, hu2, ru2⟩ := hr2.get hx
        have e4' : vs[i]? = some y1 := e4
        have e5' : ws[i]? = some y2 := e5
        rw [hu1] at e4'
        rw [hu2] at e5'
        cases e4'
        cases e5'
        exact .inr ⟨T, _, [d, d], e1, e2, e3, rfl, (by show 2 ≤ 30000; decide), y1, _, rfl, ru1, y2, [], rfl, ru2, rfl⟩
    cases d with
    | lst xs =>
      obtain ⟨a, vs, rfl, ha, _, hr⟩ := r
      obtain ⟨b, ws, rfl, hb, _, hr2⟩ := r2
      have ha3 := hid_mono (H0 := H) (H1 := H1) e3 _ _ ha
      have hb3 := hid_le (H0 := H) (H3 := H3) e2 _ _ hb
      have hr3 := RepL.ex (hid_mono (H0 := H) (H1 := H1) e3) hr
      have hr23 := RepL.ex (hid_le (H0 := H) (H3 := H3) e2) hr2
      exact ⟨a, b, vs, ws, rfl, .inl ⟨sq_of (hid_sub _ _ ha3), sq_of (hid_sub _ _ hb3), q (Itz K a b) H3 (fun H => SqL K H a vs ∧ SqL K H b ws) _ (e2.trans e3)
        (by unfold pairsD; rw [List.length_map]; exact walk_zip (by show xs.length = _; rw [hr.len, hr2.len]; omega)) (fun H4 e4 => ⟨sq_of (e4 _ _ ha3), sq_of (e4 _ _ hb3)⟩) fun i p Ha x Hb hp _ y => pair hr3 hr23 i p Ha x Hb hp y⟩⟩
    | tup xs =>
      obtain ⟨a, vs, rfl, ha, _, hr⟩ := r
      obtain ⟨b, ws, rfl, hb, _, hr2⟩ := r2
      have ha3 := hid_mono (H0 := H) (H1 := H1) e3 _ _ ha
      have hb3 := hid_le (H0 := H) (H3 := H3) e2 _ _ hb
      have hr3 := RepL.ex (hid_mono (H0 := H) (H1 := H1) e3) hr
      have hr23 := RepL.ex (hid_le (H0 := H) (H3 := H3) e2) hr2
      exact ⟨a, b, vs, ws, rfl, .inr ⟨st_of (hid_sub _ _ ha3), st_of (hid_sub _ _ hb3), q (ItzT K a b) H3 (fun H => SqT K H a vs ∧ SqT K H b ws) _ (e2.trans e3)
        (by unfold pairsD; rw [List.length_map, show (D.tup xs).items.length = vs.length from hr.len.symm]; exact walk_zipTT (by rw [hr.len, hr2.len])) (fun H4 e4 => ⟨st_of (e4 _ _ ha3), st_of (e4 _ _ hb3)⟩) fun i p Ha x Hb hp _ y => pair hr3 hr23 i p Ha x Hb hp y⟩⟩
    | _ => cases hL
/-- isinstance(x, a built-in type) -/
theorem ev_isTy {ta : TE} {d : D} {n : String} {b : Bool} (T : KCls K CK) (ha : EvD K CK ta σ H d) (hk : PySem.W.kitOne K (tyD CK d) (.type n) = some b) : Ev (tCB (rIsi K) (tCons ta (tCons (tC (.ty n)) tNil))) σ H (.bl b) := fun H1 e Q q =>
  ha H1 e _ fun v H2 e2 r => ⟨v, .ty n, tyD CK d, .type n, b, rfl, .ty n, (r.ex hid_sub).ty T, hk, q _ e2⟩
def D.isT : D → Bool
  | .tup _ => true
  | _ => false
def D.isLs : D → Bool
  | .lst _ => true
  | _ => false
theorem kit_Ls (T : KCls K CK) : ∀ d : D, PySem.W.kitOne K (tyD CK d) (.type "list") = some d.isLs
  | .non => kb_no (by decide +kernel)
  | .bl _ => kb_no (by decide +kernel)
  | .int _ => kb_no (by decide +kernel)
  | .str _ => kb_no (by decide +kernel)
  | .lst _ => kb_yes (by decide +kernel)
  | .tup _ => kb_no (by decide +kernel)
  | .dct _ => kb_no (by decide +kernel)
  | .obj _ => T.klist
theorem kit_T (T : KCls K CK) : ∀ d : D, PySem.W.kitOne K (tyD CK d) (.type "tuple") = some d.isT
  | .non => kb_no (by decide +kernel)
  | .bl _ => kb_no (by decide +kernel)
  | .int _ => kb_no (by decide +kernel)
  | .str _ => kb_no (by decide +kernel)
  | .lst _ => kb_no (by decide +kernel)
  | .tup _ => kb_yes (by decide +kernel)
  | .dct _ => kb_no (by decide +kernel)
  | .obj _ => T.ktup
/-- isinstance(x, (dict, list, tuple)) -/
theorem ev_isDLT {ta : TE} {d : D} (T : KCls K CK) (ha : EvD K CK ta σ H d) (hd : d.isD = false) (hL : d.isL = false) :
    Ev (tCB (rIsiT K) (tCons ta (tCons (tTup (tCons (tC (.ty "dict")) (tCons (tC (.ty "list")) (tCons (tC (.ty "tuple")) tNil)))) tNil))) σ H (.bl false) := fun H1 e Q q =>
  ha H1 e _ fun v H2 e2 r => ⟨sz_of (by decide), fun p hp => ⟨v, p, [.ty "dict", .ty "list", .ty "tuple"], tyD CK d, [.type "dict", .type "list", .type "tuple"], false, rfl, upd_same, .cons (.ty "dict") (.cons (.ty "list") (.cons (.ty "tuple") .nil)),
    ((r.ex hid_sub).ex (Ex.new hp)).ty T, kitAny_cons (b := false) (by rw [kit_D T, hd]) (fun _ => by rw [kit_L T, hL]) (fun h => nomatch h), q _ (e2.trans (Ex.new hp))⟩⟩
theorem ev_neB {ta tb : TE} {a : Bool} (h1 : Ev ta σ H (.bl a)) (h2 : Ev tb σ H (.bl a)) : Ev (tOp rNe ta tb) σ H (.bl false) :=
  ev_is (ev_op h1 h2 (rv_ne rfl)) (by rw [decide_eq_true rfl]; rfl)
/-- x == x, no list, tuple or dict -/
theorem ev_eqSelf {ta tb : TE} {d : D} (h1 : EvD K CK ta σ H d) (h2 : EvD K CK tb σ H d) (hf : d.flat = true) (hL : d.isL = false) : Ev (tOp rEq ta tb) σ H (.bl true) := fun H1 e Q q =>
  h1 H1 e _ fun v H2 e2 r => h2 H2 (e.trans e2) _ fun v2 H3 e3 r2 => by
    have hv : v2 = v := by
      cases d with
      | non => rw [rep_non r, rep_non r2]
      | bl b => rw [rep_bl r, rep_bl r2]
      | int b => rw [rep_int r, rep_int r2]
      | str b => rw [rep_str r, rep_str r2]
      | lst _ => cases hL
      | tup _ => cases hL
      | _ => cases hf
    have hs : scal v v = true := by
      cases d with
      | non => rw [rep_non r]; rfl
      | bl b => rw [rep_bl r]; rfl
      | int b => rw [rep_int r]; rfl
      | str b => rw [rep_str r]; rfl
      | lst _ => cases hL
      | tup _ => cases hL
      | _ => cases hf
    rw [hv]
    exact ⟨hs, by rw [decide_eq_true rfl]; exact q H3 (e2.trans e3)⟩
end
/-- of at most n levels -/
def lvl : Nat → D → Prop
  | 0, d => d.isL = false
  | n + 1, d => ∀ y ∈ d.items, lvl n y
section
variable {P : Program} {w : World} {K : PySem.W.Frag} {mg : Str → Option Value} {base : Heap} {CK : Addr}
theorem scLSame : FnScope ["found", "due", "one", "other"] ["found", "due"] (defScope sLSame) := ⟨rfl, rfl, rfl, by decide +kernel, rfl, by decide +kernel, by decide +kernel⟩
/-- asked of the same datum twice -/
abbrev spSame (K : PySem.W.Frag) (CK : Addr) (n : Nat) : Sp := spX K CK 2 (fun ds d => ∃ x, ds = [x, x] ∧ x.flat = true ∧ lvl n x ∧ d = .bl true)
def spSame' (K : PySem.W.Frag) (CK : Addr) : Nat → Sp
  | 0 => fun _ _ _ _ => False
  | n + 1 => spSame K CK n
theorem flat_items {d : D} (h : d.flat = true) : ∀ y ∈ d.items, y.flat = true := by
  cases d with
  | lst xs => exact (flatL_all xs).mp h
  | tup xs => exact (flatL_all xs).mp h
  | _ => intro y hy; cases hy
theorem ok_same_of {n j : Nat} (d : Def K mg "_law_same" sLSame ["found", "due"]) (GF : FnOk P w K mg base CX0 j d.f d.fd ["found", "due"] (spSame' K CK n)) (T : KCls K CK) (N : Nm mg) : FnOk P w K mg base CX0 (j + 1) d.f d.fd ["found", "due"] (spSame K CK n) := by
  refine d.F.ok scLSame (fun vs H Q E h => spX_len h) (fun cdv A outer s H vs Q E hr h => ?_)
  obtain ⟨x, y, dd, v, v2, H0, rfl, e0, r1, r2, ⟨z, hx, hf, hlv, rfl⟩, q⟩ := spX2 h
  cases hx
  refine ⟨_, pss_cons (ps_if (pt_val (pe_callB call_isi (by rfl) N.isinstance boot_isinstance (pa_cons (pv 1) (pa_cons (pe_bltn (v := .ty "dict") (by rfl) N.dict boot_dict rfl) pa_nil)))) (pss_one ps_no) pss_nil)
    (pss_cons (ps_if (pt_val (pe_callB call_isiT (by rfl) N.isinstance boot_isinstance (pa_cons (pv 1) (pa_cons (pe_tup (pa_cons (pe_bltn (v := .ty "list") (by rfl) N.list boot_list rfl) (pa_cons (pe_bltn (v := .ty "tuple") (by rfl) N.tuple boot_tuple rfl) pa_nil))) pa_nil))))
      (pss_cons (ps_if (PW.pt (pw_or (pt_cmpR op_ne (pe_callB call_isi (by rfl) N.isinstance boot_isinstance (pa_cons (pv 0) (pa_cons (pe_bltn (v := .ty "list") (by rfl) N.list boot_list rfl) pa_nil))) (pe_callB call_isi (by rfl) N.isinstance boot_isinstance (pa_cons (pv 1) (pa_cons (pe_bltn (v := .ty "list") (by rfl) N.list boot_list rfl) pa_nil))) (nomark _))
          (pw_or1 (pt_cmpR op_ne (pe_callB call_isi (by rfl) N.isinstance boot_isinstance (pa_cons (pv 0) (pa_cons (pe_bltn (v := .ty "tuple") (by rfl) N.tuple boot_tuple rfl) pa_nil))) (pe_callB call_isi (by rfl) N.isinstance boot_isinstance (pa_cons (pv 1) (pa_cons (pe_bltn (v := .ty "tuple") (by rfl) N.tuple boot_tuple rfl) pa_nil))) (nomark _))))) (pss_one ps_no) pss_nil)
      (pss_one (ps_ret (pe_and (pe_cmpR op_eq (pe_callB call_len_seq (by rfl) N.len boot_len (pa_cons (pv 0) pa_nil)) (pe_callB call_len_seq (by rfl) N.len boot_len (pa_cons (pv 1) pa_nil)) (nomark _))
        (pe_one (pe_callB (cr_all rfl) (by rfl) N.all boot_all (pa_cons (pe_lc (own := [("one", 2), ("other", 3)]) (g := gUnp K 2 (gCons (gName 2) (gCons (gName 3) gNil))) (tt := tYes) rfl scLSame.nd (pi_zipA (by rfl) N.zip (pa_cons (pv 0) (pa_cons (pv 1) pa_nil))) (blkOk_by (N := ["found", "due", "one", "other"]) (sc := defScope sLSame) (by decide +kernel))
          (fun _ _ _ _ _ => pg_unp rfl (pgs_cons (pg_name (i := 2) scLSame.nd rfl (Or.inl rfl)) (pgs_cons (pg_name (i := 3) scLSame.nd rfl (Or.inl rfl)) pgs_nil))) (fun _ _ _ _ _ => pts_nil)
          (fun _ _ _ _ _ => pe_call GF hr (by rfl) d.m d.F.kp d.b .nil pass0 (pa_cons (pv 2) (pa_cons (pv 3) pa_nil)))) pa_nil))))))) pss_nil)
    (pss_cons (ps_if (PW.pt (pw_or (pt_val (pe_callB call_isiT (by rfl) N.isinstance boot_isinstance (pa_cons (pv 0) (pa_cons (pe_tup (pa_cons (pe_bltn (v := .ty "dict") (by rfl) N.dict boot_dict rfl) (pa_cons (pe_bltn (v := .ty "list") (by rfl) N.list boot_list rfl) (pa_cons (pe_bltn (v := .ty "tuple") (by rfl) N.tuple boot_tuple rfl) pa_nil)))) pa_nil))))
        (pw_or1 (pt_cmpR op_ne (pe_callB call_isi (by rfl) N.isinstance boot_isinstance (pa_cons (pv 0) (pa_cons (pe_bltn (v := .ty "bool") (by rfl) N.bool boot_bool rfl) pa_nil))) (pe_callB call_isi (by rfl) N.isinstance boot_isinstance (pa_cons (pv 1) (pa_cons (pe_bltn (v := .ty "bool") (by rfl) N.bool boot_bool rfl) pa_nil))) (nomark _))))) (pss_one ps_no) pss_nil)
    (pss_one (ps_ret (pe_cmpR op_eq (pv 0) (pv 1) (nomark _)))))), ?_⟩
  have hD : x.isD = false := by
    cases x <;> first | rfl | cases hf
  refine q_when (b := false) (Evl.EvT.mono e0 (et_B (ev_isTy (b := false) T (ed_var rfl r2) (by have := kit_D T x; rw [hD] at this; exact this)))) (fun z => by cases z) fun _ H1 e1 => ?_
  refine q_when (b := x.isL) (Evl.EvT.mono (e0.trans e1) (et_B (ev_isL T (ev_var rfl) r2))) (fun hL H2 e2 => ?_) fun hL H2 e2 => ?_
  · have e02 : Ex H0 H2 := e0.trans (e1.trans e2)
    refine q_when (b := false) (Evl.EvT.mono e02 (et_is (et_or (a := false) (b := false) (et_test (ev_neB (ev_isTy T (ed_var rfl r1) (kit_Ls T x)) (ev_isTy T (ed_var rfl r2) (kit_Ls T x)))) (fun _ => et_test (ev_neB (ev_isTy T (ed_var rfl r1) (kit_T T x)) (ev_isTy T (ed_var rfl r2) (kit_T T x))))) rfl)) (fun z => by cases z) fun _ H3 e3 => ?_
    have e03 : Ex H0 H3 := e02.trans e3
    have eH3 : Ex H H3 := e1.trans (e2.trans e3)
    have hlen : x.items.length ≤ 30000 := by
      cases x with
      | lst xs => obtain ⟨_, _, _, _, h, _⟩ := r1; exact h
      | tup xs => obtain ⟨_, _, _, _, h, _⟩ := r1; exact h
      | _ => cases hL
    refine s_ret (v := .bl true) (Ev.mono e03 (ev_is (ev_andV (ev_eqI (ev_lenD (ed_var rfl r1) hL) (ev_lenD (ed_var rfl r2) hL)) (fun _ => ev_allD (p := fun _ => true) (ds := pairsD x.items) (CK := CK) ?_)) ?_)) fun H4 e4 => q _ H4 (eH3.trans e4) rfl
    · have w := ed_map (K := K) (CK := CK) (H := H0) (g := gUnp K 2 (gCons (gName 2) (gCons (gName 3) gNil))) (te := tCall (spSame' K CK n) [] E0 (tCons (tVar 2) (tCons (tVar 3) tNil))) (vs := [2, 3]) (m := fun _ => D.bl true) (ei_zip (σ := [some v, some v2, none, none]) (ta := tVar 0) (tb := tVar 1) (ed_var rfl r1) (ed_var rfl r2) hL) (by unfold pairsD; rw [List.length_map]; exact hlen) ?_
      · rw [List.filter_eq_self.mpr (fun _ _ => rfl)]
        exact w
      · intro p y H5 e5 hp ry
        obtain ⟨di, hdi, rfl⟩ := List.mem_map.mp hp
        obtain ⟨u1, u2, s1, s2, hg⟩ := eg_unp2 (σ := [some v, some v2, none, none]) (i := 2) (j := 3) ry rfl rfl
        refine ⟨_, hg, rfl, ?_⟩
        cases n with
        | zero =>
          have : x.isL = false := hlv
          rw [hL] at this
          cases this
        | succ m => exact ed_callX (ds := [di, di]) (ead_cons (ed_var rfl s1) (ead_cons (ed_var rfl s2) ead_nil)) rfl ⟨di, rfl, flat_items hf di hdi, hlv di hdi, rfl⟩
    · rw [decide_eq_true rfl]
      show V.bl (true && (pairsD x.items).all fun _ => true) = V.bl true
      rw [List.all_eq_true.mpr (fun _ _ => rfl)]
      rfl
  · have e02 : Ex H0 H2 := e0.trans (e1.trans e2)
    refine q_when (b := false) (Evl.EvT.mono e02 (et_is (et_or (a := false) (b := false) (et_B (ev_isDLT T (ed_var rfl r1) hD hL)) (fun _ => et_test (ev_neB (ev_isTy T (ed_var rfl r1) (kit_B T x)) (ev_isTy T (ed_var rfl r2) (kit_B T x))))) rfl)) (fun z => by cases z) fun _ H3 e3 => ?_
    exact s_ret (v := .bl true) (Ev.mono (e02.trans e3) (ev_eqSelf (ed_var rfl r1) (ed_var rfl r2) hf hL)) fun H4 e4 => q _ H4 ((e1.trans (e2.trans e3)).trans e4) rfl
theorem ok_same (d : Def K mg "_law_same" sLSame ["found", "due"]) (T : KCls K CK) (N : Nm mg) : ∀ n, FnOk P w K mg base CX0 (n + 2) d.f d.fd ["found", "due"] (spSame K CK n)
  | 0 => ok_same_of d (d.F.ok scLSame (fun _ _ _ _ h => h.elim) (fun _ _ _ _ _ _ _ _ _ h => h.elim)) T N
  | n + 1 => ok_same_of d (ok_same d T N n) T N
end
end Any
set_option Elab.async false
set_option linter.all false
set_option maxRecDepth 100000
set_option maxHeartbeats 2000000
/-! the order of data -/
namespace Any
open PySem PySem.Spec PyProof.Rows L2 Evl StX
theorem leD_trans (a b c : D) (h1 : leD a b = true) (h2 : leD b c = true) : leD a c = true := by
  unfold leD at h1 h2 ⊢
  have e1 : PySem.W.dataLt b.py a.py = false := by simpa using h1
  have e2 : PySem.W.dataLt c.py b.py = false := by simpa using h2
  cases e : PySem.W.dataLt c.py a.py with
  | false => rfl
  | true =>
    rcases PyProof.Rows.lex_negTrans (O := PyProof.Rows.itemOrd) (PySem.W.keyToks c.py) (PySem.W.keyToks b.py) (PySem.W.keyToks a.py) e with z | z
    · rw [show PyProof.Rows.lexLt PyProof.Rows.itemOrd (PySem.W.keyToks c.py) (PySem.W.keyToks b.py) = false from e2] at z; cases z
    · rw [show PyProof.Rows.lexLt PyProof.Rows.itemOrd (PySem.W.keyToks b.py) (PySem.W.keyToks a.py) = false from e1] at z; cases z
theorem leD_total (a b : D) : (leD a b || leD b a) = true := by
  unfold leD
  cases e1 : PySem.W.dataLt b.py a.py with
  | false => rfl
  | true =>
    cases e2 : PySem.W.dataLt a.py b.py with
    | false => rfl
    | true =>
      have := PyProof.Rows.lex_trans (O := PyProof.Rows.itemOrd) _ _ _ e1 e2
      rw [PyProof.Rows.lex_irrefl] at this
      cases this
mutual
theorem eqv_D : ∀ x y : D, x.flat = true → y.flat = true → PySem.W.alike x.py y.py = true → PyData.eqv x.py y.py = true → x = y
  | .non, y, _, hy, ha, _ => by
    cases y <;> first | rfl | (simp [D.py, PySem.W.alike] at ha; done) | cases hy
  | .bl a, y, _, hy, ha, he => by
    cases y <;> first | (simp [D.py, PySem.W.alike] at ha; done) | cases hy | skip
    have : (a == _) = true := he
    rw [eq_of_beq this]
  | .int a, y, _, hy, ha, he => by
    cases y <;> first | (simp [D.py, PySem.W.alike] at ha; done) | cases hy | skip
    have : (a == _) = true := he
    rw [eq_of_beq this]
  | .str a, y, _, hy, ha, he => by
    cases y <;> first | (simp [D.py, PySem.W.alike] at ha; done) | cases hy | skip
    have : (a == _) = true := he
    rw [eq_of_beq this]
  | .lst xs, y, hx, hy, ha, he => by
    cases y with
    | lst ys => rw [eqvL_D xs ys hx hy (by simpa [D.py, PySem.W.alike] using ha) (by simpa [D.py, PyData.eqv] using he)]
    | _ => first | (simp [D.py, PySem.W.alike] at ha; done) | cases hy
  | .tup xs, y, hx, hy, ha, he => by
    cases y with
    | tup ys => rw [eqvL_D xs ys hx hy (by simpa [D.py, PySem.W.alike] using ha) (by simpa [D.py, PyData.eqv] using he)]
    | _ => first | (simp [D.py, PySem.W.alike] at ha; done) | cases hy
  | .dct _, _, hx, _, _, _ => by cases hx
  | .obj _, _, hx, _, _, _ => by cases hx
theorem eqvL_D : ∀ xs ys : List D, flatL xs = true → flatL ys = true → PySem.W.alikeAll (pyL xs) (pyL ys) = true → PyData.eqvAll (pyL xs) (pyL ys) = true → xs = ys
  | [], [], _, _, _, _ => rfl
  | [], y :: ys, _, _, _, he => by simp [pyL, PyData.eqvAll] at he
  | x :: xs, [], _, _, _, he => by simp [pyL, PyData.eqvAll] at he
  | x :: xs, y :: ys, hx, hy, ha, he => by
    have hx' := Bool.and_eq_true_iff.mp hx
    have hy' := Bool.and_eq_true_iff.mp hy
    have ha' := PySem.W.alike_all_cons (show PySem.W.alikeAll (x.py :: pyL xs) (y.py :: pyL ys) = true from ha)
    have he' : (PyData.eqv x.py y.py && PyData.eqvAll (pyL xs) (pyL ys)) = true := by
      rw [← PySem.W.eqv_all_cons]
      exact he
    rw [Bool.and_eq_true] at he'
    rw [eqv_D x y hx'.1 hy'.1 ha'.1 he'.1, eqvL_D xs ys hx'.2 hy'.2 ha'.2 he'.2]
end
theorem leD_anti {x y : D} (hx : x.flat = true) (hy : y.flat = true) (ha : PySem.W.alike x.py y.py = true) (h1 : leD x y = true) (h2 : leD y x = true) : x = y := by
  unfold leD at h1 h2
  have e1 : PyProof.Rows.lexLt PyProof.Rows.itemOrd (PySem.W.keyToks y.py) (PySem.W.keyToks x.py) = false := by simpa [PySem.W.dataLt] using h1
  have e2 : PyProof.Rows.lexLt PyProof.Rows.itemOrd (PySem.W.keyToks x.py) (PySem.W.keyToks y.py) = false := by simpa [PySem.W.dataLt] using h2
  have et := PyProof.Rows.lex_total (O := PyProof.Rows.itemOrd) _ _ e2 e1
  refine eqv_D x y hx hy ha ?_
  cases e : PyData.eqv x.py y.py with
  | true => rfl
  | false =>
    have h := (PySem.W.toks_eqv x.py y.py ha).2 e [] [.inl 0]
    rw [et, PyProof.Rows.lex_irrefl, PySem.W.lex_pre] at h
    simp [PyProof.Rows.lexLt] at h
theorem sorted_uniq : ∀ {l m : List D}, l.Pairwise (fun a b => leD a b = true) → m.Pairwise (fun a b => leD a b = true) → l.Perm m → (∀ x ∈ l, ∀ y ∈ l, leD x y = true → leD y x = true → x = y) → l = m
  | [], m, _, _, p, _ => (List.Perm.eq_nil p.symm).symm
  | x :: l, [], _, _, p, _ => absurd p.length_eq (by simp)
  | x :: l, y :: m, hl, hm, p, h => by
    have refl : ∀ a : D, leD a a = true := fun a => by have := leD_total a a; simpa using this
    have h1 : leD y x = true := by
      rcases List.mem_cons.mp (p.mem_iff.mp (List.mem_cons_self (a := x) (l := l))) with e | hx
      · rw [e]; exact refl y
      · exact (List.pairwise_cons.mp hm).1 x hx
    have hyl : y ∈ x :: l := p.mem_iff.mpr List.mem_cons_self
    have h2 : leD x y = true := by
      rcases List.mem_cons.mp hyl with e | hy
      · rw [e]; exact refl x
      · exact (List.pairwise_cons.mp hl).1 y hy
    have e : x = y := h x List.mem_cons_self y hyl h2 h1
    subst e
    rw [sorted_uniq (List.pairwise_cons.mp hl).2 (List.pairwise_cons.mp hm).2 p.cons_inv fun a ha b hb => h a (List.mem_cons_of_mem _ ha) b (List.mem_cons_of_mem _ hb)]
theorem sortD_sorted (ds : List D) : (sortD ds).Pairwise (fun a b => leD a b = true) := List.pairwise_mergeSort leD_trans leD_total ds
/-- sorting forgets the order -/
theorem sortD_same {ds es : List D} (p : ds.Perm es) (hf : flatL ds = true) (ha : ∀ x ∈ ds, ∀ y ∈ ds, PySem.W.alike x.py y.py = true) : sortD ds = sortD es :=
  sorted_uniq (sortD_sorted ds) (sortD_sorted es) ((sortD_perm ds).trans (p.trans (sortD_perm es).symm)) fun x hx y hy h1 h2 =>
    leD_anti ((flatL_all _).mp hf x (sortD_mem.mp hx)) ((flatL_all _).mp hf y (sortD_mem.mp hy)) (ha x (sortD_mem.mp hx) y (sortD_mem.mp hy)) h1 h2
/-- what is sorted stays -/
theorem sortD_id {ds : List D} (h : ds.Pairwise (fun a b => leD a b = true)) : sortD ds = ds := List.mergeSort_of_pairwise h
theorem toldRs_flat {n : Nat} {ds : List D} (h : ∀ r ∈ ds, isR n r) (hn : n ≤ 25) : flatL (ds.map (toldR n)) = true := (told_sortOk hn h).fl
theorem toldRs_alike {n : Nat} {ds : List D} (h : ∀ r ∈ ds, isR n r) (hn : n ≤ 25) : ∀ x ∈ ds.map (toldR n), ∀ y ∈ ds.map (toldR n), PySem.W.alike x.py y.py = true := fun x hx y hy => (told_sortOk hn h).al _ (List.mem_map.mpr ⟨x, hx, rfl⟩) _ (List.mem_map.mpr ⟨y, hy, rfl⟩)
/-- the told form is its own told form -/
theorem toldH_told : ∀ (n : Nat) (d : D), n ≤ 25 → isH n d → toldH n (toldH n d) = toldH n d
  | 0, _, _, h => h.elim
  | n + 1, d, hn, ⟨hL, hl, h⟩ => by
    have e : (sortD (d.items.map (toldR n))).map (toldR n) = sortD (d.items.map (toldR n)) := by
      refine (List.map_congr_left fun r hr => ?_).trans (List.map_id _)
      obtain ⟨r0, hr0, rfl⟩ := List.mem_map.mp (sortD_mem.mp hr)
      obtain ⟨_, k, m, p, hi, hp⟩ := h r0 hr0
      show toldR n (toldR n r0) = toldR n r0
      rw [toldR_of (toldR_items hi).2, toldR_of hi, toldH_told n p (by omega) hp]
    rw [toldH_succ (n := n) (d := toldH (n + 1) d), toldH_succ]
    show D.tup (sortD ((sortD (d.items.map (toldR n))).map (toldR n))) = _
    rw [e, sortD_id (sortD_sorted _)]
/-- records in another order, each otherwise passed, are told alike -/
theorem toldH_perm {n : Nat} {d e : D} (hn : n ≤ 25) (hd : isH (n + 1) d) (he : isH (n + 1) e) (p : (d.items.map (toldR n)).Perm (e.items.map (toldR n))) : toldH (n + 1) d = toldH (n + 1) e := by
  rw [toldH_succ, toldH_succ, sortD_same p (toldRs_flat hd.2.2 hn) (toldRs_alike hd.2.2 hn)]
/-- two told forms are equal where they are one -/
theorem eqTold_iff {n : Nat} {d e : D} (hd : isH n d) (he : isH n e) : eqTold n d e = true ↔ toldH n d = toldH n e := by
  unfold eqTold
  have al := told_alike n d e hd he
  have f1 := (told_ok n d hd).fl
  have f2 := (told_ok n e he).fl
  refine ⟨fun h => eqv_D _ _ f1 f2 al h, fun z => ?_⟩
  rw [z]
  exact PySem.W.eqv_refl_alike _ (told_alike n e e he he)
end Any
set_option Elab.async false
set_option linter.all false
set_option maxRecDepth 100000
set_option maxHeartbeats 2000000
/-! a fault does not hang on the way; what the law says of one record -/
namespace Any
open PySem PySem.Spec PyProof.Rows L2 Evl StX
theorem isN_iff {d : D} : d.isN = true ↔ d = .non := by
  cases d with
  | non => exact ⟨fun _ => rfl, fun _ => rfl⟩
  | _ => exact ⟨fun h => (by cases h), fun h => (by cases h)⟩
theorem firstF_congr {f g : Nat → D → D} : ∀ {xs : List D} {k : Nat}, (∀ i x, x ∈ xs → (f i x).isN = (g i x).isN) → (firstF f k xs).isN = (firstF g k xs).isN
  | [], _, _ => rfl
  | x :: xs, k, h => by
    have h1 := h k x List.mem_cons_self
    unfold firstF
    cases e : f k x with
    | non =>
      rw [e] at h1
      have e2 : g k x = .non := isN_iff.mp h1.symm
      rw [e2]
      exact firstF_congr fun i y hy => h i y (List.mem_cons_of_mem _ hy)
    | _ =>
      rw [e] at h1
      cases e2 : g k x with
      | non => rw [e2] at h1; cases h1
      | _ => rfl
theorem faultR_way (rs : List Row) : ∀ (n : Nat) (above : Str) (d : D) (w1 w2 : List Int), (faultR rs n above d w1).isN = (faultR rs n above d w2).isN
  | 0, _, _, _, _ => rfl
  | n + 1, above, d, w1, w2 => by
    cases hc : d.isL && decide (d.items.length = 3) with
    | false => rw [faultR_no hc, faultR_no hc]; rfl
    | true =>
      obtain ⟨k, m, p, hi⟩ := three (of_decide_eq_true (Bool.and_eq_true_iff.mp hc).2)
      rw [faultR_yes hc hi, faultR_yes hc hi]
      cases hk : oneOf k (fun z => decide (z ∈ inKind rs above)) with
      | false => rw [faultK_no hk, faultK_no hk]; rfl
      | true =>
        obtain ⟨kk, rfl, hk'⟩ : ∃ kk, k = .str kk ∧ kk ∈ inKind rs above := by
          cases k with
          | str k => exact ⟨k, rfl, of_decide_eq_true hk⟩
          | _ => cases hk
        rw [faultK_yes hk', faultK_yes hk']
        cases hm : oneOf m (fun z => decide (z ∈ marksOf rs kk)) with
        | false => rw [faultM_no hm, faultM_no hm]; rfl
        | true =>
          obtain ⟨mm, rfl, hm'⟩ : ∃ mm, m = .str mm ∧ mm ∈ marksOf rs kk := by
            cases m with
            | str m => exact ⟨m, rfl, of_decide_eq_true hm⟩
            | _ => cases hm
          rw [faultM_yes hm', faultM_yes hm']
          cases hp : p.isL with
          | false => rfl
          | true =>
            rw [if_pos rfl, if_pos rfl]
            exact firstF_congr fun i y _ => faultR_way rs n kk y _ _
theorem lawF_one (rs : List Row) (n : Nat) (above : Str) (d : D) : (lawF rs n above (.lst [d]) []).isN = (faultR rs n above d []).isN := by
  have e : lawF rs n above (.lst [d]) [] = firstF (fun i y => faultR rs n above y ([] ++ [(i : Int)])) 0 [d] := rfl
  rw [e, faultR_way rs n above d [] ([] ++ [((0 : Nat) : Int)])]
  unfold firstF
  cases h : faultR rs n above d ([] ++ [((0 : Nat) : Int)]) with
  | non => rfl
  | _ => rfl
/-- is_record, as the law says it -/
theorem recOf_law (rs : List Row) (n : Nat) (d : D) : recOf rs n d = match holderF rs d with
    | .str a => (lawF rs n a (.lst [d]) []).isN
    | _ => false := by
  unfold recOf holderF
  cases h1 : d.isL with
  | false => rfl
  | true =>
    cases h2 : decide (d.items.length = 3) with
    | false => rfl
    | true =>
      rw [Bool.true_and, Bool.true_and, Bool.true_and, if_pos rfl]
      cases h3 : d.items.getD 0 .non with
      | str k =>
        dsimp only
        cases h4 : decide (k ∈ rs.map (·.kind)) with
        | false => rfl
        | true =>
          rw [if_pos rfl, Bool.true_and]
          dsimp only
          rw [lawF_one]
      | _ => rfl
end Any
set_option Elab.async false
set_option linter.all false
set_option maxRecDepth 100000
set_option maxHeartbeats 2000000
/-! Kinds(rows) -/
namespace Any
open PySem PySem.Spec PyProof.Rows L2 Evl StX
section
variable {K : PySem.W.Frag} {CK : Addr} {H H' H0 H1 H2 H3 H4 B : Hp} {σ σ2 : L2.St} {X : Cx}
theorem ed_kinds {t : TA} {E : XK} {d : D} {rs : List Row} (h : EvAD K CK t σ H [d]) (hL : d.isL = true) (hrs : RowsD rs d.items) (ok : RowsOk rs) : EvD K CK (tMake CK (spKInit K CK) [] E t) σ H (kindsD (kindsOf rs)) := fun H1 e Q q =>
  h H1 e _ fun vs H2 e2 r => by
    obtain ⟨v, rfl, rv⟩ := RepL.one r
    intro x dx nx ndx ne
    have nx2 : upd H2 dx (.own x) x = none := by rw [upd_ne ne.symm]; exact nx
    have eN : Ex H2 (upd (upd H2 dx (.own x)) x (.ins CK dx [])) := (Ex.new ndx).trans (Ex.new nx2)
    have hx : hid H H1 H2 x = none := by
      cases c : hid H H1 H2 x with
      | none => rfl
      | some o =>
        have := hid_sub _ _ c
        rw [nx] at this
        cases this
    refine ⟨x, dx, v, hid H H1 H2, d, rs, rfl, hid_sub.trans eN, hx, upd_same, rv, hL, hrs, ok, fun H' eC rK => ⟨rfl, q (.ref x) H' (fun a o z => ?_) (rK.ex fun a o z => ?_)⟩⟩
    · have z2 := e2 _ _ z
      have c : a ≠ x := fun c => by rw [c, nx] at z2; cases z2
      exact eC _ _ (cut_at c (eN _ _ z2))
    · unfold hid
      rw [if_neg]
      · exact hid_sub _ _ z
      · rintro ⟨y1, y2⟩
        have g1 : hid H H1 H2 a = none := hid_no (by simpa using y1) y2
        have g2 : (cut x (upd (upd H2 dx (.own x)) x (.ins CK dx [])) a).isSome = true := by
          cases c : H1 a with
          | none => rw [c] at y2; cases y2
          | some u =>
            have z2 := e2 _ _ c
            have c2 : a ≠ x := fun c => by rw [c, nx] at z2; cases z2
            rw [cut_at c2 (eN _ _ z2)]
            rfl
        rw [hid_no g1 g2] at z
        cases z
end
end Any
set_option Elab.async false
set_option linter.all false
set_option maxRecDepth 100000
set_option maxHeartbeats 2000000
/-! a list comprehension whose items draw from the well -/
namespace Any
open PySem PySem.Spec PyProof.Rows L2 Evl StX
inductive Each (R : D → D → Prop) : List D → List D → Prop where
  | nil : Each R [] []
  | cons {a b : D} {as bs : List D} : R a b → Each R as bs → Each R (a :: as) (b :: bs)
theorem Each.len {R : D → D → Prop} : ∀ {as bs : List D}, Each R as bs → bs.length = as.length
  | _, _, .nil => rfl
  | _, _, .cons _ h => by rw [List.length_cons, List.length_cons, h.len]
theorem Each.snoc {R : D → D → Prop} {a b : D} : ∀ {as bs : List D}, Each R as bs → R a b → Each R (as ++ [a]) (bs ++ [b])
  | _, _, .nil, h => .cons h .nil
  | _, _, .cons h1 h2, h => .cons h1 (h2.snoc h)
section
variable {K : PySem.W.Frag} {CK : Addr} {H H' H0 H1 H2 H3 H4 B : Hp} {σ σ2 : L2.St} {X : Cx} {W : Addr} {m m' k : Nat}
/-- known ahead stays known -/
theorem hid_stay {Ha Hb : Hp} (h : ∀ a o, hid B H1 Ha a = some o → Hb a = some o) : Ex (hid B H1 Ha) (hid B H1 Hb) := fun a o z => by
  by_cases c : B a = none ∧ (H1 a).isSome = true
  · rw [hid_no c.1 c.2] at z
    cases z
  · unfold hid
    rw [if_neg (fun y => c ⟨by simpa using y.1, y.2⟩)]
    exact h a o z
theorem ew_lc {wi : TI} {g : TG} {te : TE} {vs : List Nat} {ds : List D} {R : D → D → Prop} (hI : EvID K CK wi σ B ds) (hl : ds.length ≤ 30000)
    (turn : ∀ (m : Nat) (d : D) (x : V) (H0 : Hp), Ex B H0 → H0 W = none → d ∈ ds → Rep K CK H0 d x → ∃ σ2, EvG g x (wipe σ vs) H0 σ2 ∧ wipe σ2 vs = wipe σ vs ∧ EvW K CK W (m + k) m te σ2 H0 (R d)) :
    EvW K CK W (m + k * ds.length) m (tLc wi g tYes te vs) σ B (fun e => ∃ es, e = .lst es ∧ Each R ds es) := fun H1 e hBW hw Q q => by
  refine hI H1 e _ fun J H2 G Y e2 w hG hY => ?_
  intro Da hD
  have h1D : H1 Da = none := ex_none e2 hD
  have hw2 : WellAt W (m + k * ds.length) H2 := hw.ex e2
  have wd : W ≠ Da := fun c => by
    have := hw2.some
    rw [c, hD] at this
    cases this
  have hidW : ∀ Hx, hid B H1 Hx W = none := fun Hx => hid_no hBW hw.some
  have stay : ∀ {Ha : Hp}, ExW W H2 Ha → Ex (hid B H1 H2) Ha := fun {Ha} x a o z => by
    have c : a ≠ W := fun c => by rw [c, hidW] at z; cases z
    exact x _ _ (cut_at c (hid_sub _ _ z))
  refine lc_it w (vs := vs) (fun i H' => ExW W H2 H' ∧ WellAt W (m + k * (ds.length - i)) H' ∧ ∃ acc es, H' Da = some (.lst acc) ∧ Each R (ds.take i) es ∧ RepL K CK (hid B H1 (cut Da H')) es acc) ?_ ?_ ?_ ?_
  · refine ⟨.of (Ex.new hD), ?_, [], [], upd_same, .nil, rfl⟩
    obtain ⟨a, b, c, h1, h2⟩ := hw2
    exact ⟨a, b, c, by rw [upd_ne wd]; exact h1, h2⟩
  · intro i H' _ ⟨h2, _⟩
    exact hG H' (stay h2)
  · intro i x Ha Hb hi ⟨h2, hwa, acc, es, ha, hes, hr⟩ y
    have hd : ds[i]? = some ds[i] := List.getElem?_eq_getElem hi
    have it := hY i _ Ha x Hb hd (stay h2) y
    have eab := it.ext
    have hbS : Hb Da = some (.lst acc) := eab _ _ ha
    have h2b : ExW W H2 Hb := h2.trans (.of eab)
    have h1b : ExW W H1 Hb := (ExW.of e2).trans h2b
    have hwb : WellAt W (m + k * (ds.length - i)) Hb := hwa.ex eab
    -- the turn's thing is known
    have rx : Rep K CK (hid B H1 (cut Da Hb)) ds[i] x := by
      rcases it with ⟨rfl, r⟩ | ⟨T, xs, ts, rfl, hn, rfl, hdt, htl, r⟩
      · exact r.ex (hid_stay fun a o z => cut_at (fun c => by have := hid_sub _ _ z; rw [c, hD] at this; cases this) (stay h2 _ _ z))
      · have c1 : T ≠ Da := fun c => by rw [c, ha] at hn; cases hn
        have cW : T ≠ W := fun c => by
          have := hwa.some
          rw [← c, hn] at this
          cases this
        have n1 : H1 T = none := by
          cases c : H1 T with
          | none => rfl
          | some o =>
            have := h2 _ _ (cut_at cW (e2 _ _ c))
            rw [hn] at this
            cases this
        rw [hdt]
        refine ⟨T, xs, rfl, hid_at n1 (cut_at c1 upd_same), htl, RepL.ex (hid_stay fun a o z => ?_) r⟩
        have z2 := stay h2 _ _ z
        have ca : a ≠ T := fun c => by rw [c, hn] at z2; cases z2
        refine cut_at (fun c => by have := hid_sub _ _ z; rw [c, hD] at this; cases this) ?_
        rw [upd_ne ca]
        exact z2
    have eH : Ex B (hid B H1 (cut Da Hb)) := fun a o z => by
      have ca : a ≠ W := fun c => by rw [c, hBW] at z; cases z
      have z1 := e _ _ z
      unfold hid
      rw [if_neg (by rw [z]; simp)]
      exact cut_at (fun c => by rw [c, h1D] at z1; cases z1) (h1b _ _ (cut_at ca z1))
    obtain ⟨mm, hmm⟩ : ∃ mm, m + k * (ds.length - i) = mm + k ∧ mm = m + k * (ds.length - (i + 1)) := by
      refine ⟨m + k * (ds.length - (i + 1)), ?_, rfl⟩
      have : ds.length - i = (ds.length - (i + 1)) + 1 := by omega
      rw [this, Nat.mul_add]
      omega
    obtain ⟨σ2, hg, hwi, he⟩ := turn mm _ x (hid B H1 (cut Da Hb)) eH (hidW _) (List.mem_of_getElem? hd) rx
    have eB : Ex (hid B H1 (cut Da Hb)) Hb := fun a o z => cut_sub _ _ (hid_sub _ _ z)
    refine hg Hb eB _ fun H3 e3 => ⟨hwi, ?_⟩
    dsimp only [tYes]
    rw [if_pos rfl]
    rw [hmm.1] at hwb
    refine he H3 (eB.trans e3) (hidW _) (hwb.ex e3) _ fun d v H5 hR e5 hw5 rv => ?_
    have hb5 : ExW W Hb H5 := (ExW.of e3).trans e5
    have hD5 : H5 Da = some (.lst acc) := hb5 _ _ (cut_at wd.symm hbS)
    have hacc : acc.length ≤ 30000 := by
      rw [hr.len, hes.len, List.length_take]
      omega
    -- what the item is, with the list's own place hidden
    have rv' : Rep K CK (hid B H1 (cut Da H5)) d v := by
      refine rv.ex fun a o z => ?_
      have z5 := hid_sub _ _ z
      have ca : a ≠ Da := fun c => by
        subst c
        have n1 : hid B H1 (cut a Hb) a = none := by
          unfold hid
          split
          · rfl
          · exact cut_none
        rw [hid_no n1 (by rw [e3 _ _ hbS]; rfl)] at z
        cases z
      unfold hid
      rw [if_neg]
      · exact cut_at ca z5
      · rintro ⟨y1, y2⟩
        have n1 : hid B H1 (cut Da Hb) a = none := hid_no (by simpa using y1) y2
        have s3 : (H3 a).isSome = true := by
          have := h1b.isSome hwb.some y2
          cases c : Hb a with
          | none => rw [c] at this; cases this
          | some u => rw [e3 _ _ c]; rfl
        rw [hid_no n1 s3] at z
        cases z
    refine ⟨acc, hD5, sz_lt (by omega), ?_, ?_, acc ++ [v], es ++ [d], upd_same, ?_, ?_⟩
    · exact fun a o z => by
        have ca : a ≠ Da := fun c => by
          rw [c] at z
          have := cut_sub _ _ z
          rw [hD] at this
          cases this
        rw [upd_ne ca]
        exact (h2b.trans hb5) _ _ z
    · obtain ⟨a, b, c, g1, g2⟩ := hw5
      rw [← hmm.2]
      exact ⟨a, b, c, by rw [upd_ne wd]; exact g1, g2⟩
    · rw [take_more hd]
      exact hes.snoc hR
    · rw [cut_upd]
      refine RepL.app (RepL.ex (hid_stay fun a o z => ?_) hr) ⟨v, [], rfl, rv', rfl⟩
      have z1 := hid_sub _ _ z
      have ca : a ≠ Da := fun c => by rw [c, cut_none] at z1; cases z1
      have cw : a ≠ W := fun c => by rw [c, hidW] at z; cases z
      exact cut_at ca (((ExW.of eab).trans hb5) _ _ (cut_at cw (cut_sub _ _ z1)))
  · intro H' ⟨h2, hwa, acc, es, ha, hes, hr⟩
    rw [List.take_length] at hes
    refine q (.lst es) _ H' ⟨es, rfl, hes⟩ ((ExW.of e2).trans h2) (hwa.less (by omega)) ⟨Da, acc, rfl, hid_at h1D ha, ?_, RepL.ex (hid_mono cut_sub) hr⟩
    rw [hes.len]
    exact hl
end
end Any
set_option Elab.async false
set_option linter.all false
set_option maxRecDepth 100000
set_option maxHeartbeats 2000000
/-! the same, where what is walked over draws from the well, too -/
namespace Any
open PySem PySem.Spec PyProof.Rows L2 Evl StX
section
variable {K : PySem.W.Frag} {CK : Addr} {H H' H0 H1 H2 H3 H4 B : Hp} {σ σ2 : L2.St} {X : Cx} {W : Addr} {m m' k : Nat}
/-- walks over data of which P holds, drawing from the well on the way to them -/
def EvIW (K : PySem.W.Frag) (CK : Addr) (W : Addr) (k m : Nat) (wi : TI) (σ : L2.St) (B : Hp) (P : List D → Prop) : Prop := ∀ H1, Ex B H1 → B W = none → WellAt W (m + k) H1 → ∀ R : It → Hp → Prop,
  (∀ ds J H2 (G : Hp → Prop) (Y : Nat → Hp → V → Hp → Prop), P ds → ExW W H1 H2 → WellAt W m H2 → Walk J ds.length G Y → (∀ H3, Ex (hid B H1 H2) H3 → G H3) →
    (∀ (i : Nat) (d : D) Ha x Hb, ds[i]? = some d → Ex (hid B H1 H2) Ha → Y i Ha x Hb → ItemOk K CK (hid B H1 H2) d Ha x Hb) → R J H2) → wi σ H1 R
theorem eiw_list {te : TE} {P : List D → Prop} (h : EvW K CK W (m + k) m te σ B (fun e => ∃ ds, e = .lst ds ∧ P ds)) : EvIW K CK W k m (iList K te) σ B P := fun H1 e hB hw R q =>
  h H1 e hB hw _ fun d v H2 ⟨ds, hd, hp⟩ e2 hw2 r => by
    subst hd
    obtain ⟨a, vs, rfl, ha, _, hr⟩ := r
    have hs : SqL K H2 a vs := sq_of (hid_sub _ _ ha)
    refine ⟨a, rfl, ⟨vs, hs⟩, q ds (Itl K a) H2 (fun H => SqL K H a vs) (YAt vs) hp e2 hw2 (by rw [← hr.len]; exact walk_list) (fun H3 e3 => sq_of (e3 _ _ ha)) fun i d Ha x Hb hd ea y => .inl ?_⟩
    obtain ⟨rfl, hx⟩ := y
    obtain ⟨x', hx', rx⟩ := hr.get hd
    rw [hx] at hx'
    cases hx'
    exact ⟨rfl, rx⟩
theorem eiw_of {wi : TI} {ds : List D} (h : EvID K CK wi σ B ds) : EvIW K CK W 0 m wi σ B (fun e => e = ds) := fun H1 e hB hw R q =>
  h H1 e R fun J H2 G Y e2 w hG hY => q ds J H2 G Y rfl (.of e2) (hw.ex e2) w hG hY
theorem ew_lcW {wi : TI} {g : TG} {te : TE} {vs : List Nat} {Pd : List D → Prop} {R : D → D → Prop} {N k1 : Nat} (hI : EvIW K CK W k1 (m + N) wi σ B Pd) (hP : ∀ ds, Pd ds → ds.length ≤ 30000 ∧ k * ds.length ≤ N)
    (turn : ∀ (ds : List D) (m : Nat) (d : D) (x : V) (H0 : Hp), Pd ds → Ex B H0 → H0 W = none → d ∈ ds → Rep K CK H0 d x → ∃ σ2, EvG g x (wipe σ vs) H0 σ2 ∧ wipe σ2 vs = wipe σ vs ∧ EvW K CK W (m + k) m te σ2 H0 (R d)) :
    EvW K CK W (m + N + k1) m (tLc wi g tYes te vs) σ B (fun e => ∃ ds es, Pd ds ∧ e = .lst es ∧ Each R ds es) := fun H1 e hBW hw Q q => by
  refine hI H1 e hBW hw _ fun ds J H2 G Y hPd e2 hwN w hG hY => ?_
  intro Da hD
  have hl := (hP ds hPd).1
  have hw2 : WellAt W (m + k * ds.length) H2 := hwN.less (by have := (hP ds hPd).2; omega)
  have wd : W ≠ Da := fun c => by
    have := hw2.some
    rw [c, hD] at this
    cases this
  have h1D : H1 Da = none := by
    cases c : H1 Da with
    | none => rfl
    | some o =>
      have := e2 _ _ (cut_at wd.symm c)
      rw [hD] at this
      cases this
  have hidW : ∀ Hx, hid B H1 Hx W = none := fun Hx => hid_no hBW hw.some
  have stay : ∀ {Ha : Hp}, ExW W H2 Ha → Ex (hid B H1 H2) Ha := fun {Ha} x a o z => by
    have c : a ≠ W := fun c => by rw [c, hidW] at z; cases z
    exact x _ _ (cut_at c (hid_sub _ _ z))
  refine lc_it w (vs := vs) (fun i H' => ExW W H2 H' ∧ WellAt W (m + k * (ds.length - i)) H' ∧ ∃ acc es, H' Da = some (.lst acc) ∧ Each R (ds.take i) es ∧ RepL K CK (hid B H1 (cut Da H')) es acc) ?_ ?_ ?_ ?_
  · refine ⟨.of (Ex.new hD), ?_, [], [], upd_same, .nil, rfl⟩
    obtain ⟨a, b, c, h1, h2⟩ := hw2
    exact ⟨a, b, c, by rw [upd_ne wd]; exact h1, h2⟩
  · intro i H' _ ⟨h2, _⟩
    exact hG H' (stay h2)
  · intro i x Ha Hb hi ⟨h2, hwa, acc, es, ha, hes, hr⟩ y
    have hd : ds[i]? = some ds[i] := List.getElem?_eq_getElem hi
    have it := hY i _ Ha x Hb hd (stay h2) y
    have eab := it.ext
    have hbS : Hb Da = some (.lst acc) := eab _ _ ha
    have h2b : ExW W H2 Hb := h2.trans (.of eab)
    have h1b : ExW W H1 Hb := e2.trans h2b
    have hwb : WellAt W (m + k * (ds.length - i)) Hb := hwa.ex eab
    -- the turn's thing is known
    have rx : Rep K CK (hid B H1 (cut Da Hb)) ds[i] x := by
      rcases it with ⟨rfl, r⟩ | ⟨T, xs, ts, rfl, hn, rfl, hdt, htl, r⟩
      · exact r.ex (hid_stay fun a o z => cut_at (fun c => by have := hid_sub _ _ z; rw [c, hD] at this; cases this) (stay h2 _ _ z))
      · have c1 : T ≠ Da := fun c => by rw [c, ha] at hn; cases hn
        have cW : T ≠ W := fun c => by
          have := hwa.some
          rw [← c, hn] at this
          cases this
        have n1 : H1 T = none := by
          cases c : H1 T with
          | none => rfl
          | some o =>
            have := h2 _ _ (cut_at cW (e2 _ _ (cut_at cW c)))
            rw [hn] at this
            cases this
        rw [hdt]
        refine ⟨T, xs, rfl, hid_at n1 (cut_at c1 upd_same), htl, RepL.ex (hid_stay fun a o z => ?_) r⟩
        have z2 := stay h2 _ _ z
        have ca : a ≠ T := fun c => by rw [c, hn] at z2; cases z2
        refine cut_at (fun c => by have := hid_sub _ _ z; rw [c, hD] at this; cases this) ?_
        rw [upd_ne ca]
        exact z2
    have eH : Ex B (hid B H1 (cut Da Hb)) := fun a o z => by
      have ca : a ≠ W := fun c => by rw [c, hBW] at z; cases z
      have z1 := e _ _ z
      unfold hid
      rw [if_neg (by rw [z]; simp)]
      exact cut_at (fun c => by rw [c, h1D] at z1; cases z1) (h1b _ _ (cut_at ca z1))
    obtain ⟨mm, hmm⟩ : ∃ mm, m + k * (ds.length - i) = mm + k ∧ mm = m + k * (ds.length - (i + 1)) := by
      refine ⟨m + k * (ds.length - (i + 1)), ?_, rfl⟩
      have : ds.length - i = (ds.length - (i + 1)) + 1 := by omega
      rw [this, Nat.mul_add]
      omega
    obtain ⟨σ2, hg, hwi, he⟩ := turn ds mm _ x (hid B H1 (cut Da Hb)) hPd eH (hidW _) (List.mem_of_getElem? hd) rx
    have eB : Ex (hid B H1 (cut Da Hb)) Hb := fun a o z => cut_sub _ _ (hid_sub _ _ z)
    refine hg Hb eB _ fun H3 e3 => ⟨hwi, ?_⟩
    dsimp only [tYes]
    rw [if_pos rfl]
    rw [hmm.1] at hwb
    refine he H3 (eB.trans e3) (hidW _) (hwb.ex e3) _ fun d v H5 hR e5 hw5 rv => ?_
    have hb5 : ExW W Hb H5 := (ExW.of e3).trans e5
    have hD5 : H5 Da = some (.lst acc) := hb5 _ _ (cut_at wd.symm hbS)
    have hacc : acc.length ≤ 30000 := by
      rw [hr.len, hes.len, List.length_take]
      omega
    -- what the item is, with the list's own place hidden
    have rv' : Rep K CK (hid B H1 (cut Da H5)) d v := by
      refine rv.ex fun a o z => ?_
      have z5 := hid_sub _ _ z
      have ca : a ≠ Da := fun c => by
        subst c
        have n1 : hid B H1 (cut a Hb) a = none := by
          unfold hid
          split
          · rfl
          · exact cut_none
        rw [hid_no n1 (by rw [e3 _ _ hbS]; rfl)] at z
        cases z
      unfold hid
      rw [if_neg]
      · exact cut_at ca z5
      · rintro ⟨y1, y2⟩
        have n1 : hid B H1 (cut Da Hb) a = none := hid_no (by simpa using y1) y2
        have s3 : (H3 a).isSome = true := by
          have := h1b.isSome hwb.some y2
          cases c : Hb a with
          | none => rw [c] at this; cases this
          | some u => rw [e3 _ _ c]; rfl
        rw [hid_no n1 s3] at z
        cases z
    refine ⟨acc, hD5, sz_lt (by omega), ?_, ?_, acc ++ [v], es ++ [d], upd_same, ?_, ?_⟩
    · exact fun a o z => by
        have ca : a ≠ Da := fun c => by
          rw [c] at z
          have := cut_sub _ _ z
          rw [hD] at this
          cases this
        rw [upd_ne ca]
        exact (h2b.trans hb5) _ _ z
    · obtain ⟨a, b, c, g1, g2⟩ := hw5
      rw [← hmm.2]
      exact ⟨a, b, c, by rw [upd_ne wd]; exact g1, g2⟩
    · rw [take_more hd]
      exact hes.snoc hR
    · rw [cut_upd]
      refine RepL.app (RepL.ex (hid_stay fun a o z => ?_) hr) ⟨v, [], rfl, rv', rfl⟩
      have z1 := hid_sub _ _ z
      have ca : a ≠ Da := fun c => by rw [c, cut_none] at z1; cases z1
      have cw : a ≠ W := fun c => by rw [c, hidW] at z; cases z
      exact cut_at ca (((ExW.of eab).trans hb5) _ _ (cut_at cw (cut_sub _ _ z1)))
  · intro H' ⟨h2, hwa, acc, es, ha, hes, hr⟩
    rw [List.take_length] at hes
    refine q (.lst es) _ H' ⟨ds, es, hPd, rfl, hes⟩ (e2.trans h2) (hwa.less (by omega)) ⟨Da, acc, rfl, hid_at h1D ha, ?_, RepL.ex (hid_mono cut_sub) hr⟩
    rw [hes.len]
    exact hl
end
end Any
set_option Elab.async false
set_option linter.all false
set_option maxRecDepth 100000
set_option maxHeartbeats 2000000
/-! tuples, tests, branches that draw from the well -/
namespace Any
open PySem PySem.Spec PyProof.Rows L2 Evl StX
section
variable {K : PySem.W.Frag} {CK : Addr} {H H' H0 H1 H2 H3 H4 B : Hp} {σ σ2 : L2.St} {X : Cx} {W : Addr} {m m' m1 k : Nat}
theorem hidW_first (hB : B W = none) (hw : (H1 W).isSome = true) (e : ExW W H2 H3) : Ex (hid B H1 H2) (hid B H1 H3) := hid_stay fun a o z => by
  have c : a ≠ W := fun c => by rw [c, hid_no hB hw] at z; cases z
  exact e _ _ (cut_at c (hid_sub _ _ z))
theorem hidW_second (e : ExW W H1 H2) (hw2 : (H2 W).isSome = true) : Ex (hid B H2 H3) (hid B H1 H3) := fun a o z => by
  unfold hid
  rw [if_neg]
  · exact hid_sub _ _ z
  · rintro ⟨y1, y2⟩
    rw [hid_no (by simpa using y1) (e.isSome hw2 y2)] at z
    cases z
def EvAW (K : PySem.W.Frag) (CK : Addr) (W : Addr) (m m' : Nat) (ta : TA) (σ : L2.St) (B : Hp) (R : List D → Prop) : Prop := ∀ H1, Ex B H1 → B W = none → WellAt W m H1 → ∀ Q : List V → Hp → Prop,
  (∀ ds vs H2, R ds → ExW W H1 H2 → WellAt W m' H2 → RepL K CK (hid B H1 H2) ds vs → Q vs H2) → ta σ H1 Q
theorem eaw_nil : EvAW K CK W m m tNil σ B (fun l => l = []) := fun H1 _ _ hw Q q => q [] [] H1 rfl .refl hw rfl
theorem eaw_cons {te : TE} {tr : TA} {R1 : D → Prop} {R2 : List D → Prop} (h1 : EvW K CK W m m1 te σ B R1) (h2 : EvAW K CK W m1 m' tr σ B R2) : EvAW K CK W m m' (tCons te tr) σ B (fun l => ∃ d ds, l = d :: ds ∧ R1 d ∧ R2 ds) := fun H1 e hB hw Q q =>
  h1 H1 e hB hw _ fun d v H2 hd e2 hw2 r => h2 H2 (e2.known e hB) hB hw2 _ fun ds vs H3 hds e3 hw3 r3 => q (d :: ds) (v :: vs) H3 ⟨d, ds, rfl, hd, hds⟩ (e2.trans e3) hw3
    ⟨v, vs, rfl, r.ex (hidW_first hB hw.some e3), RepL.ex (hidW_second e2 hw2.some) r3⟩
theorem ew_tup {ta : TA} {R : List D → Prop} (h : EvAW K CK W m m' ta σ B R) (hl : ∀ ds, R ds → ds.length ≤ 30000) : EvW K CK W m m' (tTup ta) σ B (fun e => ∃ ds, e = .tup ds ∧ R ds) := fun H1 e hB hw Q q =>
  h H1 e hB hw _ fun ds vs H2 hd e2 hw2 r => ⟨by rw [r.len]; have := hl ds hd; exact sz_of (by omega), fun p hp => by
    have pn : H1 p = none := by
      cases c : H1 p with
      | none => rfl
      | some o =>
        have pw : p ≠ W := fun c => by
          have := hw2.some
          rw [← c, hp] at this
          cases this
        have := e2 _ _ (cut_at pw c)
        rw [hp] at this
        cases this
    exact q (.tup ds) _ _ ⟨ds, rfl, hd⟩ (e2.trans (.of (Ex.new hp))) (hw2.ex (Ex.new hp)) ⟨p, vs, rfl, hid_at pn upd_same, hl ds hd, RepL.ex (hid_mono (Ex.new hp)) r⟩⟩
/-- which way a test goes that draws; it is told b -/
def EvTW (W : Addr) (m m' : Nat) (tt : TT) (σ : L2.St) (B : Hp) (P : Bool → Prop) : Prop := ∀ H1, Ex B H1 → B W = none → WellAt W m H1 → ∀ Q : Bool → Hp → Prop, (∀ b H2, P b → ExW W H1 H2 → WellAt W m' H2 → Q b H2) → tt σ H1 Q
theorem ew_if {t : TT} {ta tb : TE} {P : Bool → Prop} {R : D → Prop} (h : EvTW W m m1 t σ B P) (h1 : P true → EvW K CK W m1 m' ta σ B R) (h2 : P false → EvW K CK W m1 m' tb σ B R) : EvW K CK W m m' (tIf t ta tb) σ B R := fun H1 e hB hw Q q =>
  h H1 e hB hw _ fun b H2 hb e2 hw2 => by
    cases b with
    | true => exact h1 hb H2 (e2.known e hB) hB hw2 Q fun d v H3 hd e3 hw3 r => q d v H3 hd (e2.trans e3) hw3 (r.ex (hidW_second e2 hw2.some))
    | false => exact h2 hb H2 (e2.known e hB) hB hw2 Q fun d v H3 hd e3 hw3 r => q d v H3 hd (e2.trans e3) hw3 (r.ex (hidW_second e2 hw2.some))
/-- _law_draw(well, n) == 0 -/
theorem etw_draw {i : Nat} {n : Int} {E : XK} (hi : σ[i]? = some (some (V.ref W))) (h0 : 0 < n) (h1 : n < 1000000) : EvTW W (m + 1) m (tTest (tOp rEq (tCall spDraw [] E (tCons (tVar i) (tCons (tC (.int n)) tNil))) (tC (.int 0)))) σ B (fun _ => True) := fun H1 e hB hw Q q =>
  ⟨_, hi, W, m, n, rfl, hw, h0, h1, fun j H2 j0 j1 hw2 e2 => ⟨rfl, decide (V.int j = V.int 0), rfl, q _ H2 trivial e2 hw2⟩⟩
end
end Any
set_option Elab.async false
set_option linter.all false
set_option maxRecDepth 100000
set_option maxHeartbeats 2000000
namespace Any
open PySem PySem.Spec PyProof.Rows L2 Evl StX
abbrev sLPassed : Stmt := topS 58
section
variable {K : PySem.W.Frag} {CK : Addr} {H H' H0 H1 H2 H3 H4 B : Hp} {σ σ2 : L2.St} {X : Cx} {W : Addr} {m m' m1 k : Nat}
theorem hid_outW (h : ∀ a, H0 a = none → (H a).isSome = true → B a = none) (e : ExW W H H3) (hw : (H3 W).isSome = true) : Ex (hid B H3 H4) (hid H0 H H4) := fun a o z => by
  unfold hid
  rw [if_neg]
  · exact hid_sub _ _ z
  · rintro ⟨z1, z2⟩
    rw [hid_no (h a (by simpa using z1) z2) (e.isSome hw z2)] at z
    cases z
theorem q_setW {te : TE} {i : Nat} {tz : TS} {D0 : Ends} {R : D → Prop} (h : EvW K CK W m m' te σ B R) (eB : Ex B H) (hB : B W = none) (hw : WellAt W m H) (k : ∀ d v H1, R d → ExW W H H1 → WellAt W m' H1 → Rep K CK (hid B H H1) d v → tz D0 (σ.set i (some v)) H1) : tSeq (tAsg te (gName i)) tz D0 σ H := h H eB hB hw _ k
end
theorem Each.mem {R : D → D → Prop} : ∀ {as bs : List D}, Each R as bs → ∀ b ∈ bs, ∃ a ∈ as, R a b
  | _, _, .nil, b, h => by cases h
  | _, _, .cons h1 h2, b, h => by
    rcases List.mem_cons.mp h with rfl | h
    · exact ⟨_, List.mem_cons_self, h1⟩
    · obtain ⟨a, ha, hr⟩ := h2.mem b h
      exact ⟨a, List.mem_cons_of_mem _ ha, hr⟩
theorem Each.map_eq {R : D → D → Prop} {f g : D → D} (h : ∀ a b, R a b → f a = g b) : ∀ {as bs : List D}, Each R as bs → as.map f = bs.map g
  | _, _, .nil => rfl
  | _, _, .cons h1 h2 => by rw [List.map_cons, List.map_cons, h _ _ h1, h2.map_eq h]
theorem Each.comp {R S T : D → D → Prop} (h : ∀ a b c, R a b → S b c → T a c) : ∀ {as bs cs : List D}, Each R as bs → Each S bs cs → Each T as cs
  | _, _, _, .nil, .nil => .nil
  | _, _, _, .cons h1 h2, .cons g1 g2 => .cons (h _ _ _ h1 g1) (h2.comp h g2)
/-- few records in each list -/
def few : Nat → D → Prop
  | 0, _ => True
  | n + 1, d => d.items.length ≤ 20 ∧ ∀ r ∈ d.items, ∀ k m p, r.items = [k, m, p] → few n p
/-- how often passing on draws, at most -/
def kP : Nat → Nat
  | 0 => 0
  | n + 1 => 1 + (20 + (20 * kP n + 1000))
/-- d is s, as it may be passed -/
def Pas (n : Nat) (s d : D) : Prop := isH n d ∧ toldH n d = toldH n s
section
variable {P : Program} {w : World} {K : PySem.W.Frag} {mg : Str → Option Value} {base : Heap} {CK : Addr}
theorem scLPassed : FnScope ["well", "stand", "some", "found", "kind", "mark", "parts", "one"] ["well", "stand"] (defScope sLPassed) := ⟨rfl, rfl, rfl, by decide +kernel, rfl, by decide +kernel, by decide +kernel⟩
abbrev spPassed (K : PySem.W.Frag) (CK : Addr) (n : Nat) : Sp := spW K CK 1 (kP n) (fun ds d => Pas n (ds.getD 0 .non) d) (fun ds => ∃ s, ds = [s] ∧ isH n s ∧ few n s)
theorem ok_passed_of {n j : Nat} (hn : n ≤ 24) (d : Def K mg "_law_s_passed" sLPassed ["well", "stand"]) (dM : Def K mg "_law_mixed" sLMixed ["well", "some"]) (dD : Def K mg "_law_draw" sLDraw ["well", "many"])
    (GP : FnOk P w K mg base CX0 j d.f d.fd ["well", "stand"] (spPassed K CK n)) (hj : 2 ≤ j) (N : Nm mg) : FnOk P w K mg base CX0 (j + 1) d.f d.fd ["well", "stand"] (spPassed K CK (n + 1)) := by
  have GM : FnOk P w K mg base CX0 j dM.f dM.fd ["well", "some"] (spMixed K CK) := (ok_mixed dM dD N).mono hj
  have GD : FnOk P w K mg base CX0 j dD.f dD.fd ["well", "many"] spDraw := (ok_draw dD N).mono (by omega)
  refine d.F.ok scLPassed (fun vs H Q E h => spW_len h) (fun cdv A outer s H vs Q E hr h => ?_)
  obtain ⟨W, m, ws, ds, H0, rfl, _, e0, hw0, hw, hr0, ⟨sm, rfl, hH, hfew⟩, q⟩ := h
  obtain ⟨v, rfl, r⟩ := RepL.one hr0
  refine ⟨_, pss_cons (ps_setLc (i := 2) (own := [("kind", 4), ("mark", 5), ("parts", 6)]) (g := gUnp K 3 (gCons (gName 4) (gCons (gName 5) (gCons (gName 6) gNil)))) (tt := tYes) (te := tTup (tCons (tVar 4) (tCons (tVar 5) (tCons (tCall (spPassed K CK n) [] E0 (tCons (tVar 0) (tCons (tVar 6) tNil))) tNil)))) rfl scLPassed.nd rfl rfl (sw_true rfl rfl rfl (by decide +kernel))
        (pi_list (pe_call GM hr (by rfl) dM.m dM.F.kp dM.b .nil pass0 (pa_cons (pv 0) (pa_cons (pv 1) pa_nil)))) (blkOk_by (N := ["well", "stand", "some", "found", "kind", "mark", "parts", "one"]) (sc := defScope sLPassed) (by decide +kernel))
        (fun _ _ _ _ _ => pg_unp rfl (pgs_cons (pg_name (i := 4) scLPassed.nd rfl (Or.inl rfl)) (pgs_cons (pg_name (i := 5) scLPassed.nd rfl (Or.inl rfl)) (pgs_cons (pg_name (i := 6) scLPassed.nd rfl (Or.inl rfl)) pgs_nil)))) (fun _ _ _ _ _ => pts_nil)
        (fun _ _ _ _ _ => pe_tup (pa_cons (pv 4) (pa_cons (pv 5) (pa_cons (pe_call GP hr (by rfl) d.m d.F.kp d.b .nil pass0 (pa_cons (pv 0) (pa_cons (pv 6) pa_nil))) pa_nil)))))
    (pss_cons (ps_setLc (i := 3) (own := [("one", 7)]) (g := gName 7) (tt := tYes) (te := tIf (tTest (tOp rEq (tCall spDraw [] E0 (tCons (tVar 0) (tCons (tC (.int 2)) tNil))) (tC (.int 0))))
          (tCB (fun xs H Q => ∃ p ys, xs = [V.ref p] ∧ (SqL K H p ys ∨ SqT K H p ys) ∧ ∀ l, H l = none → Q (.ref l) (upd H l (.lst ys))) (tCons (tVar 7) tNil)) (tVar 7)) rfl scLPassed.nd rfl rfl (sw_true rfl rfl rfl (by decide +kernel))
        (pi_list (pv 2)) (blkOk_by (N := ["well", "stand", "some", "found", "kind", "mark", "parts", "one"]) (sc := defScope sLPassed) (by decide +kernel))
        (fun _ _ _ _ _ => pg_name (i := 7) scLPassed.nd rfl (Or.inl rfl)) (fun _ _ _ _ _ => pts_nil)
        (fun _ _ _ _ _ => pe_ifExp (pt_cmpR op_eq (pe_call GD hr (by rfl) dD.m dD.F.kp dD.b .nil pass0 (pa_cons (pv 0) (pa_cons pe_int pa_nil))) pe_int (nomark _)) (pe_callTy call_list_of (by rfl) N.list boot_list (pa_cons (pv 7) pa_nil)) (pv 7)))
    (pss_one (ps_ret (pe_ifExp (pt_cmpR op_eq (pe_call GD hr (by rfl) dD.m dD.F.kp dD.b .nil pass0 (pa_cons (pv 0) (pa_cons pe_int pa_nil))) pe_int (nomark _)) (pv 3) (pe_callTy call_tuple_of (by rfl) N.tuple boot_tuple (pa_cons (pv 3) pa_nil)))))), ?_⟩
  obtain ⟨hL, hl, hall⟩ := id hH
  obtain ⟨hf1, hf2⟩ := id hfew
  have hmul : ∀ ds : List D, ds.Perm sm.items → ds.length ≤ 30000 ∧ kP n * ds.length ≤ 20 * kP n := fun ds hp => by
    have := hp.length_eq
    refine ⟨by omega, ?_⟩
    rw [Nat.mul_comm]
    exact Nat.mul_le_mul_right _ (by omega)
  have hwA : WellAt W (((m + 1) + 20) + 20 * kP n + 1000) H := hw.less (by show _ ≤ m + (1 + (20 + (20 * kP n + 1000))); omega)
  -- some
  refine q_setW (K := K) (CK := CK) (B := H0) (ew_lcW (m := (m + 1) + 20) (N := 20 * kP n) (k1 := 1000) (k := kP n) (Pd := fun ds => ds.Perm sm.items) (R := fun d e => ∃ k mk p p', d.items = [k, mk, p] ∧ e = .tup [k, mk, p'] ∧ Pas n p p')
    (eiw_list (EvW.imp (ew_call (K := K) (CK := CK) (ds := [sm]) rfl (ead_cons (ed_var rfl r) ead_nil) rfl ⟨sm, rfl, hL, by omega⟩) fun d ⟨es, h1, h2⟩ => ⟨es, h1, h2⟩)) hmul ?_) e0 hw0 hwA fun dS vS Ha ⟨dsS, esS, hpS, hdS, hEach⟩ ea hwa rS => ?_
  · intro ds m2 d2 x2 Hk hp ek hkW hd rx
    obtain ⟨hL2, k, mk, p, hi, hpH⟩ := hall d2 (hp.mem_iff.mp hd)
    obtain ⟨u1, u2, u3, s1, s2, s3, hg⟩ := eg_unp3 (σ := wipe [some (.ref W), some v, none, none, none, none, none, none] [4, 5, 6]) (i := 4) (j := 5) (k := 6) rx hL2 hi
    refine ⟨_, hg, rfl, EvW.imp (ew_tup (eaw_cons (EvD.w (ed_var rfl s1)) (eaw_cons (EvD.w (ed_var rfl s2)) (eaw_cons (ew_call (K := K) (CK := CK) (i := 0) (ds := [p]) rfl (ead_cons (ed_var rfl s3) ead_nil) rfl ⟨p, rfl, hpH, hf2 d2 (hp.mem_iff.mp hd) _ _ _ hi⟩) eaw_nil))) ?_) ?_⟩
    · rintro l ⟨a, l1, rfl, _, b, l2, rfl, _, c, l3, rfl, _, rfl⟩
      show (3 : Nat) ≤ 30000
      decide
    · rintro e ⟨l, rfl, a, l1, rfl, rfl, b, l2, rfl, rfl, c, l3, rfl, hc, rfl⟩
      exact ⟨_, _, _, c, hi, rfl, hc⟩
  subst hdS
  have bA : ∀ a, H0 a = none → (H a).isSome = true → hid H0 H Ha a = none := fun a h1 h2 => hid_no h1 h2
  have bAW : hid H0 H Ha W = none := hid_no hw0 hw.some
  have exA : Ex (hid H0 H Ha) Ha := hid_sub
  have hlenS : esS.length ≤ 20 := by rw [hEach.len, hpS.length_eq]; exact hf1
  -- found
  have hwa' : WellAt W ((m + 1) + 1 * esS.length) Ha := hwa.less (by omega)
  refine q_setW (K := K) (CK := CK) (B := hid H0 H Ha) (ew_lc (m := m + 1) (k := 1) (R := fun d e => e.isL = true ∧ e.items = d.items) (ds := esS) (ei_list (ed_var rfl rS)) (by omega) ?_) exA bAW hwa' fun dF vF Hb ⟨esF, hdF, hEach2⟩ eb hwb rF => ?_
  · intro m2 d2 x2 Hk ek hkW hd rx
    obtain ⟨a, ha, k, mk, p, p', hi, rfl, hpp⟩ := hEach.mem d2 hd
    refine ⟨_, eg_name, rfl, ew_if (etw_draw rfl (by decide) (by decide)) (fun _ => EvW.imp (EvD.w (ed_listOf (d := .tup [k, mk, p']) (ed_var rfl rx) rfl)) ?_) (fun _ => EvW.imp (EvD.w (ed_var rfl rx)) ?_)⟩
    · rintro e rfl
      exact ⟨rfl, rfl⟩
    · rintro e rfl
      exact ⟨rfl, rfl⟩
  subst hdF
  have bB : ∀ a, H0 a = none → (H a).isSome = true → hid (hid H0 H Ha) Ha Hb a = none := fun a h1 h2 => hid_no (bA a h1 h2) (ea.isSome hwa.some h2)
  have bBW : hid (hid H0 H Ha) Ha Hb W = none := hid_no bAW hwa.some
  have eHb : ExW W H Hb := ea.trans eb
  -- what comes back
  have hAll : Each (fun d e => e.isL = true ∧ ∃ k mk p p', d.items = [k, mk, p] ∧ e.items = [k, mk, p'] ∧ Pas n p p') dsS esF := hEach.comp (fun a b c h1 h2 => by
    obtain ⟨k, mk, p, p', hi, rfl, hp⟩ := h1
    exact ⟨h2.1, k, mk, p, p', hi, h2.2, hp⟩) hEach2
  have good : ∀ e : D, e.isL = true → e.items = esF → Pas (n + 1) sm e := fun e heL hei => by
    have hH2 : isH (n + 1) e := by
      refine ⟨heL, by rw [hei, hEach2.len]; omega, fun x hx => ?_⟩
      rw [hei] at hx
      obtain ⟨a, ha, hxL, k, mk, p, p', hi, hi2, hp⟩ := hAll.mem x hx
      obtain ⟨_, kk, mm, pp, hi3, _⟩ := hall a (hpS.mem_iff.mp ha)
      rw [hi] at hi3
      cases hi3
      exact ⟨hxL, kk, mm, p', hi2, hp.1⟩
    refine ⟨hH2, toldH_perm (by omega) hH2 hH ?_⟩
    rw [hei, ← hAll.map_eq (f := toldR n) (g := toldR n) fun a b ⟨_, k, mk, p, p', hi, hi2, hp⟩ => by rw [toldR_of hi, toldR_of hi2, hp.2]]
    exact hpS.map _
  have fin := ew_if (K := K) (CK := CK) (W := W) (m := m + 1) (m1 := m) (m' := m) (B := hid (hid H0 H Ha) Ha Hb) (σ := [some (.ref W), some v, some vS, some vF, none, none, none, none]) (R := fun e => e.isL = true ∧ e.items = esF) (etw_draw (n := 2) (i := 0) (E := E0) rfl (by decide) (by decide))
    (fun _ => EvW.imp (EvD.w (ed_var (i := 3) rfl rF)) (by rintro e rfl; exact ⟨rfl, rfl⟩)) (fun _ => EvW.imp (EvD.w (ed_tupOf (ed_var (i := 3) rfl rF))) (by rintro e rfl; exact ⟨rfl, rfl⟩))
  exact fin Hb hid_sub bBW hwb _ fun e vE Hc he ec hwc rE => q e vE Hc (good e he.1 he.2) (eHb.trans ec) hwc (rE.ex (hid_outW bB eHb hwb.some))
theorem ok_passed (d : Def K mg "_law_s_passed" sLPassed ["well", "stand"]) (dM : Def K mg "_law_mixed" sLMixed ["well", "some"]) (dD : Def K mg "_law_draw" sLDraw ["well", "many"]) (N : Nm mg) : ∀ n ≤ 25, FnOk P w K mg base CX0 (n + 2) d.f d.fd ["well", "stand"] (spPassed K CK n)
  | 0, _ => d.F.ok scLPassed (fun vs H Q E h => spW_len h) (fun cdv A outer s H vs Q E hr h => by
      obtain ⟨W, m, ws, ds, H0, rfl, _, e0, hw0, hw, hr0, ⟨sm, rfl, hH, hfew⟩, q⟩ := h
      exact hH.elim)
  | n + 1, hn => ok_passed_of (by omega) d dM dD (ok_passed d dM dD N n (by omega)) (by omega) N
end
end Any
set_option Elab.async false
set_option linter.all false
set_option maxRecDepth 100000
set_option maxHeartbeats 2000000
/-! right stands, in any form; rows of records; what is built of them -/
namespace Any
open PySem PySem.Spec PyProof.Rows L2 Evl StX
def RtH (rs : List Row) : Nat → Str → D → Prop
  | 0, _, _ => False
  | n + 1, a, d => d.isL = true ∧ d.items.length ≤ 20 ∧ ∀ x ∈ d.items, x.isL = true ∧ ∃ r ∈ rs, ∃ m p, r.above = a ∧ m ∈ r.marks ∧ x.items = [.str r.kind, .str m, p] ∧ RtH rs n r.kind p
theorem sortD_nil : sortD [] = [] := List.eq_nil_of_length_eq_zero (sortD_len [])
section
variable {rs : List Row}
theorem RtH.h : ∀ {n : Nat} {a : Str} {d : D}, RtH rs n a d → isH n d
  | 0, _, _, h => h.elim
  | n + 1, a, d, ⟨hL, hl, h⟩ => ⟨hL, by omega, fun x hx => by
      obtain ⟨hxL, r, _, m, p, _, _, hi, hp⟩ := h x hx
      exact ⟨hxL, _, _, p, hi, RtH.h hp⟩⟩
theorem RtH.few : ∀ {n : Nat} {a : Str} {d : D}, RtH rs n a d → Any.few n d
  | 0, _, _, h => h.elim
  | n + 1, a, d, ⟨hL, hl, h⟩ => ⟨hl, fun x hx k m p hi => by
      obtain ⟨_, r, _, m2, p2, _, _, hi2, hp⟩ := h x hx
      rw [hi] at hi2
      cases hi2
      exact RtH.few hp⟩
theorem RtH.told : ∀ {n : Nat} {a : Str} {d : D}, RtH rs n a d → RtH rs n a (toldH n d)
  | 0, _, _, h => h.elim
  | n + 1, a, d, ⟨hL, hl, h⟩ => by
    rw [toldH_succ]
    refine ⟨rfl, by show (sortD _).length ≤ 20; rw [sortD_len, List.length_map]; exact hl, fun x hx => ?_⟩
    have hx2 : x ∈ sortD (d.items.map (toldR n)) := hx
    obtain ⟨x0, hx0, rfl⟩ := List.mem_map.mp (sortD_mem.mp hx2)
    obtain ⟨_, r, hr, m, p, ha, hm, hi, hp⟩ := h x0 hx0
    exact ⟨(toldR_items hi).1, r, hr, m, toldH n p, ha, hm, (toldR_items hi).2, RtH.told hp⟩
theorem RtH.back : ∀ {n : Nat} {a : Str} {d : D}, isH n d → RtH rs n a (toldH n d) → RtH rs n a d
  | 0, _, _, h, _ => h.elim
  | n + 1, a, d, ⟨hL, hl, h⟩, g => by
    rw [toldH_succ] at g
    obtain ⟨_, gl, g⟩ := g
    have gl2 : (sortD (d.items.map (toldR n))).length ≤ 20 := gl
    rw [sortD_len, List.length_map] at gl2
    refine ⟨hL, gl2, fun x hx => ?_⟩
    obtain ⟨hxL, k, m, p, hi, hp⟩ := h x hx
    obtain ⟨_, r, hr, m2, p2, ha, hm, hi2, hp2⟩ := g (toldR n x) (sortD_mem.mpr (List.mem_map_of_mem hx))
    rw [(toldR_items hi).2] at hi2
    cases hi2
    exact ⟨hxL, r, hr, _, p, ha, hm, hi, RtH.back hp hp2⟩
theorem inKind_mem {r : Row} (hr : r ∈ rs) : r.kind ∈ inKind rs r.above := List.mem_map.mpr ⟨r, List.mem_filter.mpr ⟨hr, decide_eq_true rfl⟩, rfl⟩
theorem RtH.no (ok : KOk rs) : ∀ {n : Nat} {a : Str} {d : D} (N : Nat), n ≤ N + 1 → RtH rs n a d → ∀ way, partsF rs N a d.items way = .non
  | 0, _, _, _, _, h, _ => h.elim
  | n + 1, a, d, N, hN, ⟨hL, hl, h⟩, way => firstF_none fun j y hy => by
    obtain ⟨hyL, r, hr, m, p, ha, hm, hi, hp⟩ := h y (List.mem_of_getElem? hy)
    subst ha
    cases N with
    | zero =>
      have : n = 0 := by omega
      subst this
      exact hp.elim
    | succ N =>
      rw [faultR_yes (by rw [hyL, hi]; rfl) hi, faultK_yes (inKind_mem hr), faultM_yes (by rw [marksOf_of ok hr]; exact hm)]
      have hpL : p.isL = true := by
        cases n with
        | zero => exact hp.elim
        | succ n => exact hp.1
      rw [if_pos hpL]
      exact RtH.no ok N (by omega) hp _
theorem isH_dpt : ∀ {n : Nat} {d : D}, isH n d → ∀ y ∈ d.items, dpt n y
  | 0, _, h => h.elim
  | n + 1, d, ⟨_, _, h⟩ => fun y hy _ x hx hxL z hz => by
    obtain ⟨_, k, m, p, hi, hp⟩ := h y hy
    rw [hi] at hx
    rcases List.mem_cons.mp hx with rfl | hx
    · cases hxL
    rcases List.mem_cons.mp hx with rfl | hx
    · cases hxL
    rcases List.mem_cons.mp hx with rfl | hx
    · exact isH_dpt hp z hz
    · cases hx
theorem RtH.right (ok : KOk rs) {n : Nat} (hn : n ≤ 25) {d : D} (h : RtH rs n Str.empty d) : Right rs n d where
  ok := ok
  n25 := hn
  dp := fun _ => isH_dpt h.h
  no := by
    have hL : d.isL = true := by
      cases n with
      | zero => exact h.elim
      | succ n => exact h.1
    unfold standF
    rw [if_pos hL]
    exact RtH.no ok n (by omega) h []
  h := h.h
theorem RtH.pas {n : Nat} {a : Str} {s d : D} (h : RtH rs n a s) (p : Pas n s d) : RtH rs n a d := RtH.back p.1 (by rw [p.2]; exact h.told)
end
/-! ### rows of records -/
def D.at (d : D) (i : Nat) : D := d.items.getD i .non
structure FRow where
  k : Str
  m : Str
  h : D
def frD (f : FRow) : D := .tup [.str f.k, .str f.m, f.h]
def HdOk (fl : List FRow) (a : Str) (h : D) : Prop := (h = .non ∧ a = Str.empty) ∨ ∃ (i : Nat) (g : FRow), h = .int i ∧ fl[i]? = some g ∧ g.k = a
def FlOk (rs : List Row) (fl : List FRow) : Prop := ∀ f ∈ fl, ∃ r ∈ rs, r.kind = f.k ∧ f.m ∈ r.marks ∧ (HdOk fl r.above f.h ∨ f.h = .int (-1))
def eqH : D → D → Bool
  | .non, .non => true
  | .int a, .int b => decide (a = b)
  | _, _ => false
theorem eqH_eq {x y : D} (h : eqH x y = true) : x = y := by
  cases x <;> cases y <;> first | rfl | (cases h; done) | (rw [of_decide_eq_true (show decide (_ = _) = true from h)])
def isHol (d : D) : Prop := d = .non ∨ ∃ i : Int, d = .int i
theorem HdOk.hol {fl : List FRow} {a : Str} {h : D} (o : HdOk fl a h) : isHol h := o.elim (fun h => .inl h.1) fun ⟨i, _, h, _⟩ => .inr ⟨i, h⟩
theorem FlOk.hol {rs : List Row} {fl : List FRow} (o : FlOk rs fl) {f : FRow} (h : f ∈ fl) : isHol f.h := by
  obtain ⟨_, _, _, _, c⟩ := o f h
  exact c.elim HdOk.hol fun h => .inr ⟨_, h⟩
structure Lvl (rs : List Row) (lv : Str → Nat) : Prop where
  e : lv Str.empty = 0
  r : ∀ r ∈ rs, lv r.kind = lv r.above + 1 ∧ lv r.kind ≤ 3
/-- what is built of rows: those in holder h -/
def hasH (h p : D) : Bool := eqH ((p.at 1).at 2) h
def builtF (ds : List D) : Nat → D → D
  | 0, _ => .tup []
  | n + 1, h => .tup (sortD (((enumD ds).filter (hasH h)).map fun p => .tup [(p.at 1).at 0, (p.at 1).at 1, builtF ds n (p.at 0)]))
section
variable {rs : List Row} {lv : Str → Nat} {fl : List FRow}
theorem enum_fl {p : D} (h : p ∈ enumD (fl.map frD)) : ∃ (i : Nat) (f : FRow), fl[i]? = some f ∧ p = .tup [.int i, frD f] := by
  obtain ⟨i, hi⟩ := List.mem_iff_getElem?.mp h
  obtain ⟨d, hd, rfl⟩ := enumD_get hi
  rw [List.getElem?_map] at hd
  cases e : fl[i]? with
  | none => rw [e] at hd; cases hd
  | some f => rw [e] at hd; cases hd; exact ⟨i, f, e, rfl⟩
/-- a row in h, its row of kinds -/
theorem held_of (L : Lvl rs lv) (ok : FlOk rs fl) {a : Str} {h : D} (hd : HdOk fl a h) {f : FRow} (hf : f ∈ fl) (e : eqH f.h h = true) : ∃ r ∈ rs, r.kind = f.k ∧ f.m ∈ r.marks ∧ r.above = a := by
  obtain ⟨r, hr, hk, hm, c⟩ := ok f hf
  refine ⟨r, hr, hk, hm, ?_⟩
  have e2 := eqH_eq e
  rcases c with c | c
  · rcases c with ⟨c1, c2⟩ | ⟨i, g, c1, c2, c3⟩
    · rcases hd with ⟨d1, d2⟩ | ⟨j, g2, d1, d2, d3⟩
      · rw [c2, d2]
      · rw [c1, d1] at e2; cases e2
    · rcases hd with ⟨d1, d2⟩ | ⟨j, g2, d1, d2, d3⟩
      · rw [c1, d1] at e2; cases e2
      · rw [c1, d1] at e2
        have : i = j := by injection e2 with e3; omega
        subst this
        rw [c2] at d2
        cases d2
        rw [← c3, d3]
  · rcases hd with ⟨d1, d2⟩ | ⟨j, g2, d1, d2, d3⟩
    · rw [c, d1] at e2; cases e2
    · rw [c, d1] at e2
      injection e2 with e3
      omega
theorem built_rt (L : Lvl rs lv) (ok : FlOk rs fl) (few : fl.length ≤ 20) : ∀ {n : Nat} {a : Str} {h : D}, HdOk fl a h → lv a + n = 3 → RtH rs (n + 1) a (builtF (fl.map frD) (n + 1) h) ∧ toldH (n + 1) (builtF (fl.map frD) (n + 1) h) = builtF (fl.map frD) (n + 1) h := by
  intro n
  induction n with
  | zero =>
    intro a h hd hn
    have e : ((enumD (fl.map frD)).filter (hasH h)) = [] := List.filter_eq_nil_iff.mpr fun p hp hh => by
      obtain ⟨i, f, hf, rfl⟩ := enum_fl hp
      obtain ⟨r, hr, hk, hm, ha⟩ := held_of L ok hd (List.mem_of_getElem? hf) hh
      have := L.r r hr
      rw [ha] at this
      omega
    have e2 : builtF (fl.map frD) (0 + 1) h = .tup [] := by
      unfold builtF
      rw [e, List.map_nil, sortD_nil]
    rw [e2]
    refine ⟨⟨rfl, by show (0 : Nat) ≤ 20; decide, fun x hx => by cases hx⟩, ?_⟩
    rw [toldH_succ]
    show D.tup (sortD []) = _
    rw [sortD_nil]
  | succ n ih =>
    intro a h hd hn
    have each : ∀ p ∈ (enumD (fl.map frD)).filter (hasH h), ∃ (i : Nat) (f : FRow), p = .tup [.int i, frD f] ∧ ∃ r ∈ rs, r.kind = f.k ∧ f.m ∈ r.marks ∧ r.above = a ∧ RtH rs (n + 1) f.k (builtF (fl.map frD) (n + 1) (.int i)) ∧ toldH (n + 1) (builtF (fl.map frD) (n + 1) (.int i)) = builtF (fl.map frD) (n + 1) (.int i) := fun p hp => by
      obtain ⟨hp1, hp2⟩ := List.mem_filter.mp hp
      obtain ⟨i, f, hf, rfl⟩ := enum_fl hp1
      obtain ⟨r, hr, hk, hm, ha⟩ := held_of L ok hd (List.mem_of_getElem? hf) hp2
      have := (L.r r hr).1
      rw [ha, hk] at this
      have z := ih (a := f.k) (h := .int i) (.inr ⟨i, f, rfl, hf, rfl⟩) (by omega)
      exact ⟨i, f, rfl, r, hr, hk, hm, ha, z.1, z.2⟩
    have eb : builtF (fl.map frD) (n + 1 + 1) h = .tup (sortD (((enumD (fl.map frD)).filter (hasH h)).map fun p => .tup [(p.at 1).at 0, (p.at 1).at 1, builtF (fl.map frD) (n + 1) (p.at 0)])) := rfl
    rw [eb]
    generalize hxs : (((enumD (fl.map frD)).filter (hasH h)).map fun p => D.tup [(p.at 1).at 0, (p.at 1).at 1, builtF (fl.map frD) (n + 1) (p.at 0)]) = xs
    have hx : ∀ x ∈ xs, ∃ r ∈ rs, ∃ m p, r.above = a ∧ m ∈ r.marks ∧ x = .tup [.str r.kind, .str m, p] ∧ RtH rs (n + 1) r.kind p ∧ toldH (n + 1) p = p := fun x hx => by
      rw [← hxs] at hx
      obtain ⟨p, hp, rfl⟩ := List.mem_map.mp hx
      obtain ⟨i, f, rfl, r, hr, hk, hm, ha, h1, h2⟩ := each p hp
      refine ⟨r, hr, f.m, builtF (fl.map frD) (n + 1) (.int i), ha, hm, ?_, by rw [hk]; exact h1, h2⟩
      rw [hk]
      rfl
    have hlen : xs.length ≤ 20 := by
      rw [← hxs, List.length_map]
      refine Nat.le_trans (List.length_filter_le _ _) ?_
      rw [enumD_len, List.length_map]
      exact few
    refine ⟨⟨rfl, by show (sortD xs).length ≤ 20; rw [sortD_len]; exact hlen, fun x hx2 => ?_⟩, ?_⟩
    · have hx3 : x ∈ sortD xs := hx2
      obtain ⟨r, hr, m, p, ha, hm, rfl, h1, _⟩ := hx x (sortD_mem.mp hx3)
      exact ⟨rfl, r, hr, m, p, ha, hm, rfl, h1⟩
    · rw [toldH_succ]
      have e : (sortD xs).map (toldR (n + 1)) = sortD xs := by
        refine (List.map_congr_left fun x hx2 => ?_).trans (List.map_id _)
        obtain ⟨r, hr, m, p, ha, hm, rfl, h1, h2⟩ := hx x (sortD_mem.mp hx2)
        show toldR (n + 1) (.tup [.str r.kind, .str m, p]) = _
        rw [toldR_of rfl, h2]
        rfl
      show D.tup (sortD ((sortD xs).map (toldR (n + 1)))) = _
      rw [e, sortD_id (sortD_sorted _)]
end
end Any
set_option Elab.async false
set_option linter.all false
set_option maxRecDepth 100000
set_option maxHeartbeats 2000000
/-! how many records are built; a stand as rows -/
namespace Any
open PySem PySem.Spec PyProof.Rows L2 Evl StX
theorem sum_filter_or {g : D → Int} {q1 q2 : D → Bool} (hd : ∀ p, ¬ (q1 p = true ∧ q2 p = true)) : ∀ E : List D, ((E.filter fun p => q1 p || q2 p).map g).sum = ((E.filter q1).map g).sum + ((E.filter q2).map g).sum
  | [] => rfl
  | p :: E => by
    have ih := sum_filter_or (g := g) hd E
    cases h1 : q1 p with
    | true =>
      cases h2 : q2 p with
      | true => exact absurd ⟨h1, h2⟩ (hd p)
      | false =>
        rw [List.filter_cons_of_pos (by rw [h1]; rfl), List.filter_cons_of_pos h1, List.filter_cons_of_neg (by rw [h2]; decide), List.map_cons, List.map_cons, List.sum_cons, List.sum_cons, ih]
        omega
    | false =>
      cases h2 : q2 p with
      | true =>
        rw [List.filter_cons_of_pos (by rw [h1, h2]; rfl), List.filter_cons_of_neg (by rw [h1]; decide), List.filter_cons_of_pos h2, List.map_cons, List.map_cons, List.sum_cons, List.sum_cons, ih]
        omega
      | false =>
        rw [List.filter_cons_of_neg (by rw [h1, h2]; decide), List.filter_cons_of_neg (by rw [h1]; decide), List.filter_cons_of_neg (by rw [h2]; decide), ih]
def Disj (a b : D) : Prop := ∀ p, ¬ (hasH a p = true ∧ hasH b p = true)
theorem sum_any {g : D → Int} (E : List D) : ∀ hs : List D, hs.Pairwise Disj → (hs.map fun h => ((E.filter (hasH h)).map g).sum).sum = ((E.filter fun p => hs.any fun h => hasH h p).map g).sum
  | [], _ => by
    have e : (E.filter fun p => ([] : List D).any fun h => hasH h p) = [] := List.filter_eq_nil_iff.mpr fun p _ z => by cases z
    rw [e]
    rfl
  | h :: hs, pw => by
    obtain ⟨p1, p2⟩ := List.pairwise_cons.mp pw
    rw [List.map_cons, List.sum_cons, sum_any E hs p2]
    exact (sum_filter_or (q1 := hasH h) (q2 := fun p => hs.any fun h => hasH h p) (fun p ⟨z1, z2⟩ => by
      obtain ⟨h2, hm, z3⟩ := List.any_eq_true.mp z2
      exact p1 h2 hm p ⟨z1, z3⟩) E).symm
def kOfP (p : D) : Str := ((p.at 1).at 0).strOf
theorem split_lv (lv : Str → Nat) (l : Nat) : ∀ E : List D, (E.filter fun p => decide (lv (kOfP p) = l + 1)).length + (E.filter fun p => decide (l + 1 < lv (kOfP p))).length ≤ (E.filter fun p => decide (l < lv (kOfP p))).length
  | [] => Nat.le_refl _
  | p :: E => by
    have ih := split_lv lv l E
    by_cases c1 : lv (kOfP p) = l + 1
    · rw [List.filter_cons_of_pos (by simpa using c1), List.filter_cons_of_neg (by simpa using (by omega : lv (kOfP p) ≤ l + 1)), List.filter_cons_of_pos (by simpa using (by omega : l < lv (kOfP p))), List.length_cons, List.length_cons]
      omega
    · by_cases c2 : l + 1 < lv (kOfP p)
      · rw [List.filter_cons_of_neg (by simpa using c1), List.filter_cons_of_pos (by simpa using c2), List.filter_cons_of_pos (by simpa using (by omega : l < lv (kOfP p))), List.length_cons, List.length_cons]
        omega
      · rw [List.filter_cons_of_neg (by simpa using c1), List.filter_cons_of_neg (by simpa using (by omega : lv (kOfP p) ≤ l + 1)), List.filter_cons_of_neg (by simpa using (by omega : lv (kOfP p) ≤ l))]
        exact ih
theorem len_filter_mono {q1 q2 : D → Bool} : ∀ {E : List D}, (∀ p ∈ E, q1 p = true → q2 p = true) → (E.filter q1).length ≤ (E.filter q2).length
  | [], _ => Nat.le_refl _
  | p :: E, h => by
    have ih := len_filter_mono (q1 := q1) (q2 := q2) (E := E) fun x hx => h x (List.mem_cons_of_mem _ hx)
    cases h1 : q1 p with
    | true =>
      rw [List.filter_cons_of_pos h1, List.filter_cons_of_pos (h p List.mem_cons_self h1), List.length_cons, List.length_cons]
      omega
    | false =>
      rw [List.filter_cons_of_neg (by rw [h1]; decide)]
      cases h2 : q2 p with
      | true => rw [List.filter_cons_of_pos h2, List.length_cons]; omega
      | false => rw [List.filter_cons_of_neg (by rw [h2]; decide)]; exact ih
def recS (ds : List D) (n : Nat) (p : D) : Int := 1 + sizeH n (builtF ds n (p.at 0))
theorem size_built (ds : List D) (n : Nat) (h : D) : sizeH (n + 1) (builtF ds (n + 1) h) = (((enumD ds).filter (hasH h)).map (recS ds n)).sum := by
  rw [sizeH_succ]
  show ((sortD (((enumD ds).filter (hasH h)).map fun p => D.tup [(p.at 1).at 0, (p.at 1).at 1, builtF ds n (p.at 0)])).map (sizeR n)).sum = _
  rw [sum_perm ((sortD_perm _).map (sizeR n)), List.map_map]
  rfl
theorem sum_ones {g : D → Int} : ∀ F : List D, (F.map fun p => 1 + g p).sum = (F.length : Int) + (F.map g).sum
  | [] => rfl
  | p :: F => by
    rw [List.map_cons, List.map_cons, List.sum_cons, List.sum_cons, sum_ones F, List.length_cons]
    omega
theorem enum_disj (ds : List D) : (enumD ds).Pairwise (fun p q => Disj (p.at 0) (q.at 0)) := by
  refine List.pairwise_iff_getElem.mpr fun i j hi hj hij p ⟨z1, z2⟩ => ?_
  obtain ⟨d1, _, e1⟩ := enumD_get (List.getElem?_eq_getElem hi)
  obtain ⟨d2, _, e2⟩ := enumD_get (List.getElem?_eq_getElem hj)
  rw [e1] at z1
  rw [e2] at z2
  have a1 := eqH_eq (y := .int (i : Nat)) z1
  have a2 := eqH_eq (y := .int (j : Nat)) z2
  rw [a1] at a2
  injection a2 with a3
  omega
section
variable {rs : List Row} {lv : Str → Nat} {fl : List FRow}
theorem built_sum (L : Lvl rs lv) (ok : FlOk rs fl) : ∀ (n : Nat) (hs : List D) (l : Nat), l + n = 3 → hs.Pairwise Disj → (∀ h ∈ hs, ∃ a, HdOk fl a h ∧ lv a = l) →
    (hs.map fun h => sizeH (n + 1) (builtF (fl.map frD) (n + 1) h)).sum ≤ (((enumD (fl.map frD)).filter fun p => decide (l < lv (kOfP p))).length : Int) := by
  intro n
  induction n with
  | zero =>
    intro hs l hl pw hd
    have e : (hs.map fun h => sizeH (0 + 1) (builtF (fl.map frD) (0 + 1) h)) = hs.map fun h => (((enumD (fl.map frD)).filter (hasH h)).map (recS (fl.map frD) 0)).sum := List.map_congr_left fun h _ => size_built _ _ _
    rw [e, sum_any _ hs pw]
    have e2 : (((enumD (fl.map frD)).filter fun p => hs.any fun h => hasH h p).map (recS (fl.map frD) 0)).sum = (((enumD (fl.map frD)).filter fun p => hs.any fun h => hasH h p).length : Int) := by
      have := sum_ones (g := fun _ => 0) ((enumD (fl.map frD)).filter fun p => hs.any fun h => hasH h p)
      have z : ∀ F : List D, (F.map fun _ => (0 : Int)).sum = 0 := fun F => by
        induction F with
        | nil => rfl
        | cons p F ih => rw [List.map_cons, List.sum_cons, ih]; rfl
      rw [z] at this
      exact this.trans (by omega)
    rw [e2]
    refine Int.ofNat_le.mpr (len_filter_mono fun p hp hh => ?_)
    obtain ⟨h, hm, hh2⟩ := List.any_eq_true.mp hh
    obtain ⟨a, ha, hla⟩ := hd h hm
    obtain ⟨i, f, hf, rfl⟩ := enum_fl hp
    obtain ⟨r, hr, hk, hm2, hra⟩ := held_of L ok ha (List.mem_of_getElem? hf) hh2
    have := (L.r r hr).1
    rw [hra, hk] at this
    show decide (l < lv f.k) = true
    simp; omega
  | succ n ih =>
    intro hs l hl pw hd
    have e : (hs.map fun h => sizeH (n + 1 + 1) (builtF (fl.map frD) (n + 1 + 1) h)) = hs.map fun h => (((enumD (fl.map frD)).filter (hasH h)).map (recS (fl.map frD) (n + 1))).sum := List.map_congr_left fun h _ => size_built _ _ _
    rw [e, sum_any _ hs pw]
    have key : ∀ p ∈ (enumD (fl.map frD)).filter (fun p => hs.any fun h => hasH h p), ∃ (i : Nat) (f : FRow), fl[i]? = some f ∧ p = .tup [.int i, frD f] ∧ lv f.k = l + 1 := fun p hp => by
      obtain ⟨hp1, hh⟩ := List.mem_filter.mp hp
      obtain ⟨h, hm, hh2⟩ := List.any_eq_true.mp hh
      obtain ⟨a, ha, hla⟩ := hd h hm
      obtain ⟨i, f, hf, rfl⟩ := enum_fl hp1
      obtain ⟨r, hr, hk, hm2, hra⟩ := held_of L ok ha (List.mem_of_getElem? hf) hh2
      have := (L.r r hr).1
      rw [hra, hk] at this
      exact ⟨i, f, hf, rfl, by omega⟩
    have e2 : (((enumD (fl.map frD)).filter fun p => hs.any fun h => hasH h p).map (recS (fl.map frD) (n + 1))).sum = (((enumD (fl.map frD)).filter fun p => hs.any fun h => hasH h p).length : Int) + ((((enumD (fl.map frD)).filter fun p => hs.any fun h => hasH h p).map fun p => p.at 0).map fun h => sizeH (n + 1) (builtF (fl.map frD) (n + 1) h)).sum := by
      rw [List.map_map]
      exact sum_ones (g := fun p => sizeH (n + 1) (builtF (fl.map frD) (n + 1) (p.at 0))) _
    rw [e2]
    have h1 := ih (((enumD (fl.map frD)).filter fun p => hs.any fun h => hasH h p).map fun p => p.at 0) (l + 1) (by omega) (List.Pairwise.map _ (fun a b h => h) ((enum_disj _).sublist List.filter_sublist)) fun h hh => by
      obtain ⟨p, hp, rfl⟩ := List.mem_map.mp hh
      obtain ⟨i, f, hf, rfl, hlv⟩ := key p hp
      exact ⟨f.k, .inr ⟨i, f, rfl, hf, rfl⟩, hlv⟩
    have h2 : ((enumD (fl.map frD)).filter fun p => hs.any fun h => hasH h p).length ≤ ((enumD (fl.map frD)).filter fun p => decide (lv (kOfP p) = l + 1)).length := len_filter_mono fun p hp hh => by
      obtain ⟨i, f, hf, rfl, hlv⟩ := key p (List.mem_filter.mpr ⟨hp, hh⟩)
      exact decide_eq_true hlv
    have h3 := split_lv lv l (enumD (fl.map frD))
    omega
theorem built_size (L : Lvl rs lv) (ok : FlOk rs fl) {n : Nat} {a : Str} {h : D} (hd : HdOk fl a h) (hn : lv a + n = 3) : sizeH (n + 1) (builtF (fl.map frD) (n + 1) h) ≤ (fl.length : Int) := by
  have := built_sum L ok n [h] (lv a) hn (List.pairwise_singleton _ _) fun x hx => by
    rw [List.mem_singleton.mp hx]
    exact ⟨a, hd, rfl⟩
  rw [List.map_cons, List.sum_cons] at this
  have h2 : ((enumD (fl.map frD)).filter fun p => decide (lv a < lv (kOfP p))).length ≤ fl.length := by
    refine Nat.le_trans (List.length_filter_le _ _) ?_
    rw [enumD_len, List.length_map]
    exact Nat.le_refl _
  have h3 : (List.map (fun h => sizeH (n + 1) (builtF (fl.map frD) (n + 1) h)) []).sum = 0 := rfl
  rw [h3] at this
  omega
end
/-! ### a stand as rows -/
def flatL2 (sub : D → D → Nat → List FRow) (h : D) : Nat → List D → List FRow
  | _, [] => []
  | L, x :: xs => ⟨(x.at 0).strOf, (x.at 1).strOf, h⟩ :: (sub (x.at 2) (.int (L : Nat)) (L + 1) ++ flatL2 sub h (L + 1 + (sub (x.at 2) (.int (L : Nat)) (L + 1)).length) xs)
def flatF : Nat → D → D → Nat → List FRow
  | 0, _, _, _ => []
  | n + 1, d, h, L => flatL2 (flatF n) h L d.items
theorem flatL2_snoc {sub : D → D → Nat → List FRow} {h x : D} : ∀ {xs : List D} {L : Nat}, flatL2 sub h L (xs ++ [x]) = flatL2 sub h L xs ++ (⟨(x.at 0).strOf, (x.at 1).strOf, h⟩ :: sub (x.at 2) (.int ((L + (flatL2 sub h L xs).length : Nat) : Int)) (L + (flatL2 sub h L xs).length + 1))
  | [], L => by
    show _ :: (_ ++ flatL2 sub h _ []) = _
    rw [show ∀ k, flatL2 sub h k [] = [] from fun _ => rfl, List.append_nil]
    rfl
  | y :: ys, L => by
    show _ :: (_ ++ flatL2 sub h _ (ys ++ [x])) = _
    rw [flatL2_snoc (xs := ys)]
    have e : (flatL2 sub h L (y :: ys)).length = 1 + (sub (y.at 2) (.int (L : Nat)) (L + 1)).length + (flatL2 sub h (L + 1 + (sub (y.at 2) (.int (L : Nat)) (L + 1)).length) ys).length := by
      show (_ :: (_ ++ _)).length = _
      rw [List.length_cons, List.length_append]
      omega
    rw [e]
    have e2 : L + (1 + (sub (y.at 2) (.int (L : Nat)) (L + 1)).length + (flatL2 sub h (L + 1 + (sub (y.at 2) (.int (L : Nat)) (L + 1)).length) ys).length) = L + 1 + (sub (y.at 2) (.int (L : Nat)) (L + 1)).length + (flatL2 sub h (L + 1 + (sub (y.at 2) (.int (L : Nat)) (L + 1)).length) ys).length := by omega
    rw [e2]
    show _ = (_ :: (_ ++ _)) ++ _
    rw [List.cons_append, List.append_assoc]
theorem HdOk.more {fl gl : List FRow} {a : Str} {h : D} (o : HdOk fl a h) : HdOk (fl ++ gl) a h := by
  rcases o with o | ⟨i, g, h1, h2, h3⟩
  · exact .inl o
  · exact .inr ⟨i, g, h1, by rw [List.getElem?_append_left (List.getElem?_eq_some_iff.mp h2).1]; exact h2, h3⟩
theorem FlOk.add {rs : List Row} {fl : List FRow} {f : FRow} {r : Row} (o : FlOk rs fl) (hr : r ∈ rs) (hk : r.kind = f.k) (hm : f.m ∈ r.marks) (hh : HdOk fl r.above f.h) : FlOk rs (fl ++ [f]) := fun g hg => by
  rcases List.mem_append.mp hg with hg | hg
  · obtain ⟨s, hs, h1, h2, h3⟩ := o g hg
    exact ⟨s, hs, h1, h2, h3.imp HdOk.more fun z => z⟩
  · rw [List.mem_singleton.mp hg]
    exact ⟨r, hr, hk, hm, .inl hh.more⟩
theorem flatL2_ok {rs : List Row} {n : Nat} {a : Str} {h : D} (ih : ∀ {pre : List FRow} {k : Str} {i : Nat} {p : D}, FlOk rs pre → HdOk pre k (.int (i : Nat)) → RtH rs n k p → FlOk rs (pre ++ flatF n p (.int (i : Nat)) pre.length)) :
    ∀ {xs : List D} {pre : List FRow}, FlOk rs pre → HdOk pre a h → (∀ x ∈ xs, ∃ r ∈ rs, ∃ m p, r.above = a ∧ m ∈ r.marks ∧ x.items = [.str r.kind, .str m, p] ∧ RtH rs n r.kind p) → FlOk rs (pre ++ flatL2 (flatF n) h pre.length xs)
  | [], pre, o, _, _ => by
    show FlOk rs (pre ++ [])
    rw [List.append_nil]
    exact o
  | x :: xs, pre, o, hd, hx => by
    obtain ⟨r, hr, m, p, ha, hm, hi, hp⟩ := hx x List.mem_cons_self
    have x0 : (x.at 0).strOf = r.kind := by unfold D.at; rw [hi]; rfl
    have x1 : (x.at 1).strOf = m := by unfold D.at; rw [hi]; rfl
    have x2 : x.at 2 = p := by unfold D.at; rw [hi]; rfl
    show FlOk rs (pre ++ (_ :: (_ ++ _)))
    rw [x0, x1, x2]
    have o1 : FlOk rs (pre ++ [⟨r.kind, m, h⟩]) := o.add hr rfl hm (by rw [ha]; exact hd)
    have hl1 : (pre ++ [(⟨r.kind, m, h⟩ : FRow)]).length = pre.length + 1 := by rw [List.length_append]; rfl
    have o2 := ih (k := r.kind) (i := pre.length) (p := p) o1 (.inr ⟨pre.length, ⟨r.kind, m, h⟩, rfl, by rw [List.getElem?_append_right (Nat.le_refl _), Nat.sub_self]; rfl, rfl⟩) hp
    rw [hl1] at o2
    have hd2 : HdOk ((pre ++ [⟨r.kind, m, h⟩]) ++ flatF n p (.int (pre.length : Nat)) (pre.length + 1)) a h := hd.more.more
    have o3 := flatL2_ok ih (xs := xs) o2 hd2 fun y hy => hx y (List.mem_cons_of_mem _ hy)
    rw [List.length_append, hl1] at o3
    rw [List.append_assoc, List.append_assoc] at o3
    exact o3
theorem flat_ok {rs : List Row} : ∀ {n : Nat} {a : Str} {d h : D} {pre : List FRow}, FlOk rs pre → HdOk pre a h → RtH rs n a d → FlOk rs (pre ++ flatF n d h pre.length)
  | 0, _, _, _, _, _, _, h => h.elim
  | n + 1, a, d, h, pre, o, hd, ⟨_, _, hx⟩ => flatL2_ok (fun o2 hd2 hp => flat_ok o2 hd2 hp) o hd fun x hx2 => (hx x hx2).2
theorem flatL2_len {sub : D → D → Nat → List FRow} {sz : D → Nat} {h : D} : ∀ {xs : List D} {L : Nat}, (∀ x ∈ xs, ∀ (k : D) (M : Nat), (sub (x.at 2) k M).length = sz x) → (flatL2 sub h L xs).length = (xs.map fun x => 1 + sz x).sum
  | [], _, _ => rfl
  | x :: xs, L, hs => by
    show (_ :: (_ ++ _)).length = _
    rw [List.length_cons, List.length_append, flatL2_len (sz := sz) fun y hy => hs y (List.mem_cons_of_mem _ hy), hs x List.mem_cons_self, List.map_cons, List.sum_cons]
    omega
theorem sizeN_nonneg : ∀ (n : Nat) (d : D), 0 ≤ sizeH n d
  | 0, _ => Int.le_refl _
  | n + 1, d => by
    rw [sizeH_succ]
    have : ∀ xs : List D, 0 ≤ (xs.map (sizeR n)).sum := fun xs => by
      induction xs with
      | nil => exact Int.le_refl _
      | cons x xs ih =>
        rw [List.map_cons, List.sum_cons]
        have : 0 ≤ sizeR n x := by
          unfold sizeR
          split
          · have := sizeN_nonneg n (by assumption); omega
          · exact Int.le_refl _
        omega
    exact this _
theorem sum_cast (g : D → Nat) : ∀ xs : List D, (((xs.map g).sum : Nat) : Int) = (xs.map fun x => (g x : Int)).sum
  | [] => rfl
  | x :: xs => by
    rw [List.map_cons, List.map_cons, List.sum_cons, List.sum_cons, ← sum_cast g xs]
    omega
theorem flat_len : ∀ {n : Nat} {d h : D} {L : Nat}, isH n d → ((flatF n d h L).length : Int) = sizeH n d
  | 0, _, _, _, h => h.elim
  | n + 1, d, h, L, ⟨_, _, hx⟩ => by
    show ((flatL2 (flatF n) h L d.items).length : Int) = _
    rw [flatL2_len (sz := fun x => (sizeH n (x.at 2)).toNat) fun x hx2 k M => by
      obtain ⟨_, k2, m, p, hi, hp⟩ := hx x hx2
      have x2 : x.at 2 = p := by unfold D.at; rw [hi]; rfl
      have := flat_len (h := k) (L := M) hp
      rw [x2]
      omega]
    rw [sizeH_succ, sum_cast]
    congr 1
    refine List.map_congr_left fun x hx2 => ?_
    obtain ⟨_, k2, m, p, hi, hp⟩ := hx x hx2
    have x2 : x.at 2 = p := by unfold D.at; rw [hi]; rfl
    unfold sizeR
    rw [hi, x2]
    have := sizeN_nonneg n p
    show ((1 + (sizeH n p).toNat : Nat) : Int) = 1 + sizeH n p
    omega
/-- records in a list are no more than records at all levels -/
theorem size_items : ∀ {n : Nat} {d : D}, isH n d → (d.items.length : Int) ≤ sizeH n d
  | 0, _, h => h.elim
  | n + 1, d, ⟨_, _, hx⟩ => by
    rw [sizeH_succ]
    have : ∀ xs : List D, (∀ x ∈ xs, isR n x) → (xs.length : Int) ≤ (xs.map (sizeR n)).sum := fun xs => by
      induction xs with
      | nil => intro _; exact Int.le_refl _
      | cons x xs ih =>
        intro h
        have := ih fun y hy => h y (List.mem_cons_of_mem _ hy)
        obtain ⟨_, k, m, p, hi, hp⟩ := h x List.mem_cons_self
        have h2 : 1 ≤ sizeR n x := by
          unfold sizeR
          rw [hi]
          have := sizeN_nonneg n p
          show 1 ≤ 1 + sizeH n p
          omega
        rw [List.map_cons, List.sum_cons, List.length_cons]
        omega
    exact this _ hx
end Any
set_option Elab.async false
set_option linter.all false
set_option maxRecDepth 100000
set_option maxHeartbeats 2000000
namespace Any
open PySem PySem.Spec PyProof.Rows L2 Evl StX
abbrev sLFlat : Stmt := topS 51
abbrev sLBuilt : Stmt := topS 52
theorem built_each {rs : List Row} {lv : Str → Nat} {fl : List FRow} (L : Lvl rs lv) (ok : FlOk rs fl) (few : fl.length ≤ 20) {n : Nat} {a : Str} {h : D} (hd : HdOk fl a h) (hn : lv a + n = 3) :
    ∀ p ∈ (enumD (fl.map frD)).filter (hasH h), isR n (.tup [(p.at 1).at 0, (p.at 1).at 1, builtF (fl.map frD) n (p.at 0)]) ∧ toldR n (.tup [(p.at 1).at 0, (p.at 1).at 1, builtF (fl.map frD) n (p.at 0)]) = .tup [(p.at 1).at 0, (p.at 1).at 1, builtF (fl.map frD) n (p.at 0)] := fun p hp => by
  obtain ⟨hp1, hp2⟩ := List.mem_filter.mp hp
  obtain ⟨i, f, hf, rfl⟩ := enum_fl hp1
  obtain ⟨r, hr, hk, hm, ha⟩ := held_of L ok hd (List.mem_of_getElem? hf) hp2
  have h1 := L.r r hr
  rw [ha, hk] at h1
  cases n with
  | zero => omega
  | succ n =>
    have z := built_rt L ok few (n := n) (a := f.k) (h := .int i) (.inr ⟨i, f, rfl, hf, rfl⟩) (by omega)
    refine ⟨⟨rfl, f.k, f.m, _, rfl, z.1.h⟩, ?_⟩
    show toldR (n + 1) (.tup [.str f.k, .str f.m, builtF (fl.map frD) (n + 1) (.int i)]) = _
    rw [toldR_of rfl, z.2]
    rfl
section
variable {K : PySem.W.Frag} {CK : Addr} {H H' H0 H1 H2 H3 H4 B : Hp} {σ σ2 : L2.St} {X : Cx} {L : Addr}
theorem ev_eqHol {ta tb : TE} {d e : D} (h1 : EvD K CK ta σ H d) (h2 : EvD K CK tb σ H e) (i1 : isHol d) (i2 : isHol e) : Ev (tOp rEq ta tb) σ H (.bl (eqH d e)) := by
  rcases i1 with rfl | ⟨a, rfl⟩
  · rcases i2 with rfl | ⟨b, rfl⟩
    · exact ev_is (ev_op (EvD.n h1) (EvD.n h2) (rv_eq rfl)) (congrArg V.bl (decide_eq_true rfl))
    · exact ev_is (ev_op (EvD.n h1) (EvD.i h2) (rv_eq rfl)) (congrArg V.bl (decide_eq_false (fun z => by cases z)))
  · rcases i2 with rfl | ⟨b, rfl⟩
    · exact ev_is (ev_op (EvD.i h1) (EvD.n h2) (rv_eq rfl)) (congrArg V.bl (decide_eq_false (fun z => by cases z)))
    · exact ev_is (ev_op (EvD.i h1) (EvD.i h2) (rv_eq rfl)) (congrArg V.bl (d_int a b))
theorem hc_mono (e : ExW L H1 H2) : Ex (hid H0 H (cut L H1)) (hid H0 H (cut L H2)) := hid_mono fun a o z => cut_at (fun c => by rw [c, cut_none] at z; cases z) (e _ _ z)
theorem hc_in (e : ExW L H H2) (hL : (H2 L).isSome = true) (e1 : Ex H2 H3) : Ex (hid (hid H0 H (cut L H2)) H2 H3) (hid H0 H (cut L H3)) := fun a o z => by
  have z3 := hid_sub _ _ z
  have gone : hid H0 H (cut L H2) a = none → (H2 a).isSome = true → False := fun y1 y2 => by
    rw [hid_no y1 y2] at z
    cases z
  have aL : a ≠ L := fun c => by
    subst c
    refine gone ?_ hL
    unfold hid
    split
    · rfl
    · exact cut_none
  unfold hid
  rw [if_neg]
  · exact cut_at aL z3
  · rintro ⟨y1, y2⟩
    refine gone (hid_no (by simpa using y1) y2) ?_
    cases g : H a with
    | none => rw [g] at y2; cases y2
    | some u => rw [e _ _ (cut_at aL g)]; rfl
/-- xs.append(e), xs a list at L, known but for L -/
theorem q_push {i : Nat} {ws : List V} {d : D} {te : TE} {tz : TS} {D0 : Ends} (hi : σ[i]? = some (some (.ref L))) (hL : H2 L = some (.lst ws)) (eH : ExW L H H2) (hws : ws.length ≤ 30000) (h : EvD K CK te σ (hid H0 H (cut L H2)) d)
    (k : ∀ v H3, ExW L H2 H3 → H3 L = some (.lst (ws ++ [v])) → Rep K CK (hid H0 H (cut L H3)) d v → tz D0 σ H3) : tSeq (tDrop (tBM K "list" rAppend (tVar i) (tCons te tNil))) tz D0 σ H2 := by
  refine ⟨_, hi, .inl ⟨rfl, ws, sq_of hL⟩, h H2 (fun a o z => cut_sub _ _ (hid_sub _ _ z)) _ fun v H3 e3 r => ⟨L, ws, v, rfl, rfl, e3 _ _ hL, sz_lt (by omega), k v _ (fun a o z => ?_) upd_same ?_⟩⟩
  · have c : a ≠ L := fun c => by rw [c, cut_none] at z; cases z
    rw [upd_ne c]
    exact e3 _ _ (cut_sub _ _ z)
  · rw [cut_upd]
    exact r.ex (hc_in eH (by rw [hL]; rfl) e3)
end
section
variable {P : Program} {w : World} {K : PySem.W.Frag} {mg : Str → Option Value} {base : Heap} {CK : Addr}
theorem scLBuilt : FnScope ["flat", "holder", "some", "at", "one"] ["flat", "holder"] (defScope sLBuilt) := ⟨rfl, rfl, rfl, by decide +kernel, rfl, by decide +kernel, by decide +kernel⟩
abbrev spBuilt (K : PySem.W.Frag) (CK : Addr) (n : Nat) : Sp := spX K CK 2 (fun ds d => ∃ rs lv fl a h, ds = [.lst (fl.map frD), h] ∧ Lvl rs lv ∧ FlOk rs fl ∧ fl.length ≤ 20 ∧ HdOk fl a h ∧ lv a + n = 3 ∧ d = builtF (fl.map frD) (n + 1) h)
def spBuilt' (K : PySem.W.Frag) (CK : Addr) : Nat → Sp
  | 0 => fun _ _ _ _ => False
  | n + 1 => spBuilt K CK n
theorem ok_built_of {n j : Nat} (d : Def K mg "_law_s_built" sLBuilt ["flat", "holder"]) (GB : FnOk P w K mg base CX0 j d.f d.fd ["flat", "holder"] (spBuilt' K CK n)) (N : Nm mg) : FnOk P w K mg base CX0 (j + 1) d.f d.fd ["flat", "holder"] (spBuilt K CK n) := by
  refine d.F.ok scLBuilt (fun vs H Q E h => spX_len h) (fun cdv A outer s H vs Q E hr h => ?_)
  obtain ⟨x, y, dd, v, v2, H0, rfl, e0, r1, r2, ⟨rs, lv, fl, a, h, hx, L, ok, few, hd, hn, rfl⟩, q⟩ := spX2 h
  cases hx
  have hu := hr.units
  have hn3 : n ≤ 3 := by omega
  refine ⟨_, pss_cons (ps_setLc (i := 2) (own := [("at", 3), ("one", 4)]) (g := gUnp K 2 (gCons (gName 3) (gCons (gName 4) gNil))) (tt := tTest (tOp rEq (tOp (rIxLT K) (tVar 4) (tC (.int 2))) (tVar 1)))
        (te := tTup (tCons (tOp (rIxLT K) (tVar 4) (tC (.int 0))) (tCons (tOp (rIxLT K) (tVar 4) (tC (.int 1))) (tCons (tCall (spBuilt' K CK n) [] E0 (tCons (tVar 0) (tCons (tVar 3) tNil))) tNil)))) rfl scLBuilt.nd rfl rfl (sw_true rfl rfl rfl (by decide +kernel))
        (pi_enumS (by rfl) N.enumerate (pa_cons (pv 0) pa_nil)) (blkOk_by (N := ["flat", "holder", "some", "at", "one"]) (sc := defScope sLBuilt) (by decide +kernel))
        (fun _ _ _ _ _ => pg_unp rfl (pgs_cons (pg_name (i := 3) scLBuilt.nd rfl (Or.inl rfl)) (pgs_cons (pg_name (i := 4) scLBuilt.nd rfl (Or.inl rfl)) pgs_nil)))
        (fun _ _ _ _ _ => pts_one (pt_cmpR op_eq (pe_ix (r := rIxLT K) ix_lt (pv 4) pe_int (fun _ _ => rfl)) (pv 1) (nomark _)))
        (fun _ _ _ _ _ => pe_tup (pa_cons (pe_ix (r := rIxLT K) ix_lt (pv 4) pe_int (fun _ _ => rfl)) (pa_cons (pe_ix (r := rIxLT K) ix_lt (pv 4) pe_int (fun _ _ => rfl)) (pa_cons (pe_call GB hr (by rfl) d.m d.F.kp d.b .nil pass0 (pa_cons (pv 0) (pa_cons (pv 3) pa_nil))) pa_nil)))))
    (pss_one (ps_ret (pe_callTy call_tuple_of (by rfl) N.tuple boot_tuple (pa_cons (pe_callB (cr_sortedDt (CK := CK) hu) (by rfl) N.sorted boot_sorted (pa_cons (pv 2) pa_nil)) pa_nil)))), ?_⟩
  have hE := built_each L ok few hd hn
  refine ed_asg (K := K) (CK := CK) (d := .lst (((enumD (fl.map frD)).filter (hasH y)).map fun (p : D) => D.tup [(p.at 1).at 0, (p.at 1).at 1, builtF (fl.map frD) n (p.at 0)])) (ed_lc (f := hasH y) (m := fun (p : D) => D.tup [(p.at 1).at 0, (p.at 1).at 1, builtF (fl.map frD) n (p.at 0)]) (ei_enum (d := .lst (fl.map frD)) (ed_var rfl r1) rfl) (by rw [enumD_len]; show (fl.map frD).length ≤ 30000; rw [List.length_map]; omega) ?_) e0 fun v3 H1 e1 r3 => ?_
  · intro i p z Hz ez hp rz
    have hpm : p ∈ enumD (fl.map frD) := List.mem_of_getElem? hp
    obtain ⟨i2, f, hf, rfl⟩ := enum_fl hpm
    obtain ⟨w1, w2, s1, s2, hg⟩ := eg_unp2 (σ := wipe [some v, some v2, none, none, none] [3, 4]) (i := 3) (j := 4) rz rfl rfl
    refine ⟨_, hg, rfl, et_test (ev_eqHol (e := y) (ed_ix (d := frD f) (j := 2) (ed_var rfl s2) ev_c rfl rfl) (ed_var rfl (r2.ex ez)) (ok.hol (List.mem_of_getElem? hf)) hd.hol), fun hh => ?_⟩
    obtain ⟨r, hr3, hk, hm, ha⟩ := held_of L ok hd (List.mem_of_getElem? hf) hh
    have h1 := L.r r hr3
    rw [ha, hk] at h1
    refine ed_tup (ead_cons (ed_ix (d := frD f) (j := 0) (ed_var rfl s2) ev_c rfl rfl) (ead_cons (ed_ix (d := frD f) (j := 1) (ed_var rfl s2) ev_c rfl rfl) (ead_cons ?_ ead_nil))) (by show (3 : Nat) ≤ 30000; decide)
    cases n with
    | zero => exfalso; omega
    | succ n => exact ed_callX (ds := [.lst (fl.map frD), .int i2]) (ead_cons (ed_var rfl (r1.ex ez)) (ead_cons (ed_var rfl s1) ead_nil)) rfl ⟨rs, lv, fl, f.k, .int i2, rfl, L, ok, few, .inr ⟨i2, f, rfl, hf, rfl⟩, by omega, rfl⟩
  · have so : SortOk (((enumD (fl.map frD)).filter (hasH y)).map fun (p : D) => D.tup [(p.at 1).at 0, (p.at 1).at 1, builtF (fl.map frD) n (p.at 0)]) := by
      have z := told_sortOk (n := n) (ds := ((enumD (fl.map frD)).filter (hasH y)).map fun (p : D) => D.tup [(p.at 1).at 0, (p.at 1).at 1, builtF (fl.map frD) n (p.at 0)]) (by omega) (fun r hr4 => by
        obtain ⟨p, hp, rfl⟩ := List.mem_map.mp hr4
        exact (hE p hp).1)
      rw [List.map_map] at z
      have e : (((enumD (fl.map frD)).filter (hasH y)).map (toldR n ∘ fun (p : D) => D.tup [(p.at 1).at 0, (p.at 1).at 1, builtF (fl.map frD) n (p.at 0)])) = ((enumD (fl.map frD)).filter (hasH y)).map fun (p : D) => D.tup [(p.at 1).at 0, (p.at 1).at 1, builtF (fl.map frD) n (p.at 0)] := List.map_congr_left fun p hp => (hE p hp).2
      rw [e] at z
      exact z
    refine s_retD (K := K) (CK := CK) (H0 := hid H0 H H1) (ed_tupOf (ed_sorted (ed_var (i := 2) rfl r3) so)) hid_sub fun v5 H5 e5 r5 => q v5 H5 (e1.trans e5) ?_
    rw [hid_hid e0 e1] at r5
    exact r5
theorem ok_built (d : Def K mg "_law_s_built" sLBuilt ["flat", "holder"]) (N : Nm mg) : ∀ n, FnOk P w K mg base CX0 (n + 2) d.f d.fd ["flat", "holder"] (spBuilt K CK n)
  | 0 => ok_built_of d (d.F.ok scLBuilt (fun _ _ _ _ h => h.elim) (fun _ _ _ _ _ _ _ _ _ h => h.elim)) N
  | n + 1 => ok_built_of d (ok_built d N n) N
/-! ### _law_s_flat: it puts rows to a list that is passed -/
theorem scLFlat : FnScope ["records", "holder", "found", "kind", "mark", "parts"] ["records", "holder", "found"] (defScope sLFlat) := ⟨rfl, rfl, rfl, by decide +kernel, rfl, by decide +kernel, by decide +kernel⟩
def spFlat (K : PySem.W.Frag) (CK : Addr) (n : Nat) : Sp := fun vs H Q _ => ∃ recs h fl L vr vh ws H0, vs = [vr, vh, V.ref L] ∧ Ex H0 H ∧ H0 L = none ∧ H L = some (.lst ws) ∧ RepL K CK H0 (fl.map frD) ws ∧ Rep K CK H0 recs vr ∧ Rep K CK H0 h vh ∧ isH n recs ∧ (fl.length : Int) + sizeH n recs ≤ 30000 ∧
  ∀ H' ws', ExW L H H' → H' L = some (.lst ws') → RepL K CK (hid H0 H (cut L H')) ((fl ++ flatF n recs h fl.length).map frD) ws' → Q (.ref L) H'
theorem spFlat_len {n : Nat} {H : Hp} {vs : List V} {Q : VK} {E : XK} (h : spFlat K CK n vs H Q E) : vs.length = 3 := by
  obtain ⟨_, _, _, _, _, _, _, _, rfl, _⟩ := h
  rfl
theorem part_size {n : Nat} {d : D} (h : isH (n + 1) d) {i : Nat} {x k m p hh : D} {L : Nat} (hx : d.items[i]? = some x) (hi : x.items = [k, m, p]) : ((flatL2 (flatF n) hh L (d.items.take i)).length : Int) + 1 + sizeH n p ≤ sizeH (n + 1) d := by
  have hsz : ∀ y ∈ d.items, ∀ (k : D) (M : Nat), (flatF n (y.at 2) k M).length = (sizeR n y - 1).toNat := fun y hy k M => by
    obtain ⟨_, k2, m2, p2, hi2, hp2⟩ := h.2.2 y hy
    have x2 : y.at 2 = p2 := by unfold D.at; rw [hi2]; rfl
    have := flat_len (h := k) (L := M) hp2
    have e : sizeR n y = 1 + sizeH n p2 := by unfold sizeR; rw [hi2]
    rw [x2, e]
    omega
  rw [flatL2_len (sz := fun y => (sizeR n y - 1).toNat) fun y hy k M => hsz y (List.mem_of_mem_take hy) k M, sizeH_succ, sum_cast]
  have e1 : ((d.items.take i).map fun y => ((1 + (sizeR n y - 1).toNat : Nat) : Int)) = (d.items.take i).map (sizeR n) := List.map_congr_left fun y hy => by
    obtain ⟨_, k2, m2, p2, hi2, hp2⟩ := h.2.2 y (List.mem_of_mem_take hy)
    have e : sizeR n y = 1 + sizeH n p2 := by unfold sizeR; rw [hi2]
    have := sizeN_nonneg n p2
    omega
  rw [e1]
  have ex : sizeR n x = 1 + sizeH n p := by unfold sizeR; rw [hi]
  have e2 : (d.items.map (sizeR n)).sum = ((d.items.take i).map (sizeR n)).sum + (sizeR n x + ((d.items.drop (i + 1)).map (sizeR n)).sum) := by
    have : d.items = d.items.take i ++ (x :: d.items.drop (i + 1)) := by
      obtain ⟨hi1, hi2⟩ := List.getElem?_eq_some_iff.mp hx
      rw [← hi2, List.getElem_cons_drop, List.take_append_drop]
    calc (d.items.map (sizeR n)).sum = ((d.items.take i ++ (x :: d.items.drop (i + 1))).map (sizeR n)).sum := by rw [← this]
      _ = _ := by rw [List.map_append, List.sum_append, List.map_cons, List.sum_cons]
  have e3 : 0 ≤ ((d.items.drop (i + 1)).map (sizeR n)).sum := by
    have : ∀ xs : List D, 0 ≤ (xs.map (sizeR n)).sum := fun xs => by
      induction xs with
      | nil => exact Int.le_refl _
      | cons y xs ih =>
        rw [List.map_cons, List.sum_cons]
        have : 0 ≤ sizeR n y := by
          unfold sizeR
          split
          · have := sizeN_nonneg n (by assumption); omega
          · exact Int.le_refl _
        omega
    exact this _
  rw [e2, ex]
  omega
theorem hc_in2 {H0 H H5 H6 : Hp} {L : Addr} (e : ExW L H H5) : Ex (hid (hid H0 H (cut L H5)) H5 (cut L H6)) (hid H0 H (cut L H6)) := fun a o z => by
  have z6 := hid_sub _ _ z
  have aL : a ≠ L := fun c => by rw [c, cut_none] at z6; cases z6
  unfold hid
  rw [if_neg]
  · exact z6
  · rintro ⟨y1, y2⟩
    rw [hid_no (hid_no (by simpa using y1) y2) (by
      cases g : H a with
      | none => rw [g] at y2; cases y2
      | some u => rw [e _ _ (cut_at aL g)]; rfl)] at z
    cases z
theorem ev_lenW {i : Nat} {xs : List V} {H : Hp} {σ : L2.St} {L : Addr} (hi : σ[i]? = some (some (.ref L))) (hL : H L = some (.lst xs)) : Ev (tCB (rLenS K) (tCons (tVar i) tNil)) σ H (.int (xs.length : Nat)) := fun H1 e Q q => ⟨_, hi, L, xs, rfl, .inl (sq_of (e _ _ hL)), q H1 (Ex.refl _)⟩
theorem ev_subI {ta tb : TE} {a b : Int} {H : Hp} {σ : L2.St} (h1 : Ev ta σ H (.int a)) (h2 : Ev tb σ H (.int b)) : Ev (tOp (rI0 fun i j => .int (i - j)) ta tb) σ H (.int (a - b)) :=
  ev_op h1 h2 fun H1 _ _ q => ⟨a, b, rfl, rfl, q H1 (Ex.refl H1)⟩
theorem ok_flat_of {n j : Nat} (d : Def K mg "_law_s_flat" sLFlat ["records", "holder", "found"]) (GF : FnOk P w K mg base CX0 j d.f d.fd ["records", "holder", "found"] (spFlat K CK n)) (N : Nm mg) : FnOk P w K mg base CX0 (j + 1) d.f d.fd ["records", "holder", "found"] (spFlat K CK (n + 1)) := by
  refine d.F.ok scLFlat (fun vs H Q E h => spFlat_len h) (fun cdv A outer s H vs Q E hr h => ?_)
  obtain ⟨recs, h, fl, L, vr, vh, ws, H0, rfl, e0, hL0, hL, rws, rr, rh, hH, hsz, q⟩ := h
  refine ⟨_, pss_cons (ps_for PassesOwn.never rfl (pi_seq (pv 0)) (pg_unp rfl (pgs_cons (pg_name (i := 3) scLFlat.nd rfl (.inl rfl)) (pgs_cons (pg_name (i := 4) scLFlat.nd rfl (.inl rfl)) (pgs_cons (pg_name (i := 5) scLFlat.nd rfl (.inl rfl)) pgs_nil))))
      (pss_cons (ps_expr (pe_bm PySem.F.plainAttrs_list PySem.F.slot_list_append PySem.F.type_list_append mt_append (pv 2) (pa_cons (pe_tup (pa_cons (pv 3) (pa_cons (pv 4) (pa_cons (pv 1) pa_nil)))) pa_nil)))
      (pss_one (ps_expr (pe_call GF hr (by rfl) d.m d.F.kp d.b .nil pass0 (pa_cons (pv 5) (pa_cons (pe_op op_sub (pe_callB call_len_seq (by rfl) N.len boot_len (pa_cons (pv 2) pa_nil)) pe_int) (pa_cons (pv 2) pa_nil))))))))
    (pss_one (ps_ret (pv 2))), ?_⟩
  refine q_forI (K := K) (CK := CK) (H0 := H0) (ds := recs.items) (ei_seq (ed_var rfl rr) hH.1) e0 (fun B i σ' H' => (∃ a b c, σ' = [some vr, some vh, some (.ref L), a, b, c]) ∧ (∀ p, H0 p = none → (H p).isSome = true → B p = none) ∧ Ex B H' ∧ ExW L H H' ∧
    ∃ ws', H' L = some (.lst ws') ∧ RepL K CK (hid H0 H (cut L H')) ((fl ++ flatL2 (flatF n) h fl.length (recs.items.take i)).map frD) ws') ?_ ?_ ?_ ?_
  · intro H2 e2
    refine ⟨⟨_, _, _, rfl⟩, fun p h1 h2 => hid_no h1 h2, hid_sub, .of e2, ws, e2 _ _ hL, ?_⟩
    show RepL K CK _ ((fl ++ []).map frD) ws
    rw [List.append_nil]
    exact rws.ex (known_hid e0 fun a o z => cut_at (fun c => by rw [c, hL0] at z; cases z) (e2 _ _ (e0 _ _ z)))
  · rintro B i σ' H' ⟨_, _, h3, _⟩
    exact h3
  · rintro B B' i x xv σ' Ha Hb eB hx ⟨⟨a, b, c, rfl⟩, bn, bH, eW, ws', hLa, hr'⟩ eab bb' b'b bfr rx
    obtain ⟨hxL, k, m, p, hi, hp⟩ := hH.2.2 x (List.mem_of_getElem? hx)
    obtain ⟨w1, w2, w3, s1, s2, s3, hg⟩ := eg_unp3 (σ := [some vr, some vh, some (.ref L), a, b, c]) (i := 3) (j := 4) (k := 5) rx hxL hi
    refine hg Hb b'b _ fun H3 e3 => ?_
    have hBL : B L = none := bn L hL0 (by rw [hL]; rfl)
    have hB'L : B' L = none := bfr L hBL (by rw [hLa]; rfl)
    have eW3 : ExW L H H3 := eW.trans (.of (eab.trans e3))
    have hL3 : H3 L = some (.lst ws') := e3 _ _ (eab _ _ hLa)
    have lift : Ex B' (hid H0 H (cut L H3)) := fun a2 o z => by
      have aL : a2 ≠ L := fun c => by rw [c, hB'L] at z; cases z
      unfold hid
      rw [if_neg]
      · exact cut_at aL (e3 _ _ (b'b _ _ z))
      · rintro ⟨y1, y2⟩
        rw [bfr a2 (bn a2 (by simpa using y1) y2) (by
          cases g : H a2 with
          | none => rw [g] at y2; cases y2
          | some u => rw [eW _ _ (cut_at aL g)]; rfl)] at z
        cases z
    have lift0 : Ex H0 (hid H0 H (cut L H3)) := known_hid e0 fun a2 o z => cut_at (fun c => by rw [c, hL0] at z; cases z) (eW3.known e0 hL0 _ _ z)
    have ps := part_size (hh := h) (L := fl.length) hH hx hi
    have hlen : ws'.length = fl.length + (flatL2 (flatF n) h fl.length (recs.items.take i)).length := by rw [hr'.len, List.length_map, List.length_append]
    have hp0 := sizeN_nonneg n p
    refine q_push (K := K) (CK := CK) (H0 := H0) (H := H) (L := L) (ws := ws') (d := frD ⟨k, m, h⟩) rfl hL3 eW3 (by omega) (ed_tup (ead_cons (ed_var rfl (s1.ex lift)) (ead_cons (ed_var rfl (s2.ex lift)) (ead_cons (ed_var rfl (rh.ex lift0)) ead_nil))) (by show (3 : Nat) ≤ 30000; decide)) fun v H4 e4 hL4 r4 => ?_
    refine ⟨_, rfl, ev_subI (ev_lenW (K := K) (i := 2) (L := L) rfl hL4) ev_c H4 (Ex.refl _) _ fun H5 e5 => ⟨_, rfl, ?_⟩⟩
    have e35 : ExW L H3 H5 := e4.trans (.of e5)
    have eW5 : ExW L H H5 := eW3.trans e35
    have hfl : ((fl ++ flatL2 (flatF n) h fl.length (recs.items.take i)) ++ [(⟨k, m, h⟩ : FRow)]).length = ws'.length + 1 := by rw [List.length_append, List.length_append, ← hlen]; rfl
    have hint : (((ws' ++ [v]).length : Nat) : Int) - 1 = ((fl.length + (flatL2 (flatF n) h fl.length (recs.items.take i)).length : Nat) : Int) := by
      rw [List.length_append, ← hlen]
      show ((ws'.length + 1 : Nat) : Int) - 1 = _
      omega
    refine ⟨p, .int ((fl.length + (flatL2 (flatF n) h fl.length (recs.items.take i)).length : Nat) : Int), (fl ++ flatL2 (flatF n) h fl.length (recs.items.take i)) ++ [⟨k, m, h⟩], L, w3, _, ws' ++ [v], hid H0 H (cut L H5), rfl, fun a2 o z => cut_sub _ _ (hid_sub _ _ z), ?_, e5 _ _ hL4, ?_, ?_, ?_, hp, ?_, fun H6 ws6 e6 hL6 r6 => ?_⟩
    · unfold hid
      split
      · rfl
      · exact cut_none
    · rw [List.map_append]
      exact RepL.app (RepL.ex (hc_mono ((ExW.of (eab.trans e3)).trans e35)) hr') ⟨v, [], rfl, r4.ex (hc_mono (.of e5)), rfl⟩
    · exact (s3.ex lift).ex (hc_mono e35)
    · exact congrArg V.int hint
    · rw [hfl, hlen]
      omega
    · refine ⟨⟨_, _, _, rfl⟩, bn, ?_, eW5.trans e6, ws6, hL6, ?_⟩
      · exact ((ExW.of (eab.trans e3)).trans (e35.trans e6)).known bH hBL
      · have z := RepL.ex (hc_in2 (H0 := H0) (H6 := H6) eW5) r6
        rw [take_more hx, flatL2_snoc]
        have x0 : (x.at 0).strOf = k := by unfold D.at; rw [hi]; rfl
        have x1 : (x.at 1).strOf = m := by unfold D.at; rw [hi]; rfl
        have x2 : x.at 2 = p := by unfold D.at; rw [hi]; rfl
        rw [x0, x1, x2]
        rw [hfl, hlen, List.append_assoc, List.append_assoc] at z
        exact z
  · rintro B σ' H' eB ⟨⟨a, b, c, rfl⟩, bn, bH, eW, ws', hLa, hr'⟩
    rw [List.take_length] at hr'
    exact ⟨_, rfl, q H' ws' eW hLa hr'⟩
theorem ok_flat (d : Def K mg "_law_s_flat" sLFlat ["records", "holder", "found"]) (N : Nm mg) : ∀ n, FnOk P w K mg base CX0 (n + 1) d.f d.fd ["records", "holder", "found"] (spFlat K CK n)
  | 0 => d.F.ok scLFlat (fun vs H Q E h => spFlat_len h) (fun cdv A outer s H vs Q E hr h => by
      obtain ⟨_, _, _, _, _, _, _, _, _, _, _, _, _, _, _, hH, _⟩ := h
      exact hH.elim)
  | n + 1 => ok_flat_of d (ok_flat d N n) N
end
end Any
set_option Elab.async false
set_option linter.all false
set_option maxRecDepth 100000
set_option maxHeartbeats 2000000
namespace Any
open PySem PySem.Spec PyProof.Rows L2 Evl StX
abbrev sLFewer : Stmt := topS 56
abbrev sLMarked : Stmt := topS 57
/-- a stand that the law built: of right kinds, told, at most M records -/
structure Stn (rs : List Row) (M : Nat) (d : D) : Prop where
  rt : RtH rs 4 Str.empty d
  told : toldH 4 d = d
  sz : sizeH 4 d ≤ (M : Int)
def flS (s : D) : List FRow := flatF 4 s .non 0
theorem Stn.len {rs : List Row} {M : Nat} {s : D} (h : Stn rs M s) : (flS s).length ≤ M := by
  have := flat_len (h := .non) (L := 0) h.rt.h
  have := h.sz
  unfold flS
  omega
theorem Stn.ok {rs : List Row} {M : Nat} {s : D} (h : Stn rs M s) : FlOk rs (flS s) := by
  have := flat_ok (rs := rs) (pre := []) (h := .non) (fun f hf => by cases hf) (.inl ⟨rfl, rfl⟩) h.rt
  exact this
theorem stn_built {rs : List Row} {lv : Str → Nat} {fl : List FRow} {M : Nat} (L : Lvl rs lv) (ok : FlOk rs fl) (hM : M ≤ 20) (hl : fl.length ≤ M) : Stn rs M (builtF (fl.map frD) 4 .non) := by
  have hd : HdOk fl Str.empty .non := .inl ⟨rfl, rfl⟩
  have hn : lv Str.empty + 3 = 3 := by rw [L.e]
  have z := built_rt L ok (by omega) hd hn
  have s := built_size L ok hd hn
  have s' : sizeH 4 (builtF (fl.map frD) 4 .non) ≤ (fl.length : Int) := s
  exact ⟨z.1, z.2, by omega⟩
theorem FlOk.like {rs : List Row} (ko : KOk rs) {fl gl : List FRow} (o : FlOk rs fl) (hl : gl.length = fl.length) (h : ∀ (i : Nat) (g f : FRow), gl[i]? = some g → fl[i]? = some f → g.k = f.k ∧ (g.m = f.m ∨ ∃ r ∈ rs, r.kind = f.k ∧ g.m ∈ r.marks) ∧ (g.h = f.h ∨ g.h = .int (-1))) : FlOk rs gl := fun g hg => by
  have hd : ∀ {a : Str} {x : D}, HdOk fl a x → HdOk gl a x := fun {a x} z => by
    rcases z with z | ⟨i, f, h1, h2, h3⟩
    · exact .inl z
    · have hi := (List.getElem?_eq_some_iff.mp h2).1
      have e : gl[i]? = some (gl[i]'(by omega)) := List.getElem?_eq_getElem _
      exact .inr ⟨i, _, h1, e, by rw [(h i _ f e h2).1, h3]⟩
  obtain ⟨i, hi⟩ := List.mem_iff_getElem?.mp hg
  have hil := (List.getElem?_eq_some_iff.mp hi).1
  have e : fl[i]? = some (fl[i]'(by omega)) := List.getElem?_eq_getElem _
  obtain ⟨h1, h2, h3⟩ := h i g _ hi e
  obtain ⟨r, hr, hk, hm, hh⟩ := o _ (List.mem_of_getElem? e)
  refine ⟨r, hr, by rw [hk, h1], ?_, ?_⟩
  · rcases h2 with h2 | ⟨s, hs, h4, h5⟩
    · rw [h2]; exact hm
    · rw [ko.inj hr hs (by rw [hk, h4])]; exact h5
  · rcases h3 with h3 | h3
    · rw [h3]; exact hh.imp hd fun z => z
    · exact .inr h3
def fewF (at_ : Int) (fl : List FRow) : List FRow := fl.mapIdx fun i f => if ((i : Nat) : Int) = at_ then ⟨f.k, f.m, .int (-1)⟩ else f
theorem few_len (at_ : Int) (fl : List FRow) : (fewF at_ fl).length = fl.length := by unfold fewF; rw [List.length_mapIdx]
theorem few_ok {rs : List Row} (ko : KOk rs) {fl : List FRow} (o : FlOk rs fl) (at_ : Int) : FlOk rs (fewF at_ fl) := o.like ko (few_len _ _) fun i g f hg hf => by
  unfold fewF at hg
  rw [List.getElem?_mapIdx, hf] at hg
  cases hg
  show (if ((i : Nat) : Int) = at_ then (⟨f.k, f.m, .int (-1)⟩ : FRow) else f).k = f.k ∧ _
  split
  · exact ⟨rfl, .inl rfl, .inr rfl⟩
  · exact ⟨rfl, .inl rfl, .inl rfl⟩
theorem few_enum (at_ : Int) (fl : List FRow) : ((enumD (fl.map frD)).map fun p => if p.at 0 |> (fun x => match x with | .int i => decide (i = at_) | _ => false) then D.tup [(p.at 1).at 0, (p.at 1).at 1, .int (-1)] else p.at 1) = (fewF at_ fl).map frD := by
  refine List.ext_getElem? fun i => ?_
  unfold enumD fewF
  rw [List.getElem?_map, List.getElem?_mapIdx, List.getElem?_map, List.getElem?_map, List.getElem?_mapIdx]
  cases fl[i]? with
  | none => rfl
  | some f =>
    show some _ = some _
    congr 1
    show (if decide (((i : Nat) : Int) = at_) = true then D.tup [.str f.k, .str f.m, .int (-1)] else frD f) = frD (if ((i : Nat) : Int) = at_ then (⟨f.k, f.m, .int (-1)⟩ : FRow) else f)
    by_cases c : ((i : Nat) : Int) = at_
    · rw [if_pos (decide_eq_true c), if_pos c]; rfl
    · rw [if_neg (by simpa using c), if_neg c]
section
variable {K : PySem.W.Frag} {CK : Addr} {H H' H0 H1 H2 H3 H4 B : Hp} {σ σ2 : L2.St} {X : Cx} {W L : Addr} {m m' m1 k : Nat}
/-- tuples stay -/
def ExT (H H' : Hp) : Prop := ∀ a xs, H a = some (.tup xs) → H' a = some (.tup xs)
theorem rep_fr (e : ExT H H') {f : FRow} {v : V} (hh : isHol f.h) (r : Rep K CK H (frD f) v) : Rep K CK H' (frD f) v := by
  obtain ⟨a, vs, rfl, h1, hl, h2⟩ := r
  obtain ⟨v1, v2, v3, rfl, r1, r2, r3⟩ := RepL.three h2
  refine ⟨a, _, rfl, e _ _ h1, hl, v1, _, rfl, r1, v2, _, rfl, r2, v3, _, rfl, ?_, rfl⟩
  rcases hh with hh | ⟨i, hh⟩
  · rw [hh] at r3 ⊢; exact r3
  · rw [hh] at r3 ⊢; exact r3
theorem repL_fr (e : ExT H H') : ∀ {fl : List FRow} {vs : List V}, (∀ f ∈ fl, isHol f.h) → RepL K CK H (fl.map frD) vs → RepL K CK H' (fl.map frD) vs
  | [], _, _, h => h
  | f :: fl, _, hh, ⟨v, r, h1, h2, h3⟩ => ⟨v, r, h1, rep_fr e (hh f List.mem_cons_self) h2, repL_fr e (fun g hg => hh g (List.mem_cons_of_mem _ hg)) h3⟩
theorem ed_flat {n : Nat} {ta : TE} {d : D} {E : XK} (h : EvD K CK ta σ B d) (hH : isH n d) (hs : sizeH n d ≤ 30000) : EvD K CK (tCall (spFlat K CK n) [] E (tCons ta (tCons (tC .non) (tCons (tLst tNil) tNil)))) σ B (.lst ((flatF n d .non 0).map frD)) := fun H1 e Q q =>
  h H1 e _ fun v H2 e2 r => ⟨by show (0 : Nat) ≤ sizeLine; exact Nat.zero_le _, fun L hLn => by
      have hno : hid B H1 H2 L = none := by
        cases c : hid B H1 H2 L with
        | none => rfl
        | some o => rw [hid_sub _ _ c] at hLn; cases hLn
      refine ⟨d, .non, [], L, v, .non, [], hid B H1 H2, rfl, hid_sub.trans (Ex.new hLn), hno, upd_same, rfl, r, rfl, hH, by show (0 : Int) + _ ≤ _; omega, fun H' ws' e3 hL' r' => ?_⟩
      have h1L : H1 L = none := ex_none e2 hLn
      have hl : ((flatF n d .non 0).map frD).length ≤ 30000 := by
        rw [List.length_map]
        have := flat_len (h := .non) (L := 0) hH
        omega
      refine q (.ref L) H' (fun a o z => ?_) ⟨L, ws', rfl, hid_at h1L hL', hl, RepL.ex (fun a o z => ?_) r'⟩
      · have aL : a ≠ L := fun c => by rw [c, h1L] at z; cases z
        exact e3 _ _ (cut_at aL (by rw [upd_ne aL]; exact e2 _ _ z))
      · have z6 := hid_sub _ _ z
        have aL : a ≠ L := fun c => by rw [c, cut_none] at z6; cases z6
        unfold hid
        rw [if_neg]
        · exact cut_sub _ _ z6
        · rintro ⟨y1, y2⟩
          rw [hid_no (hid_no (by simpa using y1) y2) (by
            rw [upd_ne aL]
            cases g : H1 a with
            | none => rw [g] at y2; cases y2
            | some u => rw [e2 _ _ g]; rfl)] at z
          cases z⟩
/-- flat = _law_s_flat(stand, None, []): a list of its own -/
theorem q_flat {n i : Nat} {ta : TE} {d : D} {E : XK} {tz : TS} {D0 : Ends} (h : EvD K CK ta σ H0 d) (e0 : Ex H0 H) (hH : isH n d) (hs : sizeH n d ≤ 30000)
    (k : ∀ L ws H1, H L = none → Ex H H1 → H1 L = some (.lst ws) → RepL K CK (hid H0 H (cut L H1)) ((flatF n d .non 0).map frD) ws → tz D0 (σ.set i (some (.ref L))) H1) :
    tSeq (tAsg (tCall (spFlat K CK n) [] E (tCons ta (tCons (tC .non) (tCons (tLst tNil) tNil)))) (gName i)) tz D0 σ H :=
  h H e0 _ fun v H2 e2 r => ⟨by show (0 : Nat) ≤ sizeLine; exact Nat.zero_le _, fun L hLn => by
      have hno : hid H0 H H2 L = none := by
        cases c : hid H0 H H2 L with
        | none => rfl
        | some o => rw [hid_sub _ _ c] at hLn; cases hLn
      refine ⟨d, .non, [], L, v, .non, [], hid H0 H H2, rfl, hid_sub.trans (Ex.new hLn), hno, upd_same, rfl, r, rfl, hH, by show (0 : Int) + _ ≤ _; omega, fun H' ws' e3 hL' r' => ?_⟩
      have h1L : H L = none := ex_none e2 hLn
      refine k L ws' H' h1L (fun a o z => ?_) hL' (RepL.ex (fun a o z => ?_) r')
      · have aL : a ≠ L := fun c => by rw [c, h1L] at z; cases z
        exact e3 _ _ (cut_at aL (by rw [upd_ne aL]; exact e2 _ _ z))
      · have z6 := hid_sub _ _ z
        have aL : a ≠ L := fun c => by rw [c, cut_none] at z6; cases z6
        unfold hid
        rw [if_neg]
        · exact z6
        · rintro ⟨y1, y2⟩
          rw [hid_no (hid_no (by simpa using y1) y2) (by
            rw [upd_ne aL]
            cases g : H a with
            | none => rw [g] at y2; cases y2
            | some u => rw [e2 _ _ g]; rfl)] at z
          cases z⟩
theorem ev_negI {ta : TE} {a : Int} (h : Ev ta σ H (.int a)) : Ev (tUn (rU fun i => .int (-i)) ta) σ H (.int (-a)) := fun H1 e Q q => h H1 e _ fun H2 e2 => ⟨a, rfl, q H2 e2⟩
theorem etw_of {tt : TT} {b : Bool} (h : EvT tt σ B b) : EvTW W m m tt σ B (fun x => x = b) := fun H1 e hB hw Q q => h H1 e _ fun H2 e2 => q b H2 rfl (.of e2) (hw.ex e2)
theorem EvD.wl {te : TE} {d : D} (h : EvD K CK te σ B d) (hk : m' ≤ m) : EvW K CK W m m' te σ B (fun e => e = d) := fun H1 e hb hw Q q => h H1 e Q fun v H2 e2 r => q d v H2 rfl (.of e2) ((hw.ex e2).less hk) r
theorem ew_draw {i : Nat} {n : Int} {ta : TE} {E : XK} (hi : σ[i]? = some (some (V.ref W))) (h : Ev ta σ B (.int n)) (h0 : 0 < n) (h1 : n < 1000000) : EvW K CK W (m + 1) m (tCall spDraw [] E (tCons (tVar i) (tCons ta tNil))) σ B (fun d => ∃ j : Int, d = .int j ∧ 0 ≤ j ∧ j < n) := fun H1 e hB hw Q q =>
  ⟨_, hi, h H1 e _ fun H2 e2 => ⟨W, m, n, rfl, hw.ex e2, h0, h1, fun j H3 j0 j1 hw3 e3 => q (.int j) (.int j) H3 ⟨j, rfl, j0, j1⟩ ((ExW.of e2).trans e3) hw3 rfl⟩⟩
end
section
variable {P : Program} {w : World} {K : PySem.W.Frag} {mg : Str → Option Value} {base : Heap} {CK : Addr}
theorem scLFewer : FnScope ["well", "stand", "flat", "at", "index", "one"] ["well", "stand"] (defScope sLFewer) := ⟨rfl, rfl, rfl, by decide +kernel, rfl, by decide +kernel, by decide +kernel⟩
abbrev spFewer (K : PySem.W.Frag) (CK : Addr) (rs : List Row) (M : Nat) : Sp := spW K CK 1 1 (fun ds d => Stn rs M d) (fun ds => ∃ s, ds = [s] ∧ Stn rs M s)
theorem ok_fewer {rs : List Row} {lv : Str → Nat} {M : Nat} (hM : M ≤ 20) (L : Lvl rs lv) (ko : KOk rs) (d : Def K mg "_law_s_fewer" sLFewer ["well", "stand"]) (dF : Def K mg "_law_s_flat" sLFlat ["records", "holder", "found"]) (dB : Def K mg "_law_s_built" sLBuilt ["flat", "holder"]) (dD : Def K mg "_law_draw" sLDraw ["well", "many"]) (N : Nm mg) :
    FnOk P w K mg base CX0 6 d.f d.fd ["well", "stand"] (spFewer K CK rs M) := by
  have GF : FnOk P w K mg base CX0 5 dF.f dF.fd ["records", "holder", "found"] (spFlat K CK 4) := ok_flat dF N 4
  have GB : FnOk P w K mg base CX0 5 dB.f dB.fd ["flat", "holder"] (spBuilt K CK 3) := ok_built dB N 3
  have GD : FnOk P w K mg base CX0 5 dD.f dD.fd ["well", "many"] spDraw := (ok_draw dD N).mono (by omega)
  refine d.F.ok scLFewer (fun vs H Q E h => spW_len h) (fun cdv A outer s H vs Q E hr h => ?_)
  obtain ⟨W, m, ws, ds, H0, rfl, _, e0, hw0, hw, hr0, ⟨sm, rfl, hS⟩, q⟩ := h
  obtain ⟨v, rfl, r⟩ := RepL.one hr0
  have hu := hr.units
  refine ⟨_, pss_cons (ps_set (i := 2) scLFewer.nd rfl (.inl rfl) (pe_call GF hr (by rfl) dF.m dF.F.kp dF.b .nil pass0 (pa_cons (pv 1) (pa_cons pe_non (pa_cons (pe_lst pa_nil) pa_nil)))))
    (pss_cons (ps_set (i := 3) scLFewer.nd rfl (.inr rfl) (pe_ifExp (pt_cmpR (op_neN hu) (pv 2) (pe_lst pa_nil) (nomark _)) (pe_call GD hr (by rfl) dD.m dD.F.kp dD.b .nil pass0 (pa_cons (pv 0) (pa_cons (pe_callB call_len_seq (by rfl) N.len boot_len (pa_cons (pv 2) pa_nil)) pa_nil))) pe_int))
    (pss_one (ps_ret (pe_call GB hr (by rfl) dB.m dB.F.kp dB.b .nil pass0 (pa_cons
      (pe_lc (own := [("index", 4), ("one", 5)]) (g := gUnp K 2 (gCons (gName 4) (gCons (gName 5) gNil))) (tt := tYes) (te := tIf (tTest (tOp rNe (tVar 4) (tVar 3))) (tVar 5) (tTup (tCons (tOp (rIxLT K) (tVar 5) (tC (.int 0))) (tCons (tOp (rIxLT K) (tVar 5) (tC (.int 1))) (tCons (tUn (rU fun i => .int (-i)) (tC (.int 1))) tNil))))) rfl scLFewer.nd
        (pi_enumS (by rfl) N.enumerate (pa_cons (pv 2) pa_nil)) (blkOk_by (N := ["well", "stand", "flat", "at", "index", "one"]) (sc := defScope sLFewer) (by decide +kernel))
        (fun _ _ _ _ _ => pg_unp rfl (pgs_cons (pg_name (i := 4) scLFewer.nd rfl (Or.inl rfl)) (pgs_cons (pg_name (i := 5) scLFewer.nd rfl (Or.inl rfl)) pgs_nil))) (fun _ _ _ _ _ => pts_nil)
        (fun _ _ _ _ _ => pe_ifExp (pt_cmpR op_ne (pv 4) (pv 3) (nomark _)) (pv 5) (pe_tup (pa_cons (pe_ix (r := rIxLT K) ix_lt (pv 5) pe_int (fun _ _ => rfl)) (pa_cons (pe_ix (r := rIxLT K) ix_lt (pv 5) pe_int (fun _ _ => rfl)) (pa_cons (pe_un un_neg pe_int) pa_nil))))))
      (pa_cons pe_non pa_nil)))))), ?_⟩
  have hsz : sizeH 4 sm ≤ 30000 := by have := hS.sz; omega
  have hlen := hS.len
  refine ed_asg (K := K) (CK := CK) (d := .lst ((flS sm).map frD)) (ed_flat (ed_var rfl r) hS.rt.h hsz) e0 fun vF H1 e1 rF => ?_
  have bW : hid H0 H H1 W = none := hid_no hw0 hw.some
  refine q_setW (K := K) (CK := CK) (W := W) (m := m + 1) (m' := m) (B := hid H0 H H1) (R := fun d => ∃ j : Int, d = .int j)
    (ew_if (etw_of (et_test (ev_neN (ed_var (i := 2) rfl rF) (ed_lst ead_nil (by show (0 : Nat) ≤ 30000; decide))))) (fun hb => EvW.imp (ew_draw rfl (ev_lenD (ed_var (i := 2) rfl rF) rfl) ?_ ?_) fun d ⟨j, h, _⟩ => ⟨j, h⟩) (fun _ => EvW.imp (EvD.wl ed_int (by omega)) fun d h => ⟨0, h⟩)) hid_sub bW (hw.ex e1) fun dA vA H2 ⟨j, hdA⟩ e2 hw2 rA => ?_
  · have : (!((flS sm).map frD).isEmpty) = true := by simpa using hb.symm
    cases c : (flS sm).map frD with
    | nil => rw [c] at this; cases this
    | cons x xs => show (0 : Int) < ((x :: xs).length : Nat); rw [List.length_cons]; omega
  · show (((flS sm).map frD).length : Int) < 1000000
    rw [List.length_map]
    omega
  subst hdA
  obtain rfl := rep_int rA
  have exB : Ex (hid H0 H H1) H2 := e2.known hid_sub bW
  have eW2 : ExW W H H2 := (ExW.of e1).trans e2
  refine s_retD (K := K) (CK := CK) (H0 := hid H0 H H1) (d := builtF ((fewF j (flS sm)).map frD) 4 .non) (ed_callX (ds := [.lst ((fewF j (flS sm)).map frD), .non]) (ead_cons ?_ (ead_cons ed_non ead_nil)) rfl
    ⟨rs, lv, fewF j (flS sm), Str.empty, .non, rfl, L, few_ok ko hS.ok j, by rw [few_len]; omega, .inl ⟨rfl, rfl⟩, by rw [L.e], rfl⟩) exB fun v5 H5 e5 r5 => ?_
  · have z := ed_map (K := K) (CK := CK) (H := hid H0 H H1) (wi := iEnumS K (tCons (tVar 2) tNil)) (g := gUnp K 2 (gCons (gName 4) (gCons (gName 5) gNil))) (te := tIf (tTest (tOp rNe (tVar 4) (tVar 3))) (tVar 5) (tTup (tCons (tOp (rIxLT K) (tVar 5) (tC (.int 0))) (tCons (tOp (rIxLT K) (tVar 5) (tC (.int 1))) (tCons (tUn (rU fun i => .int (-i)) (tC (.int 1))) tNil))))) (vs := [4, 5])
      (σ := [some (.ref W), some v, some vF, some (.int j), none, none]) (ds := enumD ((flS sm).map frD)) (m := fun p => if p.at 0 |> (fun x => match x with | .int i => decide (i = j) | _ => false) then D.tup [(p.at 1).at 0, (p.at 1).at 1, .int (-1)] else p.at 1) (ei_enum (d := .lst ((flS sm).map frD)) (ed_var rfl rF) rfl) (by rw [enumD_len, List.length_map]; omega) (fun p z Hz ez hp rz => by
        obtain ⟨i2, f, hf, rfl⟩ := enum_fl hp
        obtain ⟨w1, w2, s1, s2, hg⟩ := eg_unp2 (σ := [some (.ref W), some v, some vF, some (.int j), none, none]) (i := 4) (j := 5) rz rfl rfl
        obtain rfl := rep_int s1
        refine ⟨_, hg, rfl, ?_⟩
        show EvD K CK _ _ Hz (if decide (((i2 : Nat) : Int) = j) = true then D.tup [.str f.k, .str f.m, .int (-1)] else frD f)
        refine ed_if (et_test (ev_neI (a := (i2 : Nat)) (b := j) (ev_var rfl) (ev_var rfl))) (fun hb => ?_) (fun hb => ?_)
        · rw [if_neg (by simpa using hb)]
          exact ed_var rfl s2
        · rw [if_pos (by simpa using hb)]
          refine ed_tup (ead_cons (ed_ix (d := frD f) (j := 0) (ed_var rfl s2) ev_c rfl rfl) (ead_cons (ed_ix (d := frD f) (j := 1) (ed_var rfl s2) ev_c rfl rfl) (ead_cons (Ev.d (ev_negI ev_c) rfl) ead_nil))) (by show (3 : Nat) ≤ 30000; decide))
    rw [few_enum] at z
    exact z
  · refine q _ v5 H5 (stn_built L (few_ok ko hS.ok j) hM (by rw [few_len]; exact hlen)) (eW2.trans (.of e5)) (hw2.ex e5) (r5.ex (hid_outW (fun a h1 h2 => hid_no h1 h2) eW2 hw2.some))
end
end Any
set_option Elab.async false
set_option linter.all false
set_option maxRecDepth 100000
set_option maxHeartbeats 2000000
namespace Any
open PySem PySem.Spec PyProof.Rows L2 Evl StX
abbrev sLGrown : Stmt := topS 53
abbrev sLStand : Stmt := topS 54
abbrev sLMore : Stmt := topS 55
theorem map_set {f : FRow} : ∀ (fl : List FRow) (i : Nat), (fl.set i f).map frD = (fl.map frD).set i (frD f)
  | [], _ => rfl
  | _ :: _, 0 => rfl
  | g :: fl, i + 1 => congrArg (frD g :: ·) (map_set fl i)
theorem set_ok {rs : List Row} (ko : KOk rs) {fl : List FRow} (o : FlOk rs fl) {i : Nat} {f : FRow} {r : Row} {m : Str} (hf : fl[i]? = some f) (hr : r ∈ rs) (hk : r.kind = f.k) (hm : m ∈ r.marks) : FlOk rs (fl.set i ⟨f.k, m, f.h⟩) := o.like ko List.length_set fun j g f2 hg hf2 => by
  rw [List.getElem?_set] at hg
  split at hg
  · rename_i c
    subst c
    rw [if_pos (List.getElem?_eq_some_iff.mp hf).1] at hg
    cases hg
    rw [hf] at hf2
    cases hf2
    exact ⟨rfl, .inr ⟨r, hr, hk, hm⟩, .inl rfl⟩
  · rw [hf2] at hg
    cases hg
    exact ⟨rfl, .inl rfl, .inl rfl⟩
theorem RepL.set {K : PySem.W.Frag} {CK : Addr} {H : Hp} {d : D} {v : V} (hv : Rep K CK H d v) : ∀ {ds : List D} {vs : List V} (i : Nat), RepL K CK H ds vs → RepL K CK H (ds.set i d) (vs.set i v)
  | [], _, _, h => by rw [show _ = [] from h]; rfl
  | _ :: _, _, 0, ⟨u, r, rfl, _, h3⟩ => ⟨v, r, rfl, hv, h3⟩
  | _ :: _, _, i + 1, ⟨u, r, rfl, h2, h3⟩ => ⟨u, _, rfl, h2, RepL.set hv i h3⟩
/-- which holders a new record may have -/
def someH (fl : List FRow) (above : Str) : List D := if above = Str.empty then [.non] else (((enumD (fl.map frD)).filter fun p => decide (kOfP p = above)).map fun p => p.at 0)
theorem someH_ok {fl : List FRow} {a : Str} {h : D} (hh : h ∈ someH fl a) : HdOk fl a h := by
  unfold someH at hh
  split at hh
  · rename_i c
    rw [List.mem_singleton.mp hh]
    exact .inl ⟨rfl, c⟩
  · obtain ⟨p, hp, rfl⟩ := List.mem_map.mp hh
    obtain ⟨hp1, hp2⟩ := List.mem_filter.mp hp
    obtain ⟨i, f, hf, rfl⟩ := enum_fl hp1
    exact .inr ⟨i, f, rfl, hf, of_decide_eq_true hp2⟩
def intOf : D → Int
  | .int i => i
  | _ => 0
section
variable {K : PySem.W.Frag} {CK : Addr} {H H' H0 H1 H2 H3 H4 B : Hp} {σ σ2 : L2.St} {X : Cx} {W L : Addr} {m m' m1 k : Nat}
theorem EvD.ev {te : TE} {d : D} (h : EvD K CK te σ B d) : EvW K CK W m m te σ B (fun e => e = d) := EvD.w h
theorem ew_lst {ta : TA} {R : List D → Prop} (h : EvAW K CK W m m' ta σ B R) (hl : ∀ ds, R ds → ds.length ≤ 30000) : EvW K CK W m m' (tLst ta) σ B (fun e => ∃ ds, e = .lst ds ∧ R ds) := fun H1 e hB hw Q q =>
  h H1 e hB hw _ fun ds vs H2 hd e2 hw2 r => ⟨by rw [r.len]; have := hl ds hd; exact sz_of (by omega), fun p hp => by
    have pn : H1 p = none := by
      cases c : H1 p with
      | none => rfl
      | some o =>
        have pw : p ≠ W := fun c => by
          have := hw2.some
          rw [← c, hp] at this
          cases this
        have := e2 _ _ (cut_at pw c)
        rw [hp] at this
        cases this
    exact q (.lst ds) _ _ ⟨ds, rfl, hd⟩ (e2.trans (.of (Ex.new hp))) (hw2.ex (Ex.new hp)) ⟨p, vs, rfl, hid_at pn upd_same, hl ds hd, RepL.ex (hid_mono (Ex.new hp)) r⟩⟩
end
section
variable {P : Program} {w : World} {K : PySem.W.Frag} {mg : Str → Option Value} {base : Heap} {CK : Addr}
theorem scLMarked : FnScope ["well", "rows", "stand", "flat", "at", "marks", "row"] ["well", "rows", "stand"] (defScope sLMarked) := ⟨rfl, rfl, rfl, by decide +kernel, rfl, by decide +kernel, by decide +kernel⟩
abbrev spMarked (K : PySem.W.Frag) (CK : Addr) (rs : List Row) (M : Nat) : Sp := spW K CK 2 2 (fun ds d => Stn rs M d) (fun ds => ∃ s, ds = [rowsD rs, s] ∧ Stn rs M s)
theorem ok_marked {rs : List Row} {lv : Str → Nat} {M : Nat} (hM : M ≤ 20) (L : Lvl rs lv) (ko : KOk rs) (hms : ∀ r ∈ rs, r.marks ≠ []) (d : Def K mg "_law_s_marked" sLMarked ["well", "rows", "stand"]) (dF : Def K mg "_law_s_flat" sLFlat ["records", "holder", "found"]) (dB : Def K mg "_law_s_built" sLBuilt ["flat", "holder"])
    (dD : Def K mg "_law_draw" sLDraw ["well", "many"]) (dP : Def K mg "_law_pick" sLPick ["well", "some"]) (N : Nm mg) : FnOk P w K mg base CX0 6 d.f d.fd ["well", "rows", "stand"] (spMarked K CK rs M) := by
  have GF : FnOk P w K mg base CX0 5 dF.f dF.fd ["records", "holder", "found"] (spFlat K CK 4) := ok_flat dF N 4
  have GB : FnOk P w K mg base CX0 5 dB.f dB.fd ["flat", "holder"] (spBuilt K CK 3) := ok_built dB N 3
  have GD : FnOk P w K mg base CX0 5 dD.f dD.fd ["well", "many"] spDraw := (ok_draw dD N).mono (by omega)
  have GP : FnOk P w K mg base CX0 5 dP.f dP.fd ["well", "some"] (spPick K CK) := (ok_pick dP dD N).mono (by omega)
  refine d.F.ok scLMarked (fun vs H Q E h => spW_len h) (fun cdv A outer s H vs Q E hr h => ?_)
  obtain ⟨W, m, ws, ds, H0, rfl, _, e0, hw0, hw, hr0, ⟨sm, rfl, hS⟩, q⟩ := h
  obtain ⟨vr, v, rfl, rr, r⟩ := RepL.two hr0
  have hu := hr.units
  refine ⟨_, pss_cons (ps_set (i := 3) scLMarked.nd rfl (.inr rfl) (pe_call GF hr (by rfl) dF.m dF.F.kp dF.b .nil pass0 (pa_cons (pv 2) (pa_cons pe_non (pa_cons (pe_lst pa_nil) pa_nil)))))
    (pss_cons (ps_set (i := 4) scLMarked.nd rfl (.inr rfl) (pe_ifExp (pt_cmpR (op_neN hu) (pv 3) (pe_lst pa_nil) (nomark _)) (pe_call GD hr (by rfl) dD.m dD.F.kp dD.b .nil pass0 (pa_cons (pv 0) (pa_cons (pe_callB call_len_seq (by rfl) N.len boot_len (pa_cons (pv 3) pa_nil)) pa_nil))) pe_int))
    (pss_cons (ps_if (pt_cmpR (op_neN hu) (pv 3) (pe_lst pa_nil) (nomark _))
      (pss_cons (ps_set (i := 5) scLMarked.nd rfl (.inl rfl) (pe_ix (r := rIxLT K) ix_lt (pe_lc (own := [("row", 6)]) (g := gName 6) (tt := tTest (tOp rEq (tOp (rIxLT K) (tVar 6) (tC (.int 0))) (tOp (rIxLT K) (tOp (rIxLT K) (tVar 3) (tVar 4)) (tC (.int 0))))) (te := tOp (rIxLT K) (tVar 6) (tC (.int 2))) rfl scLMarked.nd
          (pi_list (pv 1)) (blkOk_by (N := ["well", "rows", "stand", "flat", "at", "marks", "row"]) (sc := defScope sLMarked) (by decide +kernel)) (fun _ _ _ _ _ => pg_name (i := 6) scLMarked.nd rfl (Or.inl rfl))
          (fun _ _ _ _ _ => pts_one (pt_cmpR op_eq (pe_ix (r := rIxLT K) ix_lt (pv 6) pe_int (fun _ _ => rfl)) (pe_ix (r := rIxLT K) ix_lt (pe_ix (r := rIxLT K) ix_lt (pv 3) (pv 4) (fun _ _ => rfl)) pe_int (fun _ _ => rfl)) (nomark _)))
          (fun _ _ _ _ _ => pe_ix (r := rIxLT K) ix_lt (pv 6) pe_int (fun _ _ => rfl))) pe_int (fun _ _ => rfl)))
      (pss_one (ps_asg (pe_tup (pa_cons (pe_ix (r := rIxLT K) ix_lt (pe_ix (r := rIxLT K) ix_lt (pv 3) (pv 4) (fun _ _ => rfl)) pe_int (fun _ _ => rfl)) (pa_cons (pe_call GP hr (by rfl) dP.m dP.F.kp dP.b .nil pass0 (pa_cons (pv 0) (pa_cons (pv 5) pa_nil)))
          (pa_cons (pe_ix (r := rIxLT K) ix_lt (pe_ix (r := rIxLT K) ix_lt (pv 3) (pv 4) (fun _ _ => rfl)) pe_int (fun _ _ => rfl)) pa_nil)))) (pg_sub (pv 3) (pv 4) set_list)))) pss_nil)
    (pss_one (ps_ret (pe_call GB hr (by rfl) dB.m dB.F.kp dB.b .nil pass0 (pa_cons (pv 3) (pa_cons pe_non pa_nil))))))), ?_⟩
  have hsz : sizeH 4 sm ≤ 30000 := by have := hS.sz; omega
  have hlen := hS.len
  have hol : ∀ f ∈ flS sm, isHol f.h := fun f hf => hS.ok.hol hf
  refine q_flat (K := K) (CK := CK) (H0 := H0) (n := 4) (d := sm) (ed_var rfl r) e0 hS.rt.h hsz fun La wl H1 hLn e1 hL1 rF => ?_
  have bW : hid H0 H H1 W = none := hid_no hw0 hw.some
  have wl_ : W ≠ La := fun c => by have := hw.some; rw [c, hLn] at this; cases this
  have rL1 : Rep K CK (hid H0 H H1) (.lst ((flS sm).map frD)) (.ref La) := ⟨La, wl, rfl, hid_at hLn hL1, by rw [List.length_map]; omega, RepL.ex (hid_mono cut_sub) rF⟩
  have ex01 : Ex H0 (hid H0 H H1) := hid_ex e0 e1
  have exB0 : Ex (hid H0 H H1) H1 := hid_sub
  refine q_setW (K := K) (CK := CK) (W := W) (m := m + 2) (m' := m + 1) (B := hid H0 H H1) (R := fun d => ∃ j : Int, d = .int j ∧ ((flS sm) ≠ [] → 0 ≤ j ∧ j < (flS sm).length))
    (ew_if (etw_of (et_test (ev_neN (ed_var (i := 3) rfl rL1) (ed_lst ead_nil (by show (0 : Nat) ≤ 30000; decide))))) (fun hb => EvW.imp (ew_draw rfl (ev_lenD (ed_var (i := 3) rfl rL1) rfl) ?_ ?_) fun d ⟨j, h, h1, h2⟩ => ⟨j, h, fun _ => ⟨h1, by
        have h3 : j < (((flS sm).map frD).length : Nat) := h2
        rw [List.length_map] at h3
        exact h3⟩⟩) (fun hb => EvW.imp (EvD.wl ed_int (by omega)) fun d h => ⟨0, h, fun hne => by
        have : (!((flS sm).map frD).isEmpty) = false := by simpa using hb.symm
        cases c : flS sm with
        | nil => exact absurd c hne
        | cons x xs => rw [c] at this; cases this⟩)) exB0 bW (hw.ex e1) fun dA vA H2 ⟨j, hdA, hj⟩ e2 hw2 rA => ?_
  · have : (!((flS sm).map frD).isEmpty) = true := by simpa using hb.symm
    cases c : (flS sm).map frD with
    | nil => rw [c] at this; cases this
    | cons x xs => show (0 : Int) < ((x :: xs).length : Nat); rw [List.length_cons]; omega
  · show (((flS sm).map frD).length : Int) < 1000000
    rw [List.length_map]
    omega
  subst hdA
  obtain rfl := rep_int rA
  have exB : Ex (hid H0 H H1) H2 := e2.known hid_sub bW
  have eW2 : ExW W H H2 := (ExW.of e1).trans e2
  -- the end, from a list gl of rows at La
  have fin : ∀ (gl : List FRow) (wg : List V) (b c : Option V) (H5 : Hp) (m5 : Nat), m ≤ m5 → FlOk rs gl → gl.length ≤ M → ExW W H H5 → WellAt W m5 H5 → H5 La = some (.lst wg) → RepL K CK (hid H0 H (cut La H5)) (gl.map frD) wg →
      tRet (tCall (spBuilt K CK 3) [] E0 (tCons (tVar 3) (tCons (tC .non) tNil))) { nx := fun _ H' => Q .non H', rt := Q } [some (.ref W), some vr, some v, some (.ref La), some (.int j), b, c] H5 := fun gl wg b c H5 m5 hm5 ok hgl eW5 hw5 hL5 r5 => by
    have rL : Rep K CK (hid H0 H H5) (.lst (gl.map frD)) (.ref La) := ⟨La, wg, rfl, hid_at hLn hL5, by rw [List.length_map]; omega, RepL.ex (hid_mono cut_sub) r5⟩
    refine s_retD (K := K) (CK := CK) (H0 := hid H0 H H5) (d := builtF (gl.map frD) 4 .non) (ed_callX (ds := [.lst (gl.map frD), .non]) (ead_cons (ed_var rfl rL) (ead_cons ed_non ead_nil)) rfl ⟨rs, lv, gl, Str.empty, .non, rfl, L, ok, by omega, .inl ⟨rfl, rfl⟩, by rw [L.e], rfl⟩) hid_sub fun v6 H6 e6 r6 => ?_
    exact q _ v6 H6 (stn_built L ok hM hgl) (eW5.trans (.of e6)) ((hw5.ex e6).less hm5) (r6.ex (hid_outW (fun a h1 h2 => hid_no h1 h2) eW5 hw5.some))
  have hL2 : H2 La = some (.lst wl) := e2 _ _ (cut_at wl_.symm hL1)
  have tupStay : ∀ {Hx Hy : Hp}, ExW W Hx Hy → WellAt W m Hx → ∀ a xs, Hx a = some (.tup xs) → Hy a = some (.tup xs) := fun {Hx Hy} e hwx a xs z => by
    refine e _ _ (cut_at (fun c => ?_) z)
    obtain ⟨_, _, _, h1, _⟩ := hwx
    rw [c, h1] at z
    cases z
  have hgo : ∀ {Hy : Hp}, (∀ a xs, H1 a = some (.tup xs) → Hy a = some (.tup xs)) → ExT (hid H0 H (cut La H1)) (hid H0 H (cut La Hy)) := fun {Hy} e a xs z => by
    have z1 := hid_sub _ _ z
    have aL : a ≠ La := fun c => by rw [c, cut_none] at z1; cases z1
    unfold hid
    rw [if_neg]
    · exact cut_at aL (e _ _ (cut_sub _ _ z1))
    · rintro ⟨y1, y2⟩
      rw [hid_no (by simpa using y1) y2] at z
      cases z
  refine q_when (b := !((flS sm).map frD).isEmpty) (Evl.EvT.mono exB (et_test (ev_neN (ed_var (i := 3) rfl rL1) (ed_lst ead_nil (by show (0 : Nat) ≤ 30000; decide))))) (fun hb H3 e3 => ?_) fun hb H3 e3 => ?_
  · have hne : flS sm ≠ [] := fun c => by rw [c] at hb; cases hb
    obtain ⟨j0, j1⟩ := hj hne
    obtain ⟨jn, rfl⟩ := Int.eq_ofNat_of_zero_le j0
    have hjn : jn < (flS sm).length := by omega
    have hf : (flS sm)[jn]? = some (flS sm)[jn] := List.getElem?_eq_getElem hjn
    generalize (flS sm)[jn] = f at hf
    obtain ⟨ro, hro, hk, hmk, hh⟩ := hS.ok f (List.mem_of_getElem? hf)
    have exB3 : Ex (hid H0 H H1) H3 := exB.trans e3
    have hfD : ((flS sm).map frD)[jn]? = some (frD f) := by rw [List.getElem?_map, hf]; rfl
    have hcell : ∀ (Hz : Hp), Ex (hid H0 H H1) Hz → ∀ b c : Option V, EvD K CK (tOp (rIxLT K) (tVar 3) (tVar 4)) [some (.ref W), some vr, some v, some (.ref La), some (.int (jn : Nat)), b, c] Hz (frD f) := fun Hz ez b c =>
      ed_ix (d := .lst ((flS sm).map frD)) (j := jn) (ed_var rfl (rL1.ex ez)) (ev_var rfl) rfl hfD
    -- marks
    refine ed_asg (K := K) (CK := CK) (H0 := hid H0 H H1) (d := .tup (ro.marks.map D.str)) (ed_ix (j := 0) (d := .lst (((rs.map rowD).filter fun d => decide (kindOfD d = f.k)).map fun (d : D) => d.at 2)) (ed_lc (f := fun d => decide (kindOfD d = f.k)) (m := fun d => d.at 2) (ei_list (ds := rs.map rowD) (ed_var rfl (rr.ex ex01))) (by rw [List.length_map]; have := ko.few; omega) ?_) ev_c rfl ?_) exB3 fun vM H4 e4 rM => ?_
    · intro i d3 y3 Hz ez hd3 ry3
      obtain ⟨r2, _, rfl⟩ := List.mem_map.mp (List.mem_of_getElem? hd3)
      exact ⟨_, eg_name, rfl, et_test (ev_eqS (EvD.s (ed_ix (d := rowD r2) (j := 0) (ed_var rfl ry3) ev_c rfl rfl)) (EvD.s (ed_ix (d := frD f) (j := 0) (hcell Hz ez none (some y3)) ev_c rfl rfl))), fun _ => ed_ix (d := rowD r2) (j := 2) (ed_var rfl ry3) ev_c rfl rfl⟩
    · show (((rs.map rowD).filter fun d => decide (kindOfD d = f.k)).map fun (d : D) => d.at 2)[0]? = _
      rw [List.filter_map]
      have hm' : ro ∈ rs.filter ((fun d => decide (kindOfD d = f.k)) ∘ rowD) := List.mem_filter.mpr ⟨hro, decide_eq_true hk⟩
      cases e : rs.filter ((fun d => decide (kindOfD d = f.k)) ∘ rowD) with
      | nil => rw [e] at hm'; cases hm'
      | cons r0 rest =>
        have hm0 : r0 ∈ rs.filter ((fun d => decide (kindOfD d = f.k)) ∘ rowD) := by rw [e]; exact List.mem_cons_self
        obtain ⟨h1, h2⟩ := List.mem_filter.mp hm0
        have h2' : decide (r0.kind = f.k) = true := h2
        rw [ko.inj h1 hro (by rw [of_decide_eq_true h2', hk])]
        rfl
    · have e34 : ExW W H2 H4 := .of (e3.trans e4)
      have hw4 : WellAt W (m + 1) H4 := hw2.ex (e3.trans e4)
      have hL4 : H4 La = some (.lst wl) := e4 _ _ (e3 _ _ hL2)
      have exB4 : Ex (hid H0 H H1) (hid (hid H0 H H1) H3 H4) := hid_ex exB3 e4
      have bW4 : hid (hid H0 H H1) H3 H4 W = none := hid_no bW (by have := hw2.ex e3; exact this.some)
      have key := ew_tup (K := K) (CK := CK) (W := W) (m := m + 1) (m' := m) (B := hid (hid H0 H H1) H3 H4) (σ := [some (.ref W), some vr, some v, some (.ref La), some (.int (jn : Nat)), some vM, none])
        (eaw_cons (EvD.w (ed_ix (d := frD f) (j := 0) (hcell _ exB4 (some vM) none) ev_c rfl rfl)) (eaw_cons (ew_call (i := 0) (E := E0) (ds := [.tup (ro.marks.map D.str)]) (R := fun ds d => d ∈ (ds.getD 0 .non).items) (pre := fun ds => ∃ s, ds = [s] ∧ s.isL = true ∧ s.items ≠ []) rfl (ead_cons (ed_var (i := 5) rfl rM) ead_nil) rfl ⟨_, rfl, rfl, fun c => hms ro hro (by
            cases c2 : ro.marks with
            | nil => rfl
            | cons x xs => rw [c2] at c; cases c)⟩) (eaw_cons (EvD.w (ed_ix (d := frD f) (j := 2) (hcell _ exB4 (some vM) none) ev_c rfl rfl)) eaw_nil))) (by
          rintro l ⟨a, l1, rfl, _, b, l2, rfl, _, c, l3, rfl, _, rfl⟩
          show (3 : Nat) ≤ 30000
          decide)
      refine key H4 hid_sub bW4 hw4 _ fun dT vT H5 ⟨lT, hdT, x1, l1, hl1, hx1, x2, l2, hl2, hx2, x3, l3, hl3, hx3, hl4⟩ e5 hw5 rT => ?_
      subst hl4 hl3 hl2 hl1 hdT hx1 hx3
      obtain ⟨mk, hmk2, rfl⟩ := List.mem_map.mp (show x2 ∈ ro.marks.map D.str from hx2)
      have hL5 : H5 La = some (.lst wl) := e5 _ _ (cut_at wl_.symm hL4)
      have hwl : wl.length = (flS sm).length := by rw [rF.len, List.length_map]; rfl
      refine ⟨_, rfl, _, rfl, La, wl, _, jn, rfl, rfl, hL5, by unfold ixN; rw [if_pos (by omega), if_pos (by omega)]; rfl, ?_⟩
      have t1 : ∀ a xs, H1 a = some (.tup xs) → H5 a = some (.tup xs) := fun a xs z => tupStay e5 (hw4.less (by omega)) _ _ (tupStay e34 (hw2.less (by omega)) _ _ (tupStay e2 ((hw.ex e1).less (by omega)) _ _ z))
      have eW5 : ExW W H H5 := eW2.trans (e34.trans e5)
      refine fin ((flS sm).set jn ⟨f.k, mk, f.h⟩) (wl.set jn vT) (some vM) none _ m (Nat.le_refl _) (set_ok ko hS.ok hf hro hk hmk2) (by rw [List.length_set]; exact hlen) (fun a o z => ?_) ?_ upd_same ?_
      · have z2 := cut_sub _ _ z
        have aL : a ≠ La := fun c => by rw [c, hLn] at z2; cases z2
        rw [upd_ne aL]
        exact eW5 _ _ z
      · obtain ⟨a, b, c, h1, h2⟩ := hw5
        exact ⟨a, b, c, by rw [upd_ne wl_]; exact h1, h2⟩
      · rw [cut_upd, map_set]
        refine RepL.set ?_ jn (repL_fr (hgo t1) hol rF)
        -- the new tuple
        refine rep_fr (H := hid (hid (hid H0 H H1) H3 H4) H4 H5) (f := ⟨f.k, mk, f.h⟩) (fun a xs z => ?_) (hol f (List.mem_of_getElem? hf)) rT
        have z5 := hid_sub _ _ z
        have aL : a ≠ La := fun c => by rw [c, hL5] at z5; cases z5
        unfold hid
        rw [if_neg]
        · exact cut_at aL z5
        · rintro ⟨y1, y2⟩
          have aW : a ≠ W := fun c => by
            obtain ⟨_, _, _, h1, _⟩ := hw5
            rw [c, h1] at z5
            cases z5
          have g4 : (H4 a).isSome = true := (eW2.trans e34).isSome hw4.some y2
          have g3 : (H3 a).isSome = true := (eW2.trans (.of e3)).isSome (hw2.ex e3).some y2
          rw [hid_no (hid_no (hid_no (by simpa using y1) y2) g3) g4] at z
          cases z
  · exact fin (flS sm) wl none none H3 (m + 1) (by omega) hS.ok hlen (eW2.trans (.of e3)) (hw2.ex e3) (e3 _ _ hL2) (repL_fr (hgo fun a xs z => e3 _ _ (tupStay e2 ((hw.ex e1).less (by omega)) _ _ z)) hol rF)
end
end Any
set_option Elab.async false
set_option linter.all false
set_option maxRecDepth 100000
set_option maxHeartbeats 2000000
namespace Any
open PySem PySem.Spec PyProof.Rows L2 Evl StX
section
variable {K : PySem.W.Frag} {CK : Addr} {B : Hp} {σ : L2.St} {W : Addr} {m : Nat}
theorem ew_pick {i : Nat} {ta : TE} {s : D} {E : XK} (hi : σ[i]? = some (some (V.ref W))) (h : EvD K CK ta σ B s) (hL : s.isL = true) (hne : s.items ≠ []) : EvW K CK W (m + 1) m (tCall (spPick K CK) [] E (tCons (tVar i) (tCons ta tNil))) σ B (fun d => d ∈ s.items) :=
  ew_call (ds := [s]) hi (ead_cons h ead_nil) rfl ⟨s, rfl, hL, hne⟩
end
theorem marks_ne {r : Row} (h : r.marks ≠ []) : (D.tup (r.marks.map D.str)).items ≠ [] := fun c => by
  have c2 : r.marks.map D.str = [] := c
  exact h (List.map_eq_nil_iff.mp c2)
theorem rowsD_ne {rs : List Row} (h : rs ≠ []) : (rowsD rs).items ≠ [] := fun c => by
  have c2 : rs.map rowD = [] := c
  exact h (List.map_eq_nil_iff.mp c2)
section
variable {P : Program} {w : World} {K : PySem.W.Frag} {mg : Str → Option Value} {base : Heap} {CK : Addr}
theorem scLGrown : FnScope ["well", "rows", "flat", "many", "found", "turn", "kind", "above", "marks", "lasts", "some", "at", "one"] ["well", "rows", "flat", "many"] (defScope sLGrown) := ⟨rfl, rfl, rfl, by decide +kernel, rfl, by decide +kernel, by decide +kernel⟩
abbrev spGrown (K : PySem.W.Frag) (CK : Addr) (rs : List Row) : Sp := spW K CK 3 40 (fun ds d => ∃ gl, d = .lst (gl.map frD) ∧ FlOk rs gl ∧ (gl.length : Int) ≤ ((ds.getD 1 .non).items.length : Int) + intOf (ds.getD 2 .non)) (fun ds => ∃ fl many, ds = [rowsD rs, .lst (fl.map frD), .int (many : Nat)] ∧ FlOk rs fl ∧ fl.length ≤ 100 ∧ many ≤ 13)
theorem ok_grown {rs : List Row} (ko : KOk rs) (hne : rs ≠ []) (hms : ∀ r ∈ rs, r.marks ≠ []) (d : Def K mg "_law_s_grown" sLGrown ["well", "rows", "flat", "many"]) (dD : Def K mg "_law_draw" sLDraw ["well", "many"]) (dP : Def K mg "_law_pick" sLPick ["well", "some"]) (N : Nm mg) :
    FnOk P w K mg base CX0 3 d.f d.fd ["well", "rows", "flat", "many"] (spGrown K CK rs) := by
  have GP : FnOk P w K mg base CX0 2 dP.f dP.fd ["well", "some"] (spPick K CK) := ok_pick dP dD N
  refine d.F.ok scLGrown (fun vs H Q E h => spW_len h) (fun cdv A outer s H vs Q E hr h => ?_)
  obtain ⟨W, m, ws, ds, H0, rfl, _, e0, hw0, hw, hr0, ⟨fl, many, rfl, ok, hfl, hmany⟩, q⟩ := h
  obtain ⟨vr, vf, vm, rfl, rr, rf, rm⟩ := RepL.three hr0
  obtain rfl := rep_int rm
  have hu := hr.units
  refine ⟨_, pss_cons (ps_set (i := 4) scLGrown.nd rfl (.inl rfl) (pe_callTy call_list_of (by rfl) N.list boot_list (pa_cons (pv 2) pa_nil)))
    (pss_cons (ps_for PassesOwn.never rfl (pi_range1 (by rfl) N.range (pa_cons (pv 3) pa_nil)) (pg_name (i := 5) scLGrown.nd rfl (.inl rfl))
      (pss_cons (ps_asg (pe_call GP hr (by rfl) dP.m dP.F.kp dP.b .nil pass0 (pa_cons (pv 0) (pa_cons (pv 1) pa_nil))) (pg_unp rfl (pgs_cons (pg_name (i := 6) scLGrown.nd rfl (.inl rfl)) (pgs_cons (pg_name (i := 7) scLGrown.nd rfl (.inr rfl)) (pgs_cons (pg_name (i := 8) scLGrown.nd rfl (.inl rfl)) (pgs_cons (pg_name (i := 9) scLGrown.nd rfl (.inl rfl)) pgs_nil))))))
      (pss_cons (ps_set (i := 10) scLGrown.nd rfl (.inl rfl) (pe_ifExp (pt_cmpR op_eq (pv 7) pe_str (nomark _)) (pe_lst (pa_cons pe_non pa_nil))
        (pe_lc (own := [("at", 11), ("one", 12)]) (g := gUnp K 2 (gCons (gName 11) (gCons (gName 12) gNil))) (tt := tTest (tOp rEq (tOp (rIxLT K) (tVar 12) (tC (.int 0))) (tVar 7))) (te := tVar 11) rfl scLGrown.nd
          (pi_enumS (by rfl) N.enumerate (pa_cons (pv 4) pa_nil)) (blkOk_by (N := ["well", "rows", "flat", "many", "found", "turn", "kind", "above", "marks", "lasts", "some", "at", "one"]) (sc := defScope sLGrown) (by decide +kernel))
          (fun _ _ _ _ _ => pg_unp rfl (pgs_cons (pg_name (i := 11) scLGrown.nd rfl (Or.inl rfl)) (pgs_cons (pg_name (i := 12) scLGrown.nd rfl (Or.inl rfl)) pgs_nil)))
          (fun _ _ _ _ _ => pts_one (pt_cmpR op_eq (pe_ix (r := rIxLT K) ix_lt (pv 12) pe_int (fun _ _ => rfl)) (pv 7) (nomark _))) (fun _ _ _ _ _ => pv 11))))
      (pss_one (ps_expr (pe_bm PySem.F.plainAttrs_list PySem.F.slot_list_extend PySem.F.type_list_extend mt_extend (pv 4) (pa_cons (pe_ifExp (pt_cmpR (op_neN hu) (pv 10) (pe_lst pa_nil) (nomark _))
        (pe_lst (pa_cons (pe_tup (pa_cons (pv 6) (pa_cons (pe_call GP hr (by rfl) dP.m dP.F.kp dP.b .nil pass0 (pa_cons (pv 0) (pa_cons (pv 8) pa_nil))) (pa_cons (pe_call GP hr (by rfl) dP.m dP.F.kp dP.b .nil pass0 (pa_cons (pv 0) (pa_cons (pv 10) pa_nil))) pa_nil)))) pa_nil)) (pe_lst pa_nil)) pa_nil)))))))
    (pss_one (ps_ret (pv 4)))), ?_⟩
  refine q_listOf (i := 4) (j := 2) rfl rf e0 rfl fun La wl hLn rwl => ?_
  have wl_ : W ≠ La := fun c => by have := hw.some; rw [c, hLn] at this; cases this
  -- the loop
  have wkeep : ∀ {o : HO} {n : Nat} {Hx : Hp}, WellAt W n Hx → WellAt W n (upd Hx La o) := fun {o n Hx} z => by
    obtain ⟨a, b, c, h1, h2⟩ := z
    exact ⟨a, b, c, by rw [upd_ne wl_]; exact h1, h2⟩
  refine ⟨_, rfl, (many : Int), rfl, by omega, by omega, for_it (walk_range (lo := 0) (n := many)) (fun i σ' H' => (∃ a b c d5 e f g h5, σ' = [some (.ref W), some vr, some vf, some (.int (many : Nat)), some (.ref La), a, b, c, d5, e, f, g, h5]) ∧ ExW W H H' ∧ WellAt W (m + 3 * (many - i)) H' ∧
    ∃ (gl : List FRow) (wg : List V), H' La = some (.lst wg) ∧ RepL K CK (hid H0 H (cut La H')) (gl.map frD) wg ∧ FlOk rs gl ∧ gl.length ≤ fl.length + i) ?_ (fun _ _ _ _ _ => trivial) ?_ ?_⟩
  · refine ⟨⟨_, _, _, _, _, _, _, _, rfl⟩, .of (Ex.new hLn), wkeep (hw.less (by omega)), fl, wl, upd_same, ?_, ok, Nat.le_refl _⟩
    rw [cut_upd]
    exact RepL.ex (known_hid e0 fun a o z => cut_at (fun c => by rw [c] at z; have := e0 _ _ z; rw [hLn] at this; cases this) (e0 _ _ z)) rwl
  · rintro i x σ' Ha0 Ha hi ⟨⟨a, b, c, d5, e, f, g, h5, rfl⟩, eW, hwa, gl, wg, hLa, rg, okg, hgl⟩ ⟨rfl, rfl⟩
    have hmm : m + 3 * (many - i) = (m + 3 * (many - (i + 1))) + 3 := by omega
    rw [hmm] at hwa
    generalize m + 3 * (many - (i + 1)) = mm at hwa
    have bW : hid H0 H Ha W = none := hid_no hw0 hw.some
    have ex0 : Ex H0 (hid H0 H Ha) := known_hid e0 (fun a o z => eW.known e0 hw0 _ _ z)
    have hol : ∀ f ∈ gl, isHol f.h := fun f hf => okg.hol hf
    have rLa : Rep K CK (hid H0 H Ha) (.lst (gl.map frD)) (.ref La) := ⟨La, wg, rfl, hid_at hLn hLa, by rw [List.length_map]; omega, RepL.ex (hid_mono cut_sub) rg⟩
    -- a row
    refine ew_pick (K := K) (CK := CK) (W := W) (m := mm + 2) (B := hid H0 H Ha) (σ := [some (.ref W), some vr, some vf, some (.int (many : Nat)), some (.ref La), some (.int (0 + (i : Nat))), b, c, d5, e, f, g, h5]) (i := 0) (E := E0) (s := rowsD rs) rfl (ed_var (i := 1) rfl (rr.ex ex0)) rfl (rowsD_ne hne) Ha hid_sub bW hwa _ fun dR vR H2 hR e2 hw2 rR => ?_
    obtain ⟨ro, hro, rfl⟩ := List.mem_map.mp (show dR ∈ rs.map rowD from hR)
    have exB : Ex (hid H0 H Ha) H2 := e2.known hid_sub bW
    have exB2 : Ex (hid H0 H Ha) (hid (hid H0 H Ha) Ha H2) := known_hid hid_sub exB
    have b2W : hid (hid H0 H Ha) Ha H2 W = none := hid_no bW hwa.some
    obtain ⟨v6, v7, v8, v9, s6, s7, s8, s9, hg⟩ := eg_unp4 (σ := [some (.ref W), some vr, some vf, some (.int (many : Nat)), some (.ref La), some (.int (0 + (i : Nat))), b, c, d5, e, f, g, h5]) (i := 6) (j := 7) (k := 8) (l := 9) rR rfl rfl
    refine hg H2 hid_sub _ fun H3 e3 => ?_
    -- who may hold it
    dsimp only
    refine ed_asg (K := K) (CK := CK) (H0 := hid (hid H0 H Ha) Ha H2) (d := .lst (someH gl ro.above)) ?_ (hid_sub.trans e3) fun vS H4 e4 rS => ?_
    · by_cases ca : ro.above = Str.empty
      · have es : someH gl ro.above = [.non] := by unfold someH; rw [if_pos ca]
        rw [es]
        refine ed_if (b := true) (et_test (ev_is (ev_eqS (EvD.s (ed_var (i := 7) rfl s7)) (ev_c (v := .str Str.empty))) (congrArg V.bl (decide_eq_true ca)))) (fun _ => ed_lst (ead_cons ed_non ead_nil) (by show (1 : Nat) ≤ 30000; decide)) (fun z => by cases z)
      · have es : someH gl ro.above = ((enumD (gl.map frD)).filter fun p => decide (kOfP p = ro.above)).map fun p => p.at 0 := by unfold someH; rw [if_neg ca]
        rw [es]
        refine ed_if (b := false) (et_test (ev_is (ev_eqS (EvD.s (ed_var (i := 7) rfl s7)) (ev_c (v := .str Str.empty))) (congrArg V.bl (decide_eq_false ca)))) (fun z => by cases z) fun _ => ?_
        refine ed_lc (f := fun p => decide (kOfP p = ro.above)) (m := fun p => p.at 0) (ei_enum (d := .lst (gl.map frD)) (ed_var (i := 4) rfl (rLa.ex exB2)) rfl) (by rw [enumD_len]; show (gl.map frD).length ≤ 30000; rw [List.length_map]; omega) fun i2 p z Hz ez hp rz => ?_
        obtain ⟨i3, f2, hf2, rfl⟩ := enum_fl (List.mem_of_getElem? hp)
        obtain ⟨w1, w2, t1, t2, hg2⟩ := eg_unp2 (σ := [some (.ref W), some vr, some vf, some (.int (many : Nat)), some (.ref La), some (.int (0 + (i : Nat))), some v6, some v7, some v8, some v9, f, none, none]) (i := 11) (j := 12) rz rfl rfl
        exact ⟨_, hg2, rfl, et_test (ev_eqS (EvD.s (ed_ix (d := frD f2) (j := 0) (ed_var rfl t2) ev_c rfl rfl)) (EvD.s (ed_var (i := 7) rfl (s7.ex ez)))), fun _ => ed_var rfl t1⟩
    · -- found.extend(..)
      have hex4 : Ex (hid (hid H0 H Ha) Ha H2) H4 := hid_sub.trans (e3.trans e4)
      have hb4 : hid (hid (hid H0 H Ha) Ha H2) H2 H4 W = none := hid_no b2W hw2.some
      have hw4 : WellAt W (mm + 2) H4 := hw2.ex (e3.trans e4)
      have up : Ex (hid (hid H0 H Ha) Ha H2) (hid (hid (hid H0 H Ha) Ha H2) H2 H4) := hid_ex hid_sub (e3.trans e4)
      have rS' : Rep K CK (hid (hid (hid H0 H Ha) Ha H2) H2 H4) (.lst (someH gl ro.above)) vS := rS.ex (hid_le e3)
      have hL4 : H4 La = some (.lst wg) := e4 _ _ (e3 _ _ (e2 _ _ (cut_at wl_.symm hLa)))
      have eW4 : ExW W H H4 := eW.trans (e2.trans (.of (e3.trans e4)))
      have key := ew_if (K := K) (CK := CK) (W := W) (m := mm + 2) (m1 := mm + 2) (m' := mm) (B := hid (hid (hid H0 H Ha) Ha H2) H2 H4) (σ := [some (.ref W), some vr, some vf, some (.int (many : Nat)), some (.ref La), some (.int (0 + (i : Nat))), some v6, some v7, some v8, some v9, some vS, g, h5])
        (R := fun d => ∃ xl : List FRow, d = .lst (xl.map frD) ∧ xl.length ≤ 1 ∧ ∀ f ∈ xl, f.k = ro.kind ∧ f.m ∈ ro.marks ∧ HdOk gl ro.above f.h)
        (etw_of (et_test (ev_neN (ed_var (i := 10) rfl rS') (ed_lst ead_nil (by show (0 : Nat) ≤ 30000; decide)))))
        (fun hb => EvW.imp (ew_lst (eaw_cons (ew_tup (eaw_cons (EvD.w (ed_var (i := 6) rfl (s6.ex up))) (eaw_cons (ew_pick (m := mm + 1) (i := 0) (E := E0) (s := .tup (ro.marks.map D.str)) rfl (ed_var (i := 8) rfl (s8.ex up)) rfl (marks_ne (hms ro hro)))
          (eaw_cons (ew_pick (m := mm) (i := 0) (E := E0) (s := .lst (someH gl ro.above)) rfl (ed_var (i := 10) rfl rS') rfl (fun c => by
            have c2 : someH gl ro.above = [] := c
            rw [c2] at hb
            cases hb)) eaw_nil))) (by
          rintro l ⟨a, l1, rfl, _, b, l2, rfl, _, c, l3, rfl, _, rfl⟩
          show (3 : Nat) ≤ 30000
          decide)) eaw_nil) (by
          rintro l ⟨a, l1, rfl, _, rfl⟩
          show (1 : Nat) ≤ 30000
          decide)) fun d ⟨l, hd, a, l1, hl, ⟨t, ha, x1, y1, h1, hx1, x2, y2, h2, hx2, x3, y3, h3, hx3, h4⟩, hl1⟩ => by
            subst hl1 hl h4 h3 h2 h1 ha hd hx1
            obtain ⟨mk, hmk, rfl⟩ := List.mem_map.mp (show x2 ∈ ro.marks.map D.str from hx2)
            refine ⟨[⟨ro.kind, mk, x3⟩], rfl, Nat.le_refl _, fun f hf => ?_⟩
            rw [List.mem_singleton.mp hf]
            exact ⟨rfl, hmk, someH_ok hx3⟩)
        (fun _ => EvW.imp (EvD.wl (ed_lst ead_nil (by show (0 : Nat) ≤ 30000; decide)) (by omega)) fun d hd => ⟨[], hd, Nat.zero_le _, fun f hf => by cases hf⟩)
      refine ⟨_, rfl, .inl ⟨rfl, wg, sq_of hL4⟩, (eaw_cons key eaw_nil) H4 hid_sub hb4 hw4 _ fun dsX vsX H5 ⟨dX, l0, hl0, ⟨xl, hdX, hxl, hxa⟩, hl1⟩ e5 hw5 rXs => ?_⟩
      subst hl1 hl0 hdX
      obtain ⟨vX, rfl, rX⟩ := RepL.one rXs
      obtain ⟨bX, wx, rfl, hbX, _, rwx⟩ := rX
      have hL5 : H5 La = some (.lst wg) := e5 _ _ (cut_at wl_.symm hL4)
      have hwg : wg.length = gl.length := by rw [rg.len, List.length_map]
      have hwx : wx.length = xl.length := by rw [rwx.len, List.length_map]
      have hsz := sizeLine_eq
      have holx : ∀ f ∈ xl, isHol f.h := fun f hf => (hxa f hf).2.2.hol
      have okx : FlOk rs (gl ++ xl) := by
        match xl, hxl, hxa with
        | [], _, _ => rw [List.append_nil]; exact okg
        | [f], _, hxa =>
          obtain ⟨h1, h2, h3⟩ := hxa f List.mem_cons_self
          exact okg.add hro h1.symm h2 h3
        | _ :: _ :: _, hl, _ => simp at hl
      refine ⟨La, bX, wg, wx, rfl, rfl, hL5, hid_sub _ _ hbX, by omega, ⟨_, _, _, _, _, _, _, _, rfl⟩, fun a o z => ?_, wkeep hw5, gl ++ xl, wg ++ wx, upd_same, ?_, okx, by rw [List.length_append]; omega⟩
      · have z2 := cut_sub _ _ z
        have aL : a ≠ La := fun c => by rw [c, hLn] at z2; cases z2
        rw [upd_ne aL]
        exact (eW4.trans e5) _ _ z
      · rw [cut_upd, List.map_append]
        have tupOf : ∀ {Hx : Hp}, ExW W Hx H5 → WellAt W mm H5 → (∀ a xs, Hx a = some (.tup xs) → a ≠ W) → ∀ a xs, Hx a = some (.tup xs) → H5 a = some (.tup xs) := fun {Hx} e _ hx a xs z => e _ _ (cut_at (hx a xs z) z)
        have wOf : ∀ {Hx : Hp} {n : Nat}, WellAt W n Hx → ∀ a xs, Hx a = some (.tup xs) → a ≠ W := fun {Hx n} hwx a xs z c => by
          obtain ⟨_, _, _, h1, _⟩ := hwx
          rw [c, h1] at z
          cases z
        refine RepL.app (repL_fr (fun a xs z => ?_) hol rg) (repL_fr (fun a xs z => ?_) holx rwx)
        · have z1 := hid_sub _ _ z
          have aL : a ≠ La := fun c => by rw [c, cut_none] at z1; cases z1
          unfold hid
          rw [if_neg]
          · exact cut_at aL (tupOf (e2.trans ((ExW.of (e3.trans e4)).trans e5)) hw5 (wOf hwa) a xs (cut_sub _ _ z1))
          · rintro ⟨y1, y2⟩
            rw [hid_no (by simpa using y1) y2] at z
            cases z
        · have z5 := hid_sub _ _ z
          have aL : a ≠ La := fun c => by rw [c, hL5] at z5; cases z5
          unfold hid
          rw [if_neg]
          · exact cut_at aL z5
          · rintro ⟨y1, y2⟩
            have g4 : (H4 a).isSome = true := eW4.isSome hw4.some y2
            have g2 : (H2 a).isSome = true := (eW.trans e2).isSome hw2.some y2
            have g1 : (Ha a).isSome = true := eW.isSome hwa.some y2
            rw [hid_no (hid_no (hid_no (hid_no (by simpa using y1) y2) g1) g2) g4] at z
            cases z
  · rintro σ' H' ⟨⟨a, b, c, d5, e, f, g, h5, rfl⟩, eW, hwa, gl, wg, hLa, rg, okg, hgl⟩
    refine ⟨_, rfl, q (.lst (gl.map frD)) _ H' ⟨gl, rfl, okg, ?_⟩ eW (hwa.less (by omega)) ⟨La, wg, rfl, hid_at hLn hLa, by rw [List.length_map]; omega, RepL.ex (hid_mono cut_sub) rg⟩⟩
    show (gl.length : Int) ≤ ((fl.map frD).length : Int) + ((many : Nat) : Int)
    rw [List.length_map]
    omega
end
end Any
set_option Elab.async false
set_option linter.all false
set_option maxRecDepth 100000
set_option maxHeartbeats 2000000
namespace Any
open PySem PySem.Spec PyProof.Rows L2 Evl StX
abbrev sLPaths : Stmt := topS 59
section
variable {K : PySem.W.Frag} {CK : Addr} {H H' H0 H1 H2 H3 H4 B : Hp} {σ σ2 : L2.St} {X : Cx} {W L : Addr} {m m' m1 k : Nat}
/-- a pure def of arguments that draw -/
theorem ewx_call {n : Nat} {R : List D → D → Prop} {R1 : List D → Prop} {R2 : D → Prop} {E : XK} {ta : TA} (h : EvAW K CK W m m' ta σ B R1) (hp : ∀ ds, R1 ds → ds.length = n ∧ ∃ d, R ds d ∧ R2 d) : EvW K CK W m m' (tCall (spX K CK n R) [] E ta) σ B R2 := fun H1 e hB hw Q q =>
  h H1 e hB hw _ fun ds vs H2 hds e2 hw2 r => by
    obtain ⟨hn, d, hR, h2⟩ := hp ds hds
    exact ⟨ds, d, hid B H1 H2, hn, hid_sub, by rw [List.append_nil]; exact r, hR, fun v H' e3 r3 => q d v H' h2 (e2.trans (.of e3)) (hw2.ex e3) (r3.ex (hid_outW (fun a h1 h2 => hid_no h1 h2) e2 hw2.some))⟩
/-- a def that draws, of arguments that draw -/
theorem eww_call {n i : Nat} {R : List D → D → Prop} {pre R1 : List D → Prop} {R2 : D → Prop} {E : XK} {ta : TA} (hi : σ[i]? = some (some (V.ref W))) (h : EvAW K CK W m1 (m + k) ta σ B R1) (hp : ∀ ds, R1 ds → ds.length = n ∧ pre ds ∧ ∀ d, R ds d → R2 d) :
    EvW K CK W m1 m (tCall (spW K CK n k R pre) [] E (tCons (tVar i) ta)) σ B R2 := fun H1 e hB hw Q q => ⟨_, hi, h H1 e hB hw _ fun ds vs H2 hds e2 hw2 r => by
    obtain ⟨hn, hpre, h2⟩ := hp ds hds
    exact ⟨W, m, vs, ds, hid B H1 H2, by rw [List.append_nil], hn, hid_sub, hid_no hB hw.some, hw2, r, hpre, fun d v H' hR e3 hw3 r3 => q d v H' (h2 d hR) (e2.trans e3) hw3 (r3.ex (hid_outW (fun a h1 h2 => hid_no h1 h2) e2 hw2.some))⟩⟩
theorem ew_less {te : TE} {R : D → Prop} (h : EvW K CK W m m' te σ B R) (hk : m1 ≤ m') : EvW K CK W m m1 te σ B R := fun H1 e hB hw Q q => h H1 e hB hw Q fun d v H2 hd e2 hw2 r => q d v H2 hd e2 (hw2.less hk) r
theorem ew_more {te : TE} {R : D → Prop} (h : EvW K CK W m m' te σ B R) (hk : m ≤ m1) : EvW K CK W m1 m' te σ B R := fun H1 e hB hw Q q => h H1 e hB (hw.less hk) Q q
/-- return of what draws -/
theorem s_retW {te : TE} {D0 : Ends} {R : D → Prop} (h : EvW K CK W m m' te σ B R) (eB : Ex B H) (hB : B W = none) (hw : WellAt W m H) (k : ∀ d v H1, R d → ExW W H H1 → WellAt W m' H1 → Rep K CK (hid B H H1) d v → D0.rt v H1) : tRet te D0 σ H := h H eB hB hw _ k
/-- xs.extend(e), xs a list at L, known but for L -/
theorem q_ext {i : Nat} {ws : List V} {zs : List D} {te : TE} {tz : TS} {D0 : Ends} (hi : σ[i]? = some (some (.ref L))) (hL : H2 L = some (.lst ws)) (eH : ExW L H H2) (hl : ws.length + zs.length ≤ 30000) (h : EvD K CK te σ (hid H0 H (cut L H2)) (.lst zs))
    (k : ∀ vs H3, ExW L H2 H3 → H3 L = some (.lst (ws ++ vs)) → RepL K CK (hid H0 H (cut L H3)) zs vs → tz D0 σ H3) : tSeq (tDrop (tBM K "list" rExtend (tVar i) (tCons te tNil))) tz D0 σ H2 := by
  refine ⟨_, hi, .inl ⟨rfl, ws, sq_of hL⟩, h H2 (fun a o z => cut_sub _ _ (hid_sub _ _ z)) _ fun v H3 e3 r => ?_⟩
  obtain ⟨b, vs, rfl, hb, _, rv⟩ := r
  have hs := sizeLine_eq
  refine ⟨L, b, ws, vs, rfl, rfl, e3 _ _ hL, hid_sub _ _ hb, by rw [rv.len]; omega, k vs _ (fun a o z => ?_) upd_same ?_⟩
  · have c : a ≠ L := fun c => by rw [c, cut_none] at z; cases z
    rw [upd_ne c]
    exact e3 _ _ (cut_sub _ _ z)
  · rw [cut_upd]
    exact RepL.ex (hc_in eH (by rw [hL]; rfl) e3) rv
theorem s_ext {i : Nat} {ws : List V} {zs : List D} {te : TE} {D0 : Ends} (hi : σ[i]? = some (some (.ref L))) (hL : H2 L = some (.lst ws)) (eH : ExW L H H2) (hl : ws.length + zs.length ≤ 30000) (h : EvD K CK te σ (hid H0 H (cut L H2)) (.lst zs))
    (k : ∀ vs H3, ExW L H2 H3 → H3 L = some (.lst (ws ++ vs)) → RepL K CK (hid H0 H (cut L H3)) zs vs → D0.nx σ H3) : tDrop (tBM K "list" rExtend (tVar i) (tCons te tNil)) D0 σ H2 := by
  have z := q_ext (K := K) (CK := CK) (H0 := H0) (tz := fun D σ H => D.nx σ H) (D0 := D0) hi hL eH hl h k
  exact z
end
section
variable {P : Program} {w : World} {K : PySem.W.Frag} {mg : Str → Option Value} {base : Heap} {CK : Addr}
theorem scLStand : FnScope ["well", "rows", "many"] ["well", "rows", "many"] (defScope sLStand) := ⟨rfl, rfl, rfl, by decide +kernel, rfl, by decide +kernel, by decide +kernel⟩
abbrev spLStand (K : PySem.W.Frag) (CK : Addr) (rs : List Row) (M : Nat) : Sp := spW K CK 2 41 (fun ds d => Stn rs M d) (fun ds => ds = [rowsD rs, .int (M : Nat)])
theorem rows_ne {rs : List Row} (hne : rs ≠ []) : (!(rs.map rowD).isEmpty) = true := by
  cases rs with
  | nil => exact absurd rfl hne
  | cons r rs => rfl
theorem ok_stand {rs : List Row} {lv : Str → Nat} {M : Nat} (hM : M ≤ 12) (L : Lvl rs lv) (ko : KOk rs) (hne : rs ≠ []) (hms : ∀ r ∈ rs, r.marks ≠ []) (d : Def K mg "_law_s_stand" sLStand ["well", "rows", "many"]) (dG : Def K mg "_law_s_grown" sLGrown ["well", "rows", "flat", "many"])
    (dB : Def K mg "_law_s_built" sLBuilt ["flat", "holder"]) (dD : Def K mg "_law_draw" sLDraw ["well", "many"]) (dP : Def K mg "_law_pick" sLPick ["well", "some"]) (N : Nm mg) : FnOk P w K mg base CX0 6 d.f d.fd ["well", "rows", "many"] (spLStand K CK rs M) := by
  have GG : FnOk P w K mg base CX0 5 dG.f dG.fd ["well", "rows", "flat", "many"] (spGrown K CK rs) := (ok_grown ko hne hms dG dD dP N).mono (by omega)
  have GB : FnOk P w K mg base CX0 5 dB.f dB.fd ["flat", "holder"] (spBuilt K CK 3) := ok_built dB N 3
  have GD : FnOk P w K mg base CX0 5 dD.f dD.fd ["well", "many"] spDraw := (ok_draw dD N).mono (by omega)
  refine d.F.ok scLStand (fun vs H Q E h => spW_len h) (fun cdv A outer s H vs Q E hr h => ?_)
  obtain ⟨W, m, ws, ds, H0, rfl, _, e0, hw0, hw, hr0, rfl, q⟩ := h
  obtain ⟨vr, vm, rfl, rr, rm⟩ := RepL.two hr0
  have hu := hr.units
  refine ⟨_, pss_one (ps_ret (pe_ifExp (pt_cmpR (op_neN hu) (pv 1) (pe_lst pa_nil) (nomark _)) (pe_call GB hr (by rfl) dB.m dB.F.kp dB.b .nil pass0 (pa_cons
      (pe_call GG hr (by rfl) dG.m dG.F.kp dG.b .nil pass0 (pa_cons (pv 0) (pa_cons (pv 1) (pa_cons (pe_lst pa_nil) (pa_cons (pe_call GD hr (by rfl) dD.m dD.F.kp dD.b .nil pass0 (pa_cons (pv 0) (pa_cons (pe_op op_add (pv 2) pe_int) pa_nil))) pa_nil)))))
      (pa_cons pe_non pa_nil))) (pe_tup pa_nil))), ?_⟩
  refine s_retW (K := K) (CK := CK) (W := W) (m := m + 41) (m' := m) (B := H0) (R := Stn rs M) (ew_if (etw_of (b := true) (et_test (ev_is (ev_neN (ed_var (i := 1) rfl rr) (ed_lst ead_nil (by show (0 : Nat) ≤ 30000; decide))) (congrArg V.bl (rows_ne hne))))) (fun _ => ?_) (fun hb => by cases hb)) e0 hw0 hw fun dR vR H1 hd e1 hw1 r1 => q dR vR H1 hd e1 hw1 r1
  refine ewx_call (n := 2) (R := fun ds d => ∃ rs lv fl a h, ds = [.lst (fl.map frD), h] ∧ Lvl rs lv ∧ FlOk rs fl ∧ fl.length ≤ 20 ∧ HdOk fl a h ∧ lv a + 3 = 3 ∧ d = builtF (fl.map frD) (3 + 1) h) (eaw_cons (eww_call (m := m) (k := 40) (m1 := m + 41) (n := 3) (i := 0) (R := fun ds d => ∃ gl, d = .lst (gl.map frD) ∧ FlOk rs gl ∧ (gl.length : Int) ≤ ((ds.getD 1 .non).items.length : Int) + intOf (ds.getD 2 .non)) (R2 := fun d => ∃ gl, d = .lst (gl.map frD) ∧ FlOk rs gl ∧ gl.length ≤ M)
      (pre := fun ds => ∃ fl many, ds = [rowsD rs, .lst (fl.map frD), .int (many : Nat)] ∧ FlOk rs fl ∧ fl.length ≤ 100 ∧ many ≤ 13) rfl
      (eaw_cons (EvD.w (ed_var (i := 1) rfl rr)) (eaw_cons (EvD.w (ed_lst ead_nil (by show (0 : Nat) ≤ 30000; decide))) (eaw_cons (ew_draw (m := m + 40) (n := (M : Nat) + 1) rfl (ev_addI (EvD.i (ed_var (i := 2) rfl rm)) ev_c) (by omega) (by omega)) eaw_nil))) ?_) (eaw_cons (EvD.w ed_non) eaw_nil)) ?_
  · rintro ds ⟨a, l1, rfl, rfl, b, l2, rfl, rfl, c, l3, rfl, ⟨j, rfl, j0, j1⟩, rfl⟩
    obtain ⟨jn, rfl⟩ := Int.eq_ofNat_of_zero_le j0
    refine ⟨rfl, ⟨[], jn, rfl, (fun f hf => by cases hf), Nat.zero_le _, by omega⟩, fun d ⟨gl, hd, ok, hl⟩ => ⟨gl, hd, ok, ?_⟩⟩
    have hl2 : (gl.length : Int) ≤ (0 : Int) + ((jn : Nat) : Int) := hl
    omega
  · rintro ds ⟨a, l1, rfl, ⟨gl, rfl, ok, hl⟩, b, l2, rfl, rfl, rfl⟩
    exact ⟨rfl, _, ⟨rs, lv, gl, Str.empty, .non, rfl, L, ok, by omega, .inl ⟨rfl, rfl⟩, by rw [L.e], rfl⟩, stn_built L ok (by omega) hl⟩
theorem scLMore : FnScope ["well", "rows", "stand", "many"] ["well", "rows", "stand", "many"] (defScope sLMore) := ⟨rfl, rfl, rfl, by decide +kernel, rfl, by decide +kernel, by decide +kernel⟩
abbrev spMore (K : PySem.W.Frag) (CK : Addr) (rs : List Row) (M : Nat) : Sp := spW K CK 3 40 (fun ds d => Stn rs (M + 2) d) (fun ds => ∃ s many, ds = [rowsD rs, s, .int (many : Nat)] ∧ many ≤ 2 ∧ Stn rs M s)
theorem ok_more {rs : List Row} {lv : Str → Nat} {M : Nat} (hM : M ≤ 12) (L : Lvl rs lv) (ko : KOk rs) (hne : rs ≠ []) (hms : ∀ r ∈ rs, r.marks ≠ []) (d : Def K mg "_law_s_more" sLMore ["well", "rows", "stand", "many"]) (dG : Def K mg "_law_s_grown" sLGrown ["well", "rows", "flat", "many"])
    (dF : Def K mg "_law_s_flat" sLFlat ["records", "holder", "found"]) (dB : Def K mg "_law_s_built" sLBuilt ["flat", "holder"]) (dD : Def K mg "_law_draw" sLDraw ["well", "many"]) (dP : Def K mg "_law_pick" sLPick ["well", "some"]) (N : Nm mg) : FnOk P w K mg base CX0 6 d.f d.fd ["well", "rows", "stand", "many"] (spMore K CK rs M) := by
  have GG : FnOk P w K mg base CX0 5 dG.f dG.fd ["well", "rows", "flat", "many"] (spGrown K CK rs) := (ok_grown ko hne hms dG dD dP N).mono (by omega)
  have GF : FnOk P w K mg base CX0 5 dF.f dF.fd ["records", "holder", "found"] (spFlat K CK 4) := ok_flat dF N 4
  have GB : FnOk P w K mg base CX0 5 dB.f dB.fd ["flat", "holder"] (spBuilt K CK 3) := ok_built dB N 3
  refine d.F.ok scLMore (fun vs H Q E h => spW_len h) (fun cdv A outer s H vs Q E hr h => ?_)
  obtain ⟨W, m, ws, ds, H0, rfl, _, e0, hw0, hw, hr0, ⟨sm, many, rfl, hmany, hS⟩, q⟩ := h
  obtain ⟨vr, v, vm, rfl, rr, r, rm⟩ := RepL.three hr0
  have hu := hr.units
  refine ⟨_, pss_one (ps_ret (pe_ifExp (pt_cmpR (op_neN hu) (pv 1) (pe_lst pa_nil) (nomark _)) (pe_call GB hr (by rfl) dB.m dB.F.kp dB.b .nil pass0 (pa_cons
      (pe_call GG hr (by rfl) dG.m dG.F.kp dG.b .nil pass0 (pa_cons (pv 0) (pa_cons (pv 1) (pa_cons (pe_call GF hr (by rfl) dF.m dF.F.kp dF.b .nil pass0 (pa_cons (pv 2) (pa_cons pe_non (pa_cons (pe_lst pa_nil) pa_nil)))) (pa_cons (pv 3) pa_nil)))))
      (pa_cons pe_non pa_nil))) (pe_tup pa_nil))), ?_⟩
  have hsz : sizeH 4 sm ≤ 30000 := by have := hS.sz; omega
  have hlen := hS.len
  refine s_retW (K := K) (CK := CK) (W := W) (m := m + 40) (m' := m) (B := H0) (R := Stn rs (M + 2)) (ew_if (etw_of (b := true) (et_test (ev_is (ev_neN (ed_var (i := 1) rfl rr) (ed_lst ead_nil (by show (0 : Nat) ≤ 30000; decide))) (congrArg V.bl (rows_ne hne))))) (fun _ => ?_) (fun hb => by cases hb)) e0 hw0 hw fun dR vR H1 hd e1 hw1 r1 => q dR vR H1 hd e1 hw1 r1
  refine ewx_call (n := 2) (R := fun ds d => ∃ rs lv fl a h, ds = [.lst (fl.map frD), h] ∧ Lvl rs lv ∧ FlOk rs fl ∧ fl.length ≤ 20 ∧ HdOk fl a h ∧ lv a + 3 = 3 ∧ d = builtF (fl.map frD) (3 + 1) h) (eaw_cons (eww_call (σ := [some (.ref W), some vr, some v, some vm]) (m := m) (k := 40) (m1 := m + 40) (n := 3) (i := 0) (R := fun ds d => ∃ gl, d = .lst (gl.map frD) ∧ FlOk rs gl ∧ (gl.length : Int) ≤ ((ds.getD 1 .non).items.length : Int) + intOf (ds.getD 2 .non)) (R2 := fun d => ∃ gl, d = .lst (gl.map frD) ∧ FlOk rs gl ∧ gl.length ≤ M + 2)
      (pre := fun ds => ∃ fl many, ds = [rowsD rs, .lst (fl.map frD), .int (many : Nat)] ∧ FlOk rs fl ∧ fl.length ≤ 100 ∧ many ≤ 13) rfl
      (eaw_cons (EvD.w (ed_var (i := 1) rfl rr)) (eaw_cons (EvD.w (ed_flat (ed_var (i := 2) rfl r) hS.rt.h hsz)) (eaw_cons (EvD.w (ed_var (i := 3) rfl rm)) eaw_nil))) ?_) (eaw_cons (EvD.w ed_non) eaw_nil)) ?_
  · rintro ds ⟨a, l1, rfl, rfl, b, l2, rfl, rfl, c, l3, rfl, rfl, rfl⟩
    refine ⟨rfl, ⟨flS sm, many, rfl, hS.ok, by omega, by omega⟩, fun d ⟨gl, hd, ok, hl⟩ => ⟨gl, hd, ok, ?_⟩⟩
    have hl2 : (gl.length : Int) ≤ (((flS sm).map frD).length : Int) + ((many : Nat) : Int) := hl
    rw [List.length_map] at hl2
    omega
  · rintro ds ⟨a, l1, rfl, ⟨gl, rfl, ok, hl⟩, b, l2, rfl, rfl, rfl⟩
    exact ⟨rfl, _, ⟨rs, lv, gl, Str.empty, .non, rfl, L, ok, by omega, .inl ⟨rfl, rfl⟩, by rw [L.e], rfl⟩, stn_built L ok (by omega) hl⟩
end
/-! ### paths -/
def pathsL (sub : D → List Int → List D) (way : List Int) : Nat → List D → List D
  | _, [] => []
  | i, x :: xs => .tup [wayD (way ++ [(i : Int)]), x] :: (sub (x.at 2) (way ++ [(i : Int)]) ++ pathsL sub way (i + 1) xs)
def pathsF : Nat → D → List Int → List D
  | 0, _, _ => []
  | n + 1, d, way => pathsL (pathsF n) way 0 d.items
theorem pathsL_snoc {sub : D → List Int → List D} {way : List Int} {x : D} : ∀ {xs : List D} {i : Nat}, pathsL sub way i (xs ++ [x]) = pathsL sub way i xs ++ (.tup [wayD (way ++ [((i + xs.length : Nat) : Int)]), x] :: sub (x.at 2) (way ++ [((i + xs.length : Nat) : Int)]))
  | [], i => by
    show _ :: (_ ++ pathsL sub way _ []) = _
    rw [show ∀ k, pathsL sub way k [] = [] from fun _ => rfl, List.append_nil]
    rfl
  | y :: ys, i => by
    show _ :: (_ ++ pathsL sub way _ (ys ++ [x])) = _
    rw [pathsL_snoc (xs := ys)]
    have e : i + 1 + ys.length = i + (y :: ys).length := by rw [List.length_cons]; omega
    rw [e]
    show _ = (_ :: (_ ++ _)) ++ _
    rw [List.cons_append, List.append_assoc]
theorem pathsL_len {sub : D → List Int → List D} {sz : D → Nat} : ∀ {xs : List D} {way : List Int} {i : Nat}, (∀ x ∈ xs, ∀ way, (sub (x.at 2) way).length = sz x) → (pathsL sub way i xs).length = (xs.map fun x => 1 + sz x).sum
  | [], _, _, _ => rfl
  | x :: xs, way, i, hs => by
    show (_ :: (_ ++ _)).length = _
    rw [List.length_cons, List.length_append, pathsL_len (sz := sz) fun y hy => hs y (List.mem_cons_of_mem _ hy), hs x List.mem_cons_self, List.map_cons, List.sum_cons]
    omega
theorem at2 {x k m p : D} (hi : x.items = [k, m, p]) : x.at 2 = p := by unfold D.at; rw [hi]; rfl
theorem paths_len : ∀ {n : Nat} {d : D} {way : List Int}, isH n d → ((pathsF n d way).length : Int) = sizeH n d
  | 0, _, _, h => h.elim
  | n + 1, d, way, ⟨_, _, hx⟩ => by
    show ((pathsL (pathsF n) way 0 d.items).length : Int) = _
    rw [pathsL_len (sz := fun x => (sizeH n (x.at 2)).toNat) fun x hx2 w2 => by
      obtain ⟨_, k2, m, p, hi, hp⟩ := hx x hx2
      have := paths_len (way := w2) hp
      rw [at2 hi]
      omega]
    rw [sizeH_succ, sum_cast]
    congr 1
    refine List.map_congr_left fun x hx2 => ?_
    obtain ⟨_, k2, m, p, hi, hp⟩ := hx x hx2
    unfold sizeR
    rw [hi, at2 hi]
    have := sizeN_nonneg n p
    show ((1 + (sizeH n p).toNat : Nat) : Int) = 1 + sizeH n p
    omega
end Any
set_option Elab.async false
set_option linter.all false
set_option maxRecDepth 100000
set_option maxHeartbeats 2000000
namespace Any
open PySem PySem.Spec PyProof.Rows L2 Evl StX
section
variable {P : Program} {w : World} {K : PySem.W.Frag} {mg : Str → Option Value} {base : Heap} {CK : Addr}
theorem paths_part {n : Nat} {d : D} (h : isH (n + 1) d) {i : Nat} {x k m p : D} {way : List Int} (hx : d.items[i]? = some x) (hi : x.items = [k, m, p]) : ((pathsL (pathsF n) way 0 (d.items.take i)).length : Int) + 1 + sizeH n p ≤ sizeH (n + 1) d := by
  have hsz : ∀ y ∈ d.items, ∀ (way : List Int), (pathsF n (y.at 2) way).length = (sizeR n y - 1).toNat := fun y hy w2 => by
    obtain ⟨_, k2, m2, p2, hi2, hp2⟩ := h.2.2 y hy
    have := paths_len (way := w2) hp2
    have e : sizeR n y = 1 + sizeH n p2 := by unfold sizeR; rw [hi2]
    rw [at2 hi2, e]
    omega
  have hsz2 : ∀ y ∈ d.items, ∀ (k : D) (M : Nat), (flatF n (y.at 2) k M).length = (sizeR n y - 1).toNat := fun y hy k M => by
    obtain ⟨_, k2, m2, p2, hi2, hp2⟩ := h.2.2 y hy
    have := flat_len (h := k) (L := M) hp2
    have e : sizeR n y = 1 + sizeH n p2 := by unfold sizeR; rw [hi2]
    rw [at2 hi2, e]
    omega
  have := part_size (hh := k) (L := 0) h hx hi
  rw [flatL2_len (sz := fun y => (sizeR n y - 1).toNat) fun y hy k M => hsz2 y (List.mem_of_mem_take hy) k M] at this
  rw [pathsL_len (sz := fun y => (sizeR n y - 1).toNat) fun y hy w2 => hsz y (List.mem_of_mem_take hy) w2]
  exact this
theorem scLPaths : FnScope ["records", "way", "found", "at", "record"] ["records", "way"] (defScope sLPaths) := ⟨rfl, rfl, rfl, by decide +kernel, rfl, by decide +kernel, by decide +kernel⟩
abbrev spPaths (K : PySem.W.Frag) (CK : Addr) (n : Nat) : Sp := spX K CK 2 (fun ds d => ∃ recs way, ds = [recs, wayD way] ∧ isH n recs ∧ sizeH n recs ≤ 1000 ∧ way.length + n ≤ 100 ∧ d = .lst (pathsF n recs way))
theorem ok_paths_of {n j : Nat} (d : Def K mg "_law_s_paths" sLPaths ["records", "way"]) (GP : FnOk P w K mg base CX0 j d.f d.fd ["records", "way"] (spPaths K CK n)) (N : Nm mg) : FnOk P w K mg base CX0 (j + 1) d.f d.fd ["records", "way"] (spPaths K CK (n + 1)) := by
  refine d.F.ok scLPaths (fun vs H Q E h => spX_len h) (fun cdv A outer s H vs Q E hr h => ?_)
  obtain ⟨x, y, dd, vr, vw, H0, rfl, e0, rr, rw_, ⟨recs, way, hx, hH, hsz, hway, rfl⟩, q⟩ := spX2 h
  cases hx
  refine ⟨_, pss_cons (ps_set (i := 2) scLPaths.nd rfl (.inl rfl) (pe_lst pa_nil))
    (pss_cons (ps_for PassesOwn.never rfl (pi_enumS (by rfl) N.enumerate (pa_cons (pv 0) pa_nil)) (pg_unp rfl (pgs_cons (pg_name (i := 3) scLPaths.nd rfl (.inl rfl)) (pgs_cons (pg_name (i := 4) scLPaths.nd rfl (.inl rfl)) pgs_nil)))
      (pss_cons (ps_expr (pe_bm PySem.F.plainAttrs_list PySem.F.slot_list_append PySem.F.type_list_append mt_append (pv 2) (pa_cons (pe_tup (pa_cons (pe_op op_catA (pv 1) (pe_tup (pa_cons (pv 3) pa_nil))) (pa_cons (pv 4) pa_nil))) pa_nil)))
      (pss_one (ps_expr (pe_bm PySem.F.plainAttrs_list PySem.F.slot_list_extend PySem.F.type_list_extend mt_extend (pv 2) (pa_cons (pe_call GP hr (by rfl) d.m d.F.kp d.b .nil pass0 (pa_cons (pe_ix (r := rIxLT K) ix_lt (pv 4) pe_int (fun _ _ => rfl)) (pa_cons (pe_op op_catA (pv 1) (pe_tup (pa_cons (pv 3) pa_nil))) pa_nil))) pa_nil))))))
    (pss_one (ps_ret (pv 2)))), ?_⟩
  refine ⟨by show (0 : Nat) ≤ sizeLine; exact Nat.zero_le _, fun L hLn => ?_⟩
  have hL0 : H0 L = none := ex_none e0 hLn
  have e1 : Ex H0 (upd H L (.lst [])) := e0.trans (Ex.new hLn)
  refine q_forI (K := K) (CK := CK) (H0 := H0) (ds := enumD x.items) (ei_enum (ed_var rfl rr) hH.1) e1 (fun B i σ' H' => (∃ a b, σ' = [some vr, some vw, some (.ref L), a, b]) ∧ (∀ p, H0 p = none → ((upd H L (.lst [])) p).isSome = true → B p = none) ∧ Ex B H' ∧ ExW L H H' ∧
    ∃ ws', H' L = some (.lst ws') ∧ RepL K CK (hid H0 H (cut L H')) (pathsL (pathsF n) way 0 (x.items.take i)) ws') ?_ ?_ ?_ ?_
  · intro H2 e2
    exact ⟨⟨_, _, rfl⟩, fun p h1 h2 => hid_no h1 h2, hid_sub, ExW.of ((Ex.new hLn).trans e2), [], e2 _ _ upd_same, rfl⟩
  · rintro B i σ' H' ⟨_, _, h3, _⟩
    exact h3
  · rintro B B' i xx xv σ' Ha Hb eB hx ⟨⟨a, b, rfl⟩, bn, bH, eW, ws', hLa, hr'⟩ eab bb' b'b bfr rx
    obtain ⟨x1, hx1, rfl⟩ := enumD_get hx
    obtain ⟨hxL, k, m, p, hi, hp⟩ := hH.2.2 x1 (List.mem_of_getElem? hx1)
    obtain ⟨w1, w2, s1, s2, hg⟩ := eg_unp2 (σ := [some vr, some vw, some (.ref L), a, b]) (i := 3) (j := 4) rx rfl rfl
    refine hg Hb b'b _ fun H3 e3 => ?_
    have hBL : B L = none := bn L hL0 (by rw [upd_same]; rfl)
    have hB'L : B' L = none := bfr L hBL (by rw [hLa]; rfl)
    have eW3 : ExW L H H3 := eW.trans (.of (eab.trans e3))
    have hL3 : H3 L = some (.lst ws') := e3 _ _ (eab _ _ hLa)
    have lift : Ex B' (hid H0 H (cut L H3)) := fun a2 o z => by
      have aL : a2 ≠ L := fun c => by rw [c, hB'L] at z; cases z
      unfold hid
      rw [if_neg]
      · exact cut_at aL (e3 _ _ (b'b _ _ z))
      · rintro ⟨y1, y2⟩
        rw [bfr a2 (bn a2 (by simpa using y1) (by rw [upd_ne aL]; exact y2)) (by
          cases g : H a2 with
          | none => rw [g] at y2; cases y2
          | some u => rw [eW _ _ (cut_at aL g)]; rfl)] at z
        cases z
    have lift0 : Ex H0 (hid H0 H (cut L H3)) := known_hid e0 fun a2 o z => cut_at (fun c => by rw [c, hL0] at z; cases z) (eW3.known e0 hL0 _ _ z)
    have ps := paths_part (way := way) hH hx1 hi
    have hlen : ws'.length = (pathsL (pathsF n) way 0 (x.items.take i)).length := hr'.len
    have hp0 := sizeN_nonneg n p
    have ilen : (x.items.take i).length = i := by
      have := (List.getElem?_eq_some_iff.mp hx1).1
      rw [List.length_take]
      omega
    have hcat : ∀ (Hz : Hp), Ex (hid H0 H (cut L H3)) Hz → EvD K CK (tOp (rCatA K) (tVar 1) (tTup (tCons (tVar 3) tNil))) [some vr, some vw, some (.ref L), some w1, some w2] Hz (wayD (way ++ [(i : Int)])) := fun Hz ez => by
      have z := ed_catT (K := K) (CK := CK) (H := Hz) (σ := [some vr, some vw, some (.ref L), some w1, some w2]) (ta := tVar 1) (tb := tTup (tCons (tVar 3) tNil)) (xs := way.map D.int) (ys := [.int (i : Nat)]) (ed_var rfl ((rw_.ex lift0).ex ez)) (ed_tup (ead_cons (ed_var rfl ((s1.ex lift).ex ez)) ead_nil) (by show (1 : Nat) ≤ 30000; decide)) (by rw [List.length_map]; show _ + 1 ≤ 30000; omega)
      unfold wayD
      rw [List.map_append]
      exact z
    refine q_push (K := K) (CK := CK) (H0 := H0) (H := H) (L := L) (ws := ws') (d := .tup [wayD (way ++ [(i : Int)]), x1]) rfl hL3 eW3 (by omega) (ed_tup (ead_cons (hcat _ (Ex.refl _)) (ead_cons (ed_var rfl (s2.ex lift)) ead_nil)) (by show (2 : Nat) ≤ 30000; decide)) fun v H4 e4 hL4 r4 => ?_
    have eW4 : ExW L H H4 := eW3.trans e4
    have pl := paths_len (way := way ++ [(i : Int)]) hp
    refine s_ext (K := K) (CK := CK) (H0 := H0) (H := H) (L := L) (ws := ws' ++ [v]) (zs := pathsF n p (way ++ [(i : Int)])) rfl hL4 eW4 ?_ (ed_callX (ds := [p, wayD (way ++ [(i : Int)])]) (ead_cons (ed_ix (j := 2) (ed_var rfl ((s2.ex lift).ex (hc_mono e4))) ev_c hxL (by rw [hi]; rfl)) (ead_cons (hcat _ (hc_mono e4)) ead_nil)) rfl ⟨p, way ++ [(i : Int)], rfl, hp, by omega, by rw [List.length_append]; show _ + 1 + n ≤ 100; omega, rfl⟩) fun vs H5 e5 hL5 r5 => ?_
    · rw [List.length_append]
      show ws'.length + 1 + _ ≤ _
      omega
    · refine ⟨⟨_, _, rfl⟩, bn, ((ExW.of (eab.trans e3)).trans (e4.trans e5)).known bH hBL, eW4.trans e5, _, hL5, ?_⟩
      rw [take_more hx1, pathsL_snoc, at2 hi, ilen, Nat.zero_add]
      have one : RepL K CK (hid H0 H (cut L H5)) [.tup [wayD (way ++ [(i : Int)]), x1]] [v] := ⟨v, [], rfl, r4.ex (hc_mono e5), rfl⟩
      have z := RepL.app (RepL.app (RepL.ex (hc_mono ((ExW.of (eab.trans e3)).trans (e4.trans e5))) hr') one) r5
      rw [List.append_assoc] at z
      exact z
  · rintro B σ' H' eB ⟨⟨a, b, rfl⟩, bn, bH, eW, ws', hLa, hr'⟩
    rw [enumD_len, List.take_length] at hr'
    refine ⟨_, rfl, q (.ref L) H' (fun a2 o z => eW _ _ (cut_at (fun c => by rw [c, hLn] at z; cases z) z)) ⟨L, ws', rfl, hid_at hLn hLa, ?_, RepL.ex (hid_mono cut_sub) hr'⟩⟩
    have := paths_len (way := way) hH
    have e : pathsF (n + 1) x way = pathsL (pathsF n) way 0 x.items := rfl
    omega
theorem ok_paths (d : Def K mg "_law_s_paths" sLPaths ["records", "way"]) (N : Nm mg) : ∀ n, FnOk P w K mg base CX0 (n + 1) d.f d.fd ["records", "way"] (spPaths K CK n)
  | 0 => d.F.ok scLPaths (fun vs H Q E h => spX_len h) (fun cdv A outer s H vs Q E hr h => by
      obtain ⟨x, y, dd, vr, vw, H0, rfl, e0, rr, rw_, ⟨recs, way, hx, hH, _⟩, q⟩ := spX2 h
      exact hH.elim)
  | n + 1 => ok_paths_of d (ok_paths d N n) N
end
end Any
set_option Elab.async false
set_option linter.all false
set_option maxRecDepth 100000
set_option maxHeartbeats 2000000
/-! things that may be passed: what they hold, how much; _law_loose -/
namespace Any
open PySem PySem.Spec PyProof.Rows L2 Evl StX
abbrev sLLoose : Stmt := topS 44
def okS (x : Str) : Prop := x.length ≤ 10 ∧ ∀ c ∈ x.cps.toList, c < 16 ^ 8
def okK : Key → Prop
  | .inl i => 0 ≤ i ∧ i ≤ 10
  | .inr x => okS x
def okA : D → Prop
  | .non => True
  | .bl _ => True
  | .int i => 0 ≤ i ∧ i ≤ 10
  | .str x => okS x
  | _ => False
def okD : Nat → D → Prop
  | 0, d => okA d
  | n + 1, d => okA d ∨ (d.isL = true ∧ d.items.length ≤ 60 ∧ ∀ x ∈ d.items, okD n x) ∨ ∃ kvs, d = .dct kvs ∧ kvs.length ≤ 60 ∧ (kvs.map (·.1)).Nodup ∧ ∀ kv ∈ kvs, okK kv.1 ∧ okD n kv.2
mutual
def wt : D → Nat
  | .lst xs => 4 + wtL xs
  | .tup xs => 4 + wtL xs
  | .dct kvs => 4 + wtK kvs
  | .str _ => 110
  | .obj _ => 0
  | _ => 10
def wtL : List D → Nat
  | [] => 0
  | x :: xs => wt x + 2 + wtL xs
def wtK : List (Key × D) → Nat
  | [] => 0
  | (_, x) :: xs => 120 + wt x + wtK xs
end
theorem wtL_sum : ∀ xs : List D, wtL xs = (xs.map fun x => wt x + 2).sum
  | [] => rfl
  | x :: xs => by rw [wtL, wtL_sum xs, List.map_cons, List.sum_cons]
theorem wtK_sum : ∀ xs : List (Key × D), wtK xs = (xs.map fun kv => 120 + wt kv.2).sum
  | [] => rfl
  | (k, x) :: xs => by rw [wtK, wtK_sum xs, List.map_cons, List.sum_cons]
theorem wt_L {d : D} (h : d.isL = true) : wt d = 4 + wtL d.items := by
  cases d with
  | lst xs => rw [wt]; rfl
  | tup xs => rw [wt]; rfl
  | _ => cases h
theorem okA_L {d : D} (h : okA d) : d.isL = false ∧ d.isD = false := by
  cases d with
  | lst _ => exact h.elim
  | tup _ => exact h.elim
  | dct _ => exact h.elim
  | _ => exact ⟨rfl, rfl⟩
/-- e is d, lists for tuples or the other way, dicts in other orders -/
def Lo : Nat → D → D → Prop
  | 0, d, e => e = d
  | n + 1, d, e => (okA d ∧ e = d) ∨ (d.isL = true ∧ e.isL = true ∧ Each (Lo n) d.items e.items) ∨ ∃ kvs es, d = .dct kvs ∧ e = .dct es ∧ (es.map (·.1)).Perm (kvs.map (·.1)) ∧ ∀ kv ∈ es, ∃ v, valD kvs kv.1 = some v ∧ Lo n v kv.2
theorem valD_mem {kvs : List (Key × D)} {k : Key} {v : D} (h : valD kvs k = some v) : (k, v) ∈ kvs := by
  unfold valD at h
  cases e : kvs.find? fun kv => decide (kv.1 = k) with
  | none => rw [e] at h; cases h
  | some p =>
    rw [e] at h
    cases h
    have h1 : decide (p.1 = k) = true := List.find?_some (p := fun (kv : Key × D) => decide (kv.1 = k)) e
    have h2 := List.mem_of_find?_eq_some e
    have h3 : p.1 = k := of_decide_eq_true h1
    rw [← h3]
    exact h2
theorem valD_of : ∀ {kvs : List (Key × D)} {kv : Key × D}, (kvs.map (·.1)).Nodup → kv ∈ kvs → valD kvs kv.1 = some kv.2
  | [], _, _, h => by cases h
  | p :: kvs, kv, nd, h => by
    unfold valD
    rw [List.map_cons] at nd
    obtain ⟨n1, n2⟩ := List.nodup_cons.mp nd
    rcases List.mem_cons.mp h with rfl | h
    · rw [List.find?_cons_of_pos (p := fun (kv2 : Key × D) => decide (kv2.1 = kv.1)) (decide_eq_true rfl)]; rfl
    · rw [List.find?_cons_of_neg (by
        have : ¬ p.1 = kv.1 := fun c => n1 (by rw [c]; exact List.mem_map.mpr ⟨kv, h, rfl⟩)
        simpa using this)]
      exact valD_of n2 h
theorem wtL_each {R : D → D → Prop} (h : ∀ a b, R a b → wt b = wt a) : ∀ {as bs : List D}, Each R as bs → wtL bs = wtL as
  | _, _, .nil => rfl
  | _, _, .cons h1 h2 => by rw [wtL, wtL, h _ _ h1, wtL_each h h2]
theorem sum_permN {l m : List Nat} (h : l.Perm m) : l.sum = m.sum := by
  induction h with
  | nil => rfl
  | cons x _ ih => rw [List.sum_cons, List.sum_cons, ih]
  | swap x y l => simp only [List.sum_cons]; omega
  | trans _ _ h1 h2 => exact h1.trans h2
theorem Each.imp_mem {R S : D → D → Prop} : ∀ {as bs : List D}, Each R as bs → (∀ a ∈ as, ∀ b, R a b → S a b) → Each S as bs
  | _, _, .nil, _ => .nil
  | _, _, .cons h1 h2, h => .cons (h _ List.mem_cons_self _ h1) (h2.imp_mem fun a ha => h a (List.mem_cons_of_mem _ ha))
theorem lo_ok : ∀ {n : Nat} {d e : D}, okD n d → Lo n d e → okD n e ∧ wt e = wt d
  | 0, d, e, h, l => by
    rw [show e = d from l]
    exact ⟨h, rfl⟩
  | n + 1, d, e, h, l => by
    rcases l with ⟨_, rfl⟩ | ⟨hL, hL2, he⟩ | ⟨kvs, es, rfl, rfl, hp, hv⟩
    · exact ⟨h, rfl⟩
    · rcases h with h | ⟨_, hl, hx⟩ | ⟨kvs, rfl, _⟩
      · rw [(okA_L h).1] at hL; cases hL
      · have he2 := he.imp_mem (S := fun a b => okD n b ∧ wt b = wt a) fun a ha b hab => lo_ok (hx a ha) hab
        refine ⟨.inr (.inl ⟨hL2, by rw [he.len]; exact hl, fun y hy => ?_⟩), ?_⟩
        · obtain ⟨a, _, h1, _⟩ := he2.mem y hy
          exact h1
        · rw [wt_L hL, wt_L hL2, wtL_each (fun a b h => h.2) he2]
      · cases hL
    · rcases h with h | ⟨hL, _⟩ | ⟨kvs2, hk, hl, nd, hx⟩
      · exact h.elim
      · cases hL
      · cases hk
        have nd2 : (es.map (·.1)).Nodup := hp.nodup_iff.mpr nd
        have hl2 : es.length = kvs.length := by have := hp.length_eq; rwa [List.length_map, List.length_map] at this
        have each : ∀ kv ∈ es, okK kv.1 ∧ okD n kv.2 ∧ wt kv.2 = wt ((valD kvs kv.1).getD .non) := fun kv hkv => by
          obtain ⟨v, h1, h2⟩ := hv kv hkv
          have hm := hx _ (valD_mem h1)
          have z := lo_ok hm.2 h2
          rw [h1]
          exact ⟨hm.1, z.1, z.2⟩
        refine ⟨.inr (.inr ⟨es, rfl, by omega, nd2, fun kv hkv => ⟨(each kv hkv).1, (each kv hkv).2.1⟩⟩), ?_⟩
        rw [wt, wt, wtK_sum, wtK_sum]
        have e1 : (es.map fun kv => 120 + wt kv.2) = (es.map (·.1)).map fun k => 120 + wt ((valD kvs k).getD .non) := by
          rw [List.map_map]
          exact List.map_congr_left fun kv hkv => by show _ = 120 + wt ((valD kvs kv.1).getD .non); rw [(each kv hkv).2.2]
        have e2 : (kvs.map fun kv => 120 + wt kv.2) = (kvs.map (·.1)).map fun k => 120 + wt ((valD kvs k).getD .non) := by
          rw [List.map_map]
          exact List.map_congr_left fun kv hkv => by show _ = 120 + wt ((valD kvs kv.1).getD .non); rw [valD_of nd hkv]; rfl
        rw [e1, e2, sum_permN (hp.map _)]
section
variable {K : PySem.W.Frag} {CK : Addr} {H H' H0 H1 H2 H3 H4 B : Hp} {σ σ2 : L2.St} {X : Cx} {W : Addr} {m m' k : Nat}
theorem ew_lcS {kf : D → Nat} {wi : TI} {g : TG} {te : TE} {vs : List Nat} {Pd : List D → Prop} {R : D → D → Prop} {N k1 : Nat} (hI : EvIW K CK W k1 (m + N) wi σ B Pd) (hP : ∀ ds, Pd ds → ds.length ≤ 30000 ∧ (ds.map kf).sum ≤ N)
    (turn : ∀ (ds : List D) (m : Nat) (d : D) (x : V) (H0 : Hp), Pd ds → Ex B H0 → H0 W = none → d ∈ ds → Rep K CK H0 d x → ∃ σ2, EvG g x (wipe σ vs) H0 σ2 ∧ wipe σ2 vs = wipe σ vs ∧ EvW K CK W (m + kf d) m te σ2 H0 (R d)) :
    EvW K CK W (m + N + k1) m (tLc wi g tYes te vs) σ B (fun e => ∃ ds es, Pd ds ∧ e = .lst es ∧ Each R ds es) := fun H1 e hBW hw Q q => by
  refine hI H1 e hBW hw _ fun ds J H2 G Y hPd e2 hwN w hG hY => ?_
  intro Da hD
  have hl := (hP ds hPd).1
  have hw2 : WellAt W (m + (ds.map kf).sum) H2 := hwN.less (by have := (hP ds hPd).2; omega)
  have wd : W ≠ Da := fun c => by
    have := hw2.some
    rw [c, hD] at this
    cases this
  have h1D : H1 Da = none := by
    cases c : H1 Da with
    | none => rfl
    | some o =>
      have := e2 _ _ (cut_at wd.symm c)
      rw [hD] at this
      cases this
  have hidW : ∀ Hx, hid B H1 Hx W = none := fun Hx => hid_no hBW hw.some
  have stay : ∀ {Ha : Hp}, ExW W H2 Ha → Ex (hid B H1 H2) Ha := fun {Ha} x a o z => by
    have c : a ≠ W := fun c => by rw [c, hidW] at z; cases z
    exact x _ _ (cut_at c (hid_sub _ _ z))
  refine lc_it w (vs := vs) (fun i H' => ExW W H2 H' ∧ WellAt W (m + ((ds.drop i).map kf).sum) H' ∧ ∃ acc es, H' Da = some (.lst acc) ∧ Each R (ds.take i) es ∧ RepL K CK (hid B H1 (cut Da H')) es acc) ?_ ?_ ?_ ?_
  · refine ⟨.of (Ex.new hD), ?_, [], [], upd_same, .nil, rfl⟩
    obtain ⟨a, b, c, h1, h2⟩ := hw2
    exact ⟨a, b, c, by rw [upd_ne wd]; exact h1, h2⟩
  · intro i H' _ ⟨h2, _⟩
    exact hG H' (stay h2)
  · intro i x Ha Hb hi ⟨h2, hwa, acc, es, ha, hes, hr⟩ y
    have hd : ds[i]? = some ds[i] := List.getElem?_eq_getElem hi
    have it := hY i _ Ha x Hb hd (stay h2) y
    have eab := it.ext
    have hbS : Hb Da = some (.lst acc) := eab _ _ ha
    have h2b : ExW W H2 Hb := h2.trans (.of eab)
    have h1b : ExW W H1 Hb := e2.trans h2b
    have hwb : WellAt W (m + ((ds.drop i).map kf).sum) Hb := hwa.ex eab
    -- the turn's thing is known
    have rx : Rep K CK (hid B H1 (cut Da Hb)) ds[i] x := by
      rcases it with ⟨rfl, r⟩ | ⟨T, xs, ts, rfl, hn, rfl, hdt, htl, r⟩
      · exact r.ex (hid_stay fun a o z => cut_at (fun c => by have := hid_sub _ _ z; rw [c, hD] at this; cases this) (stay h2 _ _ z))
      · have c1 : T ≠ Da := fun c => by rw [c, ha] at hn; cases hn
        have cW : T ≠ W := fun c => by
          have := hwa.some
          rw [← c, hn] at this
          cases this
        have n1 : H1 T = none := by
          cases c : H1 T with
          | none => rfl
          | some o =>
            have := h2 _ _ (cut_at cW (e2 _ _ (cut_at cW c)))
            rw [hn] at this
            cases this
        rw [hdt]
        refine ⟨T, xs, rfl, hid_at n1 (cut_at c1 upd_same), htl, RepL.ex (hid_stay fun a o z => ?_) r⟩
        have z2 := stay h2 _ _ z
        have ca : a ≠ T := fun c => by rw [c, hn] at z2; cases z2
        refine cut_at (fun c => by have := hid_sub _ _ z; rw [c, hD] at this; cases this) ?_
        rw [upd_ne ca]
        exact z2
    have eH : Ex B (hid B H1 (cut Da Hb)) := fun a o z => by
      have ca : a ≠ W := fun c => by rw [c, hBW] at z; cases z
      have z1 := e _ _ z
      unfold hid
      rw [if_neg (by rw [z]; simp)]
      exact cut_at (fun c => by rw [c, h1D] at z1; cases z1) (h1b _ _ (cut_at ca z1))
    obtain ⟨mm, hmm⟩ : ∃ mm, m + ((ds.drop i).map kf).sum = mm + kf ds[i] ∧ mm = m + ((ds.drop (i + 1)).map kf).sum := by
      refine ⟨m + ((ds.drop (i + 1)).map kf).sum, ?_, rfl⟩
      rw [List.drop_eq_getElem_cons hi, List.map_cons, List.sum_cons]
      omega
    obtain ⟨σ2, hg, hwi, he⟩ := turn ds mm _ x (hid B H1 (cut Da Hb)) hPd eH (hidW _) (List.mem_of_getElem? hd) rx
    have eB : Ex (hid B H1 (cut Da Hb)) Hb := fun a o z => cut_sub _ _ (hid_sub _ _ z)
    refine hg Hb eB _ fun H3 e3 => ⟨hwi, ?_⟩
    dsimp only [tYes]
    rw [if_pos rfl]
    rw [hmm.1] at hwb
    refine he H3 (eB.trans e3) (hidW _) (hwb.ex e3) _ fun d v H5 hR e5 hw5 rv => ?_
    have hb5 : ExW W Hb H5 := (ExW.of e3).trans e5
    have hD5 : H5 Da = some (.lst acc) := hb5 _ _ (cut_at wd.symm hbS)
    have hacc : acc.length ≤ 30000 := by
      rw [hr.len, hes.len, List.length_take]
      omega
    -- what the item is, with the list's own place hidden
    have rv' : Rep K CK (hid B H1 (cut Da H5)) d v := by
      refine rv.ex fun a o z => ?_
      have z5 := hid_sub _ _ z
      have ca : a ≠ Da := fun c => by
        subst c
        have n1 : hid B H1 (cut a Hb) a = none := by
          unfold hid
          split
          · rfl
          · exact cut_none
        rw [hid_no n1 (by rw [e3 _ _ hbS]; rfl)] at z
        cases z
      unfold hid
      rw [if_neg]
      · exact cut_at ca z5
      · rintro ⟨y1, y2⟩
        have n1 : hid B H1 (cut Da Hb) a = none := hid_no (by simpa using y1) y2
        have s3 : (H3 a).isSome = true := by
          have := h1b.isSome hwb.some y2
          cases c : Hb a with
          | none => rw [c] at this; cases this
          | some u => rw [e3 _ _ c]; rfl
        rw [hid_no n1 s3] at z
        cases z
    refine ⟨acc, hD5, sz_lt (by omega), ?_, ?_, acc ++ [v], es ++ [d], upd_same, ?_, ?_⟩
    · exact fun a o z => by
        have ca : a ≠ Da := fun c => by
          rw [c] at z
          have := cut_sub _ _ z
          rw [hD] at this
          cases this
        rw [upd_ne ca]
        exact (h2b.trans hb5) _ _ z
    · obtain ⟨a, b, c, g1, g2⟩ := hw5
      rw [← hmm.2]
      exact ⟨a, b, c, by rw [upd_ne wd]; exact g1, g2⟩
    · rw [take_more hd]
      exact hes.snoc hR
    · rw [cut_upd]
      refine RepL.app (RepL.ex (hid_stay fun a o z => ?_) hr) ⟨v, [], rfl, rv', rfl⟩
      have z1 := hid_sub _ _ z
      have ca : a ≠ Da := fun c => by rw [c, cut_none] at z1; cases z1
      have cw : a ≠ W := fun c => by rw [c, hidW] at z; cases z
      exact cut_at ca (((ExW.of eab).trans hb5) _ _ (cut_at cw (cut_sub _ _ z1)))
  · intro H' ⟨h2, hwa, acc, es, ha, hes, hr⟩
    rw [List.take_length] at hes
    refine q (.lst es) _ H' ⟨ds, es, hPd, rfl, hes⟩ (e2.trans h2) (hwa.less (by omega)) ⟨Da, acc, rfl, hid_at h1D ha, ?_, RepL.ex (hid_mono cut_sub) hr⟩
    rw [hes.len]
    exact hl

/-- a def that draws as often as its arguments say -/
def spWf (K : PySem.W.Frag) (CK : Addr) (n : Nat) (kf : List D → Nat) (R : List D → D → Prop) (pre : List D → Prop) : Sp := fun vs H Q _ => ∃ W m ws ds H0, vs = V.ref W :: ws ∧ ds.length = n ∧ Ex H0 H ∧ H0 W = none ∧ WellAt W (m + kf ds) H ∧ RepL K CK H0 ds ws ∧ pre ds ∧
  ∀ d v H', R ds d → ExW W H H' → WellAt W m H' → Rep K CK (hid H0 H H') d v → Q v H'
theorem spWf_len {n : Nat} {kf : List D → Nat} {R : List D → D → Prop} {pre : List D → Prop} {vs : List V} {Q : VK} {E : XK} (h : spWf K CK n kf R pre vs H Q E) : vs.length = n + 1 := by
  obtain ⟨W, m, ws, ds, H0, rfl, h1, _, _, _, h2, _⟩ := h
  rw [List.length_cons, h2.len, h1]
theorem ewf_call {n i : Nat} {kf : List D → Nat} {R : List D → D → Prop} {pre R1 : List D → Prop} {R2 : D → Prop} {E : XK} {ta : TA} {m1 kk : Nat} (hi : σ[i]? = some (some (V.ref W))) (h : EvAW K CK W m1 (m + kk) ta σ B R1) (hp : ∀ ds, R1 ds → ds.length = n ∧ kf ds ≤ kk ∧ pre ds ∧ ∀ d, R ds d → R2 d) :
    EvW K CK W m1 m (tCall (spWf K CK n kf R pre) [] E (tCons (tVar i) ta)) σ B R2 := fun H1 e hB hw Q q => ⟨_, hi, h H1 e hB hw _ fun ds vs H2 hds e2 hw2 r => by
    obtain ⟨hn, hk, hpre, h2⟩ := hp ds hds
    exact ⟨W, m, vs, ds, hid B H1 H2, by rw [List.append_nil], hn, hid_sub, hid_no hB hw.some, hw2.less (by omega), r, hpre, fun d v H' hR e3 hw3 r3 => q d v H' (h2 d hR) (e2.trans e3) hw3 (r3.ex (hid_outW (fun a h1 h2 => hid_no h1 h2) e2 hw2.some))⟩⟩
theorem rep_key {k : Key} {v : V} (r : Rep K CK H (kD k) v) : v = kV k := by
  cases k with
  | inl i => exact r
  | inr x => exact r.1
theorem ed_dgetK {ta tb : TE} {kvs : List (Key × D)} {k : Key} {d : D} (h : EvD K CK ta σ H (.dct kvs)) (hb : Ev tb σ H (kV k)) (hv : valD kvs k = some d) : EvD K CK (tDGet ta tb) σ H d := fun H1 e Q q =>
  h H1 e _ fun v H2 e2 r => hb H2 (e.trans e2) _ fun H3 e3 => by
    obtain ⟨a, ps, rfl, h1, h2⟩ := r
    obtain ⟨u, hu, ru⟩ := h2.val hv
    exact ⟨a, u, rfl, .inl ⟨ps, k, .inl (e3 _ _ (hid_sub _ _ h1)), rfl, hu.symm⟩, q u H3 (e2.trans e3) (ru.ex (hid_mono e3))⟩
def pairD (kv : Key × D) : D := .tup [kD kv.1, kv.2]
theorem rep_pairs : ∀ {kvs : List (Key × D)} {vs : List V}, RepL K CK H (kvs.map pairD) vs → ∃ (ps : List Addr) (es : List (Key × V)), vs = ps.map V.ref ∧ Paired (fun p kv => SqT K H p [kV kv.1, kv.2]) ps es ∧ RepK K CK H kvs es
  | [], _, h => ⟨[], [], h, .nil, rfl⟩
  | (k, d) :: kvs, _, h => by
    obtain ⟨v, r, rfl, hq, h3⟩ := h
    obtain ⟨a, ws, rfl, h1, _, h2⟩ := hq
    obtain ⟨ps, es, rfl, hp, hr⟩ := rep_pairs h3
    obtain ⟨w1, w2, rfl, r1, r2⟩ := RepL.two h2
    rw [rep_key r1] at h1
    exact ⟨a :: ps, (k, w2) :: es, rfl, .cons (st_of h1) hp, w2, es, rfl, r2, hr⟩
theorem Paired.mono {α β : Type} {F G : α → β → Prop} (h : ∀ a b, F a b → G a b) : ∀ {as : List α} {bs : List β}, Paired F as bs → Paired G as bs
  | _, _, .nil => .nil
  | _, _, .cons h1 h2 => .cons (h _ _ h1) (Paired.mono h h2)
theorem merge_nodup : ∀ {more acc : List (Key × V)}, ((acc ++ more).map (·.1)).Nodup → mergeK acc more = acc ++ more
  | [], acc, _ => by rw [List.append_nil]; rfl
  | (k, v) :: more, acc, nd => by
    show mergeK (putK acc k v) more = _
    have hn : valV acc k = none := valV_none_of fun h => by
      rw [List.map_append, List.map_cons] at nd
      exact (List.nodup_append.mp nd).2.2 k h k List.mem_cons_self rfl
    rw [putK_new v hn, merge_nodup (by rw [List.append_assoc]; exact nd), List.append_assoc]
    rfl
/-- dict of pairs -/
abbrev rDictP (K : PySem.W.Frag) : List V → Hp → VK → Prop := fun xs H Q => ∃ (a : Addr) (ps : List Addr) (kvs : List (Key × V)), xs = [.ref a] ∧ SqL K H a (ps.map V.ref) ∧ Paired (fun p kv => SqT K H p [kV kv.1, kv.2]) ps kvs ∧
    ∀ p, H p = none → Q (.ref p) (upd H p (.dK (mergeK [] kvs)))
theorem ew_dict {te : TE} {P : List (Key × D) → Prop} (h : EvW K CK W m m' te σ B (fun e => ∃ kvs, e = .lst (kvs.map pairD) ∧ P kvs)) (nd : ∀ kvs, P kvs → (kvs.map (·.1)).Nodup) : EvW K CK W m m' (tCB (rDictP K) (tCons te tNil)) σ B (fun e => ∃ kvs, e = .dct kvs ∧ P kvs) := fun H1 e hB hw Q q =>
  h H1 e hB hw _ fun d v H2 hd e2 hw2 r => by
    obtain ⟨kvs, rfl, hP⟩ := hd
    obtain ⟨a, vs, rfl, h1, _, h2⟩ := r
    obtain ⟨ps, es, rfl, hp, hr⟩ := rep_pairs h2
    refine ⟨a, ps, es, rfl, sq_of (hid_sub _ _ h1), hp.mono fun p kv z => ?_, fun p hpn => ?_⟩
    · rcases z with z | z
      · exact .inl (ex_rd hid_sub z)
      · exact .inr z
    · have pn : H1 p = none := by
        cases c : H1 p with
        | none => rfl
        | some o =>
          have pw : p ≠ W := fun c => by
            have := hw2.some
            rw [← c, hpn] at this
            cases this
          have := e2 _ _ (cut_at pw c)
          rw [hpn] at this
          cases this
      have ek : mergeK [] es = es := merge_nodup (acc := []) (by
        have := hr.keys
        rw [List.nil_append, this]
        exact nd kvs hP)
      rw [ek]
      exact q (.dct kvs) _ _ ⟨kvs, rfl, hP⟩ (e2.trans (.of (Ex.new hpn))) (hw2.ex (Ex.new hpn)) ⟨p, es, rfl, hid_at pn upd_same, RepK.ex (hid_mono (Ex.new hpn)) hr⟩
end
end Any
set_option Elab.async false
set_option linter.all false
set_option maxRecDepth 100000
set_option maxHeartbeats 2000000
namespace Any
open PySem PySem.Spec PyProof.Rows L2 Evl StX
def keyOf : D → Key
  | .int i => .inl i
  | .str x => .inr x
  | _ => .inl 0
theorem keyOf_kD (k : Key) : keyOf (kD k) = k := by cases k <;> rfl
theorem pairs_of_each {n : Nat} {kvs : List (Key × D)} : ∀ {ks es : List D}, Each (fun k e => ∃ kv ∈ kvs, k = kD kv.1 ∧ ∃ e', e = .tup [kD kv.1, e'] ∧ Lo n kv.2 e') ks es → ∃ kvs' : List (Key × D), es = kvs'.map pairD ∧ kvs'.map (fun kv => kD kv.1) = ks ∧ ∀ kv' ∈ kvs', ∃ kv ∈ kvs, kv.1 = kv'.1 ∧ Lo n kv.2 kv'.2
  | _, _, .nil => ⟨[], rfl, rfl, fun _ h => by cases h⟩
  | _, _, .cons h1 h2 => by
    obtain ⟨kvs', rfl, rfl, h3⟩ := pairs_of_each h2
    obtain ⟨kv, hkv, rfl, e', rfl, hl⟩ := h1
    exact ⟨(kv.1, e') :: kvs', rfl, rfl, fun x hx => by
      rcases List.mem_cons.mp hx with rfl | hx
      · exact ⟨kv, hkv, rfl, hl⟩
      · exact h3 x hx⟩
section
variable {K : PySem.W.Frag} {CK : Addr} {H B : Hp} {σ : L2.St}
theorem ev_isLD {ta : TE} {d : D} (T : KCls K CK) (ha : EvD K CK ta σ H d) :
    Ev (tCB (rIsiT K) (tCons ta (tCons (tTup (tCons (tC (.ty "list")) (tCons (tC (.ty "tuple")) tNil))) tNil))) σ H (.bl d.isL) := fun H1 e Q q =>
  ha H1 e _ fun v H2 e2 r => ⟨sz_of (by decide), fun p hp => ⟨v, p, [.ty "list", .ty "tuple"], tyD CK d, [.type "list", .type "tuple"], d.isL, rfl, upd_same, .cons (.ty "list") (.cons (.ty "tuple") .nil), (r.ex (hid_sub.trans (Ex.new hp))).ty T, kit_L T d, q _ (e2.trans (Ex.new hp))⟩⟩
end
section
variable {P : Program} {w : World} {K : PySem.W.Frag} {mg : Str → Option Value} {base : Heap} {CK : Addr}
theorem scLLoose : FnScope ["well", "thing", "found", "key", "one"] ["well", "thing"] (defScope sLLoose) := ⟨rfl, rfl, rfl, by decide +kernel, rfl, by decide +kernel, by decide +kernel⟩
abbrev spLoose (K : PySem.W.Frag) (CK : Addr) (n : Nat) : Sp := spWf K CK 1 (fun ds => 1001 * wt (ds.getD 0 .non)) (fun ds d => Lo n (ds.getD 0 .non) d) (fun ds => ∃ x, ds = [x] ∧ okD n x)
def spLoose' (K : PySem.W.Frag) (CK : Addr) : Nat → Sp
  | 0 => fun _ _ _ _ => False
  | n + 1 => spLoose K CK n
theorem ok_loose_of {n j : Nat} (d : Def K mg "_law_loose" sLLoose ["well", "thing"]) (dM : Def K mg "_law_mixed" sLMixed ["well", "some"]) (dD : Def K mg "_law_draw" sLDraw ["well", "many"])
    (GL : FnOk P w K mg base CX0 j d.f d.fd ["well", "thing"] (spLoose' K CK n)) (hj : 2 ≤ j) (T : KCls K CK) (N : Nm mg) : FnOk P w K mg base CX0 (j + 1) d.f d.fd ["well", "thing"] (spLoose K CK n) := by
  have GM : FnOk P w K mg base CX0 j dM.f dM.fd ["well", "some"] (spMixed K CK) := (ok_mixed dM dD N).mono hj
  have GD : FnOk P w K mg base CX0 j dD.f dD.fd ["well", "many"] spDraw := (ok_draw dD N).mono (by omega)
  refine d.F.ok scLLoose (fun vs H Q E h => spWf_len h) (fun cdv A outer s H vs Q E hr h => ?_)
  obtain ⟨W, m, ws, ds, H0, rfl, _, e0, hw0, hw, hr0, ⟨x, rfl, hx⟩, q⟩ := h
  obtain ⟨v, rfl, r⟩ := RepL.one hr0
  have hu := hu_of hr
  refine ⟨_, pss_cons (ps_if (pt_val (pe_callB call_isi (by rfl) N.isinstance boot_isinstance (pa_cons (pv 1) (pa_cons (pe_bltn (v := .ty "dict") (by rfl) N.dict boot_dict rfl) pa_nil))))
      (pss_one (ps_ret (pe_callTy (call_dictP rfl) (by rfl) N.dict boot_dict (pa_cons
        (pe_lc (own := [("key", 3)]) (g := gName 3) (tt := tYes) (te := tTup (tCons (tVar 3) (tCons (tCall (spLoose' K CK n) [] E0 (tCons (tVar 0) (tCons (tDGet (tVar 1) (tVar 3)) tNil))) tNil))) rfl scLLoose.nd
          (pi_list (pe_call GM hr (by rfl) dM.m dM.F.kp dM.b .nil pass0 (pa_cons (pv 0) (pa_cons (pe_callTy (call_list_dK rfl) (by rfl) N.list boot_list (pa_cons (pv 1) pa_nil)) pa_nil))))
          (blkOk_by (N := ["well", "thing", "found", "key", "one"]) (sc := defScope sLLoose) (by decide +kernel)) (fun _ _ _ _ _ => pg_name (i := 3) scLLoose.nd rfl (Or.inl rfl)) (fun _ _ _ _ _ => pts_nil)
          (fun _ _ _ _ _ => pe_tup (pa_cons (pv 3) (pa_cons (pe_call GL hr (by rfl) d.m d.F.kp d.b .nil pass0 (pa_cons (pv 0) (pa_cons (pe_dget hu (pv 1) (pv 3) (fun _ _ => rfl)) pa_nil))) pa_nil)))) pa_nil)))) pss_nil)
    (pss_cons (ps_if (pt_not (pt_val (pe_callB call_isiT (by rfl) N.isinstance boot_isinstance (pa_cons (pv 1) (pa_cons (pe_tup (pa_cons (pe_bltn (v := .ty "list") (by rfl) N.list boot_list rfl) (pa_cons (pe_bltn (v := .ty "tuple") (by rfl) N.tuple boot_tuple rfl) pa_nil))) pa_nil))))) (pss_one (ps_ret (pv 1))) pss_nil)
    (pss_cons (ps_setLc (i := 2) (own := [("one", 4)]) (g := gName 4) (tt := tYes) (te := tCall (spLoose' K CK n) [] E0 (tCons (tVar 0) (tCons (tVar 4) tNil))) rfl scLLoose.nd rfl rfl (sw_true rfl rfl rfl (by decide +kernel))
        (pi_seq (pv 1)) (blkOk_by (N := ["well", "thing", "found", "key", "one"]) (sc := defScope sLLoose) (by decide +kernel)) (fun _ _ _ _ _ => pg_name (i := 4) scLLoose.nd rfl (Or.inl rfl)) (fun _ _ _ _ _ => pts_nil)
        (fun _ _ _ _ _ => pe_call GL hr (by rfl) d.m d.F.kp d.b .nil pass0 (pa_cons (pv 0) (pa_cons (pv 4) pa_nil))))
    (pss_one (ps_ret (pe_ifExp (pt_cmpR op_eq (pe_call GD hr (by rfl) dD.m dD.F.kp dD.b .nil pass0 (pa_cons (pv 0) (pa_cons pe_int pa_nil))) pe_int (nomark _)) (pv 2) (pe_callTy call_tuple_of (by rfl) N.tuple boot_tuple (pa_cons (pv 2) pa_nil))))))), ?_⟩
  have hw' : WellAt W (m + 1001 * wt x) H := hw
  refine q_when (b := x.isD) (Evl.EvT.mono e0 (et_B (ev_isTy T (ed_var (i := 1) rfl r) (kit_D T x)))) (fun hD H1 e1 => ?_) fun hD H1 e1 => ?_
  · -- a dict
    obtain ⟨n', rfl, kvs, rfl, hl, nd, hkv⟩ : ∃ n', n = n' + 1 ∧ ∃ kvs, x = .dct kvs ∧ kvs.length ≤ 60 ∧ (kvs.map (·.1)).Nodup ∧ ∀ kv ∈ kvs, okK kv.1 ∧ okD n' kv.2 := by
      cases n with
      | zero => rw [(okA_L hx).2] at hD; cases hD
      | succ n' =>
        rcases hx with h | ⟨h, _⟩ | ⟨kvs, h1, h2, h3, h4⟩
        · rw [(okA_L h).2] at hD; cases hD
        · cases x <;> first | (cases hD; done) | (cases h; done)
        · exact ⟨n', rfl, kvs, h1, h2, h3, h4⟩
    have ex1 : Ex H0 H1 := e0.trans e1
    have kok : keysOk kvs := ⟨by omega, fun kv hk => by
      have := (hkv kv hk).1
      cases c : kv.1 with
      | inl i => exact trivial
      | inr z =>
        rw [c] at this
        have h2 : z.length ≤ 10 := this.1
        show z.length ≤ 1000
        omega⟩
    have hsum : ∀ ks : List D, ks.Perm (kvs.map fun kv => kD kv.1) → ks.length ≤ 30000 ∧ (ks.map fun k => 1001 * wt ((valD kvs (keyOf k)).getD .non)).sum ≤ 1001 * wtK kvs := fun ks hp => by
      refine ⟨by have := hp.length_eq; rw [List.length_map] at this; omega, ?_⟩
      rw [sum_permN (hp.map _), List.map_map, wtK_sum]
      have e : (kvs.map ((fun k => 1001 * wt ((valD kvs (keyOf k)).getD .non)) ∘ fun kv => kD kv.1)) = kvs.map fun kv => 1001 * wt kv.2 := List.map_congr_left fun kv hk => by
        show 1001 * wt ((valD kvs (keyOf (kD kv.1))).getD .non) = _
        rw [keyOf_kD, valD_of nd hk]
        rfl
      rw [e]
      have : ∀ l : List (Key × D), (l.map fun kv => 1001 * wt kv.2).sum ≤ 1001 * (l.map fun kv => 120 + wt kv.2).sum := fun l => by
        induction l with
        | nil => exact Nat.le_refl _
        | cons y l ih => simp only [List.map_cons, List.sum_cons]; omega
      exact this kvs
    have hwt : wt (.dct kvs) = 4 + wtK kvs := by rw [wt]
    rw [hwt] at hw'
    refine s_retW (K := K) (CK := CK) (W := W) (B := H0) (m := (m + 1001 * wtK kvs) + 1000) (m' := m) (R := fun e => ∃ es : List (Key × D), e = .dct es ∧ (es.map (·.1)).Perm (kvs.map (·.1)) ∧ ∀ kv ∈ es, ∃ v, valD kvs kv.1 = some v ∧ Lo n' v kv.2) (ew_dict (EvW.imp (ew_lcS (m := m) (N := 1001 * wtK kvs) (k1 := 1000) (kf := fun k => 1001 * wt ((valD kvs (keyOf k)).getD .non)) (Pd := fun ks => ks.Perm (kvs.map fun kv => kD kv.1))
        (R := fun k e => ∃ kv ∈ kvs, k = kD kv.1 ∧ ∃ e', e = .tup [kD kv.1, e'] ∧ Lo n' kv.2 e')
        (eiw_list (EvW.imp (ew_call (K := K) (CK := CK) (k := 1000) (n := 1) (R := fun ds d => ∃ es, d = .lst es ∧ es.Perm (ds.getD 0 .non).items) (pre := fun ds => ∃ s, ds = [s] ∧ s.isL = true ∧ s.items.length ≤ 1000) (ds := [.lst (kvs.map fun (kv : Key × D) => kD kv.1)]) rfl (ead_cons (ed_listD (ed_var (i := 1) rfl r) kok) ead_nil) rfl ⟨_, rfl, rfl, by show (kvs.map fun kv => kD kv.1).length ≤ 1000; rw [List.length_map]; omega⟩) fun d ⟨es, h1, h2⟩ => ⟨es, h1, h2⟩)) hsum ?_) ?_) ?_) ex1 hw0 ((hw'.ex e1).less (by omega)) fun dR vR H2 hR e2 hw2 r2 => ?_
    · intro ks m2 d2 x2 Hk hp ek hkW hd rx
      obtain ⟨kv, hkvm, rfl⟩ := List.mem_map.mp (hp.mem_iff.mp hd)
      have hv := valD_of nd hkvm
      have hx2 := rep_key rx
      refine ⟨_, eg_name, rfl, EvW.imp (ew_tup (eaw_cons (EvD.w (ed_var rfl rx)) (eaw_cons (ewf_call (m := m2) (m1 := m2 + 1001 * wt ((valD kvs (keyOf (kD kv.1))).getD .non)) (kk := 1001 * wt kv.2) (i := 0) (n := 1) (kf := fun ds => 1001 * wt (ds.getD 0 .non)) (R := fun ds d => Lo n' (ds.getD 0 .non) d) (pre := fun ds => ∃ x, ds = [x] ∧ okD n' x) (R2 := fun d => Lo n' kv.2 d) rfl
          (eaw_cons (EvD.wl (ed_dgetK (k := kv.1) (ed_var (i := 1) rfl (r.ex ek)) (ev_var (by rw [hx2]; rfl)) hv) (by rw [keyOf_kD, hv]; exact Nat.le_refl _)) eaw_nil) ?_) eaw_nil)) ?_) ?_⟩
      · rintro ds ⟨a, l, rfl, rfl, rfl⟩
        exact ⟨rfl, Nat.le_refl _, ⟨_, rfl, (hkv kv hkvm).2⟩, fun d h => h⟩
      · rintro l ⟨a, l1, rfl, _, b, l2, rfl, _, rfl⟩
        show (2 : Nat) ≤ 30000
        decide
      · rintro e ⟨l, rfl, a, l1, rfl, rfl, b, l2, rfl, hb, rfl⟩
        exact ⟨kv, hkvm, rfl, b, rfl, hb⟩
    · rintro e ⟨ks, es, hp, rfl, hE⟩
      obtain ⟨kvs', rfl, hk2, h3⟩ := pairs_of_each hE
      refine ⟨kvs', rfl, ?_, fun kv' hkv' => ?_⟩
      · have h4 : (ks.map keyOf).Perm ((kvs.map fun kv => kD kv.1).map keyOf) := hp.map keyOf
        rw [← hk2, List.map_map, List.map_map] at h4
        have e1 : kvs'.map (keyOf ∘ fun kv => kD kv.1) = kvs'.map (·.1) := List.map_congr_left fun kv _ => keyOf_kD kv.1
        have e2 : kvs.map (keyOf ∘ fun kv => kD kv.1) = kvs.map (·.1) := List.map_congr_left fun kv _ => keyOf_kD kv.1
        rw [e1, e2] at h4
        exact h4
      · obtain ⟨kv, hkv2, h5, h6⟩ := h3 kv' hkv'
        exact ⟨kv.2, by rw [← h5]; exact valD_of nd hkv2, h6⟩
    · exact fun es h => h.1.nodup_iff.mpr nd
    · obtain ⟨es, rfl, h1, h2⟩ := hR
      exact q _ vR H2 (.inr (.inr ⟨kvs, es, rfl, rfl, h1, h2⟩)) ((ExW.of e1).trans e2) hw2 (r2.ex (hidW_second (.of e1) (hw.ex e1).some))
  · have ex1 : Ex H0 H1 := e0.trans e1
    refine q_when (b := !x.isL) (Evl.EvT.mono ex1 (et_not (et_B (ev_isLD T (ed_var (i := 1) rfl r))))) (fun hL H2 e2 => ?_) fun hL H2 e2 => ?_
    · -- an atom
      have hA : okA x := by
        cases n with
        | zero => exact hx
        | succ n' =>
          rcases hx with h | ⟨h, _⟩ | ⟨kvs, rfl, _⟩
          · exact h
          · rw [h] at hL; cases hL
          · cases hD
      refine s_retD (K := K) (CK := CK) (H0 := H0) (d := x) (ed_var (i := 1) rfl r) (ex1.trans e2) fun v5 H5 e5 r5 => q x v5 H5 ?_ (.of (e1.trans (e2.trans e5))) ((hw'.ex (e1.trans (e2.trans e5))).less (by omega)) (r5.ex (hid_le (e1.trans e2)))
      cases n with
      | zero => rfl
      | succ n' => exact .inl ⟨hA, rfl⟩
    · -- a list or a tuple
      have hxL : x.isL = true := by simpa using hL
      obtain ⟨n', rfl, hl, hall⟩ : ∃ n', n = n' + 1 ∧ x.items.length ≤ 60 ∧ ∀ y ∈ x.items, okD n' y := by
        cases n with
        | zero => rw [(okA_L hx).1] at hxL; cases hxL
        | succ n' =>
          rcases hx with h | ⟨h, h1, h2⟩ | ⟨kvs, rfl, _⟩
          · rw [(okA_L h).1] at hxL; cases hxL
          · exact ⟨n', rfl, h1, h2⟩
          · cases hxL
      have ex2 : Ex H0 H2 := ex1.trans e2
      have hwt := wt_L hxL
      have hsum : (x.items.map fun y => 1001 * wt y).sum ≤ 1001 * wtL x.items := by
        rw [wtL_sum]
        have : ∀ l : List D, (l.map fun y => 1001 * wt y).sum ≤ 1001 * (l.map fun y => wt y + 2).sum := fun l => by
          induction l with
          | nil => exact Nat.le_refl _
          | cons y l ih => simp only [List.map_cons, List.sum_cons]; omega
        exact this _
      refine q_setW (K := K) (CK := CK) (W := W) (B := H0) (ew_lcS (m := m + 1) (N := 1001 * wtL x.items) (k1 := 0) (kf := fun y => 1001 * wt y) (Pd := fun e => e = x.items) (R := fun y e => Lo n' y e) (eiw_of (ei_seq (ed_var (i := 1) rfl r) hxL)) (fun ds hds => by subst hds; exact ⟨by omega, hsum⟩) ?_) ex2 hw0 ((hw'.ex (e1.trans e2)).less (by rw [hwt]; omega)) fun dF vF H3 hF e3 hw3 rF => ?_
      · intro ds m2 d2 x2 Hk hp ek hkW hd rx
        subst hp
        refine ⟨_, eg_name, rfl, ewf_call (m := m2) (m1 := m2 + 1001 * wt d2) (kk := 1001 * wt d2) (i := 0) (n := 1) (kf := fun ds => 1001 * wt (ds.getD 0 .non)) (R := fun ds d => Lo n' (ds.getD 0 .non) d) (pre := fun ds => ∃ x, ds = [x] ∧ okD n' x) rfl (eaw_cons (EvD.w (ed_var (i := 4) rfl rx)) eaw_nil) ?_⟩
        rintro ds ⟨a, l, rfl, rfl, rfl⟩
        exact ⟨rfl, Nat.le_refl _, ⟨_, rfl, hall _ hd⟩, fun d h => h⟩
      · obtain ⟨ds, es, rfl, rfl, hE⟩ := hF
        have eW3 : ExW W H H3 := (ExW.of (e1.trans e2)).trans e3
        have bW : hid H0 H2 H3 W = none := hid_no hw0 (hw.ex (e1.trans e2)).some
        have fin := ew_if (K := K) (CK := CK) (W := W) (m := m + 1) (m1 := m) (m' := m) (B := hid H0 H2 H3) (σ := [some (.ref W), some v, some vF, none, none]) (R := fun e => e.isL = true ∧ e.items = es) (etw_draw (n := 2) (i := 0) (E := E0) rfl (by decide) (by decide))
          (fun _ => EvW.imp (EvD.w (ed_var (i := 2) rfl rF)) (by rintro e rfl; exact ⟨rfl, rfl⟩)) (fun _ => EvW.imp (EvD.w (ed_tupOf (ed_var (i := 2) rfl rF))) (by rintro e rfl; exact ⟨rfl, rfl⟩))
        refine fin H3 hid_sub bW hw3 _ fun e vE Hc he ec hwc rE => q e vE Hc (.inr (.inl ⟨hxL, he.1, by rw [he.2]; exact hE⟩)) (eW3.trans ec) hwc (rE.ex (hid_outW (fun a h1 h2 => hid_no h1 ?_) eW3 hw3.some))
        cases g : H a with
        | none => rw [g] at h2; cases h2
        | some u => rw [(e1.trans e2) _ _ g]; rfl
theorem ok_loose (d : Def K mg "_law_loose" sLLoose ["well", "thing"]) (dM : Def K mg "_law_mixed" sLMixed ["well", "some"]) (dD : Def K mg "_law_draw" sLDraw ["well", "many"]) (T : KCls K CK) (N : Nm mg) : ∀ n, FnOk P w K mg base CX0 (n + 3) d.f d.fd ["well", "thing"] (spLoose K CK n)
  | 0 => ok_loose_of d dM dD (d.F.ok (k := 1) scLLoose (fun _ _ _ _ h => h.elim) (fun _ _ _ _ _ _ _ _ _ h => h.elim)) (by omega) T N
  | n + 1 => ok_loose_of d dM dD (ok_loose d dM dD T N n) (by omega) T N
end
end Any
set_option Elab.async false
set_option linter.all false
set_option maxRecDepth 100000
set_option maxHeartbeats 2000000
/-! sum(lists, []) -/
namespace Any
open PySem PySem.Spec PyProof.Rows
def restL (its : Nat → List Value) : Nat → Nat → List Value
  | 0, _ => []
  | k + 1, i => its i ++ restL its k (i + 1)
abbrev lstObj (vs : List Value) (n : Nat) : Obj := { cls := .type "list", data := .seq vs.toArray n }
section
variable {prog : Program} {w : World} {A : Around} {R : Result → Shared → Prop} {I ax : Addr} {items : Array Value}
theorem sumL_loop (hh : A.handled = none) (hne : ax ≠ I) (ad : Nat → Addr) (its : Nat → List Value) (nn : Nat → Nat) (hval : ∀ (i : Nat) (v : Value), items[i]? = some v → v = .ref (ad i)) (S : Addr) (hSf : S ∉ [I, ax]) :
    ∀ (k i : Nat) (s : Shared) (t : Addr) (acc : List Value) (nt c : Nat), items.size - i = k → i ≤ items.size → (s.heap.IsListIter I ax i ∧ s.heap.IsList ax items) → s.heap.get? S = some { cls := .type "list", dict := none, data := .seq #[.ref t] c, slots := #[] } → s.heap.get? t = some (lstObj acc nt) → t ≠ S → t ≠ I →
    (∀ j, j < items.size → s.heap.get? (ad j) = some (lstObj (its j) (nn j)) ∧ ad j ≠ S ∧ ad j ≠ I) → acc.length + (restL its k i).length ≤ sizeLine →
    (∀ h' tk t' n', (∀ b o, b ≠ I → b ≠ S → s.heap.get? b = some o → h'.get? b = some o) → h'.get? t' = some (lstObj (acc ++ restL its k i) n') → ((k = 0 ∧ t' = t) ∨ I < t') → R (.ok (.ret (.ref t'))) { s with heap := h', toks := tk }) →
    codeAny (model prog w) A (.builtin "sum.loop" ⟨[.ref I, .ref S, rawInt 2, rawInt 0], []⟩) R s := by
  have W : Walks prog w A.in1 I [I, ax] [I] items.size (fun i v => items[i]? = some v) (fun i h => h.IsListIter I ax i ∧ h.IsList ax items) := Walks.list (A := A.in1) hh I ax hne items
  have wI : ∀ {b : Addr}, b ≠ I → b ∉ [I] := fun hb hm => hb (List.mem_singleton.mp hm)
  have hSI : S ≠ I := fun h => hSf (by rw [h]; exact List.mem_cons_self)
  have hSx : S ≠ ax := fun h => hSf (by rw [h]; exact List.mem_cons_of_mem _ List.mem_cons_self)
  intro k
  induction k with
  | zero =>
    intro i s t acc nt c hk hi hst hS ht htS htI had hsz hR
    have hin : i = items.size := by omega
    subst hin
    refine codeAny_builtin F.entry_sum_loop ?_
    rw [Around.under_plainId F.plain_sum_loop _]
    show wpAny _ A.in1 (seqItems? (.ref S) >>= _) _ _ s
    refine wpAny_bind (wpAny_seqItems hS rfl ?_)
    show wpAny _ A.in1 (tryCatch (pyNext (.ref I)) _ >>= _) _ _ s
    refine wpAny_bind (wpAny_tryCatch (W.done s _ _ hst fun h' tk hk' => ?_))
    exact wpAny_pure (hR h' tk t nt (fun b o hb _ e => hk' b o (wI hb) e) (by rw [show restL its 0 items.size = [] from rfl, List.append_nil]; exact hk' t _ (wI htI) ht) (.inl ⟨rfl, rfl⟩))
  | succ k ih =>
    intro i s t acc nt c hk hi hst hS ht htS htI had hsz hR
    have hlt : i < items.size := by omega
    refine codeAny_builtin F.entry_sum_loop ?_
    rw [Around.under_plainId F.plain_sum_loop _]
    show wpAny _ A.in1 (seqItems? (.ref S) >>= _) _ _ s
    refine wpAny_bind (wpAny_seqItems hS rfl ?_)
    show wpAny _ A.in1 (tryCatch (pyNext (.ref I)) _ >>= _) _ _ s
    refine wpAny_bind (wpAny_tryCatch (W.item i s _ _ hlt hst fun v h' tk hP hst' hk' => ?_))
    have hv := hval i v hP
    subst hv
    obtain ⟨ha, haS, haI⟩ := had i hlt
    have hS' := hk' S _ (wI hSI) hS
    have ht' := hk' t _ (wI htI) ht
    have ha' := hk' (ad i) _ (wI haI) ha
    have hrest : restL its (k + 1) i = its i ++ restL its k (i + 1) := rfl
    rw [hrest, List.length_append] at hsz
    have ltOf : ∀ {b : Addr} {o : Obj}, h'.get? b = some o → b < h'.objs.size := fun e => Heap.lt_size e
    have hI' : I < h'.objs.size := by
      obtain ⟨_, e, _⟩ := hst'.1
      exact Heap.lt_size e
    have hx' : ax < h'.objs.size := by
      obtain ⟨_, e, _⟩ := hst'.2
      exact Heap.lt_size e
    show wpAny _ A.in1 ((holding [Value.ref (ad i)] (binaryOp .Add (.ref t) (.ref (ad i)))).attempt >>= _) _ _ _
    refine wpAny_bind (wpAny_attempt (wpAny_holding (PySem.P.add_list (s := { s with heap := h', toks := tk }) ht' ha' ?_ (by rw [List.size_toArray, List.size_toArray]; omega))))
    show wpAny _ A.in1 (updateSeq S (fun _ => #[.ref h'.objs.size]) >>= _) _ _ _
    have hS2 : (h'.push (lstObj (acc ++ its i) 0)).get? S = some { cls := .type "list", dict := none, data := .seq #[.ref t] c, slots := #[] } := Heap.get?_push_of_some _ hS'
    have ea : acc.toArray ++ (its i).toArray = (acc ++ its i).toArray := by simp
    rw [ea]
    refine wpAny_bind (wpAny_updateSeq hS2 rfl ?_)
    have hS3 := Heap.get?_update_self (Obj.mapSeq fun _ => #[Value.ref h'.objs.size]) hS2 rfl
    refine wpAny_bind (wpAny_letGo ?_)
    have hold : ∀ b o, b ≠ S → h'.get? b = some o → (((h'.push (lstObj (acc ++ its i) 0)).update S (Obj.mapSeq fun _ => #[Value.ref h'.objs.size])).update S (Obj.mapSeq fun _ => #[Value.ref h'.objs.size])).get? b = some o := fun b o hb e =>
      (Heap.get?_update_other _ _ (Ne.symm hb)).trans ((Heap.get?_update_other _ _ (Ne.symm hb)).trans (Heap.get?_push_of_some _ e))
    have hnew : (((h'.push (lstObj (acc ++ its i) 0)).update S (Obj.mapSeq fun _ => #[Value.ref h'.objs.size])).update S (Obj.mapSeq fun _ => #[Value.ref h'.objs.size])).get? h'.objs.size = some (lstObj (acc ++ its i) 0) := by
      have hb : S ≠ h'.objs.size := Nat.ne_of_lt (ltOf hS')
      exact (Heap.get?_update_other _ _ hb).trans ((Heap.get?_update_other _ _ hb).trans (Heap.get?_push_size _ rfl))
    have hsize : ∀ b o, s.heap.get? b = some o → b ≠ I → b < h'.objs.size := fun b o e hb => ltOf (hk' b o (wI hb) e)
    refine wpAny_bind (wpAny_updateSeq hS3 rfl (wpAny_pure ⟨plainId_quiet F.plain_sum_loop _, ih (i + 1) _ h'.objs.size (acc ++ its i) 0 _ (by omega) hlt (W.frame _ _ _ hst' fun b hb o e => hold b o (fun h => hSf (by rw [← h]; exact hb)) e) (Heap.get?_update_self _ hS3 rfl) hnew (Nat.ne_of_gt (ltOf hS')) (Nat.ne_of_gt hI') (fun j hj => ?_) (by rw [List.length_append]; omega) fun h'' tk'' t' n' hk'' hg hor => ?_⟩))
    · obtain ⟨h1, h2, h3⟩ := had j hj
      exact ⟨hold _ _ h2 (hk' _ _ (wI h3) h1), h2, h3⟩
    · refine hR h'' tk'' t' n' (fun b o hbI hbS e => hk'' b o hbI hbS (hold b o hbS (hk' b o (wI hbI) e))) (by rw [hrest, ← List.append_assoc]; exact hg) (.inr ?_)
      rcases hor with ⟨_, rfl⟩ | hor
      · exact hI'
      · exact hor
end
end Any
set_option Elab.async false
set_option linter.all false
set_option maxRecDepth 100000
set_option maxHeartbeats 2000000
namespace Any
open PySem PySem.Spec PyProof.Rows L2 Evl StX
theorem args_sum2 (a b : Value) : argsOk "sum" ⟨[a, b], []⟩ := by unfold argsOk; kernel_rfl
def rSumL : List V → Hp → VK → Prop := fun vs H Q => ∃ (a b : Addr) (ps : List Addr) (xss : List (List V)), vs = [V.ref a, V.ref b] ∧ H a = some (.lst (ps.map V.ref)) ∧ H b = some (.lst []) ∧ ps ≠ [] ∧ Paired (fun p xs => H p = some (.lst xs)) ps xss ∧ xss.flatten.length ≤ 30000 ∧
  ∀ l, H l = none → Q (.ref l) (upd H l (.lst xss.flatten))
section
variable {X : Cx} {pins : List (Addr × Obj)} {s : Shared} {σ : L2.St} {H : Hp}
theorem shiftL (f : Nat → List Value) : ∀ (k j i : Nat), restL (fun i => f (i + j)) k i = restL f k (i + j)
  | 0, _, _ => rfl
  | k + 1, j, i => by
    show f (i + j) ++ restL (fun i => f (i + j)) k (i + 1) = f (i + j) ++ restL f k (i + j + 1)
    rw [shiftL f k j (i + 1)]
    have : i + 1 + j = i + j + 1 := by omega
    rw [this]
theorem seen_lists (I : Inv X pins σ H s) : ∀ {ps : List Addr} {xss : List (List V)}, Paired (fun p xs => H p = some (.lst xs)) ps xss →
    ∃ (its : Nat → List Value) (nn : Nat → Nat), (∀ (j : Nat) (p : Addr), ps[j]? = some p → s.heap.get? p = some (lstObj (its j) (nn j))) ∧ Vals xss.flatten (restL its ps.length 0)
  | _, _, .nil => ⟨fun _ => [], fun _ => 0, (fun j p h => by cases h), Paired.nil⟩
  | p :: ps, xs :: xss, .cons h1 h2 => by
    obtain ⟨its, nn, g1, g2⟩ := seen_lists I h2
    obtain ⟨z, it0, n0, r0, e0⟩ := I.hok p _ h1
    refine ⟨fun j => match j with | 0 => it0 | j + 1 => its j, fun j => match j with | 0 => n0 | j + 1 => nn j, fun j q hj => ?_, ?_⟩
    · cases j with
      | zero => cases hj; exact e0
      | succ j => exact g1 j q hj
    · show Vals (xs ++ xss.flatten) (it0 ++ restL (fun j => match j with | 0 => it0 | j + 1 => its j) ps.length (0 + 1))
      rw [← shiftL _ ps.length 1 0]
      exact r0.append g2
theorem cr_sumL (hc : X.calm = true) : CallR X (.builtin "sum") rSumL := by
  intro pins s σ H vs us Q I r h
  obtain ⟨a, b, ps, xss, rfl, ha, hb, hne, hp, hsz, q⟩ := h
  obtain ⟨z, ia, na, ra, ea⟩ := I.hok a _ ha
  obtain ⟨zb, ib, nb, rb, eb⟩ := I.hok b _ hb
  have hib : ib = [] := by cases rb; rfl
  subst hib
  obtain rfl : us = [.ref a, .ref b] := by
    cases r with
    | cons h1 h2 =>
      cases h2 with
      | cons h3 h4 =>
        cases h4
        cases h1
        cases h3
        rfl
  have eia : ia = ps.map Value.ref := refs_at ra
  subst eia
  obtain ⟨its, nn, g1, g2⟩ := seen_lists I hp
  have hlt : a < s.heap.objs.size := Heap.lt_size ea
  have hltb : b < s.heap.objs.size := Heap.lt_size eb
  have hl : s.heap.IsList a (ps.map Value.ref).toArray := ⟨_, ea, rfl, na, rfl⟩
  refine call_function_tree F.kind_sum F.plain_sum F.entry_sum (args_sum2 _ _) ?_
  unfold Builtin.«sum»
  simp only [List.length_cons, List.length_nil]
  rw [if_neg (by decide)]
  refine wpAny_bind (wpAny_of_eq (show Builtin.Builtins.bindParams "sum" ["start"] 0 ⟨[Value.ref b], []⟩ = pure [some (Value.ref b)] from rfl) ?_)
  refine wpAny_bind (wpAny_pyIter_list hl ?_)
  refine wpAny_bind (wpAny_pure ?_)
  simp only [List.forIn_cons, List.forIn_nil]
  have hT : ∀ (s' : Shared), s'.heap.get? b = some (lstObj [] nb) → s'.TypeIs (.ref b) "list" := fun s' e => ⟨_, e, rfl⟩
  have eb2 : (s.heap.push { cls := .type "list_iterator", data := .fields #[.ref a, .int 0 0] }).get? b = some (lstObj [] nb) := Heap.get?_push_of_some _ eb
  refine wpAny_bind (wpAny_bind (wpAny_bind (wpAny_isInstance (T := "list") (b := false) (hT _ eb2) F.sub_list_str ?_)))
  simp only [Bool.false_eq_true, if_false]
  refine wpAny_pure (wpAny_bind (wpAny_bind (wpAny_isInstance (T := "list") (b := false) (hT _ eb2) F.sub_list_bytes ?_)))
  simp only [Bool.false_eq_true, if_false]
  refine wpAny_pure (wpAny_bind (wpAny_bind (wpAny_isInstance (T := "list") (b := false) (hT _ eb2) F.sub_list_bytearray ?_)))
  simp only [Bool.false_eq_true, if_false]
  refine wpAny_pure (wpAny_pure ?_)
  refine wpAny_bind (wpAny_newObj_type ?_)
  have hIi : (s.heap.push { cls := .type "list_iterator", data := .fields #[.ref a, .int 0 0] }).IsListIter s.heap.objs.size a 0 := ⟨_, Heap.get?_push_size _ rfl, rfl, rfl⟩
  have hsz1 : (s.heap.push { cls := .type "list_iterator", data := .fields #[.ref a, .int 0 0] }).objs.size = s.heap.objs.size + 1 := Heap.size_push _ _
  have ne1 : ∀ {x : Addr}, x < s.heap.objs.size → x ≠ (s.heap.push { cls := .type "list_iterator", data := .fields #[.ref a, .int 0 0] }).objs.size := fun h => by
    rw [hsz1]
    exact Nat.ne_of_lt (Nat.lt_succ_of_lt h)
  have lenV : xss.flatten.length = (restL its ps.length 0).length := g2.length
  refine wpAny_pure ⟨plainId_quiet F.plain_sum_loop _, sumL_loop (I.ok.hd hc) (I := s.heap.objs.size) (ax := a) (items := (ps.map Value.ref).toArray) (Nat.ne_of_lt hlt) (fun j => ps.getD j 0) its nn (fun i v hv => ?_) (s.heap.push { cls := .type "list_iterator", data := .fields #[.ref a, .int 0 0] }).objs.size ?_ ps.length 0 _ b [] nb 0 (by simp) (Nat.zero_le _) ⟨hIi.at fun o e => Heap.get?_push_of_some _ e, (hl.push _).push _⟩ ?_ (Heap.get?_push_of_some _ eb2) (ne1 hltb) (Nat.ne_of_lt hltb) (fun j hj => ?_) ?_ fun h' tk t' n' hk hg hor => ?_⟩
  · rw [List.getElem?_toArray, List.getElem?_map] at hv
    cases e : ps[i]? with
    | none => rw [e] at hv; cases hv
    | some p =>
      rw [e] at hv
      cases hv
      show Value.ref p = Value.ref (ps.getD i 0)
      rw [List.getD_eq_getElem?_getD, e]
      rfl
  · rw [hsz1]
    intro hm
    rcases List.mem_cons.mp hm with hm | hm
    · exact absurd hm (Nat.succ_ne_self _)
    · exact absurd (List.mem_singleton.mp hm) (Nat.ne_of_gt (Nat.lt_succ_of_lt hlt))
  · exact Heap.get?_push_size _ rfl
  · have hj2 : j < ps.length := by simpa using hj
    have e : ps[j]? = some ps[j] := List.getElem?_eq_getElem hj2
    have e2 : ps.getD j 0 = ps[j] := by rw [List.getD_eq_getElem?_getD, e]; rfl
    have e3 := g1 j _ e
    have l3 := Heap.lt_size e3
    show _ ∧ ps.getD j 0 ≠ _ ∧ ps.getD j 0 ≠ _
    rw [e2]
    exact ⟨Heap.get?_push_of_some _ (Heap.get?_push_of_some _ e3), ne1 l3, Nat.ne_of_lt l3⟩
  · rw [sizeLine_eq, ← lenV]
    show 0 + _ ≤ _
    omega
  · rw [List.nil_append] at hg
    have old : ∀ b o, s.heap.get? b = some o → h'.get? b = some o := fun b o e => by
      have l := Heap.lt_size e
      exact hk b o (Nat.ne_of_lt l) (ne1 l) (Heap.get?_push_of_some _ (Heap.get?_push_of_some _ e))
    have hge : s.heap.objs.size ≤ t' := by
      rcases hor with ⟨hz, _⟩ | hor
      · exact absurd (List.eq_nil_of_length_eq_zero hz) hne
      · exact Nat.le_of_lt hor
    exact ⟨.ref t', upd H t' (.lst xss.flatten), I.laid (t' := tk) old hge ⟨by rw [sizeLine_eq]; omega, _, n', g2, hg⟩, rfl, q t' (I.hok.fresh hge)⟩
end
end Any
set_option Elab.async false
set_option linter.all false
set_option maxRecDepth 100000
set_option maxHeartbeats 2000000
/-! steps of a def that draws: what stands at Hc, told from the def's own start -/
namespace Any
open PySem PySem.Spec PyProof.Rows L2 Evl StX
structure Fr (W : Addr) (H0 H : Hp) (m : Nat) (Hc : Hp) : Prop where
  e0 : Ex H0 H
  hw0 : H0 W = none
  hws : (H W).isSome = true
  eW : ExW W H Hc
  hw : WellAt W m Hc
section
variable {K : PySem.W.Frag} {CK : Addr} {H H' H0 H1 H2 H3 H4 Hc B : Hp} {σ σ2 : L2.St} {X : Cx} {W L : Addr} {m m' m1 k : Nat}
theorem Fr.start (e0 : Ex H0 H) (hw0 : H0 W = none) (hw : WellAt W m H) : Fr W H0 H m H := ⟨e0, hw0, hw.some, .refl, hw⟩
theorem Fr.bW (F : Fr W H0 H m Hc) : hid H0 H Hc W = none := hid_no F.hw0 F.hws
theorem Fr.ex0 (F : Fr W H0 H m Hc) : Ex H0 (hid H0 H Hc) := known_hid F.e0 fun a o z => F.eW.known F.e0 F.hw0 _ _ z
theorem Fr.next (F : Fr W H0 H m Hc) (e : ExW W Hc H') (hw : WellAt W m' H') : Fr W H0 H m' H' := ⟨F.e0, F.hw0, F.hws, F.eW.trans e, hw⟩
theorem Fr.mono (F : Fr W H0 H m Hc) (e : ExW W Hc H') : Ex (hid H0 H Hc) (hid H0 H H') := hidW_first F.hw0 F.hws e
theorem Fr.up (F : Fr W H0 H m Hc) : Ex (hid (hid H0 H Hc) Hc H') (hid H0 H H') := hid_outW (fun a h1 h2 => hid_no h1 h2) F.eW F.hw.some
/-- x = e -/
theorem q_setF {te : TE} {i : Nat} {tz : TS} {D0 : Ends} {R : D → Prop} (F : Fr W H0 H m Hc) (h : EvW K CK W m m' te σ (hid H0 H Hc) R)
    (k : ∀ d v H', R d → Fr W H0 H m' H' → Ex (hid H0 H Hc) (hid H0 H H') → Rep K CK (hid H0 H H') d v → tz D0 (σ.set i (some v)) H') : tSeq (tAsg te (gName i)) tz D0 σ Hc :=
  h Hc hid_sub F.bW F.hw _ fun d v H' hd e hw r => k d v H' hd (F.next e hw) (F.mono e) (r.ex F.up)
/-- return e -/
theorem s_retF {te : TE} {D0 : Ends} {R : D → Prop} (F : Fr W H0 H m Hc) (h : EvW K CK W m m' te σ (hid H0 H Hc) R)
    (k : ∀ d v H', R d → ExW W H H' → WellAt W m' H' → Rep K CK (hid H0 H H') d v → D0.rt v H') : tRet te D0 σ Hc :=
  h Hc hid_sub F.bW F.hw _ fun d v H' hd e hw r => k d v H' hd (F.eW.trans e) hw (r.ex F.up)
/-- x = [e, ..]: a list of its own -/
theorem q_lstF {ta : TA} {i : Nat} {tz : TS} {D0 : Ends} {R : List D → Prop} (F : Fr W H0 H m Hc) (h : EvAW K CK W m m' ta σ (hid H0 H Hc) R) (hl : ∀ ds, R ds → ds.length ≤ 30000)
    (k : ∀ ds L ws H', R ds → H L = none → Fr W H0 H m' H' → Ex (hid H0 H Hc) (hid H0 H (cut L H')) → H' L = some (.lst ws) → RepL K CK (hid H0 H (cut L H')) ds ws → tz D0 (σ.set i (some (.ref L))) H') : tSeq (tAsg (tLst ta) (gName i)) tz D0 σ Hc :=
  h Hc hid_sub F.bW F.hw _ fun ds vs H1 hd e hw r => ⟨by rw [r.len]; have := hl ds hd; exact sz_of (by omega), fun L hn => by
    have wl : W ≠ L := fun c => by have := hw.some; rw [c, hn] at this; cases this
    have cn : ∀ a o, H1 a = some o → cut L H1 a = some o := fun a o z => cut_at (fun c => by rw [c, hn] at z; cases z) z
    have cE : ∀ {B : Hp}, Ex (hid B H H1) (hid B H (cut L (upd H1 L (.lst vs)))) := fun {B} => by
      rw [cut_upd]
      exact hid_mono cn
    have e1 : ExW W Hc (upd H1 L (.lst vs)) := e.trans (.of (Ex.new hn))
    have hLn : H L = none := by
      cases c : H L with
      | none => rfl
      | some o =>
        have := (F.eW.trans e) _ _ (cut_at wl.symm c)
        rw [hn] at this
        cases this
    refine k ds L vs _ hd hLn (F.next e1 (hw.ex (Ex.new hn))) ((F.mono e).trans cE) upd_same (RepL.ex (F.up.trans cE) r)⟩
theorem hc_inW (eW : ExW W H H2) (hw : (H2 W).isSome = true) (hL : (H2 L).isSome = true) (hLn : H L = none) : Ex (hid (hid H0 H (cut L H2)) H2 H3) (hid H0 H (cut L H3)) := fun a o z => by
  have z3 := hid_sub _ _ z
  have gone : hid H0 H (cut L H2) a = none → (H2 a).isSome = true → False := fun y1 y2 => by
    rw [hid_no y1 y2] at z
    cases z
  have aL : a ≠ L := fun c => by
    subst c
    refine gone ?_ hL
    unfold hid
    split
    · rfl
    · exact cut_none
  unfold hid
  rw [if_neg]
  · exact cut_at aL z3
  · rintro ⟨y1, y2⟩
    exact gone (hid_no (by simpa using y1) y2) (eW.isSome hw y2)
theorem hcW_mono (hB : H0 W = none) (hws : (H W).isSome = true) (e : ∀ a o, a ≠ W → a ≠ L → H2 a = some o → H3 a = some o) : Ex (hid H0 H (cut L H2)) (hid H0 H (cut L H3)) := hid_stay fun a o z => by
  have z2 := hid_sub _ _ z
  have aL : a ≠ L := fun c => by rw [c, cut_none] at z2; cases z2
  have aW : a ≠ W := fun c => by rw [c, hid_no hB hws] at z; cases z
  exact cut_at aL (e _ _ aW aL (cut_sub _ _ z2))
/-- xs.extend(e), xs the list at L -/
theorem q_extF {i : Nat} {ws : List V} {te : TE} {tz : TS} {D0 : Ends} {R : List D → Prop} (F : Fr W H0 H m Hc) (hi : σ[i]? = some (some (.ref L))) (hLn : H L = none) (hL : Hc L = some (.lst ws))
    (h : EvW K CK W m m' te σ (hid H0 H (cut L Hc)) (fun e => ∃ zs, e = .lst zs ∧ R zs)) (hl : ∀ zs, R zs → ws.length + zs.length ≤ 30000)
    (k : ∀ zs vs H', R zs → Fr W H0 H m' H' → Ex (hid H0 H (cut L Hc)) (hid H0 H (cut L H')) → H' L = some (.lst (ws ++ vs)) → RepL K CK (hid H0 H (cut L H')) zs vs → tz D0 σ H') :
    tSeq (tDrop (tBM K "list" rExtend (tVar i) (tCons te tNil))) tz D0 σ Hc := by
  have bW : hid H0 H (cut L Hc) W = none := hid_no F.hw0 F.hws
  have wl : W ≠ L := fun c => by have := F.hws; rw [c, hLn] at this; cases this
  refine ⟨_, hi, .inl ⟨rfl, ws, sq_of hL⟩, (eaw_cons h eaw_nil) Hc (fun a o z => cut_sub _ _ (hid_sub _ _ z)) bW F.hw _ fun dsX vsX H1 ⟨dX, l0, hl0, ⟨zs, hdX, hR⟩, hl1⟩ e hw rXs => ?_⟩
  subst hl1 hl0 hdX
  obtain ⟨vX, rfl, rX⟩ := RepL.one rXs
  obtain ⟨b, vs, rfl, hb, _, rv⟩ := rX
  have hL1 : H1 L = some (.lst ws) := e _ _ (cut_at wl.symm hL)
  have hs := sizeLine_eq
  have hlen := hl zs hR
  have e1 : ExW W Hc H1 := e
  refine ⟨L, b, ws, vs, rfl, rfl, hL1, hid_sub _ _ hb, by rw [rv.len]; omega, k zs vs _ hR ⟨F.e0, F.hw0, F.hws, fun a o z => ?_, ?_⟩ ?_ upd_same ?_⟩
  · have z2 := cut_sub _ _ z
    have aL : a ≠ L := fun c => by rw [c, hLn] at z2; cases z2
    rw [upd_ne aL]
    exact (F.eW.trans e) _ _ z
  · obtain ⟨a, b, c, h1, h2⟩ := hw
    exact ⟨a, b, c, by rw [upd_ne wl]; exact h1, h2⟩
  · refine hcW_mono F.hw0 F.hws fun a o aW aL z => ?_
    rw [upd_ne aL]
    exact e _ _ (cut_at aW z)
  · rw [cut_upd]
    exact RepL.ex (hc_inW F.eW F.hw.some (by rw [hL]; rfl) hLn) rv
/-! lists of items of which Q holds -/
theorem eal_nil {Q : D → Prop} : EvAW K CK W m m tNil σ B (fun l => l.length = 0 ∧ ∀ d ∈ l, Q d) := fun H1 _ _ hw Q2 q => q [] [] H1 ⟨rfl, fun d h => by cases h⟩ .refl hw rfl
theorem eal_cons {te : TE} {tr : TA} {Q : D → Prop} {c : Nat} (h1 : EvW K CK W m m1 te σ B Q) (h2 : EvAW K CK W m1 m' tr σ B (fun l => l.length = c ∧ ∀ d ∈ l, Q d)) : EvAW K CK W m m' (tCons te tr) σ B (fun l => l.length = c + 1 ∧ ∀ d ∈ l, Q d) := fun H1 e hB hw Q2 q =>
  eaw_cons h1 h2 H1 e hB hw Q2 fun ds vs H2 ⟨d, ds', h, hd, hl, ha⟩ e2 hw2 r => q ds vs H2 ⟨by rw [h, List.length_cons, hl], fun x hx => by
    rw [h] at hx
    rcases List.mem_cons.mp hx with rfl | hx
    · exact hd
    · exact ha x hx⟩ e2 hw2 r
theorem eq_d {te : TE} {d : D} {Q : D → Prop} (h : EvD K CK te σ B d) (hq : Q d) : EvW K CK W m m te σ B Q := EvW.imp (EvD.w h) fun e he => by rw [he]; exact hq
theorem ed_catL {ta tb : TE} {xs ys : List D} (h1 : EvD K CK ta σ H (.lst xs)) (h2 : EvD K CK tb σ H (.lst ys)) (hl : xs.length + ys.length ≤ 30000) : EvD K CK (tOp rCat ta tb) σ H (.lst (xs ++ ys)) := fun H1 e1 Q q =>
  h1 H1 e1 _ fun v H2 e2 r => h2 H2 (e1.trans e2) _ fun v2 H3 e3 r2 => by
    obtain ⟨a, vs, rfl, ha, la, ra⟩ := r
    obtain ⟨b, ws, rfl, hb, lb, rb⟩ := r2
    refine ⟨a, b, vs, ws, rfl, rfl, e3 _ _ (hid_sub _ _ ha), hid_sub _ _ hb, by rw [ra.len, rb.len, sizeLine_eq]; omega, fun p hp => ?_⟩
    exact q _ _ ((e2.trans e3).trans (Ex.new hp)) ⟨p, _, rfl, hid_at (ex_none (e2.trans e3) hp) upd_same, by rw [List.length_append]; exact hl, RepL.app (RepL.ex (hid_mono (e3.trans (Ex.new hp))) ra) (RepL.ex ((hid_le e2).trans (hid_mono (Ex.new hp))) rb)⟩
theorem rep_lists : ∀ {xss : List (List D)} {vs : List V}, RepL K CK H (xss.map D.lst) vs → ∃ (ps : List Addr) (vss : List (List V)), vs = ps.map V.ref ∧ Paired (fun p xs => H p = some (.lst xs)) ps vss ∧ RepL K CK H xss.flatten vss.flatten ∧ ps.length = xss.length
  | [], _, h => ⟨[], [], h, .nil, rfl, rfl⟩
  | xs :: xss, _, h => by
    obtain ⟨v, r, rfl, hq, h3⟩ := h
    obtain ⟨a, ws, rfl, h1, _, h2⟩ := hq
    obtain ⟨ps, vss, rfl, hp, hr, hl⟩ := rep_lists h3
    exact ⟨a :: ps, ws :: vss, rfl, .cons h1 hp, RepL.app h2 hr, by rw [List.length_cons, List.length_cons, hl]⟩
theorem ed_sumL {ta tb : TE} {xss : List (List D)} (h1 : EvD K CK ta σ H (.lst (xss.map D.lst))) (h2 : EvD K CK tb σ H (.lst [])) (hne : xss ≠ []) (hl : xss.flatten.length ≤ 30000) : EvD K CK (tCB rSumL (tCons ta (tCons tb tNil))) σ H (.lst xss.flatten) := fun H1 e1 Q q =>
  h1 H1 e1 _ fun v H2 e2 r => h2 H2 (e1.trans e2) _ fun v2 H3 e3 r2 => by
    obtain ⟨a, vs, rfl, ha, la, ra⟩ := r
    obtain ⟨b, ws, rfl, hb, lb, rb⟩ := r2
    obtain ⟨ps, vss, rfl, hp, hr, hpl⟩ := rep_lists ra
    rw [show ws = [] from rb] at hb
    refine ⟨a, b, ps, vss, rfl, e3 _ _ (hid_sub _ _ ha), hid_sub _ _ hb, fun c => hne (List.eq_nil_of_length_eq_zero (by rw [← hpl, c]; rfl)), hp.mono fun p kv z => e3 _ _ (hid_sub _ _ z), by rw [hr.len]; exact hl, fun l hln => ?_⟩
    exact q _ _ ((e2.trans e3).trans (Ex.new hln)) ⟨l, _, rfl, hid_at (ex_none (e2.trans e3) hln) upd_same, hl, RepL.ex (hid_mono (e3.trans (Ex.new hln))) hr⟩
theorem ed_dnew : EvD K CK tDNewK σ H (.dct []) := fun H1 e Q q p hp => q _ _ (Ex.new hp) ⟨p, [], rfl, hid_at hp upd_same, rfl⟩
theorem ed_disp3 {i j l : Nat} {vi vj vl : V} {di dj dl : D} (hi : σ[i]? = some (some vi)) (hj : σ[j]? = some (some vj)) (hl : σ[l]? = some (some vl)) (ri : Rep K CK H di vi) (rj : Rep K CK H dj vj) (rl : Rep K CK H dl vl) :
    EvD K CK (tDisp [(tC (.int 0), tVar i), (tC (.int 1), tVar j), (tC (.int 2), tVar l)]) σ H (.dct [(.inl 0, di), (.inl 1, dj), (.inl 2, dl)]) := fun H1 e Q q p hp => by
  refine ⟨_, hi, _, hj, _, hl, upd_same, [(.inl 0, vi), (.inl 1, vj), (.inl 2, vl)], rfl, by show (3 : Nat) ≤ 15; decide, ?_⟩
  have ek : mergeK [] [((.inl 0 : Key), vi), (.inl 1, vj), (.inl 2, vl)] = [(.inl 0, vi), (.inl 1, vj), (.inl 2, vl)] := merge_nodup (acc := []) (by
    show ([(.inl 0 : Key), .inl 1, .inl 2] : List Key).Nodup
    decide)
  rw [ek]
  have e2 : Ex H1 (upd (upd H1 p (.dK [])) p (.dK [((.inl 0 : Key), vi), (.inl 1, vj), (.inl 2, vl)])) := fun a o z => by
    have : a ≠ p := fun c => by rw [c, hp] at z; cases z
    rw [upd_ne this, upd_ne this]
    exact z
  have up : Ex H (hid H H1 (upd (upd H1 p (.dK [])) p (.dK [((.inl 0 : Key), vi), (.inl 1, vj), (.inl 2, vl)]))) := hid_ex e e2
  exact q _ _ e2 ⟨p, _, rfl, hid_at hp upd_same, vi, _, rfl, ri.ex up, vj, _, rfl, rj.ex up, vl, _, rfl, rl.ex up, rfl⟩
end
end Any
set_option Elab.async false
set_option linter.all false
set_option maxRecDepth 100000
set_option maxHeartbeats 4000000
namespace Any
open PySem PySem.Spec PyProof.Rows L2 Evl StX
abbrev sLOdd : Stmt := topS 62
abbrev sLBent : Stmt := topS 63
theorem okD_succ : ∀ {n : Nat} {d : D}, okD n d → okD (n + 1) d
  | 0, _, h => .inl h
  | n + 1, d, h => by
    rcases h with h | ⟨h1, h2, h3⟩ | ⟨kvs, h1, h2, h3, h4⟩
    · exact .inl h
    · exact .inr (.inl ⟨h1, h2, fun x hx => okD_succ (h3 x hx)⟩)
    · exact .inr (.inr ⟨kvs, h1, h2, h3, fun kv hkv => ⟨(h4 kv hkv).1, okD_succ (h4 kv hkv).2⟩⟩)
theorem okD_le {n : Nat} {d : D} (h : okD n d) : ∀ {m : Nat}, n ≤ m → okD m d
  | 0, hm => by
    have : n = 0 := by omega
    rw [← this]
    exact h
  | m + 1, hm => by
    by_cases c : n = m + 1
    · rw [← c]; exact h
    · exact okD_succ (okD_le h (m := m) (by omega))
theorem okAt {n : Nat} {d : D} (h : okA d) : okD n d := by
  cases n with
  | zero => exact h
  | succ n => exact .inl h
theorem okT {n : Nat} {ds : List D} (hl : ds.length ≤ 60) (h : ∀ x ∈ ds, okD n x) : okD (n + 1) (.tup ds) := .inr (.inl ⟨rfl, hl, h⟩)
theorem okL {n : Nat} {ds : List D} (hl : ds.length ≤ 60) (h : ∀ x ∈ ds, okD n x) : okD (n + 1) (.lst ds) := .inr (.inl ⟨rfl, hl, h⟩)
theorem all0 {P : D → Prop} : ∀ x ∈ ([] : List D), P x := fun x h => by cases h
theorem allC {P : D → Prop} {a : D} {as : List D} (h : P a) (hs : ∀ x ∈ as, P x) : ∀ x ∈ a :: as, P x := fun x hx => by
  rcases List.mem_cons.mp hx with rfl | hx
  · exact h
  · exact hs x hx
theorem okS_lit (x : Str) (h : (decide (x.length ≤ 10) && x.cps.toList.all fun c => decide (c < 16 ^ 8)) = true) : okS x := by
  obtain ⟨h1, h2⟩ := Bool.and_eq_true_iff.mp h
  exact ⟨of_decide_eq_true h1, fun c hc => of_decide_eq_true (List.all_eq_true.mp h2 c hc)⟩
theorem wtL_app : ∀ xs ys : List D, wtL (xs ++ ys) = wtL xs + wtL ys
  | [], ys => by rw [List.nil_append]; show _ = 0 + _; omega
  | x :: xs, ys => by
    rw [List.cons_append, wtL, wtL, wtL_app xs ys]
    omega
/-- names of rows may be passed -/
structure RN (rs : List Row) : Prop where
  k : ∀ r ∈ rs, okS r.kind
  m : ∀ r ∈ rs, ∀ x ∈ r.marks, okS x
  few : rs.length ≤ 20
  fm : ∀ r ∈ rs, r.marks.length ≤ 20
theorem flat_few {rs : List Row} (h : ∀ r ∈ rs, r.marks.length ≤ 20) : (rs.map fun r => r.marks.map D.str).flatten.length ≤ 20 * rs.length := by
  induction rs with
  | nil => exact Nat.le_refl _
  | cons r rs ih =>
    rw [List.map_cons, List.flatten_cons, List.length_append, List.length_map, List.length_cons]
    have h1 := h r List.mem_cons_self
    have h2 := ih fun x hx => h x (List.mem_cons_of_mem _ hx)
    omega
section
variable {P : Program} {w : World} {K : PySem.W.Frag} {mg : Str → Option Value} {base : Heap} {CK : Addr}
theorem scLOdd : FnScope ["well", "rows", "record", "kind", "mark", "parts", "names", "other", "marks", "found", "row"] ["well", "rows", "record"] (defScope sLOdd) := ⟨rfl, rfl, rfl, by decide +kernel, rfl, by decide +kernel, by decide +kernel⟩
abbrev spOdd (K : PySem.W.Frag) (CK : Addr) (rs : List Row) (n M : Nat) : Sp := spW K CK 2 4 (fun ds d => okD (n + 4) d ∧ wt d ≤ 2 * M + 3000) (fun ds => ∃ k m p, ds = [rowsD rs, .tup [.str k, .str m, p]] ∧ okS k ∧ okS m ∧ p.isL = true ∧ p.items.length ≤ 40 ∧ okD n p ∧ wt p ≤ M)
abbrev tListOf (K : PySem.W.Frag) (te : TE) : TE := tCB (fun xs H Q => ∃ p ys, xs = [V.ref p] ∧ (SqL K H p ys ∨ SqT K H p ys) ∧ ∀ l, H l = none → Q (.ref l) (upd H l (.lst ys))) (tCons te tNil)
theorem ok_odd {rs : List Row} {n M : Nat} (hne : rs ≠ []) (rn : RN rs) (d : Def K mg "_law_odd" sLOdd ["well", "rows", "record"]) (dD : Def K mg "_law_draw" sLDraw ["well", "many"]) (dP : Def K mg "_law_pick" sLPick ["well", "some"]) (N : Nm mg) :
    FnOk P w K mg base CX0 3 d.f d.fd ["well", "rows", "record"] (spOdd K CK rs n M) := by
  have GP : FnOk P w K mg base CX0 2 dP.f dP.fd ["well", "some"] (spPick K CK) := ok_pick dP dD N
  refine d.F.ok scLOdd (fun vs H Q E h => spW_len h) (fun cdv A outer s H vs Q E hr h => ?_)
  obtain ⟨W, m, ws, ds, H0, rfl, _, e0, hw0, hw, hr0, ⟨k, mk, p, rfl, hk, hmk, hpL, hpl, hp, hpw⟩, q⟩ := h
  obtain ⟨vr, v, rfl, rr, r⟩ := RepL.two hr0
  have hu := hr.units
  refine ⟨_, pss_cons (ps_asg (pv 2) (pg_unp rfl (pgs_cons (pg_name (i := 3) scLOdd.nd rfl (.inl rfl)) (pgs_cons (pg_name (i := 4) scLOdd.nd rfl (.inl rfl)) (pgs_cons (pg_name (i := 5) scLOdd.nd rfl (.inl rfl)) pgs_nil)))))
    (pss_cons (ps_setLc (i := 6) (own := [("row", 10)]) (g := gName 10) (tt := tYes) (te := tOp (rIxLT K) (tVar 10) (tC (.int 0))) rfl scLOdd.nd rfl rfl (sw_true rfl rfl rfl (by decide +kernel)) (pi_list (pv 1))
        (blkOk_by (N := ["well", "rows", "record", "kind", "mark", "parts", "names", "other", "marks", "found", "row"]) (sc := defScope sLOdd) (by decide +kernel)) (fun _ _ _ _ _ => pg_name (i := 10) scLOdd.nd rfl (Or.inl rfl)) (fun _ _ _ _ _ => pts_nil)
        (fun _ _ _ _ _ => pe_ix (r := rIxLT K) ix_lt (pv 10) pe_int (fun _ _ => rfl)))
    (pss_cons (ps_set (i := 7) scLOdd.nd rfl (.inl rfl) (pe_call GP hr (by rfl) dP.m dP.F.kp dP.b .nil pass0 (pa_cons (pv 0) (pa_cons (pe_op op_cat (pv 6) (pe_lst (pa_cons pe_str (pa_cons pe_str (pa_cons pe_str pa_nil))))) pa_nil))))
    (pss_cons (ps_set (i := 8) scLOdd.nd rfl (.inl rfl) (pe_callB (cr_sumL rfl) (by rfl) N.sum boot_sum (pa_cons
        (pe_lc (own := [("row", 10)]) (g := gName 10) (tt := tYes) (te := tListOf K (tOp (rIxLT K) (tVar 10) (tC (.int 2)))) rfl scLOdd.nd (pi_list (pv 1))
          (blkOk_by (N := ["well", "rows", "record", "kind", "mark", "parts", "names", "other", "marks", "found", "row"]) (sc := defScope sLOdd) (by decide +kernel)) (fun _ _ _ _ _ => pg_name (i := 10) scLOdd.nd rfl (Or.inl rfl)) (fun _ _ _ _ _ => pts_nil)
          (fun _ _ _ _ _ => pe_callTy call_list_of (by rfl) N.list boot_list (pa_cons (pe_ix (r := rIxLT K) ix_lt (pv 10) pe_int (fun _ _ => rfl)) pa_nil))) (pa_cons (pe_lst pa_nil) pa_nil))))
    (pss_cons (ps_set (i := 9) scLOdd.nd rfl (.inl rfl) (pe_lst (pa_cons pe_non (pa_cons pe_int (pa_cons pe_str (pa_cons pe_str (pa_cons (pe_lst pa_nil) (pa_cons (pe_tup pa_nil) (pa_cons pe_dnewK
        (pa_cons (pe_tup (pa_cons (pv 3) (pa_cons (pv 4) pa_nil))) (pa_cons (pe_tup (pa_cons (pv 3) (pa_cons (pv 4) (pa_cons (pv 5) (pa_cons (pe_tup pa_nil) pa_nil))))) (pa_cons (pe_tup (pa_cons (pv 3) (pa_cons (pv 4) (pa_cons pe_non pa_nil)))) (pa_cons (pe_tup (pa_cons (pv 3) (pa_cons (pv 4) (pa_cons pe_str pa_nil)))) pa_nil)))))))))))))
    (pss_cons (ps_expr (pe_bm PySem.F.plainAttrs_list PySem.F.slot_list_extend PySem.F.type_list_extend mt_extend (pv 9) (pa_cons (pe_lst (pa_cons (pe_tup (pa_cons (pv 7) (pa_cons (pv 4) (pa_cons (pv 5) pa_nil))))
        (pa_cons (pe_tup (pa_cons (pv 3) (pa_cons (pe_call GP hr (by rfl) dP.m dP.F.kp dP.b .nil pass0 (pa_cons (pv 0) (pa_cons (pe_op op_cat (pv 8) (pe_lst (pa_cons pe_str (pa_cons pe_str pa_nil)))) pa_nil))) (pa_cons (pv 5) pa_nil))))
        (pa_cons (pe_tup (pa_cons (pv 3) (pa_cons pe_non (pa_cons (pv 5) pa_nil)))) pa_nil)))) pa_nil)))
    (pss_cons (ps_expr (pe_bm PySem.F.plainAttrs_list PySem.F.slot_list_extend PySem.F.type_list_extend mt_extend (pv 9) (pa_cons (pe_lst (pa_cons (pe_tup (pa_cons (pe_lst (pa_cons (pv 3) pa_nil)) (pa_cons (pv 4) (pa_cons (pv 5) pa_nil))))
        (pa_cons (pe_tup (pa_cons (pv 3) (pa_cons (pe_lst (pa_cons (pv 4) pa_nil)) (pa_cons (pv 5) pa_nil)))) (pa_cons (pe_tup (pa_cons pe_non (pa_cons (pv 4) (pa_cons (pv 5) pa_nil))))
        (pa_cons (pe_tup (pa_cons (pv 3) (pa_cons (pv 4) (pa_cons pe_dnewK pa_nil)))) (pa_cons (pe_tup (pa_cons (pv 3) (pa_cons (pv 4) (pa_cons (pv 3) pa_nil)))) pa_nil)))))) pa_nil)))
    (pss_cons (ps_expr (pe_bm PySem.F.plainAttrs_list PySem.F.slot_list_extend PySem.F.type_list_extend mt_extend (pv 9) (pa_cons (pe_lst (pa_cons (pe_tup (pa_cons (pv 3) (pa_cons (pv 4) (pa_cons (pe_op op_cat (pe_callTy call_list_of (by rfl) N.list boot_list (pa_cons (pv 5) pa_nil)) (pe_lst (pa_cons (pv 2) pa_nil))) pa_nil))))
        (pa_cons (pe_tup (pa_cons (pv 3) (pa_cons (pv 4) (pa_cons (pe_tup (pa_cons pe_non pa_nil)) pa_nil)))) (pa_cons (pe_disp (pps_cons pe_int (pv 3) (pps_cons pe_int (pv 4) (pps_cons pe_int (pv 5) pps_nil))) rfl rfl (fun h => by cases h) (by show (3 : Nat) ≤ 15; decide))
        (pa_cons (pe_tup (pa_cons pe_bl (pa_cons (pv 4) (pa_cons (pe_tup pa_nil) pa_nil)))) pa_nil))))) pa_nil)))
    (pss_cons (ps_expr (pe_bm PySem.F.plainAttrs_list PySem.F.slot_list_extend PySem.F.type_list_extend mt_extend (pv 9) (pa_cons (pe_lst (pa_cons (pe_tup (pa_cons (pv 3) (pa_cons (pv 4) (pa_cons (pe_tup (pa_cons (pe_tup (pa_cons (pv 3) (pa_cons (pv 4) (pa_cons (pe_tup pa_nil) pa_nil)))) pa_nil)) pa_nil))))
        (pa_cons (pe_tup (pa_cons (pv 4) (pa_cons (pv 3) (pa_cons (pv 5) pa_nil)))) (pa_cons (pe_tup (pa_cons (pv 3) (pa_cons (pv 4) (pa_cons (pe_lst (pa_cons (pe_tup (pa_cons (pe_call GP hr (by rfl) dP.m dP.F.kp dP.b .nil pass0 (pa_cons (pv 0) (pa_cons (pv 6) pa_nil))) (pa_cons (pv 4) (pa_cons (pe_tup pa_nil) pa_nil)))) pa_nil)) pa_nil)))) pa_nil)))) pa_nil)))
    (pss_one (ps_ret (pe_call GP hr (by rfl) dP.m dP.F.kp dP.b .nil pass0 (pa_cons (pv 0) (pa_cons (pv 9) pa_nil))))))))))))), ?_⟩
  have F0 : Fr W H0 H (m + 4) H := .start e0 hw0 hw
  obtain ⟨v3, v4, v5, s3, s4, s5, hg⟩ := eg_unp3 (σ := [some (.ref W), some vr, some v, none, none, none, none, none, none, none, none]) (i := 3) (j := 4) (k := 5) r rfl rfl
  refine q_unp (B := H0) rfl hg e0 fun H1 e1 => ?_
  have F1 : Fr W H0 H (m + 4) H1 := F0.next (.of e1) (hw.ex e1)
  have s3a := s3.ex F1.ex0
  have s4a := s4.ex F1.ex0
  have s5a := s5.ex F1.ex0
  have r1 := r.ex F1.ex0
  have rra := rr.ex F1.ex0
  -- names
  refine q_setF (K := K) (CK := CK) F1 (EvD.w (ed_map (m := fun (d : D) => d.at 0) (ei_list (ds := rs.map rowD) (ed_var (i := 1) rfl rra)) (by rw [List.length_map]; have := rn.few; omega) ?_)) fun dN vN H2 hdN F2 up2 rN => ?_
  · intro d2 x2 Hz ez hd rx
    obtain ⟨ro, _, rfl⟩ := List.mem_map.mp hd
    exact ⟨_, eg_name, rfl, ed_ix (d := rowD ro) (j := 0) (ed_var rfl rx) ev_c rfl rfl⟩
  subst hdN
  have hnames : ∀ d ∈ (rs.map rowD).map (fun (d : D) => d.at 0), ∃ x, d = .str x ∧ okS x := fun d hd => by
    obtain ⟨d1, h1, rfl⟩ := List.mem_map.mp hd
    obtain ⟨ro, hro, rfl⟩ := List.mem_map.mp h1
    exact ⟨ro.kind, rfl, rn.k ro hro⟩
  have nlen : ((rs.map rowD).map (fun (d : D) => d.at 0)).length ≤ 20 := by rw [List.length_map, List.length_map]; exact rn.few
  have nne : (rs.map rowD).map (fun (d : D) => d.at 0) ≠ [] := fun c => hne (List.map_eq_nil_iff.mp (List.map_eq_nil_iff.mp c))
  generalize (rs.map rowD).map (fun (d : D) => d.at 0) = nm at rN hnames nlen nne
  -- other
  refine q_setF (K := K) (CK := CK) F2 (ew_pick (m := m + 3) (i := 0) (E := E0) (s := .lst (nm ++ [.str "zz9", .str Str.empty, .str "top"])) rfl (ed_catL (ed_var (i := 6) rfl rN) (ed_lst (ead_cons (ed_str (by decide)) (ead_cons (ed_str (by decide)) (ead_cons (ed_str (by decide)) ead_nil))) (by show (3 : Nat) ≤ 30000; decide)) (by show _ + 3 ≤ 30000; omega)) rfl (fun c => by
      have c2 : nm ++ [.str "zz9", .str Str.empty, .str "top"] = [] := c
      simp at c2)) fun dO vO H3 hO F3 up3 rO => ?_
  obtain ⟨xo, rfl, hxo⟩ : ∃ x, dO = .str x ∧ okS x := by
    have hO2 : dO ∈ nm ++ [.str "zz9", .str Str.empty, .str "top"] := hO
    rcases List.mem_append.mp hO2 with h | h
    · exact hnames _ h
    · rcases List.mem_cons.mp h with rfl | h
      · exact ⟨_, rfl, okS_lit _ (by decide +kernel)⟩
      rcases List.mem_cons.mp h with rfl | h
      · exact ⟨_, rfl, okS_lit _ (by decide +kernel)⟩
      rcases List.mem_cons.mp h with rfl | h
      · exact ⟨_, rfl, okS_lit _ (by decide +kernel)⟩
      · cases h
  -- marks
  have hmf := flat_few rn.fm
  have hrf := rn.few
  refine q_setF (K := K) (CK := CK) F3 (EvD.w (ed_sumL (xss := rs.map fun r => r.marks.map D.str) ?_ (ed_lst ead_nil (by show (0 : Nat) ≤ 30000; decide)) (fun c => hne (List.map_eq_nil_iff.mp c)) (by omega))) fun dM vM H4 hM F4 up4 rM => ?_
  · have z := ed_map (K := K) (CK := CK) (H := hid H0 H H3) (wi := iList K (tVar 1)) (g := gName 10) (te := tListOf K (tOp (rIxLT K) (tVar 10) (tC (.int 2)))) (vs := [10]) (σ := [some (.ref W), some vr, some v, some v3, some v4, some v5, some vN, some vO, none, none, none]) (m := fun (d : D) => .lst (d.at 2).items) (ei_list (ds := rs.map rowD) (ed_var (i := 1) rfl ((rra.ex up2).ex up3))) (by rw [List.length_map]; omega) (fun d2 x2 Hz ez hd rx => by
      obtain ⟨ro, _, rfl⟩ := List.mem_map.mp hd
      exact ⟨_, eg_name, rfl, ed_listOf (d := .tup (ro.marks.map D.str)) (ed_ix (d := rowD ro) (j := 2) (ed_var rfl rx) ev_c rfl rfl) rfl⟩)
    rw [List.map_map] at z ⊢
    exact z
  subst hM
  have hmks : ∀ d ∈ (rs.map fun r => r.marks.map D.str).flatten, ∃ x, d = .str x ∧ okS x := fun d hd => by
    obtain ⟨l, hl, hd2⟩ := List.mem_flatten.mp hd
    obtain ⟨ro, hro, rfl⟩ := List.mem_map.mp hl
    obtain ⟨x, hx, rfl⟩ := List.mem_map.mp hd2
    exact ⟨x, rfl, rn.m ro hro x hx⟩
  have mlen : (rs.map fun r => r.marks.map D.str).flatten.length ≤ 400 := by omega
  generalize (rs.map fun r => r.marks.map D.str).flatten = ms at rM hmks mlen
  have up24 := up3.trans up4
  have g3 := (s3a.ex up2).ex up24
  have g4 := (s4a.ex up2).ex up24
  have g5 := (s5a.ex up2).ex up24
  have g2 := (r1.ex up2).ex up24
  have gN := rN.ex up24
  have gO := rO.ex up4
  have Q3 : ∀ {a b c : D}, okD (n + 3) a → okD (n + 3) b → okD (n + 3) c → wt a + wt b + wt c ≤ 2 * M + 2980 → okD (n + 4) (.tup [a, b, c]) ∧ wt (.tup [a, b, c]) ≤ 2 * M + 3000 := fun {a b c} h1 h2 h3 hw => by
    refine ⟨okT (by show (3 : Nat) ≤ 60; decide) (allC h1 (allC h2 (allC h3 all0))), ?_⟩
    simp only [wt, wtL]
    omega
  have ok3 : okD (n + 3) (.str k) := okAt hk
  have ok4 : okD (n + 3) (.str mk) := okAt hmk
  have ok5 : okD (n + 3) p := okD_le hp (by omega)
  have okE : okD (n + 3) (.tup []) := okT (n := n + 2) (by show (0 : Nat) ≤ 60; decide) all0
  have wS : ∀ x : Str, wt (.str x) = 110 := fun _ => by simp only [wt]
  have wE : wt (.tup []) = 4 := by simp only [wt, wtL]
  have wN : wt .non = 10 := by simp only [wt]
  have okEmpty : okS Str.empty := okS_lit _ (by decide +kernel)
  have hwp := wt_L hpL
  -- found = [..]
  refine q_lstF (K := K) (CK := CK) (m' := m + 3) F4 (R := fun l => l.length = 11 ∧ ∀ d ∈ l, okD (n + 4) d ∧ wt d ≤ 2 * M + 3000)
    (eal_cons (eq_d ed_non ⟨okAt trivial, by omega⟩) (eal_cons (eq_d ed_int ⟨okAt ⟨by decide, by decide⟩, by simp only [wt]; omega⟩) (eal_cons (eq_d (ed_str (by decide)) ⟨okAt (okS_lit _ (by decide +kernel)), by rw [wS]; omega⟩) (eal_cons (eq_d (ed_str (by decide)) ⟨okAt (okS_lit _ (by decide +kernel)), by rw [wS]; omega⟩)
      (eal_cons (eq_d (ed_lst ead_nil (by show (0 : Nat) ≤ 30000; decide)) ⟨okL (n := n + 3) (by show (0 : Nat) ≤ 60; decide) all0, by simp only [wt, wtL]; omega⟩) (eal_cons (eq_d (ed_tup ead_nil (by show (0 : Nat) ≤ 30000; decide)) ⟨okD_succ okE, by omega⟩)
      (eal_cons (eq_d ed_dnew ⟨.inr (.inr ⟨[], rfl, by show (0 : Nat) ≤ 60; decide, List.nodup_nil, fun kv h => by cases h⟩), by simp only [wt, wtK]; omega⟩)
      (eal_cons (eq_d (ed_tup (ead_cons (ed_var (i := 3) rfl g3) (ead_cons (ed_var (i := 4) rfl g4) ead_nil)) (by show (2 : Nat) ≤ 30000; decide)) ⟨okT (by show (2 : Nat) ≤ 60; decide) (allC ok3 (allC ok4 all0)), by simp only [wt, wtL]; omega⟩)
      (eal_cons (eq_d (ed_tup (ead_cons (ed_var (i := 3) rfl g3) (ead_cons (ed_var (i := 4) rfl g4) (ead_cons (ed_var (i := 5) rfl g5) (ead_cons (ed_tup ead_nil (by show (0 : Nat) ≤ 30000; decide)) ead_nil)))) (by show (4 : Nat) ≤ 30000; decide)) ⟨okT (by show (4 : Nat) ≤ 60; decide) (allC ok3 (allC ok4 (allC ok5 (allC okE all0)))), by simp only [wt, wtL]; omega⟩)
      (eal_cons (eq_d (ed_tup (ead_cons (ed_var (i := 3) rfl g3) (ead_cons (ed_var (i := 4) rfl g4) (ead_cons ed_non ead_nil))) (by show (3 : Nat) ≤ 30000; decide)) (Q3 ok3 ok4 (okAt trivial) (by rw [wS, wS, wN]; omega)))
      (eal_cons (eq_d (ed_tup (ead_cons (ed_var (i := 3) rfl g3) (ead_cons (ed_var (i := 4) rfl g4) (ead_cons (ed_str (by decide)) ead_nil))) (by show (3 : Nat) ≤ 30000; decide)) (Q3 ok3 ok4 (okAt okEmpty) (by rw [wS, wS, wS]; omega))) eal_nil)))))))))))
    (fun ds h => by rw [h.1]; decide) fun ds0 L ws0 H5 hds0 hLn F5 up5 hL5 rds0 => ?_
  have k3 := g3.ex up5
  have k4 := g4.ex up5
  have k5 := g5.ex up5
  have k2 := g2.ex up5
  have kN := gN.ex up5
  have kO := gO.ex up5
  have kM := rM.ex up5
  have len0 : ws0.length = 11 := by rw [rds0.len, hds0.1]
  -- first
  refine q_extF (K := K) (CK := CK) (m' := m + 2) F5 rfl hLn hL5 (R := fun l => l.length = 3 ∧ ∀ d ∈ l, okD (n + 4) d ∧ wt d ≤ 2 * M + 3000) (ew_lst
    (eal_cons (eq_d (ed_tup (ead_cons (ed_var (i := 7) rfl kO) (ead_cons (ed_var (i := 4) rfl k4) (ead_cons (ed_var (i := 5) rfl k5) ead_nil))) (by show (3 : Nat) ≤ 30000; decide)) (Q3 (okAt hxo) ok4 ok5 (by rw [wS, wS]; omega)))
    (eal_cons (EvW.imp (ew_tup (eaw_cons (EvD.w (ed_var (i := 3) rfl k3)) (eaw_cons (ew_pick (m := m + 2) (i := 0) (E := E0) (s := .lst (ms ++ [.str "zz9", .str Str.empty])) rfl (ed_catL (ed_var (i := 8) rfl kM) (ed_lst (ead_cons (ed_str (by decide)) (ead_cons (ed_str (by decide)) ead_nil)) (by show (2 : Nat) ≤ 30000; decide)) (by show _ + 2 ≤ 30000; omega)) rfl (fun c => by
        have c2 : ms ++ [.str "zz9", .str Str.empty] = [] := c
        simp at c2)) (eaw_cons (EvD.w (ed_var (i := 5) rfl k5)) eaw_nil))) (by
        rintro l ⟨a, l1, rfl, _, b, l2, rfl, _, c, l3, rfl, _, rfl⟩
        show (3 : Nat) ≤ 30000
        decide)) (by
        rintro e ⟨l, rfl, a, l1, rfl, rfl, b, l2, rfl, hb, c, l3, rfl, rfl, rfl⟩
        obtain ⟨xb, rfl, hxb⟩ : ∃ x, b = .str x ∧ okS x := by
          have hb2 : b ∈ ms ++ [.str "zz9", .str Str.empty] := hb
          rcases List.mem_append.mp hb2 with h | h
          · exact hmks _ h
          · rcases List.mem_cons.mp h with rfl | h
            · exact ⟨_, rfl, okS_lit _ (by decide +kernel)⟩
            rcases List.mem_cons.mp h with rfl | h
            · exact ⟨_, rfl, okEmpty⟩
            · cases h
        exact Q3 ok3 (okAt hxb) ok5 (by rw [wS, wS]; omega)))
    (eal_cons (eq_d (ed_tup (ead_cons (ed_var (i := 3) rfl k3) (ead_cons ed_non (ead_cons (ed_var (i := 5) rfl k5) ead_nil))) (by show (3 : Nat) ≤ 30000; decide)) (Q3 ok3 (okAt trivial) ok5 (by rw [wS, wN]; omega))) eal_nil))) (fun ds h => by rw [h.1]; decide)) (fun zs h => by rw [h.1, len0]; decide) fun ds1 ws1 H6 hds1 F6 up6 hL6 rds1 => ?_
  have k3b := k3.ex up6
  have k4b := k4.ex up6
  have k5b := k5.ex up6
  have k2b := k2.ex up6
  have kNb := kN.ex up6
  have len1 : (ws0 ++ ws1).length = 14 := by rw [List.length_append, len0, rds1.len, hds1.1]
  -- second
  refine q_extF (K := K) (CK := CK) (m' := m + 2) F6 rfl hLn hL6 (R := fun l => l.length = 5 ∧ ∀ d ∈ l, okD (n + 4) d ∧ wt d ≤ 2 * M + 3000) (ew_lst
    (eal_cons (eq_d (ed_tup (ead_cons (ed_lst (ead_cons (ed_var (i := 3) rfl k3b) ead_nil) (by show (1 : Nat) ≤ 30000; decide)) (ead_cons (ed_var (i := 4) rfl k4b) (ead_cons (ed_var (i := 5) rfl k5b) ead_nil))) (by show (3 : Nat) ≤ 30000; decide)) (Q3 (okL (n := n + 2) (by show (1 : Nat) ≤ 60; decide) (allC (okAt hk) all0)) ok4 ok5 (by simp only [wt, wtL]; omega)))
    (eal_cons (eq_d (ed_tup (ead_cons (ed_var (i := 3) rfl k3b) (ead_cons (ed_lst (ead_cons (ed_var (i := 4) rfl k4b) ead_nil) (by show (1 : Nat) ≤ 30000; decide)) (ead_cons (ed_var (i := 5) rfl k5b) ead_nil))) (by show (3 : Nat) ≤ 30000; decide)) (Q3 ok3 (okL (n := n + 2) (by show (1 : Nat) ≤ 60; decide) (allC (okAt hmk) all0)) ok5 (by simp only [wt, wtL]; omega)))
    (eal_cons (eq_d (ed_tup (ead_cons ed_non (ead_cons (ed_var (i := 4) rfl k4b) (ead_cons (ed_var (i := 5) rfl k5b) ead_nil))) (by show (3 : Nat) ≤ 30000; decide)) (Q3 (okAt trivial) ok4 ok5 (by rw [wS, wN]; omega)))
    (eal_cons (eq_d (ed_tup (ead_cons (ed_var (i := 3) rfl k3b) (ead_cons (ed_var (i := 4) rfl k4b) (ead_cons ed_dnew ead_nil))) (by show (3 : Nat) ≤ 30000; decide)) (Q3 ok3 ok4 (.inr (.inr ⟨[], rfl, by show (0 : Nat) ≤ 60; decide, List.nodup_nil, fun kv h => by cases h⟩)) (by simp only [wt, wtK]; omega)))
    (eal_cons (eq_d (ed_tup (ead_cons (ed_var (i := 3) rfl k3b) (ead_cons (ed_var (i := 4) rfl k4b) (ead_cons (ed_var (i := 3) rfl k3b) ead_nil))) (by show (3 : Nat) ≤ 30000; decide)) (Q3 ok3 ok4 ok3 (by rw [wS, wS]; omega))) eal_nil))))) (fun ds h => by rw [h.1]; decide)) (fun zs h => by rw [h.1, len1]; decide) fun ds2 ws2 H7 hds2 F7 up7 hL7 rds2 => ?_
  have k3c := k3b.ex up7
  have k4c := k4b.ex up7
  have k5c := k5b.ex up7
  have k2c := k2b.ex up7
  have kNc := kNb.ex up7
  have len2 : (ws0 ++ ws1 ++ ws2).length = 19 := by rw [List.length_append, len1, rds2.len, hds2.1]
  have okRec : okD (n + 1) (.tup [.str k, .str mk, p]) := okT (by show (3 : Nat) ≤ 60; decide) (allC (okAt hk) (allC (okAt hmk) (allC hp all0)))
  have okCat : okD (n + 3) (.lst (p.items ++ [.tup [.str k, .str mk, p]])) := okL (n := n + 2) (by rw [List.length_append]; show _ + 1 ≤ 60; omega) fun x hx => by
    rcases List.mem_append.mp hx with h | h
    · have : okD n x := by
        cases n with
        | zero => rw [(okA_L hp).1] at hpL; cases hpL
        | succ n =>
          rcases hp with h2 | ⟨_, _, h2⟩ | ⟨kvs, rfl, _⟩
          · rw [(okA_L h2).1] at hpL; cases hpL
          · exact okD_succ (h2 x h)
          · cases hpL
      exact okD_le this (by omega)
    · rw [List.mem_singleton.mp h]
      exact okD_succ okRec
  -- third
  refine q_extF (K := K) (CK := CK) (m' := m + 2) F7 rfl hLn hL7 (R := fun l => l.length = 4 ∧ ∀ d ∈ l, okD (n + 4) d ∧ wt d ≤ 2 * M + 3000) (ew_lst
    (eal_cons (eq_d (ed_tup (ead_cons (ed_var (i := 3) rfl k3c) (ead_cons (ed_var (i := 4) rfl k4c) (ead_cons (ed_catL (ed_listOf (ed_var (i := 5) rfl k5c) hpL) (ed_lst (ead_cons (ed_var (i := 2) rfl k2c) ead_nil) (by show (1 : Nat) ≤ 30000; decide)) (by show _ + 1 ≤ 30000; omega)) ead_nil))) (by show (3 : Nat) ≤ 30000; decide)) (Q3 ok3 ok4 okCat (by simp only [wt, wtL, wtL_app]; omega)))
    (eal_cons (eq_d (ed_tup (ead_cons (ed_var (i := 3) rfl k3c) (ead_cons (ed_var (i := 4) rfl k4c) (ead_cons (ed_tup (ead_cons ed_non ead_nil) (by show (1 : Nat) ≤ 30000; decide)) ead_nil))) (by show (3 : Nat) ≤ 30000; decide)) (Q3 ok3 ok4 (okT (n := n + 2) (by show (1 : Nat) ≤ 60; decide) (allC (okAt trivial) all0)) (by simp only [wt, wtL]; omega)))
    (eal_cons (eq_d (ed_disp3 (i := 3) (j := 4) (l := 5) rfl rfl rfl k3c k4c k5c) ⟨.inr (.inr ⟨_, rfl, by show (3 : Nat) ≤ 60; decide, by show ([(.inl 0 : Key), .inl 1, .inl 2] : List Key).Nodup; decide, fun kv h => by
        rcases List.mem_cons.mp h with rfl | h
        · exact ⟨⟨by decide, by decide⟩, ok3⟩
        rcases List.mem_cons.mp h with rfl | h
        · exact ⟨⟨by decide, by decide⟩, ok4⟩
        rcases List.mem_cons.mp h with rfl | h
        · exact ⟨⟨by decide, by decide⟩, ok5⟩
        · cases h⟩), by simp only [wt, wtK]; omega⟩)
    (eal_cons (eq_d (ed_tup (ead_cons ed_b (ead_cons (ed_var (i := 4) rfl k4c) (ead_cons (ed_tup ead_nil (by show (0 : Nat) ≤ 30000; decide)) ead_nil))) (by show (3 : Nat) ≤ 30000; decide)) (Q3 (okAt trivial) ok4 okE (by simp only [wt, wtL]; omega))) eal_nil)))) (fun ds h => by rw [h.1]; decide)) (fun zs h => by rw [h.1, len2]; decide) fun ds3 ws3 H8 hds3 F8 up8 hL8 rds3 => ?_
  have k3d := k3c.ex up8
  have k4d := k4c.ex up8
  have k5d := k5c.ex up8
  have kNd := kNc.ex up8
  have len3 : (ws0 ++ ws1 ++ ws2 ++ ws3).length = 23 := by rw [List.length_append, len2, rds3.len, hds3.1]
  -- fourth
  refine q_extF (K := K) (CK := CK) (m' := m + 1) F8 rfl hLn hL8 (R := fun l => l.length = 3 ∧ ∀ d ∈ l, okD (n + 4) d ∧ wt d ≤ 2 * M + 3000) (ew_lst
    (eal_cons (eq_d (ed_tup (ead_cons (ed_var (i := 3) rfl k3d) (ead_cons (ed_var (i := 4) rfl k4d) (ead_cons (ed_tup (ead_cons (ed_tup (ead_cons (ed_var (i := 3) rfl k3d) (ead_cons (ed_var (i := 4) rfl k4d) (ead_cons (ed_tup ead_nil (by show (0 : Nat) ≤ 30000; decide)) ead_nil))) (by show (3 : Nat) ≤ 30000; decide)) ead_nil) (by show (1 : Nat) ≤ 30000; decide)) ead_nil))) (by show (3 : Nat) ≤ 30000; decide))
        (Q3 ok3 ok4 (okT (n := n + 2) (by show (1 : Nat) ≤ 60; decide) (allC (okT (n := n + 1) (by show (3 : Nat) ≤ 60; decide) (allC (okAt hk) (allC (okAt hmk) (allC (okT (n := n) (by show (0 : Nat) ≤ 60; decide) all0) all0)))) all0)) (by simp only [wt, wtL]; omega)))
    (eal_cons (eq_d (ed_tup (ead_cons (ed_var (i := 4) rfl k4d) (ead_cons (ed_var (i := 3) rfl k3d) (ead_cons (ed_var (i := 5) rfl k5d) ead_nil))) (by show (3 : Nat) ≤ 30000; decide)) (Q3 ok4 ok3 ok5 (by rw [wS, wS]; omega)))
    (eal_cons (EvW.imp (ew_tup (eaw_cons (EvD.w (ed_var (i := 3) rfl k3d)) (eaw_cons (EvD.w (ed_var (i := 4) rfl k4d)) (eaw_cons (ew_lst (eaw_cons (ew_tup (eaw_cons (ew_pick (m := m + 1) (i := 0) (E := E0) (s := .lst nm) rfl (ed_var (i := 6) rfl kNd) rfl nne) (eaw_cons (EvD.w (ed_var (i := 4) rfl k4d)) (eaw_cons (EvD.w (ed_tup ead_nil (by show (0 : Nat) ≤ 30000; decide))) eaw_nil))) (by
        rintro l ⟨a, l1, rfl, _, b, l2, rfl, _, c, l3, rfl, _, rfl⟩
        show (3 : Nat) ≤ 30000
        decide)) eaw_nil) (by
        rintro l ⟨a, l1, rfl, _, rfl⟩
        show (1 : Nat) ≤ 30000
        decide)) eaw_nil))) (by
        rintro l ⟨a, l1, rfl, _, b, l2, rfl, _, c, l3, rfl, _, rfl⟩
        show (3 : Nat) ≤ 30000
        decide)) (by
        rintro e ⟨l, rfl, a, l1, rfl, rfl, b, l2, rfl, rfl, c, l3, rfl, ⟨l4, rfl, c1, l5, rfl, ⟨l6, rfl, a2, l7, rfl, ha2, b2, l8, rfl, rfl, c2, l9, rfl, rfl, rfl⟩, rfl⟩, rfl⟩
        obtain ⟨xa, rfl, hxa⟩ := hnames a2 ha2
        exact Q3 ok3 ok4 (okL (n := n + 2) (by show (1 : Nat) ≤ 60; decide) (allC (okT (n := n + 1) (by show (3 : Nat) ≤ 60; decide) (allC (okAt hxa) (allC (okAt hmk) (allC (okT (n := n) (by show (0 : Nat) ≤ 60; decide) all0) all0)))) all0)) (by simp only [wt, wtL]; omega))) eal_nil))) (fun ds h => by rw [h.1]; decide)) (fun zs h => by rw [h.1, len3]; decide) fun ds4 ws4 H9 hds4 F9 up9 hL9 rds4 => ?_
  have all : RepL K CK (hid H0 H (cut L H9)) (ds0 ++ ds1 ++ ds2 ++ ds3 ++ ds4) (ws0 ++ ws1 ++ ws2 ++ ws3 ++ ws4) := RepL.app (RepL.app (RepL.app (RepL.app ((((rds0.ex up6).ex up7).ex up8).ex up9) (((rds1.ex up7).ex up8).ex up9)) ((rds2.ex up8).ex up9)) (rds3.ex up9)) rds4
  have hQ : ∀ d ∈ ds0 ++ ds1 ++ ds2 ++ ds3 ++ ds4, okD (n + 4) d ∧ wt d ≤ 2 * M + 3000 := fun d hd => by
    rcases List.mem_append.mp hd with hd | hd
    · rcases List.mem_append.mp hd with hd | hd
      · rcases List.mem_append.mp hd with hd | hd
        · rcases List.mem_append.mp hd with hd | hd
          · exact hds0.2 d hd
          · exact hds1.2 d hd
        · exact hds2.2 d hd
      · exact hds3.2 d hd
    · exact hds4.2 d hd
  have hlen : (ds0 ++ ds1 ++ ds2 ++ ds3 ++ ds4).length = 26 := by
    rw [List.length_append, List.length_append, List.length_append, List.length_append, hds0.1, hds1.1, hds2.1, hds3.1, hds4.1]
  have rL : Rep K CK (hid H0 H H9) (.lst (ds0 ++ ds1 ++ ds2 ++ ds3 ++ ds4)) (.ref L) := ⟨L, _, rfl, hid_at hLn hL9, by rw [hlen]; decide, RepL.ex (hid_mono cut_sub) all⟩
  exact s_retF (K := K) (CK := CK) F9 (ew_pick (m := m) (i := 0) (E := E0) rfl (ed_var (i := 9) rfl rL) rfl (fun c => by
    have c2 : (ds0 ++ ds1 ++ ds2 ++ ds3 ++ ds4) = [] := c
    rw [c2] at hlen
    cases hlen)) fun d5 v5 H10 hd eW hw r5 => q d5 v5 H10 (hQ d5 hd) eW hw r5
end
end Any
set_option Elab.async false
set_option linter.all false
set_option maxRecDepth 100000
set_option maxHeartbeats 4000000
namespace Any
open PySem PySem.Spec PyProof.Rows L2 Evl StX
theorem RepL.take {K : PySem.W.Frag} {CK : Addr} {H : Hp} : ∀ {ds : List D} {vs : List V} (j : Nat), RepL K CK H ds vs → RepL K CK H (ds.take j) (vs.take j)
  | _, _, 0, _ => rfl
  | [], _, j + 1, h => by rw [show _ = [] from h]; rfl
  | _ :: _, _, j + 1, ⟨v, r, rfl, h2, h3⟩ => ⟨v, _, rfl, h2, RepL.take j h3⟩
theorem RepL.drop {K : PySem.W.Frag} {CK : Addr} {H : Hp} : ∀ {ds : List D} {vs : List V} (j : Nat), RepL K CK H ds vs → RepL K CK H (ds.drop j) (vs.drop j)
  | _, _, 0, h => h
  | [], _, j + 1, h => by rw [show _ = [] from h]; rfl
  | _ :: _, _, j + 1, ⟨v, r, rfl, h2, h3⟩ => RepL.drop j h3
section
variable {K : PySem.W.Frag} {CK : Addr} {H H' H0 H1 H2 H3 H4 Hc B : Hp} {σ σ2 : L2.St} {X : Cx} {W L : Addr} {m m' m1 k : Nat}
/-- t == (), t != () -/
def rEqE (K : PySem.W.Frag) : R2 := fun x y H Q => ∃ a b xs, x = .ref a ∧ y = .ref b ∧ SqT K H a xs ∧ SqT K H b [] ∧ Q (.bl xs.isEmpty) H
def rNeE (K : PySem.W.Frag) : R2 := fun x y H Q => ∃ a b xs, x = .ref a ∧ y = .ref b ∧ SqT K H a xs ∧ SqT K H b [] ∧ Q (.bl (!xs.isEmpty)) H
theorem op_eqE (hu : X.A.units + 64 < cLine) : OpR X (compareOp .Eq) (rEqE X.K) := by
  intro pins s σ H x y v u Q I rx ry h
  obtain ⟨a, b, xs, rfl, rfl, ha, hb, q⟩ := h
  cases rx
  cases ry
  obtain ⟨its, r1, p1, _⟩ := I.tuple ha
  obtain ⟨its2, r2, p2, _⟩ := I.tuple hb
  cases r2
  have hl := r1.length
  refine SeqAt.RcAt.tuples (e := fun _ => true) p1 p2 (by omega) (fun j j1 j2 => absurd j2 (by simp)) X.prog X.w _ _ ⟨.bl xs.isEmpty, H, I, ?_, q⟩
  cases xs with
  | nil => cases r1; rfl
  | cons z zs => cases r1; rfl
theorem op_neE (hu : X.A.units + 64 < cLine) : OpR X (compareOp .NotEq) (rNeE X.K) := by
  intro pins s σ H x y v u Q I rx ry h
  obtain ⟨a, b, xs, rfl, rfl, ha, hb, q⟩ := h
  cases rx
  cases ry
  obtain ⟨its, r1, p1, _⟩ := I.tuple ha
  obtain ⟨its2, r2, p2, _⟩ := I.tuple hb
  cases r2
  have hl := r1.length
  refine SeqAt.RcNeAt.tuples (e := fun _ => true) p1 p2 (by omega) (fun j j1 j2 => absurd j2 (by simp)) X.prog X.w _ _ ⟨.bl (!xs.isEmpty), H, I, ?_, q⟩
  cases xs with
  | nil => cases r1; rfl
  | cons z zs => cases r1; rfl
theorem len_empty {ds : List D} {vs : List V} (r : RepL K CK H ds vs) : vs.isEmpty = ds.isEmpty := by
  have := r.len
  cases vs <;> cases ds <;> first | rfl | (simp at this)
theorem ev_eqE {ta tb : TE} {xs : List D} (h1 : EvD K CK ta σ H (.tup xs)) (h2 : EvD K CK tb σ H (.tup [])) : Ev (tOp (rEqE K) ta tb) σ H (.bl xs.isEmpty) := fun H1 e1 Q q =>
  h1 H1 e1 _ fun v H2 e2 r => h2 H2 (e1.trans e2) _ fun v2 H3 e3 r2 => by
    obtain ⟨a, vs, rfl, ha, la, ra⟩ := r
    obtain ⟨b, ws, rfl, hb, lb, rb⟩ := r2
    rw [show ws = [] from rb] at hb
    exact ⟨a, b, vs, rfl, rfl, st_of (e3 _ _ (hid_sub _ _ ha)), st_of (hid_sub _ _ hb), by rw [len_empty ra]; exact q H3 (e2.trans e3)⟩
theorem ev_neE {ta tb : TE} {xs : List D} (h1 : EvD K CK ta σ H (.tup xs)) (h2 : EvD K CK tb σ H (.tup [])) : Ev (tOp (rNeE K) ta tb) σ H (.bl (!xs.isEmpty)) := fun H1 e1 Q q =>
  h1 H1 e1 _ fun v H2 e2 r => h2 H2 (e1.trans e2) _ fun v2 H3 e3 r2 => by
    obtain ⟨a, vs, rfl, ha, la, ra⟩ := r
    obtain ⟨b, ws, rfl, hb, lb, rb⟩ := r2
    rw [show ws = [] from rb] at hb
    exact ⟨a, b, vs, rfl, rfl, st_of (e3 _ _ (hid_sub _ _ ha)), st_of (hid_sub _ _ hb), by rw [len_empty ra]; exact q H3 (e2.trans e3)⟩
/-- t[:j] -/
theorem ed_slTake {ta tb : TE} {xs : List D} {j : Nat} (h1 : EvD K CK ta σ H (.tup xs)) (h2 : Ev tb σ H (.int (j : Nat))) : EvD K CK (tSl (rSlA K) ta tNoPart (tPart tb)) σ H (.tup (xs.take j)) := fun H1 e1 Q q =>
  h1 H1 e1 _ fun v H2 e2 r => h2 H2 (e1.trans e2) _ fun H3 e3 => ⟨_, rfl, by
    obtain ⟨a, vs, rfl, ha, la, ra⟩ := r
    have hlen := ra.len
    refine ⟨a, vs, rfl, st_of (e3 _ _ (hid_sub _ _ ha)), fun ⟨_, hw⟩ => ?_, fun hw p hp => ?_⟩
    · rw [HT.sIx_nat] at hw
      have : xs.take j = xs := List.take_of_length_le (by omega)
      refine q _ H3 (e2.trans e3) ?_
      rw [this]
      exact ⟨a, vs, rfl, hid_mono e3 _ _ ha, la, RepL.ex (hid_mono e3) ra⟩
    · have ecut : cutV vs none (some (j : Int)) = vs.take j := by
        unfold cutV
        rw [HT.sIx_nat, HT.sIx_none, Nat.sub_zero, List.drop_zero]
        by_cases c : j ≤ vs.length
        · rw [Nat.min_eq_left c]
        · rw [Nat.min_eq_right (by omega), List.take_of_length_le (Nat.le_refl _), List.take_of_length_le (by omega)]
      rw [ecut]
      exact q _ _ ((e2.trans e3).trans (Ex.new hp)) ⟨p, _, rfl, hid_at (ex_none (e2.trans e3) hp) upd_same, by rw [List.length_take]; omega, (RepL.take j ra).ex (hid_mono (e3.trans (Ex.new hp)))⟩⟩
theorem ew_listOf {ta : TE} {R : List D → Prop} (h : EvW K CK W m m' ta σ B (fun e => ∃ xs, e = .tup xs ∧ R xs)) : EvW K CK W m m' (tListOf K ta) σ B (fun e => ∃ xs, e = .lst xs ∧ R xs) := fun H1 e hB hw Q q =>
  h H1 e hB hw _ fun d v H2 ⟨xs, hd, hR⟩ e2 hw2 r => by
    subst hd
    obtain ⟨a, vs, rfl, ha, la, ra⟩ := r
    refine ⟨a, vs, rfl, .inr (st_of (hid_sub _ _ ha)), fun p hp => ?_⟩
    have pn : H1 p = none := by
      cases c : H1 p with
      | none => rfl
      | some o =>
        have pw : p ≠ W := fun c => by
          have := hw2.some
          rw [← c, hp] at this
          cases this
        have := e2 _ _ (cut_at pw c)
        rw [hp] at this
        cases this
    exact q (.lst xs) _ _ ⟨xs, rfl, hR⟩ (e2.trans (.of (Ex.new hp))) (hw2.ex (Ex.new hp)) ⟨p, vs, rfl, hid_at pn upd_same, la, RepL.ex (hid_mono (Ex.new hp)) ra⟩
theorem ew_catL {ta tb : TE} {R1 R2 : List D → Prop} (h1 : EvW K CK W m m1 ta σ B (fun e => ∃ xs, e = .lst xs ∧ R1 xs)) (h2 : EvW K CK W m1 m' tb σ B (fun e => ∃ xs, e = .lst xs ∧ R2 xs)) (hl : ∀ xs ys, R1 xs → R2 ys → xs.length + ys.length ≤ 30000) :
    EvW K CK W m m' (tOp rCat ta tb) σ B (fun e => ∃ zs, e = .lst zs ∧ ∃ xs ys, zs = xs ++ ys ∧ R1 xs ∧ R2 ys) := fun H1 e hB hw Q q =>
  h1 H1 e hB hw _ fun d v H2 ⟨xs, hd, hR1⟩ e2 hw2 r => h2 H2 (e2.known e hB) hB hw2 _ fun d2 v2 H3 ⟨ys, hd2, hR2⟩ e3 hw3 r2 => by
    subst hd hd2
    have r' := r.ex (hidW_first hB hw.some e3)
    have r2' := r2.ex (hidW_second e2 hw2.some)
    obtain ⟨a, vs, rfl, ha, la, ra⟩ := r'
    obtain ⟨b, ws, rfl, hb, lb, rb⟩ := r2'
    have hlen := hl xs ys hR1 hR2
    refine ⟨a, b, vs, ws, rfl, rfl, hid_sub _ _ ha, hid_sub _ _ hb, by rw [ra.len, rb.len, sizeLine_eq]; omega, fun p hp => ?_⟩
    have e13 := e2.trans e3
    have pn : H1 p = none := by
      cases c : H1 p with
      | none => rfl
      | some o =>
        have pw : p ≠ W := fun c => by
          have := hw3.some
          rw [← c, hp] at this
          cases this
        have := e13 _ _ (cut_at pw c)
        rw [hp] at this
        cases this
    exact q (.lst (xs ++ ys)) _ _ ⟨_, rfl, xs, ys, rfl, hR1, hR2⟩ (e13.trans (.of (Ex.new hp))) (hw3.ex (Ex.new hp)) ⟨p, _, rfl, hid_at pn upd_same, by rw [List.length_append]; exact hlen, RepL.app (RepL.ex (hid_mono (Ex.new hp)) ra) (RepL.ex (hid_mono (Ex.new hp)) rb)⟩
/-- t[at + _law_draw(well, n):] -/
theorem ew_slDrop {i : Nat} {ta tb : TE} {xs : List D} {j : Nat} {n : Int} {E : XK} (hi : σ[i]? = some (some (V.ref W))) (h1 : EvD K CK ta σ B (.tup xs)) (h2 : Ev tb σ B (.int (j : Nat))) (h0 : 0 < n) (hn : n < 1000000) :
    EvW K CK W (m + 1) m (tSl (rSlA K) ta (tPart (tOp (rI0 fun i j => .int (i + j)) tb (tCall spDraw [] E (tCons (tVar i) (tCons (tC (.int n)) tNil))))) tNoPart) σ B (fun e => ∃ ys, e = .tup ys ∧ ∃ c : Nat, ys = xs.drop c) := fun H1 e hB hw Q q =>
  h1 H1 e _ fun v H2 e2 r => h2 H2 (e.trans e2) _ fun H3 e3 => ⟨_, hi, W, m, n, rfl, hw.ex (e2.trans e3), h0, hn, fun c H4 c0 c1 hw4 e4 => by
    obtain ⟨cn, rfl⟩ := Int.eq_ofNat_of_zero_le c0
    have e14 : ExW W H1 H4 := (ExW.of (e2.trans e3)).trans e4
    have r' := r.ex (hidW_first hB hw.some ((ExW.of e3).trans e4))
    obtain ⟨a, vs, rfl, ha, la, ra⟩ := r'
    have hlen := ra.len
    have ei : ((j : Nat) : Int) + ((cn : Nat) : Int) = ((j + cn : Nat) : Int) := by omega
    refine ⟨_, _, rfl, rfl, _, rfl, a, vs, rfl, st_of (hid_sub _ _ ha), fun ⟨hw0, _⟩ => ?_, fun hw0 p hp => ?_⟩
    · rw [ei, HT.sIx_nat] at hw0
      refine q _ _ H4 ⟨xs, rfl, if xs = [] then 0 else j + cn, ?_⟩ e14 hw4 ⟨a, vs, rfl, ha, la, ra⟩
      split
      · rfl
      · rename_i hx
        have : 0 < xs.length := List.length_pos_iff.mpr hx
        have : j + cn = 0 := by omega
        rw [this]
        rfl
    · have ecut : cutV vs (some (((j : Nat) : Int) + ((cn : Nat) : Int))) none = vs.drop (j + cn) := by
        unfold cutV
        rw [ei, HT.sIx_nat, HT.sIx_none]
        by_cases c : j + cn ≤ vs.length
        · rw [Nat.min_eq_left c, List.take_of_length_le (by rw [List.length_drop]; omega)]
        · rw [Nat.min_eq_right (by omega), List.drop_of_length_le (Nat.le_refl _), List.drop_of_length_le (by omega), List.take_nil]
      rw [ecut]
      have pn : H1 p = none := by
        cases c : H1 p with
        | none => rfl
        | some o =>
          have pw : p ≠ W := fun c => by
            have := hw4.some
            rw [← c, hp] at this
            cases this
          have := e14 _ _ (cut_at pw c)
          rw [hp] at this
          cases this
      exact q (.tup (xs.drop (j + cn))) _ _ ⟨_, rfl, j + cn, rfl⟩ (e14.trans (.of (Ex.new hp))) (hw4.ex (Ex.new hp)) ⟨p, _, rfl, hid_at pn upd_same, by rw [List.length_drop]; omega, RepL.ex (hid_mono (Ex.new hp)) (RepL.drop (j + cn) ra)⟩⟩
theorem etw_or {t u : TT} {a : Bool} (h1 : EvT t σ B a) (h2 : a = false → EvTW W m m' u σ B (fun _ => True)) (hm : m' ≤ m) : EvTW W m m' (tOr t u) σ B (fun b => b = false → a = false) := fun H1 e hB hw Q q => h1 H1 e _ fun H2 e2 => by
  cases a with
  | true =>
    show Q true H2
    exact q true H2 (fun z => by cases z) (.of e2) ((hw.ex e2).less hm)
  | false =>
    show u σ H2 Q
    exact h2 rfl H2 (e.trans e2) hB (hw.ex e2) Q fun b H3 _ e3 hw3 => q b H3 (fun _ => rfl) ((ExW.of e2).trans e3) hw3
theorem etw_and {t u : TT} {a : Bool} (h1 : EvT t σ B a) (h2 : a = true → EvTW W m m' u σ B (fun _ => True)) (hm : m' ≤ m) : EvTW W m m' (tAnd t u) σ B (fun b => b = true → a = true) := fun H1 e hB hw Q q => h1 H1 e _ fun H2 e2 => by
  cases a with
  | false =>
    show Q false H2
    exact q false H2 (fun z => by cases z) (.of e2) ((hw.ex e2).less hm)
  | true =>
    show u σ H2 Q
    exact h2 rfl H2 (e.trans e2) hB (hw.ex e2) Q fun b H3 _ e3 hw3 => q b H3 (fun _ => rfl) ((ExW.of e2).trans e3) hw3
/-- if .. else .. -/
theorem q_ifF {tc : TT} {t u tz : TS} {D0 : Ends} {P : Bool → Prop} (F : Fr W H0 H m Hc) (h : EvTW W m m1 tc σ (hid H0 H Hc) P)
    (h1 : P true → ∀ H', Fr W H0 H m1 H' → Ex (hid H0 H Hc) (hid H0 H H') → t { D0 with nx := tz D0 } σ H') (h2 : P false → ∀ H', Fr W H0 H m1 H' → Ex (hid H0 H Hc) (hid H0 H H') → u { D0 with nx := tz D0 } σ H') : tSeq (tIfS tc t u) tz D0 σ Hc :=
  h Hc hid_sub F.bW F.hw _ fun b H' hb e hw => by
    cases b with
    | true => exact h1 hb H' (F.next e hw) (F.mono e)
    | false => exact h2 hb H' (F.next e hw) (F.mono e)
/-- a, b, .. = e -/
theorem q_unpF {te : TE} {g : TG} {tz : TS} {D0 : Ends} {d : D} (F : Fr W H0 H m Hc) (h : EvD K CK te σ (hid H0 H Hc) d)
    (k : ∀ v H', Fr W H0 H m H' → Ex (hid H0 H Hc) (hid H0 H H') → Rep K CK (hid H0 H H') d v → ∃ σ2, EvG g v σ (hid H0 H H') σ2 ∧ ∀ H'', Fr W H0 H m H'' → Ex (hid H0 H H') (hid H0 H H'') → tz D0 σ2 H'') : tSeq (tAsg te g) tz D0 σ Hc :=
  h Hc hid_sub _ fun v H' e r => by
    have F' : Fr W H0 H m H' := F.next (.of e) (F.hw.ex e)
    obtain ⟨σ2, hg, k2⟩ := k v H' F' (F.mono (.of e)) (r.ex F.up)
    exact hg H' hid_sub _ fun H'' e2 => k2 H'' (F'.next (.of e2) (F'.hw.ex e2)) (F'.mono (.of e2))
end
/-! ### told stands -/
theorem told_shape {rs : List Row} {n : Nat} (hn : n + 1 ≤ 25) {a : Str} {s : D} (h : RtH rs (n + 1) a s) (ht : toldH (n + 1) s = s) : ∃ xs, s = .tup xs ∧ xs.length ≤ 20 ∧ ∀ x ∈ xs, ∃ r ∈ rs, ∃ m p, r.above = a ∧ m ∈ r.marks ∧ x = .tup [.str r.kind, .str m, p] ∧ RtH rs n r.kind p ∧ toldH n p = p := by
  rw [toldH_succ] at ht
  refine ⟨sortD (s.items.map (toldR n)), ht.symm, by rw [sortD_len, List.length_map]; exact h.2.1, fun x hx => ?_⟩
  obtain ⟨x0, hx0, rfl⟩ := List.mem_map.mp (sortD_mem.mp hx)
  obtain ⟨_, r, hr, m, p, ha, hm, hi, hp⟩ := h.2.2 x0 hx0
  exact ⟨r, hr, m, toldH n p, ha, hm, toldR_of hi, hp.told, toldH_told n p (by omega) hp.h⟩
theorem rt_okD {rs : List Row} (rn : RN rs) : ∀ {n : Nat} {a : Str} {d : D}, RtH rs n a d → okD (2 * n) d
  | 0, _, _, h => h.elim
  | n + 1, a, d, ⟨hL, hl, h⟩ => .inr (.inl ⟨hL, by omega, fun x hx => by
      obtain ⟨hxL, r, hr, m, p, _, hm, hi, hp⟩ := h x hx
      refine .inr (.inl ⟨hxL, by rw [hi]; show (3 : Nat) ≤ 60; decide, ?_⟩)
      rw [hi]
      exact allC (okAt (rn.k r hr)) (allC (okAt (rn.m r hr m hm)) (allC (rt_okD rn hp) all0))⟩)
theorem rt_wt {rs : List Row} : ∀ {n : Nat} {a : Str} {d : D}, RtH rs n a d → (wt d : Int) ≤ 4 + 240 * sizeH n d
  | 0, _, _, h => h.elim
  | n + 1, a, d, ⟨hL, hl, h⟩ => by
    rw [wt_L hL, sizeH_succ]
    have : ∀ xs : List D, (∀ x ∈ xs, x.isL = true ∧ ∃ r ∈ rs, ∃ m p, r.above = a ∧ m ∈ r.marks ∧ x.items = [.str r.kind, .str m, p] ∧ RtH rs n r.kind p) → (wtL xs : Int) ≤ 240 * (xs.map (sizeR n)).sum := fun xs => by
      induction xs with
      | nil => intro _; exact Int.le_refl _
      | cons x xs ih =>
        intro hx
        have h1 := ih fun y hy => hx y (List.mem_cons_of_mem _ hy)
        obtain ⟨hxL, r, hr, m, p, _, hm, hi, hp⟩ := hx x List.mem_cons_self
        have h2 := rt_wt hp
        have e1 : wt x = 230 + wt p := by
          rw [wt_L hxL, hi]
          simp only [wtL, wt]
          omega
        have e2 : sizeR n x = 1 + sizeH n p := by unfold sizeR; rw [hi]
        rw [wtL, List.map_cons, List.sum_cons, e1, e2]
        omega
    have := this d.items h
    omega
end Any
set_option Elab.async false
set_option linter.all false
set_option maxRecDepth 100000
set_option maxHeartbeats 4000000
namespace Any
open PySem PySem.Spec PyProof.Rows L2 Evl StX
theorem wtL_take : ∀ (xs : List D) (j : Nat), wtL (xs.take j) ≤ wtL xs
  | _, 0 => by rw [List.take_zero]; exact Nat.zero_le _
  | [], j + 1 => by rw [List.take_nil]; exact Nat.le_refl _
  | x :: xs, j + 1 => by
    rw [List.take_succ_cons, wtL, wtL]
    have := wtL_take xs j
    omega
theorem wtL_drop : ∀ (xs : List D) (j : Nat), wtL (xs.drop j) ≤ wtL xs
  | _, 0 => Nat.le_refl _
  | [], j + 1 => by rw [List.drop_nil]; exact Nat.le_refl _
  | x :: xs, j + 1 => by
    rw [List.drop_succ_cons, wtL]
    have := wtL_drop xs j
    omega
theorem wtL_mem : ∀ {xs : List D} {x : D}, x ∈ xs → wt x ≤ wtL xs
  | y :: ys, x, h => by
    rw [wtL]
    rcases List.mem_cons.mp h with rfl | h
    · omega
    · have := wtL_mem h
      omega
section
variable {P : Program} {w : World} {K : PySem.W.Frag} {mg : Str → Option Value} {base : Heap} {CK : Addr}
theorem scLBent : FnScope ["well", "rows", "stand", "some", "at", "kind", "mark", "parts", "inner"] ["well", "rows", "stand"] (defScope sLBent) := ⟨rfl, rfl, rfl, by decide +kernel, rfl, by decide +kernel, by decide +kernel⟩
abbrev spBent (K : PySem.W.Frag) (CK : Addr) (rs : List Row) (n M : Nat) : Sp := spW K CK 2 (10 * n) (fun ds d => okD (2 * n + 6) d ∧ wt d ≤ (n + 1) * (3 * M + 4000)) (fun ds => ∃ s a, ds = [rowsD rs, s] ∧ RtH rs n a s ∧ toldH n s = s ∧ wt s ≤ M)
theorem ok_bent_of {rs : List Row} {n M j : Nat} (hn : n + 1 ≤ 25) (hne : rs ≠ []) (rn : RN rs) (d : Def K mg "_law_bent" sLBent ["well", "rows", "stand"]) (dO : Def K mg "_law_odd" sLOdd ["well", "rows", "record"]) (dD : Def K mg "_law_draw" sLDraw ["well", "many"]) (dP : Def K mg "_law_pick" sLPick ["well", "some"])
    (GB : FnOk P w K mg base CX0 j d.f d.fd ["well", "rows", "stand"] (spBent K CK rs n M)) (hj : 3 ≤ j) (N : Nm mg) : FnOk P w K mg base CX0 (j + 1) d.f d.fd ["well", "rows", "stand"] (spBent K CK rs (n + 1) M) := by
  have GP : FnOk P w K mg base CX0 j dP.f dP.fd ["well", "some"] (spPick K CK) := (ok_pick dP dD N).mono (by omega)
  have GD : FnOk P w K mg base CX0 j dD.f dD.fd ["well", "many"] spDraw := (ok_draw dD N).mono (by omega)
  have GO : FnOk P w K mg base CX0 j dO.f dO.fd ["well", "rows", "record"] (spOdd K CK rs (2 * n) M) := (ok_odd hne rn dO dD dP N).mono hj
  have GO0 : FnOk P w K mg base CX0 j dO.f dO.fd ["well", "rows", "record"] (spOdd K CK rs 1 4) := (ok_odd hne rn dO dD dP N).mono hj
  refine d.F.ok scLBent (fun vs H Q E h => spW_len h) (fun cdv A outer s H vs Q E hr h => ?_)
  obtain ⟨W, m, ws, ds, H0, rfl, _, e0, hw0, hw, hr0, ⟨sm, a, rfl, hS, hT, hM⟩, q⟩ := h
  obtain ⟨vr, v, rfl, rr, r⟩ := RepL.two hr0
  obtain ⟨xs, rfl, hxl, hxs⟩ := told_shape hn hS hT
  have hu := hr.units
  refine ⟨_, pss_cons (ps_if (PW.pt (pw_or (pt_cmpR (op_eqE hu) (pv 2) (pe_tup pa_nil) (nomark _)) (pw_or1 (pt_cmpR op_eq (pe_call GD hr (by rfl) dD.m dD.F.kp dD.b .nil pass0 (pa_cons (pv 0) (pa_cons pe_int pa_nil))) pe_int (nomark _)))))
      (pss_cons (ps_set (i := 3) scLBent.nd rfl (.inl rfl) (pe_lst (pa_cons pe_non (pa_cons pe_int (pa_cons pe_str (pa_cons pe_dnewK (pa_cons (pe_tup (pa_cons pe_non pa_nil)) (pa_cons (pe_lst (pa_cons pe_int pa_nil)) (pa_cons pe_str (pa_cons (pe_tup (pa_cons (pe_tup pa_nil) pa_nil))
          (pa_cons (pe_lst (pa_cons (pe_tup (pa_cons pe_str (pa_cons pe_str (pa_cons (pe_tup pa_nil) pa_nil)))) pa_nil)) (pa_cons (pe_lst (pa_cons (pe_lst pa_nil) pa_nil)) pa_nil))))))))))))
      (pss_one (ps_ret (pe_call GP hr (by rfl) dP.m dP.F.kp dP.b .nil pass0 (pa_cons (pv 0) (pa_cons (pe_op op_cat (pv 3) (pe_lst (pa_cons (pe_op op_cat (pe_callTy call_list_of (by rfl) N.list boot_list (pa_cons (pv 2) pa_nil))
          (pe_lst (pa_cons (pe_call GO0 hr (by rfl) dO.m dO.F.kp dO.b .nil pass0 (pa_cons (pv 0) (pa_cons (pv 1) (pa_cons (pe_tup (pa_cons pe_str (pa_cons pe_str (pa_cons (pe_tup pa_nil) pa_nil)))) pa_nil)))) pa_nil))) pa_nil))) pa_nil)))))) pss_nil)
    (pss_cons (ps_set (i := 4) scLBent.nd rfl (.inl rfl) (pe_call GD hr (by rfl) dD.m dD.F.kp dD.b .nil pass0 (pa_cons (pv 0) (pa_cons (pe_callB call_len_seq (by rfl) N.len boot_len (pa_cons (pv 2) pa_nil)) pa_nil))))
    (pss_cons (ps_asg (pe_ix (r := rIxLT K) ix_lt (pv 2) (pv 4) (fun _ _ => rfl)) (pg_unp rfl (pgs_cons (pg_name (i := 5) scLBent.nd rfl (.inl rfl)) (pgs_cons (pg_name (i := 6) scLBent.nd rfl (.inl rfl)) (pgs_cons (pg_name (i := 7) scLBent.nd rfl (.inl rfl)) pgs_nil)))))
    (pss_cons (ps_if (PW.pt (pw_and (pt_cmpR (op_neE hu) (pv 7) (pe_tup pa_nil) (nomark _)) (pw_and1 (pt_cmpR op_eq (pe_call GD hr (by rfl) dD.m dD.F.kp dD.b .nil pass0 (pa_cons (pv 0) (pa_cons pe_int pa_nil))) pe_int (nomark _)))))
      (pss_one (ps_set (i := 8) scLBent.nd rfl (.inl rfl) (pe_tup (pa_cons (pv 5) (pa_cons (pv 6) (pa_cons (pe_call GB hr (by rfl) d.m d.F.kp d.b .nil pass0 (pa_cons (pv 0) (pa_cons (pv 1) (pa_cons (pv 7) pa_nil)))) pa_nil))))))
      (pss_one (ps_set (i := 8) scLBent.nd rfl (.inl rfl) (pe_call GO hr (by rfl) dO.m dO.F.kp dO.b .nil pass0 (pa_cons (pv 0) (pa_cons (pv 1) (pa_cons (pe_ix (r := rIxLT K) ix_lt (pv 2) (pv 4) (fun _ _ => rfl)) pa_nil)))))))
    (pss_one (ps_ret (pe_op op_cat (pe_op op_cat (pe_callTy call_list_of (by rfl) N.list boot_list (pa_cons (pe_slice sl_tupA (pv 2) po_none (po_some (pv 4))) pa_nil)) (pe_lst (pa_cons (pv 8) pa_nil)))
      (pe_callTy call_list_of (by rfl) N.list boot_list (pa_cons (pe_slice sl_tupA (pv 2) (po_some (pe_op op_add (pv 4) (pe_call GD hr (by rfl) dD.m dD.F.kp dD.b .nil pass0 (pa_cons (pv 0) (pa_cons pe_int pa_nil))))) po_none) pa_nil)))))))), ?_⟩
  have hw' : WellAt W (m + 10 * (n + 1)) H := hw
  have F0 : Fr W H0 H (m + 10 * n + 10) H := .start e0 hw0 (hw'.less (by omega))
  have hMw : 4 + wtL xs ≤ M := by have := hM; rw [wt] at this; exact this
  have hmul : ∀ x : Nat, (n + 1 + 1) * x = (n + 1) * x + x := fun x => Nat.succ_mul _ _
  have hrec := rt_okD rn hS
  have wS : ∀ x : Str, wt (.str x) = 110 := fun _ => by simp only [wt]
  have okZ : okS (Str.ofString "zz9") := okS_lit _ (by decide +kernel)
  have okNew : okS (Str.ofString "new") := okS_lit _ (by decide +kernel)
  have hB : ∀ {d : D}, okD (2 * (n + 1) + 6) d → wt d ≤ 4000 + 3 * M → okD (2 * (n + 1) + 6) d ∧ wt d ≤ (n + 1 + 1) * (3 * M + 4000) := fun {d} h1 h2 => ⟨h1, by
    rw [hmul]
    have : 0 ≤ (n + 1) * (3 * M + 4000) := Nat.zero_le _
    omega⟩
  have okXs : ∀ x ∈ xs, okD (2 * n + 1) x := fun x hx => by
    rcases hrec with h | ⟨_, _, h⟩ | ⟨kvs, h, _⟩
    · exact h.elim
    · exact h x hx
    · cases h
  refine q_ifF (m1 := m + 10 * n + 9) F0 (etw_or (et_test (ev_eqE (ed_var (i := 2) rfl (r.ex F0.ex0)) (ed_tup ead_nil (by show (0 : Nat) ≤ 30000; decide)))) (fun _ => etw_draw (n := 4) (i := 0) (E := E0) rfl (by decide) (by decide)) (by omega)) (fun _ H1 F1 up1 => ?_) fun hb H1 F1 up1 => ?_
  · -- something of another form
    have rr1 := rr.ex F1.ex0
    have r1 := r.ex F1.ex0
    refine q_setF (K := K) (CK := CK) F1 (R := fun e => ∃ l, e = .lst l ∧ (l.length = 10 ∧ ∀ d ∈ l, okD (2 * (n + 1) + 6) d ∧ wt d ≤ (n + 1 + 1) * (3 * M + 4000))) (ew_lst
      (eal_cons (eq_d ed_non (by exact hB (okAt trivial) (by simp only [wt]; omega))) (eal_cons (eq_d ed_int (by exact hB (okAt ⟨by decide, by decide⟩) (by simp only [wt]; omega))) (eal_cons (eq_d (ed_str (by decide)) (by exact hB (okAt (okS_lit _ (by decide +kernel))) (by rw [wS]; omega)))
      (eal_cons (eq_d ed_dnew (by exact hB (.inr (.inr ⟨[], rfl, by show (0 : Nat) ≤ 60; decide, List.nodup_nil, fun kv h => by cases h⟩)) (by simp only [wt, wtK]; omega)))
      (eal_cons (eq_d (ed_tup (ead_cons ed_non ead_nil) (by show (1 : Nat) ≤ 30000; decide)) (by exact hB (okT (n := 2 * (n + 1) + 5) (by show (1 : Nat) ≤ 60; decide) (allC (okAt trivial) all0)) (by simp only [wt, wtL]; omega)))
      (eal_cons (eq_d (ed_lst (ead_cons ed_int ead_nil) (by show (1 : Nat) ≤ 30000; decide)) (by exact hB (okL (n := 2 * (n + 1) + 5) (by show (1 : Nat) ≤ 60; decide) (allC (okAt ⟨by decide, by decide⟩) all0)) (by simp only [wt, wtL]; omega)))
      (eal_cons (eq_d (ed_str (by decide)) (by exact hB (okAt (okS_lit _ (by decide +kernel))) (by rw [wS]; omega)))
      (eal_cons (eq_d (ed_tup (ead_cons (ed_tup ead_nil (by show (0 : Nat) ≤ 30000; decide)) ead_nil) (by show (1 : Nat) ≤ 30000; decide)) (by exact hB (okT (n := 2 * (n + 1) + 5) (by show (1 : Nat) ≤ 60; decide) (allC (okT (n := 2 * (n + 1) + 4) (by show (0 : Nat) ≤ 60; decide) all0) all0)) (by simp only [wt, wtL]; omega)))
      (eal_cons (eq_d (ed_lst (ead_cons (ed_tup (ead_cons (ed_str (by decide)) (ead_cons (ed_str (by decide)) (ead_cons (ed_tup ead_nil (by show (0 : Nat) ≤ 30000; decide)) ead_nil))) (by show (3 : Nat) ≤ 30000; decide)) ead_nil) (by show (1 : Nat) ≤ 30000; decide))
        (by exact hB (okL (n := 2 * (n + 1) + 5) (by show (1 : Nat) ≤ 60; decide) (allC (okT (n := 2 * (n + 1) + 4) (by show (3 : Nat) ≤ 60; decide) (allC (okAt okZ) (allC (okAt okNew) (allC (okT (n := 2 * (n + 1) + 3) (by show (0 : Nat) ≤ 60; decide) all0) all0)))) all0)) (by simp only [wt, wtL]; omega)))
      (eal_cons (eq_d (ed_lst (ead_cons (ed_lst ead_nil (by show (0 : Nat) ≤ 30000; decide)) ead_nil) (by show (1 : Nat) ≤ 30000; decide)) (by exact hB (okL (n := 2 * (n + 1) + 5) (by show (1 : Nat) ≤ 60; decide) (allC (okL (n := 2 * (n + 1) + 4) (by show (0 : Nat) ≤ 60; decide) all0) all0)) (by simp only [wt, wtL]; omega))) eal_nil)))))))))) (fun ds h => by rw [h.1]; decide)) fun dS vS H2 hdS F2 up2 rS => ?_
    obtain ⟨sl, rfl, hsl, hsa⟩ := hdS
    have rr2 := rr1.ex up2
    have r2 := r1.ex up2
    refine s_retF (K := K) (CK := CK) F2 (eww_call (m := m) (k := 1) (m1 := m + 10 * n + 9) (n := 1) (i := 0) (R := fun ds d => d ∈ (ds.getD 0 .non).items) (pre := fun ds => ∃ s, ds = [s] ∧ s.isL = true ∧ s.items ≠ []) (R2 := fun d => okD (2 * (n + 1) + 6) d ∧ wt d ≤ (n + 1 + 1) * (3 * M + 4000)) rfl
      (eaw_cons (ew_catL (R1 := fun l => l = sl) (R2 := fun l => l.length = 1 ∧ ∀ d ∈ l, okD (2 * (n + 1) + 6) d ∧ wt d ≤ (n + 1 + 1) * (3 * M + 4000)) (EvW.imp (EvD.w (ed_var (i := 3) rfl rS)) fun e he => ⟨sl, he, rfl⟩)
        (ew_lst (eaw_cons (ew_catL (R1 := fun l => l = xs) (R2 := fun l => ∃ o, l = [o] ∧ okD 5 o ∧ wt o ≤ 2 * 4 + 3000) (EvW.imp (EvD.w (ed_listOf (ed_var (i := 2) rfl r2) rfl)) fun e he => ⟨xs, he, rfl⟩)
          (EvW.imp (ew_lst (eaw_cons (eww_call (m := m + 1) (k := 4) (m1 := m + 10 * n + 9) (n := 2) (i := 0) (R := fun ds d => okD (1 + 4) d ∧ wt d ≤ 2 * 4 + 3000) (R2 := fun d => okD 5 d ∧ wt d ≤ 2 * 4 + 3000)
              (pre := fun ds => ∃ k m p, ds = [rowsD rs, .tup [.str k, .str m, p]] ∧ okS k ∧ okS m ∧ p.isL = true ∧ p.items.length ≤ 40 ∧ okD 1 p ∧ wt p ≤ 4) rfl
              (eaw_cons (EvD.w (ed_var (i := 1) rfl rr2)) (eaw_cons (EvD.wl (m' := m + 1 + 4) (ed_tup (ead_cons (ed_str (x := "zz9") (by decide)) (ead_cons (ed_str (x := "new") (by decide)) (ead_cons (ed_tup ead_nil (by show (0 : Nat) ≤ 30000; decide)) ead_nil))) (by show (3 : Nat) ≤ 30000; decide)) (by omega)) eaw_nil)) ?_) eaw_nil) (by
            rintro l ⟨b, l1, rfl, _, rfl⟩
            show (1 : Nat) ≤ 30000
            decide)) fun e he => by
              obtain ⟨l, rfl, b, l1, rfl, hb, rfl⟩ := he
              exact ⟨[b], rfl, b, rfl, hb⟩) (fun x y hx hy => by
            obtain ⟨o, rfl, _⟩ := hy
            subst hx
            show _ + 1 ≤ 30000
            omega)) eaw_nil) (by
          rintro l ⟨b, l1, rfl, _, rfl⟩
          show (1 : Nat) ≤ 30000
          decide) |> fun z => EvW.imp z fun e he => by
            obtain ⟨l, rfl, b, l1, rfl, ⟨zs, rfl, x, y, rfl, rfl, o, rfl, ho, hwo⟩, rfl⟩ := he
            refine ⟨_, rfl, rfl, allC ?_ all0⟩
            refine hB (okL (n := 2 * (n + 1) + 5) (by rw [List.length_append]; show _ + 1 ≤ 60; omega) fun z hz => ?_) (by simp only [wt, wtL, wtL_app]; omega)
            rcases List.mem_append.mp hz with hz | hz
            · exact okD_le (okXs z hz) (by omega)
            · rw [List.mem_singleton.mp hz]
              exact okD_le ho (by omega)) (fun x y hx hy => by rw [hx, hsl, hy.1]; decide)) eaw_nil) ?_) fun dR vR H3 hR eW3 hw3 r3 => q dR vR H3 hR eW3 hw3 r3
    · rintro ds ⟨b, l1, rfl, rfl, c, l2, rfl, rfl, rfl⟩
      exact ⟨rfl, ⟨Str.ofString "zz9", Str.ofString "new", .tup [], rfl, okZ, okNew, rfl, by show (0 : Nat) ≤ 40; decide, okT (n := 0) (by show (0 : Nat) ≤ 60; decide) all0, by simp only [wt, wtL]; omega⟩, fun d h => h⟩
    · rintro ds ⟨b, l1, rfl, ⟨zs, rfl, x, y, rfl, rfl, hy1, hy2⟩, rfl⟩
      refine ⟨rfl, ⟨_, rfl, rfl, fun c => ?_⟩, fun d hd => ?_⟩
      · have c2 : x ++ y = [] := c
        have h0 : x.length + y.length = 0 := by
          rw [← List.length_append, c2]
          rfl
        omega
      · have hd2 : d ∈ x ++ y := hd
        rcases List.mem_append.mp hd2 with h | h
        · exact hsa d h
        · exact hy2 d h
  · -- one record is another one
    have hne2 : xs ≠ [] := fun c => by rw [c] at hb; exact absurd (hb rfl) (by decide)
    have hpos : 0 < xs.length := List.length_pos_iff.mpr hne2
    have rr1 := rr.ex F1.ex0
    have r1 := r.ex F1.ex0
    refine q_setF (K := K) (CK := CK) F1 (ew_draw (m := m + 10 * n + 8) (i := 0) (E := E0) rfl (ev_lenD (ed_var (i := 2) rfl r1) rfl) (by show (0 : Int) < (xs.length : Nat); omega) (by show ((xs.length : Nat) : Int) < 1000000; omega)) fun dA vA H2 hA F2 up2 rA => ?_
    obtain ⟨j, rfl, j0, j1⟩ := hA
    obtain ⟨jn, rfl⟩ := Int.eq_ofNat_of_zero_le j0
    have hjn : jn < xs.length := by
      have : ((jn : Nat) : Int) < ((xs.length : Nat) : Int) := j1
      omega
    obtain rfl := rep_int rA
    have rr2 := rr1.ex up2
    have r2 := r1.ex up2
    have hget : xs[jn]? = some xs[jn] := List.getElem?_eq_getElem hjn
    generalize hx0 : xs[jn] = x0 at hget
    have hxm : x0 ∈ xs := List.mem_of_getElem? hget
    obtain ⟨ro, hro, mk, p, hab, hmk, rfl, hp, hpt⟩ := hxs x0 hxm
    have wx := wtL_mem hxm
    have wx2 : wt (.tup [.str ro.kind, .str mk, p]) = 230 + wt p := by
      simp only [wt, wtL]
      omega
    have hpM : wt p ≤ M := by omega
    refine q_unpF (K := K) (CK := CK) F2 (d := .tup [.str ro.kind, .str mk, p]) (ed_ix (d := .tup xs) (j := jn) (ed_var (i := 2) rfl r2) (ev_var rfl) rfl hget) fun vX H3 F3 up3 rX => ?_
    obtain ⟨u1, u2, u3, s1, s2, s3, hg⟩ := eg_unp3 (σ := [some (.ref W), some vr, some v, none, some (.int (jn : Nat)), none, none, none, none]) (i := 5) (j := 6) (k := 7) rX rfl rfl
    refine ⟨_, hg, fun H4 F4 up4 => ?_⟩
    have rr4 := (rr2.ex up3).ex up4
    have r4 := (r2.ex up3).ex up4
    have g1 := s1.ex up4
    have g2 := s2.ex up4
    have g3 := s3.ex up4
    have hpL : p.isL = true := by
      cases n with
      | zero => exact hp.elim
      | succ n => exact hp.1
    obtain ⟨ps, rfl⟩ : ∃ ps, p = .tup ps := by
      cases n with
      | zero => exact hp.elim
      | succ n =>
        obtain ⟨ps, h, _⟩ := told_shape (by omega) hp hpt
        exact ⟨ps, h⟩
    -- the end
    have fin : ∀ (dI : D) (vI : V) (H5 : Hp), okD (2 * n + 7) dI → wt dI ≤ 230 + (n + 1) * (3 * M + 4000) → Fr W H0 H (m + 1) H5 → Ex (hid H0 H H4) (hid H0 H H5) → Rep K CK (hid H0 H H5) dI vI →
        tRet (tOp rCat (tOp rCat (tListOf K (tSl (rSlA K) (tVar 2) tNoPart (tPart (tVar 4)))) (tLst (tCons (tVar 8) tNil))) (tListOf K (tSl (rSlA K) (tVar 2) (tPart (tOp (rI0 fun i j => .int (i + j)) (tVar 4) (tCall spDraw [] E0 (tCons (tVar 0) (tCons (tC (.int 2)) tNil))))) tNoPart))) { nx := fun _ H' => Q .non H', rt := Q }
          [some (.ref W), some vr, some v, none, some (.int (jn : Nat)), some u1, some u2, some u3, some vI] H5 := fun dI vI H5 okI wI F5 up5 rI => by
      have r5 := r4.ex up5
      refine s_retF (K := K) (CK := CK) F5 (ew_catL (R1 := fun l => ∃ t, l = t ++ [dI] ∧ t = xs.take jn) (R2 := fun l => ∃ c : Nat, l = xs.drop c)
        (EvW.imp (EvD.w (ed_catL (ed_listOf (ed_slTake (ed_var (i := 2) rfl r5) (ev_var (i := 4) rfl)) rfl) (ed_lst (ead_cons (ed_var (i := 8) rfl rI) ead_nil) (by show (1 : Nat) ≤ 30000; decide)) (by show (xs.take jn).length + 1 ≤ 30000; rw [List.length_take]; omega))) fun e he => ⟨_, he, _, rfl, rfl⟩)
        (ew_listOf (ew_slDrop (m := m) rfl (ed_var (i := 2) rfl r5) (ev_var (i := 4) rfl) (by decide) (by decide))) (fun x y hx hy => by
          obtain ⟨t, rfl, rfl⟩ := hx
          obtain ⟨c, rfl⟩ := hy
          rw [List.length_append, List.length_take, List.length_drop]
          show _ + 1 + _ ≤ 30000
          omega)) fun dR vR H6 hR eW6 hw6 r6 => q dR vR H6 ?_ eW6 hw6 r6
      obtain ⟨zs, rfl, x, y, rfl, ⟨t, rfl, rfl⟩, c, rfl⟩ := hR
      refine ⟨okL (n := 2 * (n + 1) + 5) ?_ fun z hz => ?_, ?_⟩
      · rw [List.length_append, List.length_append, List.length_take, List.length_drop]
        show _ + 1 + _ ≤ 60
        omega
      · rcases List.mem_append.mp hz with hz | hz
        · rcases List.mem_append.mp hz with hz | hz
          · exact okD_le (okXs z (List.mem_of_mem_take hz)) (by omega)
          · rw [List.mem_singleton.mp hz]
            exact okD_le okI (by omega)
        · exact okD_le (okXs z (List.mem_of_mem_drop hz)) (by omega)
      · have h1 := wtL_take xs jn
        have h2 : wtL (xs.take jn) + wtL (xs.drop c) ≤ 2 * wtL xs := by
          have := wtL_drop xs c
          omega
        rw [hmul]
        simp only [wt, wtL_app, wtL]
        omega
    refine q_ifF (m1 := m + 10 * n + 7) F4 (etw_and (et_test (ev_neE (ed_var (i := 7) rfl g3) (ed_tup ead_nil (by show (0 : Nat) ≤ 30000; decide)))) (fun _ => etw_draw (n := 2) (i := 0) (E := E0) rfl (by decide) (by decide)) (by omega)) (fun _ H5 F5 up5 => ?_) fun _ H5 F5 up5 => ?_
    · -- within it
      refine (F5.next .refl F5.hw |> fun F5 => ?_ : _)
      have key := ew_tup (K := K) (CK := CK) (W := W) (m := m + 10 * n + 7) (m' := m + 1) (B := hid H0 H H5) (σ := [some (.ref W), some vr, some v, none, some (.int (jn : Nat)), some u1, some u2, some u3, none])
        (eaw_cons (EvD.w (ed_var (i := 5) rfl (g1.ex up5))) (eaw_cons (EvD.w (ed_var (i := 6) rfl (g2.ex up5))) (eaw_cons (eww_call (m := m + 1) (k := 10 * n) (m1 := m + 10 * n + 7) (n := 2) (i := 0) (E := E0) (R := fun ds d => okD (2 * n + 6) d ∧ wt d ≤ (n + 1) * (3 * M + 4000)) (R2 := fun d => okD (2 * n + 6) d ∧ wt d ≤ (n + 1) * (3 * M + 4000))
          (pre := fun ds => ∃ s a, ds = [rowsD rs, s] ∧ RtH rs n a s ∧ toldH n s = s ∧ wt s ≤ M) rfl (eaw_cons (EvD.w (ed_var (i := 1) rfl (rr4.ex up5))) (eaw_cons (EvD.wl (m' := m + 1 + 10 * n) (ed_var (i := 7) rfl (g3.ex up5)) (by omega)) eaw_nil)) (by
            rintro ds ⟨b, l1, rfl, rfl, c, l2, rfl, rfl, rfl⟩
            exact ⟨rfl, ⟨.tup ps, ro.kind, rfl, hp, hpt, hpM⟩, fun d h => h⟩)) eaw_nil))) (by
        rintro l ⟨b, l1, rfl, _, c, l2, rfl, _, e, l3, rfl, _, rfl⟩
        show (3 : Nat) ≤ 30000
        decide)
      refine key H5 hid_sub F5.bW F5.hw _ fun dI vI H6 hI e6 hw6 r6 => ?_
      obtain ⟨l, rfl, b, l1, rfl, rfl, c, l2, rfl, rfl, e, l3, rfl, ⟨he1, he2⟩, rfl⟩ := hI
      refine fin (.tup [.str ro.kind, .str mk, e]) vI H6 (okT (n := 2 * n + 6) (by show (3 : Nat) ≤ 60; decide) (allC (okAt (rn.k ro hro)) (allC (okAt (rn.m ro hro mk hmk)) (allC he1 all0)))) (by simp only [wt, wtL]; omega) (F5.next e6 hw6) (up5.trans (F5.mono e6)) (r6.ex F5.up)
    · -- another one
      have key := eww_call (K := K) (CK := CK) (W := W) (B := hid H0 H H5) (σ := [some (.ref W), some vr, some v, none, some (.int (jn : Nat)), some u1, some u2, some u3, none]) (m := m + 1) (k := 4) (m1 := m + 10 * n + 7) (n := 2) (i := 0) (E := E0) (R := fun ds d => okD (2 * n + 4) d ∧ wt d ≤ 2 * M + 3000) (R2 := fun d => okD (2 * n + 4) d ∧ wt d ≤ 2 * M + 3000)
          (pre := fun ds => ∃ k m p, ds = [rowsD rs, .tup [.str k, .str m, p]] ∧ okS k ∧ okS m ∧ p.isL = true ∧ p.items.length ≤ 40 ∧ okD (2 * n) p ∧ wt p ≤ M) rfl
          (eaw_cons (EvD.w (ed_var (i := 1) rfl (rr4.ex up5))) (eaw_cons (EvD.wl (m' := m + 1 + 4) (ed_ix (d := .tup xs) (j := jn) (ed_var (i := 2) rfl (r4.ex up5)) (ev_var (i := 4) rfl) rfl hget) (by omega)) eaw_nil)) (by
            rintro ds ⟨b, l1, rfl, rfl, c, l2, rfl, rfl, rfl⟩
            refine ⟨rfl, ⟨ro.kind, mk, .tup ps, rfl, rn.k ro hro, rn.m ro hro mk hmk, rfl, ?_, rt_okD rn hp, hpM⟩, fun d h => h⟩
            cases n with
            | zero => exact hp.elim
            | succ n =>
              have := hp.2.1
              omega)
      refine key H5 hid_sub F5.bW F5.hw _ fun dI vI H6 hI e6 hw6 r6 => ?_
      have hz : 3 * M + 4000 ≤ (n + 1) * (3 * M + 4000) := Nat.le_mul_of_pos_left _ (Nat.succ_pos n)
      exact fin dI vI H6 (okD_le hI.1 (by omega)) (by have := hI.2; omega) (F5.next e6 hw6) (up5.trans (F5.mono e6)) (r6.ex F5.up)
theorem ok_bent {rs : List Row} {M : Nat} (hne : rs ≠ []) (rn : RN rs) (d : Def K mg "_law_bent" sLBent ["well", "rows", "stand"]) (dO : Def K mg "_law_odd" sLOdd ["well", "rows", "record"]) (dD : Def K mg "_law_draw" sLDraw ["well", "many"]) (dP : Def K mg "_law_pick" sLPick ["well", "some"]) (N : Nm mg) :
    ∀ n ≤ 20, FnOk P w K mg base CX0 (n + 3) d.f d.fd ["well", "rows", "stand"] (spBent K CK rs n M)
  | 0, _ => d.F.ok scLBent (fun vs H Q E h => spW_len h) (fun cdv A outer s H vs Q E hr h => by
      obtain ⟨W, m, ws, ds, H0, rfl, _, e0, hw0, hw, hr0, ⟨sm, a, rfl, hS, _⟩, q⟩ := h
      exact hS.elim)
  | n + 1, hn => ok_bent_of (by omega) hne rn d dO dD dP (ok_bent hne rn d dO dD dP N n (by omega)) (by omega) N
end
end Any
set_option Elab.async false
set_option linter.all false
set_option maxRecDepth 100000
set_option maxHeartbeats 4000000
namespace Any
open PySem PySem.Spec PyProof.Rows L2 Evl StX
/-- rows with levels: what is above one is a row, too -/
structure Lv0 (rs : List Row) (lv : Str → Nat) : Prop where
  e : lv Str.empty = 0
  r : ∀ r ∈ rs, lv r.kind = lv r.above + 1
  ab : ∀ r ∈ rs, r.above = Str.empty ∨ ∃ s ∈ rs, s.kind = r.above
section
variable {K : PySem.W.Frag} {CK : Addr} {H H' H0 H1 H2 H3 H4 Hc B : Hp} {σ σ2 : L2.St} {X : Cx} {W L : Addr} {m m' m1 k : Nat}
theorem ev_neS {ta tb : TE} {a b : Str} (h1 : Ev ta σ H (.str a)) (h2 : Ev tb σ H (.str b)) : Ev (tOp rNe ta tb) σ H (.bl (!decide (a = b))) :=
  ev_is (ev_op h1 h2 (rv_ne rfl)) (by rw [d_str])
/-- xs[:j] of a list -/
theorem ed_slTakeL {ta tb : TE} {xs : List D} {j : Nat} (h1 : EvD K CK ta σ H (.lst xs)) (h2 : Ev tb σ H (.int (j : Nat))) : EvD K CK (tSl (rSlL K) ta tNoPart (tPart tb)) σ H (.lst (xs.take j)) := fun H1 e1 Q q =>
  h1 H1 e1 _ fun v H2 e2 r => h2 H2 (e1.trans e2) _ fun H3 e3 => ⟨_, rfl, by
    obtain ⟨a, vs, rfl, ha, la, ra⟩ := r
    have hlen := ra.len
    refine ⟨a, vs, rfl, sq_of (e3 _ _ (hid_sub _ _ ha)), fun p hp => ?_⟩
    have ecut : cutV vs none (some (j : Int)) = vs.take j := by
      unfold cutV
      rw [HT.sIx_nat, HT.sIx_none, Nat.sub_zero, List.drop_zero]
      by_cases c : j ≤ vs.length
      · rw [Nat.min_eq_left c]
      · rw [Nat.min_eq_right (by omega), List.take_of_length_le (Nat.le_refl _), List.take_of_length_le (by omega)]
    rw [ecut]
    exact q _ _ ((e2.trans e3).trans (Ex.new hp)) ⟨p, _, rfl, hid_at (ex_none (e2.trans e3) hp) upd_same, by rw [List.length_take]; omega, (RepL.take j ra).ex (hid_mono (e3.trans (Ex.new hp)))⟩⟩
/-- xs[:1 + _law_draw(well, n)] of a list -/
theorem ew_slTakeL {i : Nat} {ta tb : TE} {xs : List D} {n : Int} {E : XK} (hi : σ[i]? = some (some (V.ref W))) (h1 : EvD K CK ta σ B (.lst xs)) (hb : Ev tb σ B (.int n)) (h0 : 0 < n) (hn : n < 1000000) :
    EvW K CK W (m + 1) m (tSl (rSlL K) ta tNoPart (tPart (tOp (rI0 fun i j => .int (i + j)) (tC (.int 1)) (tCall spDraw [] E (tCons (tVar i) (tCons tb tNil)))))) σ B (fun e => ∃ c : Nat, e = .lst (xs.take (c + 1)) ∧ ((c : Nat) : Int) < n) := fun H1 e hB hw Q q =>
  h1 H1 e _ fun v H2 e2 r => ⟨_, hi, hb H2 (e.trans e2) _ fun H3 e3 => ⟨W, m, n, rfl, hw.ex (e2.trans e3), h0, hn, fun c H4 c0 c1 hw4 e4 => by
    obtain ⟨cn, rfl⟩ := Int.eq_ofNat_of_zero_le c0
    have e14 : ExW W H1 H4 := (ExW.of (e2.trans e3)).trans e4
    have r' := r.ex (hidW_first hB hw.some ((ExW.of e3).trans e4))
    obtain ⟨a, vs, rfl, ha, la, ra⟩ := r'
    have hlen := ra.len
    have ei : (1 : Int) + ((cn : Nat) : Int) = ((cn + 1 : Nat) : Int) := by omega
    refine ⟨_, _, rfl, rfl, _, rfl, a, vs, rfl, sq_of (hid_sub _ _ ha), fun p hp => ?_⟩
    have ecut : cutV vs none (some ((1 : Int) + ((cn : Nat) : Int))) = vs.take (cn + 1) := by
      unfold cutV
      rw [ei, HT.sIx_nat, HT.sIx_none, Nat.sub_zero, List.drop_zero]
      by_cases c : cn + 1 ≤ vs.length
      · rw [Nat.min_eq_left c]
      · rw [Nat.min_eq_right (by omega), List.take_of_length_le (Nat.le_refl _), List.take_of_length_le (by omega)]
    rw [ecut]
    have pn : H1 p = none := by
      cases c : H1 p with
      | none => rfl
      | some o =>
        have pw : p ≠ W := fun c => by
          have := hw4.some
          rw [← c, hp] at this
          cases this
        have := e14 _ _ (cut_at pw c)
        rw [hp] at this
        cases this
    exact q (.lst (xs.take (cn + 1))) _ _ ⟨cn, rfl, c1⟩ (e14.trans (.of (Ex.new hp))) (hw4.ex (Ex.new hp)) ⟨p, _, rfl, hid_at pn upd_same, by rw [List.length_take]; omega, RepL.ex (hid_mono (Ex.new hp)) (RepL.take (cn + 1) ra)⟩⟩⟩
end
section
variable {P : Program} {w : World} {K : PySem.W.Frag} {mg : Str → Option Value} {base : Heap} {CK : Addr}
theorem scLPChain : FnScope ["rows", "kind", "found"] ["rows", "kind"] (defScope sLPChain) := ⟨rfl, rfl, rfl, by decide +kernel, rfl, by decide +kernel, by decide +kernel⟩
def spChain (K : PySem.W.Frag) (CK : Addr) : Sp := fun vs H Q _ => ∃ rs lv r vr H0, vs = [vr, V.str r.kind] ∧ Ex H0 H ∧ Rep K CK H0 (rowsD rs) vr ∧ Un rs ∧ Lv0 rs lv ∧ r ∈ rs ∧ r.kind.length ≤ 1000 ∧ lv r.kind ≤ 1000 ∧ ∀ L ws H', Ex H H' → H' L = some (.lst ws) → ws.length = lv r.kind → Q (.ref L) H'
theorem spChain_len {H : Hp} {vs : List V} {Q : VK} {E : XK} (h : spChain K CK vs H Q E) : vs.length = 2 := by
  obtain ⟨_, _, _, _, _, rfl, _⟩ := h
  rfl
theorem ok_chain (d : Def K mg "_law_p_chain" sLPChain ["rows", "kind"]) (dR : Def K mg "_law_p_row" sLPRow ["rows", "kind"]) (T : KCls K CK) (N : Nm mg) : FnOk P w K mg base CX0 2 d.f d.fd ["rows", "kind"] (spChain K CK) := by
  have GR : FnOk P w K mg base CX0 1 dR.f dR.fd ["rows", "kind"] (spPRow K CK) := ok_p_row dR T N
  refine d.F.ok scLPChain (fun vs H Q E h => spChain_len h) (fun cdv A outer s H vs Q E hr h => ?_)
  obtain ⟨rs, lv, r0, vr, H0, rfl, e0, rr, un, L0, hr0, hk0, hlv, q⟩ := h
  refine ⟨_, pss_cons (ps_set (i := 2) scLPChain.nd rfl (.inl rfl) (pe_lst (pa_cons (pv 1) pa_nil)))
    (pss_cons (ps_while PassesOwn.never (pt_cmpR op_ne (pe_ix (r := rIxLT K) ix_lt (pe_call GR hr (by rfl) dR.m dR.F.kp dR.b .nil pass0 (pa_cons (pv 0) (pa_cons (pe_ix (r := rIxLT K) ix_lt (pv 2) pe_int (fun _ _ => rfl)) pa_nil))) pe_int (fun _ _ => rfl)) pe_str (nomark _))
      (pss_one (ps_set (i := 2) scLPChain.nd rfl (.inl rfl) (pe_op op_cat (pe_lst (pa_cons (pe_ix (r := rIxLT K) ix_lt (pe_call GR hr (by rfl) dR.m dR.F.kp dR.b .nil pass0 (pa_cons (pv 0) (pa_cons (pe_ix (r := rIxLT K) ix_lt (pv 2) pe_int (fun _ _ => rfl)) pa_nil))) pe_int (fun _ _ => rfl)) pa_nil)) (pv 2)))))
    (pss_one (ps_ret (pv 2)))), ?_⟩
  -- found[0]'s row, field j
  have fld : ∀ (r : Row) (cs : List D) (v : V) (Hz : Hp) (j : Nat) (x : D), r ∈ rs → Ex H Hz → Rep K CK Hz (.lst (.str r.kind :: cs)) v → (rowD r).items[j]? = some x →
      EvD K CK (tOp (rIxLT K) (tCall (spPRow K CK) [] E0 (tCons (tVar 0) (tCons (tOp (rIxLT K) (tVar 2) (tC (.int 0))) tNil))) (tC (.int (j : Nat)))) [some vr, some (.str r0.kind), some v] Hz x := fun r cs v Hz j x hr ez rv hj =>
    ed_ix (d := rowD r) (j := j) (ed_callX (d := rowD r) (ds := [rowsD rs, .str r.kind]) (ead_cons (ed_var (i := 0) rfl (rr.ex (e0.trans ez))) (ead_cons (ed_ix (d := .lst (.str r.kind :: cs)) (j := 0) (ed_var (i := 2) rfl rv) ev_c rfl rfl) ead_nil)) rfl ⟨rs, r, rfl, un, hr, rfl⟩) ev_c rfl hj
  refine ed_asg (K := K) (CK := CK) (H0 := H) (d := .lst [.str r0.kind]) (ed_lst (ead_cons (ed_var (i := 1) rfl ⟨rfl, hk0⟩) ead_nil) (by show (1 : Nat) ≤ 30000; decide)) (Ex.refl H) fun v1 H1 e1 r1 => ?_
  rw [hid_refl] at r1
  refine q_while (fun mm σ' H' => ∃ r cs v, σ' = [some vr, some (.str r0.kind), some v] ∧ r ∈ rs ∧ Ex H H' ∧ Rep K CK H' (.lst (.str r.kind :: cs)) v ∧ mm = lv r.kind ∧ cs.length + lv r.kind = lv r0.kind) (lv r0.kind) ⟨r0, [], v1, rfl, hr0, e1, r1, rfl, by show 0 + _ = _; omega⟩ ?_
  rintro mm σ' H' ⟨r, cs, v, rfl, hrm, ez, rv, rfl, hlen⟩
  have hcs : cs.length ≤ 1000 := by omega
  refine ⟨!decide (r.above = Str.empty), et_test (ev_neS (EvD.s (fld r cs v H' 1 (.str r.above) hrm ez rv rfl)) (ev_c (v := .str Str.empty))), fun hb H2 e2 => ?_, fun hb H2 e2 => ?_⟩
  · have hne : r.above ≠ Str.empty := by simpa using hb
    obtain ⟨s2, hs2, hk2⟩ := (L0.ab r hrm).resolve_left hne
    have hl := L0.r r hrm
    refine ⟨fun σ3 H3 => ∃ v, σ3 = [some vr, some (.str r0.kind), some v] ∧ Ex H H3 ∧ Rep K CK H3 (.lst (.str s2.kind :: .str r.kind :: cs)) v, ?_, ?_⟩
    · rintro σ3 H3 ⟨v3, rfl, e3, r3⟩
      exact ⟨lv s2.kind, by rw [hk2]; omega, s2, .str r.kind :: cs, v3, rfl, hs2, e3, r3, rfl, by rw [List.length_cons, hk2]; omega⟩
    · have rv2 := rv.ex e2
      have z := ed_catL (K := K) (CK := CK) (ed_lst (ead_cons (fld r cs v H2 1 (.str r.above) hrm (ez.trans e2) rv2 rfl) ead_nil) (by show (1 : Nat) ≤ 30000; decide)) (ed_var (σ := [some vr, some (.str r0.kind), some v]) (i := 2) rfl rv2) (by show 1 + (cs.length + 1) ≤ 30000; omega)
      refine z H2 (Ex.refl _) _ fun v3 H3 e3 r3 => ⟨v3, rfl, ez.trans (e2.trans e3), ?_⟩
      rw [hid_refl] at r3
      rw [hk2]
      exact r3
  · have he : r.above = Str.empty := by simpa using hb
    have hl := L0.r r hrm
    rw [he, L0.e] at hl
    obtain ⟨a, vs, rfl, h1, _, h2⟩ := rv.ex e2
    exact ⟨_, rfl, q a vs H2 (ez.trans e2) h1 (by rw [h2.len, List.length_cons]; omega)⟩
end
end Any
set_option Elab.async false
set_option linter.all false
set_option maxRecDepth 100000
set_option maxHeartbeats 4000000
namespace Any
open PySem PySem.Spec PyProof.Rows L2 Evl StX
abbrev sLPRows : Stmt := topS 47
/-! ### data of tuples alone -/
mutual
def D.tt : D → Bool
  | .tup xs => ttL xs
  | .lst _ => false
  | .dct _ => false
  | .obj _ => false
  | _ => true
def ttL : List D → Bool
  | [] => true
  | x :: xs => x.tt && ttL xs
end
section
variable {K : PySem.W.Frag} {CK : Addr} {H H' H0 H1 H2 H3 H4 Hc B : Hp} {σ σ2 : L2.St} {X : Cx} {W L : Addr} {m m' m1 k : Nat}
mutual
theorem Rep.exT (e : ExT H H') : ∀ {d : D} {v : V}, d.tt = true → Rep K CK H d v → Rep K CK H' d v
  | .non, _, _, h => h
  | .bl _, _, _, h => h
  | .int _, _, _, h => h
  | .str _, _, _, h => h
  | .tup _, _, n, ⟨a, vs, h1, h2, h4, h3⟩ => ⟨a, vs, h1, e _ _ h2, h4, RepL.exT e n h3⟩
  | .lst _, _, n, _ => by cases n
  | .dct _, _, n, _ => by cases n
  | .obj _, _, n, _ => by cases n
theorem RepL.exT (e : ExT H H') : ∀ {ds : List D} {vs : List V}, ttL ds = true → RepL K CK H ds vs → RepL K CK H' ds vs
  | [], _, _, h => h
  | _ :: _, _, n, ⟨v, r, h1, h2, h3⟩ => ⟨v, r, h1, Rep.exT e (Bool.and_eq_true_iff.mp n).1 h2, RepL.exT e (Bool.and_eq_true_iff.mp n).2 h3⟩
end
theorem tt_strs : ∀ xs : List Str, ttL (xs.map D.str) = true
  | [] => rfl
  | _ :: xs => by show (true && ttL (xs.map D.str)) = true; rw [tt_strs xs]; rfl
theorem tt_row (r : Row) : (rowD r).tt = true := by
  show (true && (true && (ttL (r.marks.map D.str) && (true && true)))) = true
  rw [tt_strs]
  rfl
theorem tt_rows : ∀ rs : List Row, ttL (rs.map rowD) = true
  | [] => rfl
  | r :: rs => by show ((rowD r).tt && ttL (rs.map rowD)) = true; rw [tt_row, tt_rows rs]; rfl
/-- tuples of a frame, the list at L left aside or not -/
theorem Fr.tupC (F : Fr W H0 H m Hc) (hL : ∃ ws, Hc L = some (.lst ws)) : ExT (hid H0 H Hc) (hid H0 H (cut L Hc)) := fun a xs z => by
  have z2 := hid_sub _ _ z
  have aL : a ≠ L := fun c => by
    obtain ⟨ws, h⟩ := hL
    rw [c, h] at z2
    cases z2
  unfold hid
  rw [if_neg]
  · exact cut_at aL z2
  · rintro ⟨y1, y2⟩
    rw [hid_no (by simpa using y1) y2] at z
    cases z
theorem q_pushF {i : Nat} {ws : List V} {te : TE} {D0 : Ends} {R : D → Prop} (F : Fr W H0 H m Hc) (hi : σ[i]? = some (some (.ref L))) (hLn : H L = none) (hL : Hc L = some (.lst ws)) (hl : ws.length ≤ 20000)
    (h : EvW K CK W m m' te σ (hid H0 H (cut L Hc)) R)
    (k : ∀ d v H', R d → Fr W H0 H m' H' → Ex (hid H0 H (cut L Hc)) (hid H0 H (cut L H')) → H' L = some (.lst (ws ++ [v])) → Rep K CK (hid H0 H (cut L H')) d v → D0.nx σ H') :
    tDrop (tBM K "list" rAppend (tVar i) (tCons te tNil)) D0 σ Hc := by
  have bW : hid H0 H (cut L Hc) W = none := hid_no F.hw0 F.hws
  have wl : W ≠ L := fun c => by have := F.hws; rw [c, hLn] at this; cases this
  refine ⟨_, hi, .inl ⟨rfl, ws, sq_of hL⟩, (eaw_cons h eaw_nil) Hc (fun a o z => cut_sub _ _ (hid_sub _ _ z)) bW F.hw _ fun dsX vsX H1 ⟨dX, l0, hl0, hR, hl1⟩ e hw rXs => ?_⟩
  subst hl1 hl0
  obtain ⟨vX, rfl, rX⟩ := RepL.one rXs
  have hL1 : H1 L = some (.lst ws) := e _ _ (cut_at wl.symm hL)
  refine ⟨L, ws, vX, rfl, rfl, hL1, sz_lt (by omega), k dX vX _ hR ⟨F.e0, F.hw0, F.hws, fun a o z => ?_, ?_⟩ ?_ upd_same ?_⟩
  · have z2 := cut_sub _ _ z
    have aL : a ≠ L := fun c => by rw [c, hLn] at z2; cases z2
    rw [upd_ne aL]
    exact (F.eW.trans e) _ _ z
  · obtain ⟨a, b, c, h1, h2⟩ := hw
    exact ⟨a, b, c, by rw [upd_ne wl]; exact h1, h2⟩
  · refine hcW_mono F.hw0 F.hws fun a o aW aL z => ?_
    rw [upd_ne aL]
    exact e _ _ (cut_at aW z)
  · rw [cut_upd]
    exact rX.ex (hc_inW F.eW F.hw.some (by rw [hL]; rfl) hLn)
theorem ew_sorted {ta : TE} {R : List D → Prop} (h : EvW K CK W m m' ta σ B (fun e => ∃ ds, e = .lst ds ∧ R ds)) (ok : ∀ ds, R ds → SortOk ds) : EvW K CK W m m' (tCB (rSortedDt K CK) (tCons ta tNil)) σ B (fun e => ∃ ds, e = .lst (sortD ds) ∧ R ds) := fun H1 e hB hw Q q =>
  h H1 e hB hw _ fun d v H2 ⟨ds, hd, hR⟩ e2 hw2 r => by
    subst hd
    obtain ⟨a, vs, rfl, h1, hl, h2⟩ := r
    refine ⟨a, vs, ds, hid B H1 H2, rfl, sq_of (hid_sub _ _ h1), hid_sub, h2, ok ds hR, fun ys p hy hp => ?_⟩
    have pn : H1 p = none := by
      cases c : H1 p with
      | none => rfl
      | some o =>
        have pw : p ≠ W := fun c => by
          have := hw2.some
          rw [← c, hp] at this
          cases this
        have := e2 _ _ (cut_at pw c)
        rw [hp] at this
        cases this
    exact q (.lst (sortD ds)) _ _ ⟨ds, rfl, hR⟩ (e2.trans (.of (Ex.new hp))) (hw2.ex (Ex.new hp)) ⟨p, ys, rfl, hid_at pn upd_same, by rw [sortD_len]; exact hl, RepL.ex (hid_mono (Ex.new hp)) hy⟩
theorem ew_tupOf {ta : TE} {R : List D → Prop} (h : EvW K CK W m m' ta σ B (fun e => ∃ ds, e = .lst ds ∧ R ds)) : EvW K CK W m m' (tCB (rTupOf K) (tCons ta tNil)) σ B (fun e => ∃ ds, e = .tup ds ∧ R ds) := fun H1 e hB hw Q q =>
  h H1 e hB hw _ fun d v H2 ⟨ds, hd, hR⟩ e2 hw2 r => by
    subst hd
    obtain ⟨a, vs, rfl, h1, hl, h2⟩ := r
    refine ⟨a, vs, rfl, .inl ⟨sq_of (hid_sub _ _ h1), fun p hp => ?_⟩⟩
    have pn : H1 p = none := by
      cases c : H1 p with
      | none => rfl
      | some o =>
        have pw : p ≠ W := fun c => by
          have := hw2.some
          rw [← c, hp] at this
          cases this
        have := e2 _ _ (cut_at pw c)
        rw [hp] at this
        cases this
    exact q (.tup ds) _ _ ⟨ds, rfl, hR⟩ (e2.trans (.of (Ex.new hp))) (hw2.ex (Ex.new hp)) ⟨p, vs, rfl, hid_at pn upd_same, hl, RepL.ex (hid_mono (Ex.new hp)) h2⟩
theorem ew_andDraw {i : Nat} {ta : TE} {a : Bool} {n : Int} {E : XK} (hi : σ[i]? = some (some (V.ref W))) (h : Ev ta σ B (.bl a)) (h0 : 0 < n) (h1 : n < 1000000) :
    EvW K CK W (m + 1) m (tAndV ta (tOp rEq (tCall spDraw [] E (tCons (tVar i) (tCons (tC (.int n)) tNil))) (tC (.int 0)))) σ B (fun e => ∃ b, e = .bl (a && b)) := fun H1 e hB hw Q q => h H1 e _ fun H2 e2 => ⟨a, rfl, by
  cases a with
  | false =>
    rw [if_neg Bool.false_ne_true]
    exact q (.bl false) _ H2 ⟨true, rfl⟩ (.of e2) ((hw.ex e2).less (by omega)) rfl
  | true =>
    rw [if_pos rfl]
    exact ⟨_, hi, W, m, n, rfl, hw.ex e2, h0, h1, fun j H3 j0 j1 hw3 e3 => ⟨rfl, q (.bl (decide (V.int j = V.int 0))) _ H3 ⟨decide (V.int j = V.int 0), rfl⟩ ((ExW.of e2).trans e3) hw3 rfl⟩⟩⟩
theorem ev_chain {rs : List Row} {lv : Str → Nat} {r : Row} {ta tb : TE} {E : XK} (h1 : EvD K CK ta σ H (rowsD rs)) (h2 : EvD K CK tb σ H (.str r.kind)) (un : Un rs) (L0 : Lv0 rs lv) (hr : r ∈ rs) (hk : r.kind.length ≤ 1000) (hl : lv r.kind ≤ 1000) :
    Ev (tCB (rLenS K) (tCons (tCall (spChain K CK) [] E (tCons ta (tCons tb tNil))) tNil)) σ H (.int (lv r.kind : Nat)) := fun H1 e1 Q q =>
  h1 H1 e1 _ fun v H2 e2 r1 => h2 H2 (e1.trans e2) _ fun v2 H3 e3 r2 => by
    obtain rfl := rep_str r2
    exact ⟨rs, lv, r, v, hid H H1 H3, rfl, hid_sub, r1.ex (hid_mono e3), un, L0, hr, hk, hl, fun L ws H' e hL hlen => ⟨L, ws, rfl, .inl (sq_of hL), by rw [hlen]; exact q H' ((e2.trans e3).trans e)⟩⟩
end
/-! ### rows that the law draws -/
structure Gr (rs : List Row) (lv : Str → Nat) : Prop where
  ok : ∀ r ∈ rs, r.Ok
  nd : (rs.map (·.kind)).Nodup
  ab : ∀ r ∈ rs, r.above = Str.empty ∨ ∃ s ∈ rs, s.kind = r.above ∧ (r.lasts = true → s.lasts = true)
  e : lv Str.empty = 0
  lr : ∀ r ∈ rs, lv r.kind = lv r.above + 1 ∧ lv r.kind ≤ 3
  lo : ∀ k, k ∉ rs.map (·.kind) → lv k = 0
  sm : ∀ r ∈ rs, sMarks r.marks = r.marks
  fm : ∀ r ∈ rs, r.marks.length ≤ 9
  few : rs.length ≤ 11
theorem Gr.nil : Gr [] fun _ => 0 := ⟨(fun _ h => by cases h), List.nodup_nil, (fun _ h => by cases h), rfl, (fun _ h => by cases h), fun _ _ => rfl, (fun _ h => by cases h), (fun _ h => by cases h), (by decide)⟩
theorem Gr.perm {rs rs' : List Row} {lv : Str → Nat} (g : Gr rs lv) (p : rs'.Perm rs) : Gr rs' lv where
  ok := fun r h => g.ok r (p.mem_iff.mp h)
  nd := (p.map _).nodup_iff.mpr g.nd
  ab := fun r h => (g.ab r (p.mem_iff.mp h)).imp (fun z => z) fun ⟨s, hs, h1, h2⟩ => ⟨s, p.mem_iff.mpr hs, h1, h2⟩
  e := g.e
  lr := fun r h => g.lr r (p.mem_iff.mp h)
  lo := fun k h => g.lo k fun z => h ((p.map _).mem_iff.mpr z)
  sm := fun r h => g.sm r (p.mem_iff.mp h)
  fm := fun r h => g.fm r (p.mem_iff.mp h)
  few := by rw [p.length_eq]; exact g.few
theorem Gr.add {rs : List Row} {lv : Str → Nat} (g : Gr rs lv) {r : Row} (hok : r.Ok) (hk : r.kind ∉ rs.map (·.kind)) (hab : r.above = Str.empty ∨ ∃ s ∈ rs, s.kind = r.above ∧ (r.lasts = true → s.lasts = true)) (hlv : lv r.above + 1 ≤ 3) (hsm : sMarks r.marks = r.marks) (hfm : r.marks.length ≤ 9) (hl : rs.length + 1 ≤ 11) :
    Gr (rs ++ [r]) fun k => if k = r.kind then lv r.above + 1 else lv k := by
  have kne : r.kind ≠ Str.empty := fun c => by
    have := hok.kind
    rw [c, empty_no] at this
    cases this
  have abne : ∀ s ∈ rs ++ [r], s.above ≠ r.kind := fun s hs c => by
    rcases List.mem_append.mp hs with hs | hs
    · rcases g.ab s hs with h | ⟨t, ht, h, _⟩
      · rw [h] at c; exact kne c.symm
      · exact hk (List.mem_map.mpr ⟨t, ht, by rw [h, c]⟩)
    · rw [List.mem_singleton.mp hs] at c
      rcases hab with h | ⟨t, ht, h, _⟩
      · rw [h] at c; exact kne c.symm
      · exact hk (List.mem_map.mpr ⟨t, ht, by rw [h, c]⟩)
  have two : ∀ {P : Row → Prop}, (∀ s ∈ rs, P s) → P r → ∀ s ∈ rs ++ [r], P s := fun {P} h1 h2 s hs => by
    rcases List.mem_append.mp hs with hs | hs
    · exact h1 s hs
    · rw [List.mem_singleton.mp hs]; exact h2
  refine ⟨two g.ok hok, ?_, two (fun s hs => (g.ab s hs).imp (fun z => z) fun ⟨t, ht, h1, h2⟩ => ⟨t, List.mem_append_left _ ht, h1, h2⟩) (hab.imp (fun z => z) fun ⟨t, ht, h1, h2⟩ => ⟨t, List.mem_append_left _ ht, h1, h2⟩), ?_, fun s hs => ?_, fun k h => ?_, two g.sm hsm, two g.fm hfm, by rw [List.length_append]; exact hl⟩
  · rw [List.map_append]
    exact List.nodup_append.mpr ⟨g.nd, List.pairwise_singleton _ _, fun a ha b hb c => hk (by
      have hb2 : b ∈ [r.kind] := hb
      rw [List.mem_singleton.mp hb2] at c
      rw [← c]
      exact ha)⟩
  · rw [if_neg (fun c => kne c.symm)]
    exact g.e
  · show (if s.kind = r.kind then lv r.above + 1 else lv s.kind) = (if s.above = r.kind then lv r.above + 1 else lv s.above) + 1 ∧ _
    rw [if_neg (abne s hs)]
    rcases List.mem_append.mp hs with hs | hs
    · have : s.kind ≠ r.kind := fun c => hk (List.mem_map.mpr ⟨s, hs, c⟩)
      rw [if_neg this]
      exact g.lr s hs
    · rw [List.mem_singleton.mp hs, if_pos rfl]
      exact ⟨rfl, hlv⟩
  · show (if k = r.kind then lv r.above + 1 else lv k) = 0
    rw [List.map_append] at h
    have h1 : k ≠ r.kind := fun c => h (List.mem_append_right _ (by rw [c]; exact List.mem_cons_self))
    rw [if_neg h1]
    exact g.lo k fun z => h (List.mem_append_left _ z)
theorem name_okS {x : Str} (h : isNameS x = true) : okS x := by
  unfold isNameS at h
  rw [Bool.and_eq_true, Bool.and_eq_true, Bool.and_eq_true] at h
  refine ⟨?_, fun c hc => ?_⟩
  · have := of_decide_eq_true h.1.2
    omega
  · have h2 := of_decide_eq_true (List.all_eq_true.mp h.2.2 c hc)
    have h3 : signsS.cps.toList.all (fun c => decide (c < 16 ^ 8)) = true := by decide +kernel
    exact of_decide_eq_true (List.all_eq_true.mp h3 c h2)
theorem Gr.un {rs : List Row} {lv : Str → Nat} (g : Gr rs lv) : Un rs := ⟨g.nd, by have := g.few; omega⟩
theorem Gr.lv0 {rs : List Row} {lv : Str → Nat} (g : Gr rs lv) : Lv0 rs lv := ⟨g.e, fun r h => (g.lr r h).1, fun r h => (g.ab r h).imp (fun z => z) fun ⟨s, hs, h1, _⟩ => ⟨s, hs, h1⟩⟩
theorem Gr.lvl {rs : List Row} {lv : Str → Nat} (g : Gr rs lv) : Lvl rs lv := ⟨g.e, g.lr⟩
theorem Gr.kok {rs : List Row} {lv : Str → Nat} (g : Gr rs lv) : KOk rs := ⟨g.nd, fun r h => (g.ok r h).kind, by have := g.few; omega, fun r h => (g.ab r h).imp (fun z => z) fun ⟨s, hs, h1, _⟩ => List.mem_map.mpr ⟨s, hs, h1⟩⟩
theorem Gr.rn {rs : List Row} {lv : Str → Nat} (g : Gr rs lv) : RN rs := ⟨fun r h => name_okS (g.ok r h).kind, fun r h x hx => name_okS ((g.ok r h).names x hx), by have := g.few; omega, fun r h => by have := g.fm r h; omega⟩
theorem Gr.ms {rs : List Row} {lv : Str → Nat} (g : Gr rs lv) : ∀ r ∈ rs, r.marks ≠ [] := fun r h => (g.ok r h).some
theorem Gr.rowsOk {rs : List Row} {lv : Str → Nat} (g : Gr rs lv) : RowsOk rs where
  ok := g.ok
  lv := ⟨lv, by
    have hm : (abOf rs).map (·.1) = rs.map (·.kind) := by unfold abOf; rw [List.map_map]; rfl
    refine ⟨by rw [hm]; exact g.nd, by unfold abOf; rw [List.length_map]; have := g.few; omega, fun k => ?_, fun k h => g.lo k (by rw [← hm]; exact h), fun k a h => ?_⟩
    · by_cases c : k ∈ rs.map (·.kind)
      · obtain ⟨r, hr, rfl⟩ := List.mem_map.mp c
        have := (g.lr r hr).2
        omega
      · rw [g.lo k c]; omega
    · obtain ⟨r, hr, h2⟩ := List.mem_map.mp h
      cases h2
      have := (g.lr r hr).1
      omega⟩
  above := fun r h hne => by
    obtain ⟨s, hs, h1, h2⟩ := (g.ab r h).resolve_left hne
    exact ⟨s, hs, h1, h2⟩
theorem strs_of_perm {es : List D} {xs : List Str} (p : es.Perm (xs.map D.str)) : ∃ ys : List Str, es = ys.map D.str ∧ ys.Perm xs := by
  refine ⟨es.map (·.strOf), ?_, ?_⟩
  · rw [List.map_map]
    refine (List.map_id _).symm.trans (List.map_congr_left fun x hx => ?_)
    obtain ⟨y, _, rfl⟩ := List.mem_map.mp (p.mem_iff.mp hx)
    rfl
  · have := p.map (·.strOf)
    rw [List.map_map] at this
    have e : xs.map ((·.strOf) ∘ D.str) = xs := (List.map_congr_left fun x _ => rfl).trans (List.map_id _)
    rw [e] at this
    exact this
theorem sMarks_idem (ms : List Str) : sMarks (sMarks ms) = sMarks ms := by
  have h : ((sMarks (sMarks ms)).map D.str) = (sMarks ms).map D.str := by
    rw [sMarks_D, sMarks_D, sortD_id (sortD_sorted _)]
  have inj : ∀ {xs ys : List Str}, xs.map D.str = ys.map D.str → xs = ys := fun {xs} => by
    induction xs with
    | nil =>
      intro ys h
      cases ys with
      | nil => rfl
      | cons y ys => cases h
    | cons x xs ih =>
      intro ys h
      cases ys with
      | nil => cases h
      | cons y ys =>
        rw [List.map_cons, List.map_cons] at h
        injection h with h1 h2
        injection h1 with h3
        rw [h3, ih h2]
  exact inj h
end Any
set_option Elab.async false
set_option linter.all false
set_option maxRecDepth 100000
set_option maxHeartbeats 4000000
namespace Any
open PySem PySem.Spec PyProof.Rows L2 Evl StX
def NM : List Str := ["shop", "order", "line", "a", "zz", "room", "k9", "note", "lasts", "eightsgn", "who"]
def MK : List Str := ["new", "paid", "sent", "open", "shut", "shop", "m1", "longmark", "a"]
theorem nm_ok : ∀ x ∈ NM, isNameS x = true := fun x hx => List.all_eq_true.mp (show NM.all isNameS = true by decide +kernel) x hx
theorem mk_ok : ∀ x ∈ MK, isNameS x = true := fun x hx => List.all_eq_true.mp (show MK.all isNameS = true by decide +kernel) x hx
theorem nm_nd : NM.Nodup := by decide +kernel
theorem mk_nd : MK.Nodup := by decide +kernel
theorem strs_inj : ∀ {xs ys : List Str}, xs.map D.str = ys.map D.str → xs = ys
  | [], [], _ => rfl
  | [], _ :: _, h => by cases h
  | _ :: _, [], h => by cases h
  | x :: xs, y :: ys, h => by
    rw [List.map_cons, List.map_cons] at h
    injection h with h1 h2
    injection h1 with h3
    rw [h3, strs_inj h2]
theorem rowD_inj {r s : Row} (h : rowD r = rowD s) : r = s := by
  unfold rowD at h
  injection h with h1
  injection h1 with a1 a2
  injection a2 with b1 b2
  injection b2 with c1 c2
  injection c2 with d1 d2
  injection a1 with e1
  injection b1 with e2
  injection c1 with e3
  injection d1 with e4
  cases r
  cases s
  dsimp only at e1 e2 e3 e4
  rw [e1, e2, strs_inj e3, e4]
theorem rows_inj : ∀ {rs ss : List Row}, rs.map rowD = ss.map rowD → rs = ss
  | [], [], _ => rfl
  | [], _ :: _, h => by cases h
  | _ :: _, [], h => by cases h
  | r :: rs, s :: ss, h => by
    rw [List.map_cons, List.map_cons] at h
    injection h with h1 h2
    rw [rowD_inj h1, rows_inj h2]
theorem sortRows_idem (rs : List Row) : sortRows (sortRows rs) = sortRows rs := rows_inj (by rw [sortRows_D, sortRows_D, sortD_id (sortD_sorted _)])
theorem hid_cutUp {H0 H H2 H3 : Hp} {L : Addr} (u : Ex (hid H0 H H2) (hid H0 H H3)) : Ex (hid H0 H (cut L H2)) (hid H0 H (cut L H3)) := fun a o z => by
  have aL : a ≠ L := fun c => by
    have := hid_sub _ _ z
    rw [c, cut_none] at this
    cases this
  have z3 := u _ _ (hid_mono cut_sub _ _ z)
  unfold hid at z3 ⊢
  split at z3
  · cases z3
  · next h => rw [if_neg h]; exact cut_at aL z3
theorem Fr.stayB {H0 H H2 H3 B : Hp} {W L : Addr} {m m' : Nat} (F : Fr W H0 H m H2) (F' : Fr W H0 H m' H3) (u : Ex (hid H0 H (cut L H2)) (hid H0 H (cut L H3))) (bH : Ex B H2) (bW : B W = none) (bL : B L = none) : Ex B H3 := fun a o z => by
  have z2 := bH _ _ z
  have aW : a ≠ W := fun c => by rw [c, bW] at z; cases z
  have aL : a ≠ L := fun c => by rw [c, bL] at z; cases z
  by_cases h : (H0 a).isNone = true ∧ (H a).isSome = true
  · obtain ⟨o', ho⟩ := Option.isSome_iff_exists.mp h.2
    have := F.eW _ _ (cut_at aW ho)
    rw [z2] at this
    cases this
    exact F'.eW _ _ (cut_at aW ho)
  · have : hid H0 H (cut L H2) a = some o := by
      unfold hid
      rw [if_neg h]
      exact cut_at aL z2
    exact cut_sub _ _ (hid_sub _ _ (u _ _ this))
theorem ew_few {K : PySem.W.Frag} {CK W : Addr} {σ : L2.St} {B : Hp} {m i : Nat} {ta tb : TE} {mks : List Str} {E : XK} (hi : σ[i]? = some (some (V.ref W))) (h1 : EvD K CK ta σ B (.lst (mks.map D.str))) (hb : Ev tb σ B (.int 3)) :
    EvW K CK W (m + 1) m (tCB (rTupOf K) (tCons (tCB (rSortedDt K CK) (tCons (tSl (rSlL K) ta tNoPart (tPart (tOp (rI0 fun i j => .int (i + j)) (tC (.int 1)) (tCall spDraw [] E (tCons (tVar i) (tCons tb tNil)))))) tNil)) tNil)) σ B (fun e => ∃ c : Nat, e = .tup ((sMarks (mks.take (c + 1))).map D.str)) :=
  EvW.imp (ew_tupOf (R := fun ds => ∃ c : Nat, ds = (sMarks (mks.take (c + 1))).map D.str) (EvW.imp (ew_sorted (R := fun ds => ∃ c : Nat, ds = (mks.take (c + 1)).map D.str) (EvW.imp (ew_slTakeL hi h1 hb (by decide) (by decide)) fun e he => by
    obtain ⟨c, rfl, _⟩ := he
    exact ⟨_, rfl, c, by rw [List.map_take]⟩) (fun ds hds => by
    obtain ⟨c, rfl⟩ := hds
    exact sortOk_strs _)) fun e he => by
    obtain ⟨ds, rfl, c, rfl⟩ := he
    exact ⟨_, rfl, c, by rw [sMarks_D]⟩)) fun e he => by
    obtain ⟨ds, rfl, c, rfl⟩ := he
    exact ⟨c, rfl⟩
section
variable {P : Program} {w : World} {K : PySem.W.Frag} {mg : Str → Option Value} {base : Heap} {CK : Addr}
theorem scLPRows : FnScope ["well", "many", "levels", "marks", "names", "found", "kind", "some", "above", "words", "few", "row"] ["well", "many", "levels", "marks"] (defScope sLPRows) := ⟨rfl, rfl, rfl, by decide +kernel, rfl, by decide +kernel, by decide +kernel⟩
abbrev spRows (K : PySem.W.Frag) (CK : Addr) : Sp := spW K CK 3 6100 (fun ds d => ∃ rs lv, d = rowsD rs ∧ Gr rs lv ∧ rs ≠ [] ∧ sortRows rs = rs) (fun ds => ∃ many levels : Nat, ds = [.int many, .int levels, .int 3] ∧ 1 ≤ many ∧ many ≤ 5 ∧ levels ≤ 3)
abbrev tChainLt (K : PySem.W.Frag) (CK : Addr) : TE := tOp (rI0 fun i j => .bl (decide (i < j))) (tCB (rLenS K) (tCons (tCall (spChain K CK) [] E0 (tCons (tVar 5) (tCons (tOp (rIxLT K) (tVar 11) (tC (.int 0))) tNil))) tNil)) (tVar 2)
theorem ok_rows (d : Def K mg "_law_p_rows" sLPRows ["well", "many", "levels", "marks"]) (dC : Def K mg "_law_p_chain" sLPChain ["rows", "kind"]) (dR : Def K mg "_law_p_row" sLPRow ["rows", "kind"]) (dM : Def K mg "_law_mixed" sLMixed ["well", "some"]) (dP : Def K mg "_law_pick" sLPick ["well", "some"])
    (dD : Def K mg "_law_draw" sLDraw ["well", "many"]) (T : KCls K CK) (N : Nm mg) : FnOk P w K mg base CX0 3 d.f d.fd ["well", "many", "levels", "marks"] (spRows K CK) := by
  have GC : FnOk P w K mg base CX0 2 dC.f dC.fd ["rows", "kind"] (spChain K CK) := ok_chain dC dR T N
  have GM : FnOk P w K mg base CX0 2 dM.f dM.fd ["well", "some"] (spMixed K CK) := ok_mixed dM dD N
  have GP : FnOk P w K mg base CX0 2 dP.f dP.fd ["well", "some"] (spPick K CK) := ok_pick dP dD N
  have GD : FnOk P w K mg base CX0 2 dD.f dD.fd ["well", "many"] spDraw := (ok_draw dD N).mono (by omega)
  refine d.F.ok scLPRows (fun vs H Q E h => spW_len h) (fun cdv A outer s H vs Q E hr h => ?_)
  obtain ⟨W, m, ws, ds, H0, rfl, _, e0, hw0, hw, hr0, ⟨many, levels, rfl, hm1, hm5, hlev⟩, q⟩ := h
  obtain ⟨vm, vl, vk, rfl, rm, rl, rk⟩ := RepL.three hr0
  obtain rfl := rep_int rm
  obtain rfl := rep_int rl
  obtain rfl := rep_int rk
  have hu := hr.units
  refine ⟨_, pss_cons (ps_set (i := 4) scLPRows.nd rfl (.inl rfl) (pe_call GM hr (by rfl) dM.m dM.F.kp dM.b .nil pass0 (pa_cons (pv 0) (pa_cons (pe_lst (pa_cons pe_str (pa_cons pe_str (pa_cons pe_str (pa_cons pe_str (pa_cons pe_str (pa_cons pe_str (pa_cons pe_str (pa_cons pe_str (pa_cons pe_str (pa_cons pe_str (pa_cons pe_str pa_nil)))))))))))) pa_nil))))
    (pss_cons (ps_set (i := 5) scLPRows.nd rfl (.inr rfl) (pe_lst pa_nil))
    (pss_cons (ps_for PassesOwn.never rfl (pi_list (pe_slice sl_list (pv 4) po_none (po_some (pv 1)))) (pg_name (i := 6) scLPRows.nd rfl (.inl rfl))
      (pss_cons (ps_setLc (i := 7) (own := [("row", 11)]) (g := gName 11) (tt := tTest (tChainLt K CK)) (te := tVar 11) rfl scLPRows.nd rfl rfl (sw_true rfl rfl rfl (by decide +kernel)) (pi_list (pv 5))
          (blkOk_by (N := ["well", "many", "levels", "marks", "names", "found", "kind", "some", "above", "words", "few", "row"]) (sc := defScope sLPRows) (by decide +kernel)) (fun _ _ _ _ _ => pg_name (i := 11) scLPRows.nd rfl (Or.inl rfl))
          (fun _ _ _ _ _ => pts_one (pt_cmpR op_lt (pe_callB call_len_seq (by rfl) N.len boot_len (pa_cons (pe_call GC hr (by rfl) dC.m dC.F.kp dC.b .nil pass0 (pa_cons (pv 5) (pa_cons (pe_ix (r := rIxLT K) ix_lt (pv 11) pe_int (fun _ _ => rfl)) pa_nil))) pa_nil)) (pv 2) (nomark _)))
          (fun _ _ _ _ _ => pv 11))
      (pss_cons (ps_set (i := 8) scLPRows.nd rfl (.inl rfl) (pe_call GP hr (by rfl) dP.m dP.F.kp dP.b .nil pass0 (pa_cons (pv 0) (pa_cons (pe_op op_cat (pe_op op_cat (pe_lst (pa_cons (pe_tup (pa_cons pe_str (pa_cons pe_str (pa_cons (pe_tup pa_nil) (pa_cons pe_bl pa_nil))))) pa_nil)) (pv 7)) (pv 7)) pa_nil))))
      (pss_cons (ps_set (i := 9) scLPRows.nd rfl (.inl rfl) (pe_call GM hr (by rfl) dM.m dM.F.kp dM.b .nil pass0 (pa_cons (pv 0) (pa_cons (pe_lst (pa_cons pe_str (pa_cons pe_str (pa_cons pe_str (pa_cons pe_str (pa_cons pe_str (pa_cons pe_str (pa_cons pe_str (pa_cons pe_str (pa_cons pe_str pa_nil)))))))))) pa_nil))))
      (pss_cons (ps_set (i := 10) scLPRows.nd rfl (.inl rfl) (pe_callTy call_tuple_of (by rfl) N.tuple boot_tuple (pa_cons (pe_callB (cr_sortedDt (CK := CK) hu) (by rfl) N.sorted boot_sorted (pa_cons (pe_slice sl_list (pv 9) po_none (po_some (pe_op op_add pe_int (pe_call GD hr (by rfl) dD.m dD.F.kp dD.b .nil pass0 (pa_cons (pv 0) (pa_cons (pv 3) pa_nil)))))) pa_nil)) pa_nil)))
      (pss_one (ps_expr (pe_bm PySem.F.plainAttrs_list PySem.F.slot_list_append PySem.F.type_list_append mt_append (pv 5) (pa_cons (pe_tup (pa_cons (pv 6) (pa_cons (pe_ix (r := rIxLT K) ix_lt (pv 8) pe_int (fun _ _ => rfl)) (pa_cons (pv 10)
        (pa_cons (pe_and (pe_ix (r := rIxLT K) ix_lt (pv 8) pe_int (fun _ _ => rfl)) (pe_one (pe_cmpR op_eq (pe_call GD hr (by rfl) dD.m dD.F.kp dD.b .nil pass0 (pa_cons (pv 0) (pa_cons pe_int pa_nil))) pe_int (nomark _)))) pa_nil))))) pa_nil)))))))))
    (pss_one (ps_ret (pe_callB (cr_sortedDt (CK := CK) hu) (by rfl) N.sorted boot_sorted (pa_cons (pv 5) pa_nil)))))), ?_⟩
  have hw' : WellAt W (m + 1010 * many + 1000) H := WellAt.less (show WellAt W (m + 6100) H from hw) (by omega)
  have F0 : Fr W H0 H (m + 1010 * many + 1000) H := .start e0 hw0 hw'
  -- names
  refine q_setF (K := K) (CK := CK) F0 (ew_call (K := K) (CK := CK) (m := m + 1010 * many) (k := 1000) (n := 1) (i := 0) (E := E0) (R := fun ds d => ∃ es, d = .lst es ∧ es.Perm (ds.getD 0 .non).items) (pre := fun ds => ∃ s, ds = [s] ∧ s.isL = true ∧ s.items.length ≤ 1000) (ds := [.lst (NM.map D.str)]) rfl
    (ead_cons (ed_lst (ead_cons (ed_str (by decide)) (ead_cons (ed_str (by decide)) (ead_cons (ed_str (by decide)) (ead_cons (ed_str (by decide)) (ead_cons (ed_str (by decide)) (ead_cons (ed_str (by decide)) (ead_cons (ed_str (by decide)) (ead_cons (ed_str (by decide)) (ead_cons (ed_str (by decide)) (ead_cons (ed_str (by decide)) (ead_cons (ed_str (by decide)) ead_nil))))))))))) (by show (11 : Nat) ≤ 30000; decide)) ead_nil) rfl
    ⟨_, rfl, rfl, by show (11 : Nat) ≤ 1000; decide⟩) fun dN vN H1 hN F1 up1 rN => ?_
  obtain ⟨es, rfl, hperm⟩ := hN
  obtain ⟨ns, rfl, hns⟩ := strs_of_perm (xs := NM) hperm
  have hnslen : ns.length = 11 := hns.length_eq
  have hnsnd : ns.Nodup := hns.nodup_iff.mpr nm_nd
  -- found = []
  refine q_lstF (K := K) (CK := CK) (m' := m + 1010 * many) F1 (R := fun l => l.length = 0 ∧ ∀ d ∈ l, True) eal_nil (fun ds h => by rw [h.1]; decide) fun ds0 L ws0 H2 hds0 hLn F2 up2 hL2 rds0 => ?_
  have hd0 : ds0 = [] := List.eq_nil_of_length_eq_zero hds0.1
  subst hd0
  obtain rfl : ws0 = [] := rds0
  have rN2 := rN.ex up2
  have wl_ : W ≠ L := fun c => by have := hw.some; rw [c, hLn] at this; cases this
  -- the loop
  have eB : Ex (hid H0 H (cut L H2)) H2 := fun a o z => cut_sub _ _ (hid_sub _ _ z)
  have hbW : hid H0 H (cut L H2) W = none := hid_no hw0 hw.some
  have hbL : hid H0 H (cut L H2) L = none := by
    unfold hid
    split
    · rfl
    · exact cut_none
  refine q_forI (K := K) (CK := CK) (H0 := hid H0 H (cut L H2)) (ds := (ns.map D.str).take many) (ei_list (ed_slTakeL (ed_var (i := 4) rfl rN2) (ev_var (i := 1) rfl))) eB (fun B i σ' H' => (∃ a b c d5 e, σ' = [some (.ref W), some (.int (many : Nat)), some (.int (levels : Nat)), some (.int 3), some vN, some (.ref L), a, b, c, d5, e, none]) ∧
    (∀ p, hid H0 H (cut L H2) p = none → (H2 p).isSome = true → B p = none) ∧ Ex B H' ∧ Fr W H0 H (m + 1010 * (many - i)) H' ∧ ∃ (rs : List Row) (lv : Str → Nat) (wr : List V), H' L = some (.lst wr) ∧ RepL K CK (hid H0 H (cut L H')) (rs.map rowD) wr ∧ Gr rs lv ∧ rs.map (·.kind) = ns.take i ∧ i ≤ many) ?_ ?_ ?_ ?_
  · intro H3 e3
    have F3 : Fr W H0 H (m + 1010 * (many - 0)) H3 := F2.next (.of e3) (F2.hw.ex e3)
    exact ⟨⟨_, _, _, _, _, rfl⟩, fun p h1 h2 => hid_no h1 h2, hid_sub, F3, [], fun _ => 0, [], e3 _ _ hL2, rfl, Gr.nil, rfl, Nat.zero_le _⟩
  · rintro B i σ' H' ⟨_, _, h3, _⟩
    exact h3
  · rintro B B' i dk xv σ' Ha Hb _ hx ⟨⟨a, b, c, d5, e, rfl⟩, bn, bH, Fa, rs, lv, wr, hLa, rrs, g, hkinds, hi⟩ eab bb' b'b bfr rx
    have him : i < many := by
      have := (List.getElem?_eq_some_iff.mp hx).1
      rw [List.length_take] at this
      omega
    rw [List.getElem?_take_of_lt him, List.getElem?_map] at hx
    cases hk : ns[i]? with
    | none => rw [hk] at hx; cases hx
    | some kd =>
    rw [hk] at hx
    cases hx
    have hkm : kd ∈ NM := hns.mem_iff.mp (List.mem_of_getElem? hk)
    obtain ⟨rfl, hklen⟩ := rx
    have hmm : m + 1010 * (many - i) = (m + 1010 * (many - (i + 1))) + 7 + 1003 := by omega
    have Fb : Fr W H0 H ((m + 1010 * (many - (i + 1))) + 7 + 1003) Hb := by
      rw [← hmm]
      exact Fa.next (.of eab) (Fa.hw.ex eab)
    generalize hmg : m + 1010 * (many - (i + 1)) = mm at Fb
    have hLb : Hb L = some (.lst wr) := eab _ _ hLa
    have rrb : RepL K CK (hid H0 H (cut L Hb)) (rs.map rowD) wr := RepL.ex (hcW_mono (W := W) hw0 hw.some fun a o _ _ z => eab _ _ z) rrs
    have hrl : rs.length = i := by
      have := congrArg List.length hkinds
      rw [List.length_map, List.length_take] at this
      omega
    have rL : Rep K CK (hid H0 H Hb) (rowsD rs) (.ref L) := ⟨L, wr, rfl, hid_at hLn hLb, by rw [List.length_map]; omega, RepL.ex (hid_mono cut_sub) rrb⟩
    have hnew : kd ∉ rs.map (·.kind) := fun h => by
      rw [hkinds] at h
      obtain ⟨j, hj⟩ := List.mem_iff_getElem?.mp h
      have hjl := (List.getElem?_eq_some_iff.mp hj).1
      rw [List.length_take] at hjl
      rw [List.getElem?_take_of_lt (by omega)] at hj
      obtain ⟨h1, h2⟩ := List.getElem?_eq_some_iff.mp hj
      obtain ⟨h3, h4⟩ := List.getElem?_eq_some_iff.mp hk
      have := (List.getElem_inj hnsnd).mp (h2.trans h4.symm)
      omega
    -- some
    show tSeq _ _ _ [some (.ref W), some (.int (many : Nat)), some (.int (levels : Nat)), some (.int 3), some vN, some (.ref L), some (.str kd), b, c, d5, e, none] Hb
    refine q_setF (K := K) (CK := CK) Fb (EvD.w (ed_lc (f := fun d => decide (lv (kindOfD d) < levels)) (m := fun d => d) (ei_list (ds := rs.map rowD) (ed_var (i := 5) rfl rL)) (by rw [List.length_map]; omega) ?_)) fun dS vS H3 hdS F3 up3 rS => ?_
    · intro i2 d2 x2 Hz ez hd2 rx2
      obtain ⟨ro, hro, rfl⟩ := List.mem_map.mp (List.mem_of_getElem? hd2)
      have hkl := name_len (g.ok ro hro).kind
      have hl3 := (g.lr ro hro).2
      refine ⟨_, eg_name, rfl, et_test (ev_is (ev_op (ev_chain (r := ro) (ed_var (i := 5) rfl (rL.ex ez)) (ed_ix (d := rowD ro) (j := 0) (ed_var (i := 11) rfl rx2) ev_c rfl rfl) g.un g.lv0 hro hkl (by omega)) (ev_var (i := 2) rfl) fun H1 _ _ q => ⟨_, _, rfl, rfl, q H1 (Ex.refl H1)⟩) (congrArg V.bl (decide_eq_decide.mpr (by show ((lv ro.kind : Nat) : Int) < ((levels : Nat) : Int) ↔ lv ro.kind < levels; omega)))), fun _ => ed_var (i := 11) rfl rx2⟩
    subst hdS
    have hsome : ∀ d ∈ ((rs.map rowD).filter fun d => decide (lv (kindOfD d) < levels)).map fun d => d, ∃ r ∈ rs, d = rowD r ∧ lv r.kind < levels := fun d hd => by
      rw [List.map_id'] at hd
      obtain ⟨h1, h2⟩ := List.mem_filter.mp hd
      obtain ⟨r, hr, rfl⟩ := List.mem_map.mp h1
      exact ⟨r, hr, rfl, of_decide_eq_true h2⟩
    have hslen : (((rs.map rowD).filter fun d => decide (lv (kindOfD d) < levels)).map fun d => d).length ≤ 11 := by
      rw [List.length_map]
      refine Nat.le_trans (List.length_filter_le _ _) ?_
      rw [List.length_map]
      exact g.few
    generalize (((rs.map rowD).filter fun d => decide (lv (kindOfD d) < levels)).map fun d => d) = sm at rS hsome hslen
    -- above
    refine q_setF (K := K) (CK := CK) F3 (ew_pick (m := mm + 7 + 1002) (i := 0) (E := E0) (s := .lst ([.tup [.str Str.empty, .str Str.empty, .tup [], .bl true]] ++ sm ++ sm)) rfl (ed_catL (ed_catL (ed_lst (ead_cons (ed_tup (ead_cons (ed_str (by decide)) (ead_cons (ed_str (by decide)) (ead_cons (ed_tup ead_nil (by show (0 : Nat) ≤ 30000; decide)) (ead_cons ed_b ead_nil)))) (by show (4 : Nat) ≤ 30000; decide)) ead_nil) (by show (1 : Nat) ≤ 30000; decide)) (ed_var (i := 7) rfl rS) (by show 1 + _ ≤ 30000; omega)) (ed_var (i := 7) rfl rS) (by rw [List.length_append]; show 1 + _ + _ ≤ 30000; omega)) rfl (fun c => by cases c)) fun dA vA H4 hA F4 up4 rA => ?_
    obtain ⟨aK, aX, aM, aL, rfl, htt, hcase⟩ : ∃ aK aX aM aL, dA = .tup [.str aK, aX, aM, .bl aL] ∧ dA.tt = true ∧ ((aK = Str.empty ∧ aL = true) ∨ ∃ s ∈ rs, aK = s.kind ∧ aL = s.lasts ∧ lv s.kind < levels) := by
      have hA2 : dA ∈ [.tup [.str Str.empty, .str Str.empty, .tup [], .bl true]] ++ sm ++ sm := hA
      have inSm : dA ∈ sm → ∃ aK aX aM aL, dA = .tup [.str aK, aX, aM, .bl aL] ∧ dA.tt = true ∧ ((aK = Str.empty ∧ aL = true) ∨ ∃ s ∈ rs, aK = s.kind ∧ aL = s.lasts ∧ lv s.kind < levels) := fun h => by
        obtain ⟨r, hr, rfl, hl⟩ := hsome _ h
        exact ⟨r.kind, _, _, r.lasts, rfl, tt_row r, .inr ⟨r, hr, rfl, rfl, hl⟩⟩
      rcases List.mem_append.mp hA2 with h | h
      · rcases List.mem_append.mp h with h | h
        · rw [List.mem_singleton.mp h]
          exact ⟨_, _, _, _, rfl, rfl, .inl ⟨rfl, rfl⟩⟩
        · exact inSm h
      · exact inSm h
    -- words
    refine q_setF (K := K) (CK := CK) F4 (ew_call (K := K) (CK := CK) (m := mm + 9) (k := 1000) (n := 1) (i := 0) (E := E0) (R := fun ds d => ∃ es, d = .lst es ∧ es.Perm (ds.getD 0 .non).items) (pre := fun ds => ∃ s, ds = [s] ∧ s.isL = true ∧ s.items.length ≤ 1000) (ds := [.lst (MK.map D.str)]) rfl
      (ead_cons (ed_lst (ead_cons (ed_str (by decide)) (ead_cons (ed_str (by decide)) (ead_cons (ed_str (by decide)) (ead_cons (ed_str (by decide)) (ead_cons (ed_str (by decide)) (ead_cons (ed_str (by decide)) (ead_cons (ed_str (by decide)) (ead_cons (ed_str (by decide)) (ead_cons (ed_str (by decide)) ead_nil))))))))) (by show (9 : Nat) ≤ 30000; decide)) ead_nil) rfl
      ⟨_, rfl, rfl, by show (9 : Nat) ≤ 1000; decide⟩) fun dW vW H5 hW F5 up5 rW => ?_
    obtain ⟨es2, rfl, hperm2⟩ := hW
    obtain ⟨mks, rfl, hmks⟩ := strs_of_perm (xs := MK) hperm2
    -- few
    refine q_setF (K := K) (CK := CK) F5 (ew_few (i := 0) rfl (ed_var (i := 9) rfl rW) (ev_var (i := 3) rfl)) fun dF vF H6 hF F6 up6 rF => ?_
    obtain ⟨c9, rfl⟩ := hF
    -- found.append
    have hL6 : H6 L = some (.lst wr) := hid_sub _ _ (up6 _ _ (up5 _ _ (up4 _ _ (up3 _ _ (hid_at hLn hLb)))))
    have cu : Ex (hid H0 H (cut L Hb)) (hid H0 H (cut L H6)) := hid_cutUp (((up3.trans up4).trans up5).trans up6)
    have r6 : RepL K CK (hid H0 H (cut L H6)) (rs.map rowD) wr := RepL.ex cu rrb
    have tc := F6.tupC ⟨wr, hL6⟩
    have ra6 := Rep.exT tc htt ((rA.ex up5).ex up6)
    have rf6 := Rep.exT tc (d := .tup ((sMarks (mks.take (c9 + 1))).map D.str)) (tt_strs _) rF
    have hwl : wr.length = rs.length := by rw [r6.len, List.length_map]
    refine q_pushF (K := K) (CK := CK) (i := 5) F6 rfl hLn hL6 (by have := g.few; omega) (ew_tup (eaw_cons (EvD.w (ed_var (i := 6) (d := .str kd) rfl ⟨rfl, hklen⟩)) (eaw_cons (EvD.w (ed_ix (j := 0) (ed_var (i := 8) rfl ra6) ev_c rfl rfl)) (eaw_cons (EvD.w (ed_var (i := 10) rfl rf6)) (eaw_cons (ew_andDraw (m := mm + 7) (a := aL) (i := 0) rfl (EvD.b (ed_ix (j := 3) (ed_var (i := 8) rfl ra6) ev_c rfl rfl)) (by decide) (by decide)) eaw_nil)))) (fun ds hd => by
        obtain ⟨_, _, rfl, _, _, _, rfl, _, _, _, rfl, _, _, _, rfl, _, rfl⟩ := hd
        show (4 : Nat) ≤ 30000
        decide)) fun dX vX H7 hX F7 up7 hL7 rX => ?_
    obtain ⟨dsX, rfl, d1, l1, rfl, rfl, d2, l2, rfl, rfl, d3, l3, rfl, rfl, d4, l4, rfl, ⟨bb, rfl⟩, rfl⟩ := hX
    have hms : (mks.take (c9 + 1)).Sublist mks := List.take_sublist _ _
    have hmem : ∀ x ∈ sMarks (mks.take (c9 + 1)), x ∈ MK := fun x hx => hmks.mem_iff.mp (hms.subset ((List.mergeSort_perm _ _).mem_iff.mp hx))
    have hlen : (sMarks (mks.take (c9 + 1))).length ≤ 9 := by
      unfold sMarks
      rw [List.length_mergeSort, List.length_take]
      have : mks.length = 9 := hmks.length_eq
      omega
    have hne : sMarks (mks.take (c9 + 1)) ≠ [] := fun z => by
      have := congrArg List.length z
      unfold sMarks at this
      rw [List.length_mergeSort, List.length_take, show mks.length = 9 from hmks.length_eq] at this
      simp at this
    have hrok : Row.Ok ⟨kd, aK, sMarks (mks.take (c9 + 1)), aL && bb⟩ := ⟨nm_ok kd hkm, hcase.imp (fun z => z.1) (fun ⟨s, hs, h1, _⟩ => h1 ▸ (g.ok s hs).kind), hne, fun x hx => mk_ok x (hmem x hx),
      ((List.mergeSort_perm _ _).nodup_iff).mpr (hms.nodup (hmks.nodup_iff.mpr mk_nd)), by show (sMarks (mks.take (c9 + 1))).length ≤ 100; omega⟩
    have hlva : lv aK + 1 ≤ 3 := by
      rcases hcase with ⟨h, _⟩ | ⟨s, hs, h, _, hl⟩
      · rw [h, g.e]; decide
      · rw [h]; omega
    have g' := g.add (r := ⟨kd, aK, sMarks (mks.take (c9 + 1)), aL && bb⟩) hrok hnew (hcase.imp (fun z => z.1) fun ⟨s, hs, h1, h2, _⟩ => ⟨s, hs, h1.symm, fun z => by rw [← h2]; exact (Bool.and_eq_true_iff.mp z).1⟩) hlva (sMarks_idem _) hlen (by omega)
    refine ⟨⟨_, _, _, _, _, rfl⟩, bn, ?_, (F7.hw.less (by omega) |> fun z => ⟨F7.e0, F7.hw0, F7.hws, F7.eW, z⟩), rs ++ [_], _, _, hL7, ?_, g', ?_, him⟩
    · exact Fr.stayB Fb F7 (cu.trans up7) (bb'.trans b'b) (bn W hbW F2.hw.some) (bn L hbL (by rw [hL2]; rfl))
    · rw [List.map_append]
      exact RepL.app (RepL.ex up7 r6) ⟨vX, [], rfl, rX, rfl⟩
    · rw [List.map_append, hkinds]
      show ns.take i ++ [kd] = ns.take (i + 1)
      rw [List.take_succ, hk]
      rfl
  · rintro B σ' H' _ ⟨⟨a, b, c, d5, e, rfl⟩, bn, bH, Fa, rs, lv, wr, hLa, rrs, g, hkinds, hi⟩
    have hrl : rs.length = many := by
      have := congrArg List.length hkinds
      rw [List.length_map, List.length_take, List.length_take, List.length_map] at this
      omega
    have rL : Rep K CK (hid H0 H H') (rowsD rs) (.ref L) := ⟨L, wr, rfl, hid_at hLn hLa, by rw [List.length_map]; omega, RepL.ex (hid_mono cut_sub) rrs⟩
    refine s_retF (K := K) (CK := CK) (m' := m) Fa (EvD.wl (ed_sorted (ed_var (i := 5) rfl rL) (sortOk_rows rs)) (by omega)) fun d v H8 hd eW8 hw8 r8 => ?_
    subst hd
    refine q _ v H8 ⟨sortRows rs, lv, by unfold rowsD; rw [sortRows_D], g.perm (sortRows_perm rs), fun z => ?_, sortRows_idem rs⟩ eW8 hw8 r8
    have := congrArg List.length z
    rw [(sortRows_perm rs).length_eq, hrl] at this
    have h0 : many = 0 := this
    omega
end
end Any
set_option Elab.async false
set_option linter.all false
set_option maxRecDepth 100000
set_option maxHeartbeats 4000000
namespace Any
open PySem PySem.Spec PyProof.Rows L2 Evl StX
abbrev sLPKinds : Stmt := topS 48
/-! ### rows whose marks come in other orders -/
def rowL (r : Row) : D := .tup [.str r.kind, .str r.above, .lst (r.marks.map D.str), .bl r.lasts]
structure Sm (r s : Row) : Prop where
  k : s.kind = r.kind
  a : s.above = r.above
  l : s.lasts = r.lasts
  m : s.marks.Perm r.marks
structure Mx (rs ss : List Row) : Prop where
  k : (ss.map (·.kind)).Perm (rs.map (·.kind))
  fro : ∀ s ∈ ss, ∃ r ∈ rs, Sm r s
  back : ∀ r ∈ rs, ∃ s ∈ ss, Sm r s
  srt : (ss.map rowS).Perm (rs.map rowS)
theorem sMarks_same {xs ys : List Str} (p : xs.Perm ys) : sMarks xs = sMarks ys := strs_inj (by
  rw [sMarks_D, sMarks_D]
  have so := sortOk_strs xs
  exact sortD_same (p.map _) so.fl fun x hx y hy => so.al _ (List.mem_map.mpr ⟨x, hx, rfl⟩) _ (List.mem_map.mpr ⟨y, hy, rfl⟩))
theorem sortRows_same {xs ys : List Row} (p : xs.Perm ys) : sortRows xs = sortRows ys := rows_inj (by
  rw [sortRows_D, sortRows_D]
  have so := sortOk_rows xs
  exact sortD_same (p.map _) so.fl fun x hx y hy => so.al _ (List.mem_map.mpr ⟨x, hx, rfl⟩) _ (List.mem_map.mpr ⟨y, hy, rfl⟩))
theorem Sm.rowS {r s : Row} (h : Sm r s) : rowS s = rowS r := by
  obtain ⟨k, a, l, m⟩ := h
  cases r
  cases s
  dsimp only at k a l m
  subst k a l
  unfold Any.rowS
  dsimp only
  rw [sMarks_same m]
theorem Mx.of : ∀ {rs : List Row} {es : List D}, Each (fun d e => ∃ r s, d = rowD r ∧ e = rowL s ∧ Sm r s) (rs.map rowD) es → ∃ ss, es = ss.map rowL ∧ Mx rs ss
  | [], _, .nil => ⟨[], rfl, List.Perm.refl _, (fun _ h => by cases h), (fun _ h => by cases h), List.Perm.refl _⟩
  | r :: rs, _, .cons h1 h2 => by
    obtain ⟨r', s, e1, rfl, sm⟩ := h1
    obtain rfl := rowD_inj e1
    obtain ⟨ss, rfl, mx⟩ := Mx.of h2
    refine ⟨s :: ss, rfl, ?_, fun x hx => ?_, fun x hx => ?_, ?_⟩
    · rw [List.map_cons, List.map_cons, sm.k]; exact mx.k.cons _
    · rcases List.mem_cons.mp hx with rfl | hx
      · exact ⟨_, List.mem_cons_self, sm⟩
      · obtain ⟨r2, h3, h4⟩ := mx.fro x hx
        exact ⟨r2, List.mem_cons_of_mem _ h3, h4⟩
    · rcases List.mem_cons.mp hx with rfl | hx
      · exact ⟨_, List.mem_cons_self, sm⟩
      · obtain ⟨r2, h3, h4⟩ := mx.back x hx
        exact ⟨r2, List.mem_cons_of_mem _ h3, h4⟩
    · rw [List.map_cons, List.map_cons, sm.rowS]; exact mx.srt.cons _
theorem Mx.perm {rs ss ss' : List Row} (m : Mx rs ss) (p : ss'.Perm ss) : Mx rs ss' :=
  ⟨(p.map _).trans m.k, fun s h => m.fro s (p.mem_iff.mp h), fun r h => by
    obtain ⟨s, h1, h2⟩ := m.back r h
    exact ⟨s, p.mem_iff.mpr h1, h2⟩, (p.map _).trans m.srt⟩
theorem perm_mapD {α : Type} {f : α → D} : ∀ {es fs : List D}, es.Perm fs → ∀ {xs : List α}, fs = xs.map f → ∃ ys : List α, es = ys.map f ∧ ys.Perm xs := fun {es fs} h => by
  induction h with
  | nil =>
    intro xs hx
    cases xs with
    | nil => exact ⟨[], rfl, .nil⟩
    | cons x xs => cases hx
  | cons x _ ih =>
    intro xs hx
    cases xs with
    | nil => cases hx
    | cons y xs =>
      rw [List.map_cons] at hx
      injection hx with h1 h2
      obtain ⟨ys, rfl, p⟩ := ih h2
      exact ⟨y :: ys, by rw [List.map_cons, h1], p.cons _⟩
  | swap x y l =>
    intro xs hx
    cases xs with
    | nil => cases hx
    | cons a xs =>
      cases xs with
      | nil => rw [List.map_cons, List.map_nil] at hx; injection hx with _ h; cases h
      | cons b xs =>
        rw [List.map_cons, List.map_cons] at hx
        injection hx with h1 h2
        injection h2 with h3 h4
        exact ⟨b :: a :: xs, by rw [List.map_cons, List.map_cons, h1, h3, h4], .swap _ _ _⟩
  | trans _ _ ih1 ih2 =>
    intro xs hx
    obtain ⟨ys, h1, p1⟩ := ih2 hx
    obtain ⟨zs, h2, p2⟩ := ih1 h1
    exact ⟨zs, h2, p2.trans p1⟩
theorem Mx.rowsOk {rs ss : List Row} {lv : Str → Nat} (mx : Mx rs ss) (g : Gr rs lv) : RowsOk ss where
  ok := fun s hs => by
    obtain ⟨r, hr, sm⟩ := mx.fro s hs
    have o := g.ok r hr
    exact ⟨by rw [sm.k]; exact o.kind, by rw [sm.a]; exact o.above, fun c => o.some (List.eq_nil_of_length_eq_zero (by rw [← sm.m.length_eq, c]; rfl)), fun x hx => o.names x (sm.m.mem_iff.mp hx), sm.m.nodup_iff.mpr o.nd, by rw [sm.m.length_eq]; exact o.few⟩
  lv := ⟨lv, by
    have hm : (abOf ss).map (·.1) = ss.map (·.kind) := by unfold abOf; rw [List.map_map]; rfl
    refine ⟨by rw [hm]; exact mx.k.nodup_iff.mpr g.nd, by unfold abOf; rw [List.length_map]; have := g.few; have h2 := mx.k.length_eq; rw [List.length_map, List.length_map] at h2; omega, fun k => ?_, fun k h => g.lo k (by rw [hm] at h; exact fun z => h (mx.k.mem_iff.mpr z)), fun k a h => ?_⟩
    · by_cases c : k ∈ rs.map (·.kind)
      · obtain ⟨r, hr, rfl⟩ := List.mem_map.mp c
        have := (g.lr r hr).2
        omega
      · rw [g.lo k c]; omega
    · obtain ⟨s, hs, h2⟩ := List.mem_map.mp h
      cases h2
      obtain ⟨r, hr, sm⟩ := mx.fro s hs
      have := (g.lr r hr).1
      rw [sm.k, sm.a]
      omega⟩
  above := fun s hs hne => by
    obtain ⟨r, hr, sm⟩ := mx.fro s hs
    rw [sm.a] at hne
    obtain ⟨r2, hr2, h1, h2⟩ := (g.ab r hr).resolve_left hne
    obtain ⟨s2, hs2, sm2⟩ := mx.back r2 hr2
    exact ⟨s2, hs2, by rw [sm2.k, sm.a, h1], fun z => by rw [sm2.l]; rw [sm.l] at z; exact h2 z⟩
theorem Gr.rowS_self {rs : List Row} {lv : Str → Nat} (g : Gr rs lv) : rs.map rowS = rs := (List.map_congr_left fun r hr => by
  show rowS r = id r
  unfold rowS
  rw [g.sm r hr]
  rfl).trans (List.map_id _)
theorem Mx.kinds {rs ss : List Row} {lv : Str → Nat} (mx : Mx rs ss) (g : Gr rs lv) (hs : sortRows rs = rs) : kindsOf ss = rs := by
  unfold kindsOf
  rw [sortRows_same mx.srt, g.rowS_self, hs]
theorem Each.map_left {R : D → D → Prop} {α : Type} {f : α → D} : ∀ {xs : List α} {es : List D}, Each R (xs.map f) es → es.length = xs.length ∧ ∀ (i : Nat) x e, xs[i]? = some x → es[i]? = some e → R (f x) e
  | [], _, .nil => ⟨rfl, fun i x e h _ => by cases h⟩
  | x :: xs, _, .cons h1 h2 => by
    obtain ⟨h3, h4⟩ := Each.map_left h2
    refine ⟨by rw [List.length_cons, List.length_cons, h3], fun i y e hy he => ?_⟩
    cases i with
    | zero => cases hy; cases he; exact h1
    | succ i => exact h4 i y e hy he
theorem lo_atom {d e : D} {n : Nat} (h : Lo n d e) (hL : d.isL = false) (hD : d.isD = false) : e = d := by
  cases n with
  | zero => exact h
  | succ n =>
    rcases h with ⟨_, h⟩ | ⟨h, _⟩ | ⟨_, _, rfl, _⟩
    · exact h
    · rw [hL] at h; cases h
    · cases hD
theorem lo_listI {d e : D} {n : Nat} (h : Lo (n + 1) d e) (hL : d.isL = true) : e.isL = true ∧ Each (Lo n) d.items e.items := by
  rcases h with ⟨h, _⟩ | ⟨_, h⟩ | ⟨_, _, rfl, _⟩
  · rw [(okA_L h).1] at hL; cases hL
  · exact h
  · cases hL
theorem each_eq : ∀ {as bs : List D}, Each (Lo 0) as bs → bs = as
  | _, _, .nil => rfl
  | _, _, .cons h1 h2 => by rw [show _ = _ from h1, each_eq h2]
theorem lo_row {r : Row} {e : D} (h : Lo 2 (rowL r) e) : RowD r e := by
  obtain ⟨hL, hE⟩ := lo_listI h rfl
  have hE2 : Each (Lo 1) [.str r.kind, .str r.above, .lst (r.marks.map D.str), .bl r.lasts] e.items := hE
  refine ⟨hL, ?_⟩
  generalize e.items = it at hE2
  match it, hE2 with
  | _, .cons (b := b1) h1 (.cons (b := b2) h2 (.cons (b := b3) h3 (.cons (b := b4) h4 .nil))) =>
    have e1 := lo_atom h1 rfl rfl
    have e2 := lo_atom h2 rfl rfl
    have e4 := lo_atom h4 rfl rfl
    obtain ⟨h5, h6⟩ := lo_listI h3 rfl
    exact ⟨b3, by rw [e1, e2, e4], h5, each_eq h6⟩
theorem lo_rows {ss : List Row} {e : D} (h : Lo 3 (.lst (ss.map rowL)) e) : e.isL = true ∧ RowsD ss e.items := by
  obtain ⟨hL, hE⟩ := lo_listI h rfl
  obtain ⟨h1, h2⟩ := Each.map_left (f := rowL) hE
  exact ⟨hL, h1, fun i r d hr hd => lo_row (h2 i r d hr hd)⟩
theorem wtL_le {c : Nat} : ∀ {xs : List D}, (∀ x ∈ xs, wt x ≤ c) → wtL xs ≤ (c + 2) * xs.length
  | [], _ => Nat.zero_le _
  | x :: xs, h => by
    have h1 := h x List.mem_cons_self
    have h2 := wtL_le (c := c) fun y hy => h y (List.mem_cons_of_mem _ hy)
    rw [wtL, List.length_cons, Nat.mul_succ]
    omega
theorem empty_okS : okS Str.empty := ⟨by decide, fun c hc => by cases hc⟩
theorem okL_row {r : Row} (o : r.Ok) (hm : r.marks.length ≤ 9) : okD 2 (rowL r) ∧ wt (rowL r) ≤ 1300 := by
  constructor
  · refine .inr (.inl ⟨rfl, by show (4 : Nat) ≤ 60; decide, fun x hx => ?_⟩)
    have hx2 : x ∈ [D.str r.kind, D.str r.above, D.lst (r.marks.map D.str), D.bl r.lasts] := hx
    simp only [List.mem_cons, List.not_mem_nil, or_false] at hx2
    rcases hx2 with rfl | rfl | rfl | rfl
    · exact .inl (name_okS o.kind)
    · exact .inl (o.above.elim (fun h => by rw [h]; exact empty_okS) name_okS)
    · refine .inr (.inl ⟨rfl, by show (r.marks.map D.str).length ≤ 60; rw [List.length_map]; omega, fun y hy => ?_⟩)
      obtain ⟨m, h1, rfl⟩ := List.mem_map.mp hy
      exact name_okS (o.names m h1)
    · exact .inl trivial
  · have h := wtL_le (c := 110) (xs := r.marks.map D.str) fun x hx => by
      obtain ⟨m, _, rfl⟩ := List.mem_map.mp hx
      show (110 : Nat) ≤ 110
      decide
    rw [List.length_map] at h
    show 4 + (110 + 2 + (110 + 2 + ((4 + wtL (r.marks.map D.str)) + 2 + (10 + 2 + 0)))) ≤ 1300
    omega
theorem okL_rows {ss : List Row} (ok : ∀ r ∈ ss, r.Ok ∧ r.marks.length ≤ 9) (hl : ss.length ≤ 11) : okD 3 (.lst (ss.map rowL)) ∧ wt (.lst (ss.map rowL)) ≤ 14400 := by
  constructor
  · refine .inr (.inl ⟨rfl, by show (ss.map rowL).length ≤ 60; rw [List.length_map]; omega, fun x hx => ?_⟩)
    obtain ⟨r, hr, rfl⟩ := List.mem_map.mp hx
    exact (okL_row (ok r hr).1 (ok r hr).2).1
  · have h := wtL_le (c := 1300) (xs := ss.map rowL) fun x hx => by
      obtain ⟨r, hr, rfl⟩ := List.mem_map.mp hx
      exact (okL_row (ok r hr).1 (ok r hr).2).2
    rw [List.length_map] at h
    rw [wt]
    omega
theorem Mx.few {rs ss : List Row} {lv : Str → Nat} (mx : Mx rs ss) (g : Gr rs lv) : (∀ s ∈ ss, s.Ok ∧ s.marks.length ≤ 9) ∧ ss.length ≤ 11 := by
  refine ⟨fun s hs => ⟨(mx.rowsOk g).ok s hs, ?_⟩, ?_⟩
  · obtain ⟨r, hr, sm⟩ := mx.fro s hs
    rw [sm.m.length_eq]
    exact g.fm r hr
  · have := g.few
    have h2 := mx.k.length_eq
    rw [List.length_map, List.length_map] at h2
    omega
section
variable {K : PySem.W.Frag} {CK : Addr} {H H' H0 H1 H2 H3 H4 B : Hp} {σ σ2 : L2.St} {X : Cx} {W : Addr} {m m' k : Nat}
theorem EvAW.imp {ta : TA} {R R' : List D → Prop} (h : EvAW K CK W m m' ta σ B R) (i : ∀ d, R d → R' d) : EvAW K CK W m m' ta σ B R' := fun H1 e hb hw Q q => h H1 e hb hw Q fun d v H2 hd => q d v H2 (i d hd)
theorem ew_kinds {ta : TA} {E : XK} {S : List Row → Prop} (h : EvAW K CK W m m' ta σ B (fun l => ∃ d rs, l = [d] ∧ d.isL = true ∧ RowsD rs d.items ∧ RowsOk rs ∧ S rs)) : EvW K CK W m m' (tMake CK (spKInit K CK) [] E ta) σ B (fun e => ∃ rs, e = kindsD (kindsOf rs) ∧ S rs) := fun H1 e hB hw Q q =>
  h H1 e hB hw _ fun ds vs H2 ⟨d, rs, hds, hL, hrs, ok, hS⟩ e2 hw2 r => by
    subst hds
    obtain ⟨v, rfl, rv⟩ := RepL.one r
    intro x dx nx ndx ne
    have nx2 : upd H2 dx (.own x) x = none := by rw [upd_ne ne.symm]; exact nx
    have eN : Ex H2 (upd (upd H2 dx (.own x)) x (.ins CK dx [])) := (Ex.new ndx).trans (Ex.new nx2)
    have hx : hid B H1 H2 x = none := by
      cases c : hid B H1 H2 x with
      | none => rfl
      | some o =>
        have := hid_sub _ _ c
        rw [nx] at this
        cases this
    refine ⟨x, dx, v, hid B H1 H2, d, rs, rfl, hid_sub.trans eN, hx, upd_same, rv, hL, hrs, ok, fun H' eC rK => ?_⟩
    have e3 : Ex H2 H' := fun a o z => by
      have c : a ≠ x := fun c => by rw [c, nx] at z; cases z
      exact eC _ _ (cut_at c (eN _ _ z))
    refine ⟨rfl, q _ (.ref x) H' ⟨rs, rfl, hS⟩ (e2.trans (.of e3)) (hw2.ex e3) (rK.ex fun a o z => ?_)⟩
    unfold hid
    rw [if_neg]
    · exact hid_sub _ _ z
    · rintro ⟨y1, y2⟩
      have g1 : hid B H1 H2 a = none := hid_no (by simpa using y1) y2
      have g2 : (cut x (upd (upd H2 dx (.own x)) x (.ins CK dx [])) a).isSome = true := by
        obtain ⟨u, c⟩ := Option.isSome_iff_exists.mp (e2.isSome hw2.some y2)
        have c2 : a ≠ x := fun c2 => by rw [c2, nx] at c; cases c
        rw [cut_at c2 (eN _ _ c)]
        rfl
      rw [hid_no g1 g2] at z
      cases z
end
section
variable {P : Program} {w : World} {K : PySem.W.Frag} {mg : Str → Option Value} {base : Heap} {CK : Addr}
theorem scLPKinds : FnScope ["well", "rows", "one"] ["well", "rows"] (defScope sLPKinds) := ⟨rfl, rfl, rfl, by decide +kernel, rfl, by decide +kernel, by decide +kernel⟩
abbrev spLKinds (K : PySem.W.Frag) (CK : Addr) : Sp := spW K CK 1 15000000 (fun ds d => ∀ rs, ds = [rowsD rs] → d = kindsD rs) (fun ds => ∃ rs lv, ds = [rowsD rs] ∧ Gr rs lv ∧ sortRows rs = rs)
theorem ok_lkinds {i : MDef K CK "__init__" "Kinds.__init__" sKInit ["self", "rows"]} (d : Def K mg "_law_p_kinds" sLPKinds ["well", "rows"]) (dL : Def K mg "_law_loose" sLLoose ["well", "thing"]) (dM : Def K mg "_law_mixed" sLMixed ["well", "some"]) (dD : Def K mg "_law_draw" sLDraw ["well", "many"])
    (GI : FnOk P w K mg base CX0 5 i.f i.fd ["self", "rows"] (spKInit K CK)) (M : Mk K CK i.f) (hmK : mg "Kinds" = some (.ref CK)) (T : KCls K CK) (N : Nm mg) : FnOk P w K mg base CX0 7 d.f d.fd ["well", "rows"] (spLKinds K CK) := by
  have GL : FnOk P w K mg base CX0 6 dL.f dL.fd ["well", "thing"] (spLoose K CK 3) := ok_loose dL dM dD T N 3
  have GM : FnOk P w K mg base CX0 6 dM.f dM.fd ["well", "some"] (spMixed K CK) := (ok_mixed dM dD N).mono (by omega)
  refine d.F.ok scLPKinds (fun vs H Q E h => spW_len h) (fun cdv A outer s H vs Q E hr h => ?_)
  obtain ⟨W, m, ws, ds, H0, rfl, _, e0, hw0, hw, hr0, ⟨rs, lv, rfl, g, hsrt⟩, q⟩ := h
  obtain ⟨v, rfl, r⟩ := RepL.one hr0
  refine ⟨_, pss_one (ps_ret (pe_make M GI hr (by rfl) hmK i.b .nil pass0 (pa_cons (pe_call GL hr (by rfl) dL.m dL.F.kp dL.b .nil pass0 (pa_cons (pv 0) (pa_cons (pe_call GM hr (by rfl) dM.m dM.F.kp dM.b .nil pass0 (pa_cons (pv 0) (pa_cons
    (pe_lc (own := [("one", 2)]) (g := gName 2) (tt := tYes) rfl scLPKinds.nd (pi_list (pv 1)) (blkOk_by (N := ["well", "rows", "one"]) (sc := defScope sLPKinds) (by decide +kernel)) (fun _ _ _ _ _ => pg_name (i := 2) scLPKinds.nd rfl (Or.inl rfl)) (fun _ _ _ _ _ => pts_nil)
      (fun _ _ _ _ _ => pe_tup (pa_cons (pe_ix (r := rIxLT K) ix_lt (pv 2) pe_int (fun _ _ => rfl)) (pa_cons (pe_ix (r := rIxLT K) ix_lt (pv 2) pe_int (fun _ _ => rfl)) (pa_cons (pe_call GM hr (by rfl) dM.m dM.F.kp dM.b .nil pass0 (pa_cons (pv 0) (pa_cons (pe_ix (r := rIxLT K) ix_lt (pv 2) pe_int (fun _ _ => rfl)) pa_nil)))
        (pa_cons (pe_ix (r := rIxLT K) ix_lt (pv 2) pe_int (fun _ _ => rfl)) pa_nil)))))) pa_nil))) pa_nil))) pa_nil))), ?_⟩
  have lc := ew_lc (K := K) (CK := CK) (W := W) (m := m + 14414400 + 1000) (k := 1000) (vs := [2]) (g := gName 2) (σ := [some (.ref W), some v, none]) (B := H0) (ds := rs.map rowD) (R := fun d e => ∃ r s, d = rowD r ∧ e = rowL s ∧ Sm r s) (te := tTup (tCons (tOp (rIxLT K) (tVar 2) (tC (.int 0))) (tCons (tOp (rIxLT K) (tVar 2) (tC (.int 1))) (tCons (tCall (spMixed K CK) [] E0 (tCons (tVar 0) (tCons (tOp (rIxLT K) (tVar 2) (tC (.int 2))) tNil))) (tCons (tOp (rIxLT K) (tVar 2) (tC (.int 3))) tNil)))))
    (ei_list (ed_var (i := 1) rfl r)) (by rw [List.length_map]; have := g.few; omega) (fun m2 d2 x2 Hz ez bz hd2 rx => by
      obtain ⟨ro, hro, rfl⟩ := List.mem_map.mp hd2
      refine ⟨_, eg_name, rfl, EvW.imp (ew_tup (eaw_cons (EvD.w (ed_ix (d := rowD ro) (j := 0) (ed_var (i := 2) rfl rx) ev_c rfl rfl)) (eaw_cons (EvD.w (ed_ix (d := rowD ro) (j := 1) (ed_var (i := 2) rfl rx) ev_c rfl rfl)) (eaw_cons (ew_call (K := K) (CK := CK) (m := m2) (k := 1000) (n := 1) (i := 0) (R := fun ds d => ∃ es, d = .lst es ∧ es.Perm (ds.getD 0 .non).items) (pre := fun ds => ∃ s, ds = [s] ∧ s.isL = true ∧ s.items.length ≤ 1000) (ds := [.tup (ro.marks.map D.str)]) rfl (ead_cons (ed_ix (d := rowD ro) (j := 2) (ed_var (i := 2) rfl rx) ev_c rfl rfl) ead_nil) rfl
          ⟨_, rfl, rfl, by show (ro.marks.map D.str).length ≤ 1000; rw [List.length_map]; have := g.fm ro hro; omega⟩) (eaw_cons (EvD.w (ed_ix (d := rowD ro) (j := 3) (ed_var (i := 2) rfl rx) ev_c rfl rfl)) eaw_nil)))) ?_) ?_⟩
      · rintro l ⟨_, _, rfl, _, _, _, rfl, _, _, _, rfl, _, _, _, rfl, _, rfl⟩
        show (4 : Nat) ≤ 30000
        decide
      · rintro e ⟨l, rfl, _, _, rfl, rfl, _, _, rfl, rfl, _, _, rfl, ⟨es, rfl, p⟩, _, _, rfl, rfl, rfl⟩
        obtain ⟨ms, rfl, hms⟩ := strs_of_perm (xs := ro.marks) p
        exact ⟨ro, ⟨ro.kind, ro.above, ms, ro.lasts⟩, rfl, rfl, rfl, rfl, rfl, hms⟩)
  have hrl : (rs.map rowD).length ≤ 11 := by rw [List.length_map]; exact g.few
  refine s_retW (K := K) (CK := CK) (W := W) (B := H0) (m := m + 14414400 + 1000 + 1000 * (rs.map rowD).length) (m' := m) (R := fun e => ∃ ss, e = kindsD (kindsOf ss) ∧ kindsOf ss = rs) (ew_kinds (S := fun ss => kindsOf ss = rs) (EvAW.imp (eaw_cons (ewf_call (m := m) (kk := 14414400) (i := 0) (n := 1) (kf := fun ds => 1001 * wt (ds.getD 0 .non)) (R := fun ds d => Lo 3 (ds.getD 0 .non) d) (pre := fun ds => ∃ x, ds = [x] ∧ okD 3 x) (R2 := fun e => ∃ ss, Lo 3 (.lst (ss.map rowL)) e ∧ Mx rs ss) rfl
    (eaw_cons (eww_call (m := m + 14414400) (k := 1000) (n := 1) (i := 0) (R := fun ds d => ∃ es, d = .lst es ∧ es.Perm (ds.getD 0 .non).items) (pre := fun ds => ∃ s, ds = [s] ∧ s.isL = true ∧ s.items.length ≤ 1000) (R2 := fun e => ∃ ss, e = .lst (ss.map rowL) ∧ Mx rs ss) rfl (eaw_cons lc eaw_nil) ?_) eaw_nil) ?_) eaw_nil) ?_)) e0 hw0 (hw.less (by omega)) fun dR vR H2 hR e2 hw2 r2 => ?_
  · rintro ds ⟨e, l, rfl, ⟨es, rfl, hE⟩, rfl⟩
    obtain ⟨ss, rfl, mx⟩ := Mx.of hE
    have fw := mx.few g
    refine ⟨rfl, ⟨_, rfl, rfl, by show (ss.map rowL).length ≤ 1000; rw [List.length_map]; omega⟩, fun d h => ?_⟩
    obtain ⟨es2, rfl, p⟩ := h
    obtain ⟨ss2, rfl, p2⟩ := perm_mapD (f := rowL) (xs := ss) p rfl
    exact ⟨ss2, rfl, mx.perm p2⟩
  · rintro ds ⟨e, l, rfl, ⟨ss, rfl, mx⟩, rfl⟩
    have fw := mx.few g
    have ok := okL_rows fw.1 fw.2
    exact ⟨rfl, Nat.le_trans (Nat.mul_le_mul_left _ ok.2) (by decide), ⟨_, rfl, ok.1⟩, fun d h => ⟨ss, h, mx⟩⟩
  · rintro ds ⟨e, l, rfl, ⟨ss, hl, mx⟩, rfl⟩
    have h := lo_rows hl
    exact ⟨e, ss, rfl, h.1, h.2, mx.rowsOk g, mx.kinds g hsrt⟩
  · obtain ⟨ss, rfl, h⟩ := hR
    rw [h] at r2
    refine q _ vR H2 (fun rs2 hrs2 => ?_) e2 hw2 r2
    injection hrs2 with h1 _
    unfold rowsD at h1
    injection h1 with h2
    rw [rows_inj h2]
end
end Any
set_option Elab.async false
set_option linter.all false
set_option maxRecDepth 100000
set_option maxHeartbeats 4000000
namespace Any
open PySem PySem.Spec PyProof.Rows L2 Evl StX
abbrev sLWell : Stmt := topS 39
section
variable {K : PySem.W.Frag} {CK : Addr} {H H' H0 H1 H2 H3 H4 B : Hp} {σ σ2 : L2.St} {X : Cx} {W : Addr} {m m' k : Nat}
theorem ei_enumN {te : TE} {a : Addr} {ns : List Int} (h : Ev te σ H (.ref a)) (hs : SqL K H a (ns.map V.int)) : EvID K CK (iEnumS K (tCons te tNil)) σ H (enumD (ns.map D.int)) := fun H1 e R q =>
  .inl (h H1 e _ fun H2 e2 => ⟨a, ns.map V.int, rfl, ex_l (e.trans e2) hs, q (Ite K a) H2 (fun H => SqL K H a (ns.map V.int)) _ e2 (by rw [enumD_len, List.length_map, ← List.length_map (f := V.int)]; exact walk_enum) (fun H3 e3 => ex_l ((known_hid e fun b o z => (e.trans e2) b o z).trans e3) hs) fun i p Ha x Hb hp _ y => by
    obtain ⟨T, y1, y2, e1, e2, e3, e4, e5⟩ := y
    obtain ⟨d, hd, rfl⟩ := enumD_get hp
    cases e4
    rw [List.getElem?_map] at hd
    have e5' : (ns.map V.int)[i]? = some y2 := e5
    rw [List.getElem?_map] at e5'
    cases hn : ns[i]? with
    | none => rw [hn] at hd; cases hd
    | some z =>
      rw [hn] at hd e5'
      cases hd
      cases e5'
      exact .inr ⟨T, _, [.int (i : Nat), .int z], e1, e2, e3, rfl, (by show 2 ≤ 30000; decide), _, _, rfl, rfl, .int z, [], rfl, rfl, rfl⟩⟩)
theorem ev_abs {te : TE} {n : Int} (h : Ev te σ H (.int n)) : Ev (tCB (fun xs H Q => ∃ i, xs = [V.int i] ∧ Q (.int (if i < 0 then -i else i)) H) (tCons te tNil)) σ H (.int (if n < 0 then -n else n)) := fun H1 e Q q => h H1 e _ fun H2 e2 => ⟨n, rfl, q H2 e2⟩
theorem q_setE {te : TE} {i : Nat} {tz : TS} {D0 : Ends} (h : ∃ c : Int, Ev te σ H (.int c)) (k : ∀ c H1, Ex H H1 → tz D0 (σ.set i (some (.int c))) H1) : tSeq (tAsg te (gName i)) tz D0 σ H := by
  obtain ⟨c, h⟩ := h
  exact q_setV h (k c)
theorem ev_sumTake {i : Nat} {a : Addr} {ns : List Int} {n : Int} (hi : σ[i]? = some (some (V.ref a))) (hs : SqL K H a (ns.map V.int)) : ∃ c : Int, Ev (tCB (rSum K) (tCons (tSl (rSlL K) (tVar i) tNoPart (tPart (tC (.int n)))) tNil)) σ H (.int c) := by
  refine ⟨(ns.take (cutV (ns.map V.int) none (some n)).length).sum, fun H1 e Q q => ⟨_, hi, _, rfl, a, _, rfl, ex_l e hs, fun p hp => ⟨p, ns.take (cutV (ns.map V.int) none (some n)).length, rfl, sq_of ?_, q _ (Ex.new hp)⟩⟩⟩
  rw [upd_same]
  refine congrArg (fun z => some (HO.lst z)) ?_
  have : ∃ j, cutV (ns.map V.int) none (some n) = (ns.map V.int).take j := by
    unfold cutV
    rw [HT.sIx_none, List.drop_zero]
    exact ⟨_, rfl⟩
  obtain ⟨j, hj⟩ := this
  rw [hj, List.length_take, List.map_take, List.length_map]
  by_cases c : j ≤ ns.length
  · rw [Nat.min_eq_left c]
  · rw [Nat.min_eq_right (by omega), List.take_of_length_le (by rw [List.length_map]; omega), List.take_of_length_le (by rw [List.length_map]; omega)]
end
section
variable {P : Program} {w : World} {K : PySem.W.Frag} {mg : Str → Option Value} {base : Heap} {CK : Addr}
theorem scLWell : FnScope ["script", "place", "cell", "mixed", "at", "one"] ["script", "place"] (defScope sLWell) := ⟨rfl, rfl, rfl, by decide +kernel, rfl, by decide +kernel, by decide +kernel⟩
def spWell (K : PySem.W.Frag) : Sp := fun vs H Q _ => ∃ (a : Addr) (ns : List Int) (place : Nat), vs = [V.ref a, .int ((place : Nat) : Int)] ∧ SqL K H a (ns.map V.int) ∧ place ≤ 1000 ∧ ∀ W H', H W = none → Ex H H' → WellAt W 1099511627776 H' → Q (.ref W) H'
theorem ok_well (d : Def K mg "_law_well" sLWell ["script", "place"]) (N : Nm mg) : FnOk P w K mg base CX0 1 d.f d.fd ["script", "place"] (spWell K) := by
  refine d.F.ok scLWell (fun vs H Q E h => ?_) (fun cdv A outer s H vs Q E hr h => ?_)
  · obtain ⟨_, _, _, rfl, _⟩ := h
    rfl
  obtain ⟨a, ns, place, rfl, hs, hp, q⟩ := h
  refine ⟨_, pss_cons (ps_set (i := 2) scLWell.nd rfl (.inl rfl) (pe_ifExp (pt_cmpR op_lt (pv 1) (pe_callB call_len_seq (by rfl) N.len boot_len (pa_cons (pv 0) pa_nil)) (nomark _)) (pe_ix ix_list (pv 0) (pv 1) (fun _ _ => rfl))
      (pe_op op_add (pe_op op_add (pe_op op_mod (pe_callTy call_int1 (by rfl) N.int boot_int (pa_cons (pe_callB (cr_sum rfl) (by rfl) N.sum boot_sum (pa_cons (pe_slice sl_list (pv 0) po_none (po_some pe_int)) pa_nil)) pa_nil)) pe_int) (pe_op op_mul pe_int (pv 1))) pe_int)))
    (pss_cons (ps_set (i := 3) scLWell.nd rfl (.inl rfl) pe_int)
    (pss_cons (ps_for PassesOwn.never rfl (pi_enumS (by rfl) N.enumerate (pa_cons (pv 0) pa_nil)) (pg_unp rfl (pgs_cons (pg_name (i := 4) scLWell.nd rfl (.inl rfl)) (pgs_cons (pg_name (i := 5) scLWell.nd rfl (.inl rfl)) pgs_nil)))
      (pss_one (ps_set (i := 3) scLWell.nd rfl (.inl rfl) (pe_op op_mod (pe_callTy call_int1 (by rfl) N.int boot_int (pa_cons (pe_op op_add (pe_op op_add (pe_op op_mul (pv 3) pe_int) (pe_callB call_abs (by rfl) N.abs boot_abs (pa_cons (pv 5) pa_nil))) (pv 4)) pa_nil)) pe_int))))
    (pss_one (ps_ret (pe_lst (pa_cons (pe_ifExp (pt_cmpR op_ge (pv 2) (pe_op op_pow pe_int pe_int) (nomark _)) (pv 2) pe_int)
      (pa_cons (pe_op op_add (pe_op op_mod (pe_callTy call_int1 (by rfl) N.int boot_int (pa_cons (pe_op op_add (pe_callB call_abs (by rfl) N.abs boot_abs (pa_cons (pv 2) pa_nil)) (pe_op op_mul pe_int (pv 3))) pa_nil)) pe_int) (pe_op op_mul pe_int (pv 1))) (pa_cons pe_int pa_nil)))))))), ?_⟩
  refine q_setE ?_ fun cell H1 e1 => ?_
  · by_cases hj : place < ns.length
    · exact ⟨ns[place], ev_if (b := true) (et_test (ev_is (ev_op (ev_var (i := 1) rfl) (ev_len (ev_var (i := 0) rfl) hs) rv_I0) (congrArg V.bl (decide_eq_true (by rw [List.length_map]; omega))))) (fun _ => ev_op (ev_var (i := 0) rfl) (ev_var (i := 1) rfl) (rv_ixL hs (by
        rw [atI_nat (v := V.int ns[place])]
        rw [List.getElem?_map, List.getElem?_eq_getElem hj]
        rfl))) (fun c => by cases c)⟩
    · obtain ⟨c, hc⟩ := ev_sumTake (K := K) (i := 0) (σ := [some (.ref a), some (.int ((place : Nat) : Int)), none, none, none, none]) (n := 1) rfl hs
      exact ⟨_, ev_if (b := false) (et_test (ev_is (ev_op (ev_var (i := 1) rfl) (ev_len (ev_var (i := 0) rfl) hs) rv_I0) (congrArg V.bl (decide_eq_false (by rw [List.length_map]; omega))))) (fun c => by cases c) (fun _ => ev_addI (ev_addI (ev_modI (ev_int hc) ev_c (by decide)) (ev_mulI ev_c (ev_var (i := 1) rfl) (.inl ⟨by decide, by decide⟩))) ev_c)⟩
  have hs1 := ex_l e1 hs
  refine q_setV (v := .int 0) ev_c fun H2 e2 => ?_
  have hs2 := ex_l e2 hs1
  refine q_forI (K := K) (CK := (0 : Nat)) (H0 := H2) (ei_enumN (ev_var (i := 0) rfl) hs2) (Ex.refl H2) (fun B i σ' H' => ∃ (mixed : Int) (y z : Option V), σ' = [some (.ref a), some (.int ((place : Nat) : Int)), some (.int cell), some (.int mixed), y, z] ∧ Ex B H' ∧ Ex H2 H') ?_ ?_ ?_ ?_
  · intro H3 e3
    exact ⟨0, _, _, rfl, hid_sub, e3⟩
  · rintro B i σ' H' ⟨_, _, _, _, h, _⟩
    exact h
  · rintro B B' i dk xv σ' Ha Hb _ hx ⟨mixed, y, z, rfl, bH, eH⟩ eab bb' b'b bfr rx
    obtain ⟨di, hdi, rfl⟩ := enumD_get hx
    rw [List.getElem?_map] at hdi
    cases hn : ns[i]? with
    | none => rw [hn] at hdi; cases hdi
    | some n =>
    rw [hn] at hdi
    cases hdi
    obtain ⟨v1, v2, r1, r2, hg⟩ := eg_unp2 (σ := [some (.ref a), some (.int ((place : Nat) : Int)), some (.int cell), some (.int mixed), y, z]) (i := 4) (j := 5) rx rfl rfl
    obtain rfl := rep_int r1
    obtain rfl := rep_int r2
    refine hg Hb b'b _ fun H4 e4 => ?_
    dsimp only
    exact ((ev_modI (ev_int (ev_addI (ev_addI (ev_mulI (ev_var (i := 3) rfl) ev_c (.inr ⟨by decide, by decide⟩)) (ev_abs (ev_var (i := 5) rfl))) (ev_var (i := 4) rfl))) ev_c (by decide)) H4 (Ex.refl H4) _ fun H5 e5 => ⟨_, _, _, rfl, (bb'.trans b'b).trans (e4.trans e5), eH.trans (eab.trans (e4.trans e5))⟩)
  · rintro B σ' H' _ ⟨mixed, y, z, rfl, bH, eH⟩
    have e9 : Ex H H' := (e1.trans e2).trans eH
    have t10 : Ev (tOp (rI CPow fun i j => .int (i ^ j.toNat)) (tC (.int 10)) (tC (.int 18))) [some (.ref a), some (.int ((place : Nat) : Int)), some (.int cell), some (.int mixed), y, z] H' (.int (10 ^ (18 : Int).toNat)) := ev_powI (a := 10) (b := 18) ev_c ev_c ⟨by decide, by decide, by decide⟩
    have h0 : ∃ c0 : Int, Ev (tIf (tTest (tOp (rI0 fun i j => .bl (decide (i ≥ j))) (tVar 2) (tOp (rI CPow fun i j => .int (i ^ j.toNat)) (tC (.int 10)) (tC (.int 18))))) (tVar 2) (tC (.int 0))) [some (.ref a), some (.int ((place : Nat) : Int)), some (.int cell), some (.int mixed), y, z] H' (.int c0) := by
      by_cases hc : cell ≥ 10 ^ (18 : Int).toNat
      · exact ⟨cell, ev_if (b := true) (et_test (ev_is (ev_op (ev_var (i := 2) rfl) t10 rv_I0) (congrArg V.bl (decide_eq_true hc)))) (fun _ => ev_var (i := 2) rfl) (fun c => by cases c)⟩
      · exact ⟨0, ev_if (b := false) (et_test (ev_is (ev_op (ev_var (i := 2) rfl) t10 rv_I0) (congrArg V.bl (decide_eq_false hc)))) (fun c => by cases c) (fun _ => ev_c)⟩
    obtain ⟨c0, h0⟩ := h0
    have h1 := ev_addI (ev_modI (ev_int (ev_addI (ev_abs (ev_var (i := 2) (v := .int cell) (H := H') (σ := [some (.ref a), some (.int ((place : Nat) : Int)), some (.int cell), some (.int mixed), y, z]) rfl)) (ev_mulI (ev_c (v := .int 31)) (ev_var (i := 3) rfl) (.inl ⟨by decide, by decide⟩)))) (ev_c (v := .int 2147483629)) (by decide)) (ev_mulI (ev_c (v := .int 17)) (ev_var (i := 1) rfl) (.inl ⟨by decide, by decide⟩))
    refine h0 H' (Ex.refl H') _ fun Ha ea => h1 Ha ea _ fun Hb eb => ⟨sz_of (by show (3 : Nat) ≤ 100000; decide), fun L hL => q L _ ?_ ((e9.trans (ea.trans eb)).trans (Ex.new hL)) ⟨c0, _, 0, upd_same, ?_, ?_, by decide, by decide⟩⟩
    · exact ex_none (e9.trans (ea.trans eb)) hL
    · generalize (if cell < 0 then -cell else cell) + 31 * mixed = g
      have := Int.emod_nonneg g (b := 2147483629) (by decide)
      omega
    · generalize (if cell < 0 then -cell else cell) + 31 * mixed = g
      have := Int.emod_lt_of_pos g (b := 2147483629) (by decide)
      omega
end
end Any
set_option Elab.async false
set_option linter.all false
set_option maxRecDepth 100000
set_option maxHeartbeats 4000000
namespace Any
open PySem PySem.Spec PyProof.Rows L2 Evl StX
/-! ### calls by names alone -/
def p2 {α : Type} : List α → List α → List α
  | [], [a, b] => [b, a]
  | _, _ => []
def p3r {α : Type} : List α → List α → List α
  | [], [a, b, c] => [c, b, a]
  | _, _ => []
def p3 {α : Type} : List α → List α → List α
  | [], [a, b, c] => [c, a, b]
  | _, _ => []
section
variable {K : PySem.W.Frag} {mg : Str → Option Value} {f : Addr} {fd : FuncData} {x q a1 a2 a3 k1 k2 k3 : Str} {st : Stmt}
theorem kb2 (F : Fun K x q st f fd) (h : ∀ (kV doc pm : Value) (an : Option Addr) (cdv ct a b : Value), bindArgs (PySem.W.fnOf x q (defArgs st) (defBody st) (defScope st) .none kV doc pm an cdv ct) ⟨[], [(k1, a), (k2, b)]⟩ = pure [(a1, b), (a2, a)]) :
    KBinds K fd [a1, a2] [k1, k2] p2 p2 := by
  obtain ⟨oc, od, kV, doc, pm, an, cdv, ct, osl, rfl, lk, hcd⟩ := F.ex
  refine ⟨fun s us ws _ hl => ?_, fun {vs us zs ws} r1 r2 => ?_⟩
  · match us, ws, hl with
    | [], [a, b], _ => exact .of_eq (h kV doc pm an cdv ct a b)
  · cases r1 with
    | cons _ _ => exact .nil
    | nil =>
      cases r2 with
      | nil => exact .nil
      | cons h1 r2 =>
        cases r2 with
        | nil => exact .nil
        | cons h2 r2 =>
          cases r2 with
          | nil => exact .cons h2 (.cons h1 .nil)
          | cons _ _ => exact .nil
theorem kb3r (F : Fun K x q st f fd) (h : ∀ (kV doc pm : Value) (an : Option Addr) (cdv ct a b c : Value), bindArgs (PySem.W.fnOf x q (defArgs st) (defBody st) (defScope st) .none kV doc pm an cdv ct) ⟨[], [(k1, a), (k2, b), (k3, c)]⟩ = pure [(a1, c), (a2, b), (a3, a)]) :
    KBinds K fd [a1, a2, a3] [k1, k2, k3] p3r p3r := by
  obtain ⟨oc, od, kV, doc, pm, an, cdv, ct, osl, rfl, lk, hcd⟩ := F.ex
  refine ⟨fun s us ws _ hl => ?_, fun {vs us zs ws} r1 r2 => ?_⟩
  · match us, ws, hl with
    | [], [a, b, c], _ => exact .of_eq (h kV doc pm an cdv ct a b c)
  · cases r1 with
    | cons _ _ => exact .nil
    | nil =>
      cases r2 with
      | nil => exact .nil
      | cons h1 r2 =>
        cases r2 with
        | nil => exact .nil
        | cons h2 r2 =>
          cases r2 with
          | nil => exact .nil
          | cons h3 r2 =>
            cases r2 with
            | nil => exact .cons h3 (.cons h2 (.cons h1 .nil))
            | cons _ _ => exact .nil
theorem kb3 (F : Fun K x q st f fd) (h : ∀ (kV doc pm : Value) (an : Option Addr) (cdv ct a b c : Value), bindArgs (PySem.W.fnOf x q (defArgs st) (defBody st) (defScope st) .none kV doc pm an cdv ct) ⟨[], [(k1, a), (k2, b), (k3, c)]⟩ = pure [(a1, c), (a2, a), (a3, b)]) :
    KBinds K fd [a1, a2, a3] [k1, k2, k3] p3 p3 := by
  obtain ⟨oc, od, kV, doc, pm, an, cdv, ct, osl, rfl, lk, hcd⟩ := F.ex
  refine ⟨fun s us ws _ hl => ?_, fun {vs us zs ws} r1 r2 => ?_⟩
  · match us, ws, hl with
    | [], [a, b, c], _ => exact .of_eq (h kV doc pm an cdv ct a b c)
  · cases r1 with
    | cons _ _ => exact .nil
    | nil =>
      cases r2 with
      | nil => exact .nil
      | cons h1 r2 =>
        cases r2 with
        | nil => exact .nil
        | cons h2 r2 =>
          cases r2 with
          | nil => exact .nil
          | cons h3 r2 =>
            cases r2 with
            | nil => exact .cons h3 (.cons h1 (.cons h2 .nil))
            | cons _ _ => exact .nil
end
section
variable {X : Cx} {CX : CXT} {k : Nat} {f : Addr} {fd : FuncData} {ps ks : List Str} {sp : Sp} {E : XK} {x : Str} {p pos : Pos} {kws : List Keyword} {tk : TA} {g : List Value → List Value → List Value} {gV : List V → List V → List V}
/-- f(k = v, ..) -/
theorem pe_callN (F : FnOk X.prog X.w X.K X.mg X.base CX k f fd ps sp) (hr : Room k X.A) (hg : Gl X x) (hm : X.mg x = some (.ref f)) (hk : PySem.W.keepIn X.K (.ref f) = true) (hb : KBinds X.K fd ps ks g gV) (hx : Passes CX X E) (hkw : PK X kws tk)
    (hall : (backToKw pos (keywordEach kws X.env)).all (·.1.isSome) = true := by rfl) (hks : (backToKw pos (keywordEach kws X.env)).filterMap (·.1) = ks := by rfl) (hdb : (x == ("__debug__" : Str)) = false := by decide)
    (hpl : ((backTo pos (starEach [] X.env)).any (·.1) || (backToKw pos (keywordEach kws X.env)).any (·.1.isNone)) = false := by rfl) :
    PE X (.Call (.Name x p) [] kws pos) (tCallK sp gV E tNil tk) := by
  refine ⟨fun pins s σ H Q I h => wpAny_Call_Name_kw (ld_glob I hg hm ?_ hdb)⟩
  refine PySem.W.callWith_KW0 (h₀ := X.base) I.ok.mod.kin hk hall ?_ hpl
  refine thn (hkw.run pos pins s σ H _ I h) fun zw s2 ⟨zv, H2, I2, r2, q2⟩ => ⟨I2.kIn, ?_⟩
  rw [hks]
  exact run_fnk (us := []) (vs := []) F hr hb hx I2 .nil r2 q2
end
section
variable {K : PySem.W.Frag} {CK : Addr} {H : Hp} {σ : L2.St} {R : List D → D → Prop} {E : XK} {tk : TA} {x y z d : D}
theorem ed_callN2 (h : EvAD K CK tk σ H [x, y]) (hp : R [y, x] d) : EvD K CK (tCallK (spX K CK 2 R) p2 E tNil tk) σ H d := fun H1 e Q q => h H1 e _ fun vs H2 e2 r => by
  obtain ⟨v1, v2, rfl, r1, r2⟩ := RepL.two r
  exact ⟨[y, x], d, hid H H1 H2, rfl, hid_sub, ⟨v2, _, rfl, r2, v1, _, rfl, r1, rfl⟩, hp, fun v H' e3 r3 => q v H' (e2.trans e3) (by rw [hid_hid e e2] at r3; exact r3)⟩
theorem ed_callN3r (h : EvAD K CK tk σ H [x, y, z]) (hp : R [z, y, x] d) : EvD K CK (tCallK (spX K CK 3 R) p3r E tNil tk) σ H d := fun H1 e Q q => h H1 e _ fun vs H2 e2 r => by
  obtain ⟨v1, v2, v3, rfl, r1, r2, r3⟩ := RepL.three r
  exact ⟨[z, y, x], d, hid H H1 H2, rfl, hid_sub, ⟨v3, _, rfl, r3, v2, _, rfl, r2, v1, _, rfl, r1, rfl⟩, hp, fun v H' e3 r3 => q v H' (e2.trans e3) (by rw [hid_hid e e2] at r3; exact r3)⟩
theorem ed_callN3 (h : EvAD K CK tk σ H [x, y, z]) (hp : R [z, x, y] d) : EvD K CK (tCallK (spX K CK 3 R) p3 E tNil tk) σ H d := fun H1 e Q q => h H1 e _ fun vs H2 e2 r => by
  obtain ⟨v1, v2, v3, rfl, r1, r2, r3⟩ := RepL.three r
  exact ⟨[z, x, y], d, hid H H1 H2, rfl, hid_sub, ⟨v3, _, rfl, r3, v1, _, rfl, r1, v2, _, rfl, r2, rfl⟩, hp, fun v H' e3 r3 => q v H' (e2.trans e3) (by rw [hid_hid e e2] at r3; exact r3)⟩
end
end Any
set_option Elab.async false
set_option linter.all false
set_option maxRecDepth 100000
set_option maxHeartbeats 4000000
namespace Any
open PySem PySem.Spec PyProof.Rows L2 Evl StX
abbrev sLToldR : Stmt := topS 64
abbrev sLMateR : Stmt := topS 65
abbrev sLJudgedR : Stmt := topS 66
abbrev sLaw : Stmt := topS 67
/-- the law's own defs -/
structure Lw (K : PySem.W.Frag) (mg : Str → Option Value) where
  well : Def K mg "_law_well" sLWell ["script", "place"]
  draw : Def K mg "_law_draw" sLDraw ["well", "many"]
  pick : Def K mg "_law_pick" sLPick ["well", "some"]
  mixed : Def K mg "_law_mixed" sLMixed ["well", "some"]
  same : Def K mg "_law_same" sLSame ["found", "due"]
  loose : Def K mg "_law_loose" sLLoose ["well", "thing"]
  row : Def K mg "_law_p_row" sLPRow ["rows", "kind"]
  chain : Def K mg "_law_p_chain" sLPChain ["rows", "kind"]
  rows : Def K mg "_law_p_rows" sLPRows ["well", "many", "levels", "marks"]
  kinds : Def K mg "_law_p_kinds" sLPKinds ["well", "rows"]
  told : Def K mg "_law_s_told" sLSTold ["records"]
  size : Def K mg "_law_s_size" sLSSize ["records"]
  flat : Def K mg "_law_s_flat" sLFlat ["records", "holder", "found"]
  built : Def K mg "_law_s_built" sLBuilt ["flat", "holder"]
  grown : Def K mg "_law_s_grown" sLGrown ["well", "rows", "flat", "many"]
  stand : Def K mg "_law_s_stand" sLStand ["well", "rows", "many"]
  more : Def K mg "_law_s_more" sLMore ["well", "rows", "stand", "many"]
  fewer : Def K mg "_law_s_fewer" sLFewer ["well", "stand"]
  marked : Def K mg "_law_s_marked" sLMarked ["well", "rows", "stand"]
  passed : Def K mg "_law_s_passed" sLPassed ["well", "stand"]
  paths : Def K mg "_law_s_paths" sLPaths ["records", "way"]
  fault : Def K mg "_law_s_fault" sLFault ["rows", "above", "thing", "way"]
  holder : Def K mg "_law_holder" sLHolder ["rows", "thing"]
  odd : Def K mg "_law_odd" sLOdd ["well", "rows", "record"]
  bent : Def K mg "_law_bent" sLBent ["well", "rows", "stand"]
section
variable {K : PySem.W.Frag} {CK : Addr} {H H' H0 H1 H2 H3 H4 Ha Hb Hc B B' : Hp} {σ σ2 : L2.St} {X : Cx} {W L : Addr} {m m' m1 k : Nat}
/-- what a turn's item holds is known, told from the def's own start -/
theorem Fr.item (Fc : Fr W H0 H m Hc) (Fa : Fr W H0 H m' Ha) (eab : Ex Ha Hb) (bn : ∀ p, hid H0 H Hc p = none → (Hc p).isSome = true → B p = none) (b'b : Ex B' Hb) (bfr : ∀ p, B p = none → (Ha p).isSome = true → B' p = none) : Ex B' (hid H0 H Hb) := fun a o z => by
  unfold hid
  rw [if_neg]
  · exact b'b _ _ z
  · rintro ⟨y1, y2⟩
    have h1 : hid H0 H Hc a = none := hid_no (by simpa using y1) y2
    have h2 := bn a h1 (Fc.eW.isSome Fc.hw.some y2)
    rw [bfr a h2 (Fa.eW.isSome Fa.hw.some y2)] at z
    cases z
theorem Fr.stay (F : Fr W H0 H m H2) (F' : Fr W H0 H m' H3) (u : Ex (hid H0 H H2) (hid H0 H H3)) (bH : Ex B H2) (bW : B W = none) : Ex B H3 := fun a o z => by
  have z2 := bH _ _ z
  have aW : a ≠ W := fun c => by rw [c, bW] at z; cases z
  by_cases h : (H0 a).isNone = true ∧ (H a).isSome = true
  · obtain ⟨o', ho⟩ := Option.isSome_iff_exists.mp h.2
    have := F.eW _ _ (cut_at aW ho)
    rw [z2] at this
    cases this
    exact F'.eW _ _ (cut_at aW ho)
  · have : hid H0 H H2 a = some o := by
      unfold hid
      rw [if_neg h]
      exact z2
    exact hid_sub _ _ (u _ _ this)
theorem ed_ofB {te : TE} {b : Bool} (h : Ev te σ H (.bl b)) : EvD K CK te σ H (.bl b) := fun H1 e Q q => h H1 e _ fun H2 e2 => q _ H2 e2 rfl
theorem ew_1draw {i : Nat} {n : Int} {E : XK} (hi : σ[i]? = some (some (V.ref W))) (h0 : 0 < n) (h1 : n < 1000000) : EvW K CK W (m + 1) m (tOp (rI0 fun i j => .int (i + j)) (tC (.int 1)) (tCall spDraw [] E (tCons (tVar i) (tCons (tC (.int n)) tNil)))) σ B (fun e => ∃ c : Nat, e = .int ((1 + c : Nat) : Int) ∧ ((c : Nat) : Int) < n) := fun H1 e hB hw Q q =>
  ⟨_, hi, W, m, n, rfl, hw, h0, h1, fun c H4 c0 c1 hw4 e4 => by
    obtain ⟨cn, rfl⟩ := Int.eq_ofNat_of_zero_le c0
    exact ⟨_, _, rfl, rfl, q (.int ((1 + cn : Nat) : Int)) _ H4 ⟨cn, rfl, c1⟩ e4 hw4 (by show _ = V.int _; congr 1)⟩⟩
theorem s_ifF {tc : TT} {t u : TS} {D0 : Ends} {b : Bool} (F : Fr W H0 H m Hc) (h : EvT tc σ (hid H0 H Hc) b)
    (h1 : b = true → ∀ H', Fr W H0 H m H' → Ex (hid H0 H Hc) (hid H0 H H') → t D0 σ H') (h2 : b = false → ∀ H', Fr W H0 H m H' → Ex (hid H0 H Hc) (hid H0 H H') → u D0 σ H') : tIfS tc t u D0 σ Hc :=
  h Hc hid_sub _ fun H' e => by
    cases b with
    | true => rw [if_pos rfl]; exact h1 rfl H' (F.next (.of e) (F.hw.ex e)) (F.mono (.of e))
    | false => rw [if_neg Bool.false_ne_true]; exact h2 rfl H' (F.next (.of e) (F.hw.ex e)) (F.mono (.of e))
end
section
variable {P : Program} {w : World} {K : PySem.W.Frag} {mg : Str → Option Value} {base : Heap} {CK : Addr}
theorem scLMateR : FnScope ["well", "kinds", "rows", "stand", "some", "other", "mate", "passed"] ["well", "kinds", "rows", "stand"] (defScope sLMateR) := ⟨rfl, rfl, rfl, by decide +kernel, rfl, by decide +kernel, by decide +kernel⟩
abbrev spMateR (K : PySem.W.Frag) (CK : Addr) : Sp := spW K CK 3 90000000 (fun ds d => d = .bl true) (fun ds => ∃ rs lv s, ds = [kindsD rs, rowsD rs, s] ∧ Gr rs lv ∧ rs ≠ [] ∧ Stn rs 12 s)
theorem ok_mate (A : Lw K mg) (F : Sts P w K mg base CK) (dAA : Def K mg "are_alike" sAreAlike ["kinds", "stand", "mate"]) : ∀ d : Def K mg "_law_mate_right" sLMateR ["well", "kinds", "rows", "stand"], FnOk P w K mg base CX0 18 d.f d.fd ["well", "kinds", "rows", "stand"] (spMateR K CK) := fun d => by
  have N := F.N
  have T := F.T
  refine d.F.ok scLMateR (fun vs H Q E h => spW_len h) (fun cdv Ar outer s H vs Q E hr h => ?_)
  obtain ⟨W, m, ws, ds, H0, rfl, _, e0, hw0, hw, hr0, ⟨rs, lv, st, rfl, g, hne, hst⟩, q⟩ := h
  obtain ⟨vk, vr, vs, rfl, rk, rr, rs0⟩ := RepL.three hr0
  have hu := hr.units
  have GMo : FnOk P w K mg base CX0 17 A.more.f A.more.fd ["well", "rows", "stand", "many"] (spMore K CK rs 12) := (ok_more (by omega) g.lvl g.kok hne g.ms A.more A.grown A.flat A.built A.draw A.pick N).mono (by omega)
  have GFe : FnOk P w K mg base CX0 17 A.fewer.f A.fewer.fd ["well", "stand"] (spFewer K CK rs 12) := (ok_fewer (by omega) g.lvl g.kok A.fewer A.flat A.built A.draw N).mono (by omega)
  have GMa : FnOk P w K mg base CX0 17 A.marked.f A.marked.fd ["well", "rows", "stand"] (spMarked K CK rs 12) := (ok_marked (by omega) g.lvl g.kok g.ms A.marked A.flat A.built A.draw A.pick N).mono (by omega)
  have GSt : FnOk P w K mg base CX0 17 A.stand.f A.stand.fd ["well", "rows", "many"] (spLStand K CK rs 5) := (ok_stand (by omega) g.lvl g.kok hne g.ms A.stand A.grown A.built A.draw A.pick N).mono (by omega)
  have GD : FnOk P w K mg base CX0 17 A.draw.f A.draw.fd ["well", "many"] spDraw := (ok_draw A.draw N).mono (by omega)
  have GTo : FnOk P w K mg base CX0 17 A.told.f A.told.fd ["records"] (spToldH K CK 4) := (ok_s_told A.told N 4 (by omega)).mono (by omega)
  have GPa : FnOk P w K mg base CX0 17 A.passed.f A.passed.fd ["well", "stand"] (spPassed K CK 4) := (ok_passed A.passed A.mixed A.draw N 4 (by omega)).mono (by omega)
  have GSa : FnOk P w K mg base CX0 17 A.same.f A.same.fd ["found", "due"] (spSame K CK 0) := (ok_same A.same T N 0).mono (by omega)
  have GAA : FnOk P w K mg base CX0 17 dAA.f dAA.fd ["kinds", "stand", "mate"] _ := ok_are_alike dAA F 4
  have kbA : KBinds K dAA.fd ["kinds", "stand", "mate"] ["stand", "mate", "kinds"] p3 p3 := kb3 dAA.F fun _ _ _ _ _ _ _ _ _ => rfl
  refine ⟨_, pss_cons (ps_set (i := 4) scLMateR.nd rfl (.inl rfl) (pe_lst (pa_cons (pe_call GMo hr (by rfl) A.more.m A.more.F.kp A.more.b .nil pass0 (pa_cons (pv 0) (pa_cons (pv 2) (pa_cons (pv 3) (pa_cons (pe_op op_add pe_int (pe_call GD hr (by rfl) A.draw.m A.draw.F.kp A.draw.b .nil pass0 (pa_cons (pv 0) (pa_cons pe_int pa_nil)))) pa_nil)))))
      (pa_cons (pe_call GFe hr (by rfl) A.fewer.m A.fewer.F.kp A.fewer.b .nil pass0 (pa_cons (pv 0) (pa_cons (pv 3) pa_nil))) pa_nil))))
    (pss_cons (ps_expr (pe_bm PySem.F.plainAttrs_list PySem.F.slot_list_extend PySem.F.type_list_extend mt_extend (pv 4) (pa_cons (pe_lst (pa_cons (pe_call GMa hr (by rfl) A.marked.m A.marked.F.kp A.marked.b .nil pass0 (pa_cons (pv 0) (pa_cons (pv 2) (pa_cons (pv 3) pa_nil))))
      (pa_cons (pe_call GSt hr (by rfl) A.stand.m A.stand.F.kp A.stand.b .nil pass0 (pa_cons (pv 0) (pa_cons (pv 2) (pa_cons pe_int pa_nil)))) (pa_cons (pe_op op_catA (pv 3) (pe_slice sl_tupA (pv 3) po_none (po_some pe_int))) pa_nil)))) pa_nil)))
    (pss_cons (ps_for PassesOwn.never rfl (pi_list (pv 4)) (pg_name (i := 5) scLMateR.nd rfl (.inl rfl))
      (pss_cons (ps_set (i := 6) scLMateR.nd rfl (.inl rfl) (pe_call GTo hr (by rfl) A.told.m A.told.F.kp A.told.b .nil pass0 (pa_cons (pv 5) pa_nil)))
      (pss_cons (ps_set (i := 7) scLMateR.nd rfl (.inl rfl) (pe_lst (pa_cons (pe_call GPa hr (by rfl) A.passed.m A.passed.F.kp A.passed.b .nil pass0 (pa_cons (pv 0) (pa_cons (pv 3) pa_nil))) (pa_cons (pe_call GPa hr (by rfl) A.passed.m A.passed.F.kp A.passed.b .nil pass0 (pa_cons (pv 0) (pa_cons (pv 6) pa_nil))) pa_nil))))
      (pss_cons (ps_if (pt_not (pt_val (pe_call GSa hr (by rfl) A.same.m A.same.F.kp A.same.b .nil pass0 (pa_cons (pe_call GAA hr (by rfl) dAA.m dAA.F.kp dAA.b .nil pass0 (pa_cons (pv 1) (pa_cons (pe_ix (r := rIxLT K) ix_lt (pv 7) pe_int (fun _ _ => rfl)) (pa_cons (pe_ix (r := rIxLT K) ix_lt (pv 7) pe_int (fun _ _ => rfl)) pa_nil))))
          (pa_cons (pe_cmpR (op_eqT hu) (pv 6) (pv 3) (nomark _)) pa_nil))))) (pss_one (ps_ret pe_bl)) pss_nil)
      (pss_one (ps_if (pt_not (pt_val (pe_call GSa hr (by rfl) A.same.m A.same.F.kp A.same.b .nil pass0 (pa_cons (pe_callN GAA hr (by rfl) dAA.m dAA.F.kp kbA pass0 (pk_cons (pe_ix (r := rIxLT K) ix_lt (pv 7) pe_int (fun _ _ => rfl)) (pk_cons (pe_ix (r := rIxLT K) ix_lt (pv 7) pe_int (fun _ _ => rfl)) (pk_cons (pv 1) pk_nil))))
          (pa_cons (pe_cmpR (op_eqT hu) (pv 6) (pv 3) (nomark _)) pa_nil))))) (pss_one (ps_ret pe_bl)) pss_nil))))))
    (pss_one (ps_ret pe_bl)))), ?_⟩
  have hkk : 10 * kP 4 + 200 ≤ 90000000 := by decide
  obtain ⟨b, hb⟩ : ∃ b, b = m + 10 * kP 4 := ⟨_, rfl⟩
  have F0 : Fr W H0 H (b + 85) H := .start e0 hw0 (hw.less (by omega))
  have stL : st.isL = true := hst.rt.1
  obtain ⟨xs, rfl, hxs, _⟩ := told_shape (n := 3) (by omega) hst.rt hst.told
  have hx12 : xs.length ≤ 12 := by
    have h1 := size_items hst.rt.h
    have h2 := hst.sz
    have h3 : (xs.length : Int) ≤ sizeH 4 (.tup xs) := h1
    omega
  have ok5 : RtH rs 4 Str.empty (.tup (xs ++ xs.take 1)) := ⟨rfl, by show (xs ++ xs.take 1).length ≤ 20; rw [List.length_append, List.length_take]; omega, fun x hx => by
    have hx2 : x ∈ xs ++ xs.take 1 := hx
    refine hst.rt.2.2 x ?_
    rcases List.mem_append.mp hx2 with h | h
    · exact h
    · exact List.mem_of_mem_take h⟩
  -- some = [.., ..]
  have k0 := rk.ex F0.ex0
  have r0 := rr.ex F0.ex0
  have s0 := rs0.ex F0.ex0
  refine q_lstF (K := K) (CK := CK) (m' := b + 43) F0 (R := fun l => l.length = 2 ∧ ∀ d ∈ l, RtH rs 4 Str.empty d)
    (eal_cons (eww_call (m := b + 44) (k := 40) (n := 3) (i := 0) (R := fun ds d => Stn rs (12 + 2) d) (pre := fun ds => ∃ s many, ds = [rowsD rs, s, .int ((many : Nat) : Int)] ∧ many ≤ 2 ∧ Stn rs 12 s) rfl (eaw_cons (EvD.w (ed_var (i := 2) rfl r0)) (eaw_cons (EvD.w (ed_var (i := 3) rfl s0)) (eaw_cons (ew_1draw (i := 0) (n := 2) rfl (by decide) (by decide)) eaw_nil))) (by
        rintro ds ⟨_, l1, rfl, rfl, _, l2, rfl, rfl, _, l3, rfl, ⟨c, rfl, hc⟩, rfl⟩
        exact ⟨rfl, ⟨_, 1 + c, rfl, by omega, hst⟩, fun d h => h.rt⟩))
    (eal_cons (EvW.imp (ew_call (m := b + 43) (k := 1) (n := 1) (i := 0) (R := fun ds d => Stn rs 12 d) (pre := fun ds => ∃ s, ds = [s] ∧ Stn rs 12 s) (ds := [.tup xs]) rfl (ead_cons (ed_var (i := 3) rfl s0) ead_nil) rfl ⟨_, rfl, hst⟩) fun d h => h.rt) eal_nil)) (fun ds h => by rw [h.1]; decide) fun ds0 L ws0 H1 hds0 hLn F1 up1 hL1 rds0 => ?_
  have k1 := k0.ex up1
  have r1 := r0.ex up1
  have s1 := s0.ex up1
  have len0 : ws0.length = 2 := by rw [rds0.len, hds0.1]
  refine q_extF (K := K) (CK := CK) (m' := b) (i := 4) F1 rfl hLn hL1 (R := fun l => l.length = 3 ∧ ∀ d ∈ l, RtH rs 4 Str.empty d) (ew_lst
    (eal_cons (EvW.imp (ew_call (m := b + 41) (k := 2) (n := 2) (i := 0) (R := fun ds d => Stn rs 12 d) (pre := fun ds => ∃ s, ds = [rowsD rs, s] ∧ Stn rs 12 s) (ds := [rowsD rs, .tup xs]) rfl (ead_cons (ed_var (i := 2) rfl r1) (ead_cons (ed_var (i := 3) rfl s1) ead_nil)) rfl ⟨_, rfl, hst⟩) fun d h => h.rt)
    (eal_cons (EvW.imp (ew_call (m := b) (k := 41) (n := 2) (i := 0) (R := fun ds d => Stn rs 5 d) (pre := fun ds => ds = [rowsD rs, .int ((5 : Nat) : Int)]) (ds := [rowsD rs, .int 5]) rfl (ead_cons (ed_var (i := 2) rfl r1) (ead_cons ed_int ead_nil)) rfl rfl) fun d h => h.rt)
    (eal_cons (eq_d (ed_catT (ed_var (i := 3) rfl s1) (ed_slTake (j := 1) (ed_var (i := 3) rfl s1) ev_c) (by rw [List.length_take]; omega)) ok5) eal_nil))) (fun ds h => by rw [h.1]; decide)) (fun zs h => by rw [h.1, len0]; decide) fun ds1 ws1 H2 hds1 F2 up2 hL2 rds1 => ?_
  have rL : Rep K CK (hid H0 H H2) (.lst (ds0 ++ ds1)) (.ref L) := ⟨L, _, rfl, hid_at hLn hL2, by rw [List.length_append, hds0.1, hds1.1]; decide, RepL.ex (hid_mono cut_sub) (RepL.app (RepL.ex up2 rds0) rds1)⟩
  have hP : ∀ d ∈ ds0 ++ ds1, RtH rs 4 Str.empty d := fun d hd => (List.mem_append.mp hd).elim (hds0.2 d) (hds1.2 d)
  have hlen : (ds0 ++ ds1).length = 5 := by rw [List.length_append, hds0.1, hds1.1]
  generalize ds0 ++ ds1 = ds5 at rL hP hlen
  have toF2 : Ex (hid H0 H (cut L H1)) (hid H0 H H2) := up2.trans (hid_mono cut_sub)
  have k2 := k1.ex toF2
  have s2 := s1.ex toF2
  have hbW : hid H0 H H2 W = none := hid_no hw0 hw.some
  refine q_forI (K := K) (CK := CK) (H0 := hid H0 H H2) (ds := ds5) (ei_list (ed_var (i := 4) rfl rL)) hid_sub (fun B i σ' H' => (∃ a b c, σ' = [some (.ref W), some vk, some vr, some vs, some (.ref L), a, b, c]) ∧
    (∀ p, hid H0 H H2 p = none → (H2 p).isSome = true → B p = none) ∧ Ex B H' ∧ Fr W H0 H (m + 2 * kP 4 * (5 - i)) H' ∧ Ex (hid H0 H H2) (hid H0 H H')) ?_ ?_ ?_ ?_
  · intro H3 e3
    have F3 : Fr W H0 H (m + 2 * kP 4 * (5 - 0)) H3 := F2.next (.of e3) ((F2.hw.ex e3).less (by omega))
    exact ⟨⟨_, _, _, rfl⟩, fun p h1 h2 => hid_no h1 h2, hid_sub, F3, F2.mono (.of e3)⟩
  · rintro B i σ' H' ⟨_, _, h3, _⟩
    exact h3
  · rintro B B' i dk xv σ' Ha Hb _ hx ⟨⟨a, b', c, rfl⟩, bn, bH, Fa, ua⟩ eab bb' b'b bfr rx
    have hi : i < 5 := by rw [← hlen]; exact (List.getElem?_eq_some_iff.mp hx).1
    have hdk := hP dk (List.mem_of_getElem? hx)
    have hmm : m + 2 * kP 4 * (5 - i) = (m + 2 * kP 4 * (5 - (i + 1))) + kP 4 + kP 4 := by
      have : 5 - i = (5 - (i + 1)) + 1 := by omega
      rw [this, Nat.mul_succ]
      omega
    have Fb : Fr W H0 H ((m + 2 * kP 4 * (5 - (i + 1))) + kP 4 + kP 4) Hb := by
      rw [← hmm]
      exact Fa.next (.of eab) (Fa.hw.ex eab)
    have uab := Fa.mono (.of eab)
    have rx2 := rx.ex (Fr.item F2 Fa eab bn b'b bfr)
    have kb := (k2.ex ua).ex uab
    have sb := (s2.ex ua).ex uab
    have bW : B W = none := bn W hbW F2.hw.some
    show tSeq _ _ _ [some (.ref W), some vk, some vr, some vs, some (.ref L), some xv, b', c] Hb
    -- mate
    refine q_setF (K := K) (CK := CK) Fb (EvD.w (ed_call (ds := [dk]) (ead_cons (ed_var (i := 5) rfl rx2) ead_nil) rfl ⟨_, rfl, hdk.h⟩)) fun dM vM H3 hdM F3 up3 rM => ?_
    subst hdM
    have hmt : RtH rs 4 Str.empty (toldH 4 dk) := hdk.told
    have hmtt : toldH 4 (toldH 4 dk) = toldH 4 dk := toldH_told 4 dk (by omega) hdk.h
    replace rM : Rep K CK (hid H0 H H3) (toldH 4 dk) vM := rM
    have k3 := kb.ex up3
    have s3 := sb.ex up3
    -- passed
    refine q_setF (K := K) (CK := CK) (m' := m + 2 * kP 4 * (5 - (i + 1))) F3 (ew_lst (eaw_cons (ew_call (m := (m + 2 * kP 4 * (5 - (i + 1))) + kP 4) (k := kP 4) (n := 1) (i := 0) (R := fun ds d => Pas 4 (ds.getD 0 .non) d) (pre := fun ds => ∃ s, ds = [s] ∧ isH 4 s ∧ few 4 s) (ds := [.tup xs]) rfl (ead_cons (ed_var (i := 3) rfl s3) ead_nil) rfl ⟨_, rfl, hst.rt.h, hst.rt.few⟩)
      (eaw_cons (ew_call (m := m + 2 * kP 4 * (5 - (i + 1))) (k := kP 4) (n := 1) (i := 0) (R := fun ds d => Pas 4 (ds.getD 0 .non) d) (pre := fun ds => ∃ s, ds = [s] ∧ isH 4 s ∧ few 4 s) (ds := [toldH 4 dk]) rfl (ead_cons (ed_var (i := 6) rfl rM) ead_nil) rfl ⟨_, rfl, hmt.h, hmt.few⟩) eaw_nil)) (by
        rintro l ⟨_, _, rfl, _, _, _, rfl, _, rfl⟩
        show (2 : Nat) ≤ 30000
        decide)) fun dP vP H4 hdP F4 up4 rP => ?_
    obtain ⟨l, rfl, p0, l1, rfl, hp0, p1, l2, rfl, hp1, rfl⟩ := hdP
    replace hp0 : Pas 4 (.tup xs) p0 := hp0
    replace hp1 : Pas 4 (toldH 4 dk) p1 := hp1
    have k4 := k3.ex up4
    have s4 := s3.ex up4
    have m4 := rM.ex up4
    have right0 : Right rs 4 p0 := (hst.rt.pas hp0).right g.kok (by omega)
    have right1 : Right rs 4 p1 := (hmt.pas hp1).right g.kok (by omega)
    have b1 : eqTold 4 p0 p1 = eqTold 4 dk (.tup xs) := by
      rw [Bool.eq_iff_iff, eqTold_iff right0.h right1.h, eqTold_iff hdk.h hst.rt.h, hp0.2, hp1.2, hmtt]
      exact eq_comm
    have b2 : eqTold 4 p1 p0 = eqTold 4 dk (.tup xs) := by
      rw [Bool.eq_iff_iff, eqTold_iff right1.h right0.h, eqTold_iff hdk.h hst.rt.h, hp0.2, hp1.2, hmtt]
    refine q_ifF (P := fun z => z = false) F4 (etw_of (et_is (et_not (et_B (EvD.b (ed_callX (d := .bl true) (ds := [.bl (eqTold 4 dk (.tup xs)), .bl (eqTold 4 dk (.tup xs))]) (ead_cons (ed_callX (ds := [kindsD rs, p0, p1]) (ead_cons (ed_var (i := 1) rfl k4) (ead_cons (ed_ix (j := 0) (ed_var (i := 7) rfl rP) ev_c rfl rfl) (ead_cons (ed_ix (j := 1) (ed_var (i := 7) rfl rP) ev_c rfl rfl) ead_nil))) rfl ⟨rs, p0, p1, rfl, right0, right1, by rw [b1]⟩)
        (ead_cons (ed_ofB (ev_eqTold (n := 4) (by omega) (ed_var (i := 6) rfl m4) (ed_var (i := 3) rfl s4) rfl hst.told.symm hdk.h hst.rt.h)) ead_nil)) rfl ⟨_, rfl, rfl, rfl, rfl⟩)))) rfl)) (fun h => by cases h) fun _ H5 F5 up5 => ?_
    have k5 := k4.ex up5
    have s5 := s4.ex up5
    have m5 := m4.ex up5
    have P5 := rP.ex up5
    refine s_ifF (b := false) F5 (et_is (et_not (et_B (EvD.b (ed_callX (d := .bl true) (ds := [.bl (eqTold 4 dk (.tup xs)), .bl (eqTold 4 dk (.tup xs))]) (ead_cons (ed_callN3 (x := p1) (y := p0) (z := kindsD rs) (ead_cons (ed_ix (j := 1) (ed_var (i := 7) rfl P5) ev_c rfl rfl) (ead_cons (ed_ix (j := 0) (ed_var (i := 7) rfl P5) ev_c rfl rfl) (ead_cons (ed_var (i := 1) rfl k5) ead_nil))) ⟨rs, p1, p0, rfl, right1, right0, by rw [b2]⟩)
        (ead_cons (ed_ofB (ev_eqTold (n := 4) (by omega) (ed_var (i := 6) rfl m5) (ed_var (i := 3) rfl s5) rfl hst.told.symm hdk.h hst.rt.h)) ead_nil)) rfl ⟨_, rfl, rfl, rfl, rfl⟩)))) rfl) (fun h => by cases h) fun _ H6 F6 up6 => ?_
    have uall : Ex (hid H0 H Hb) (hid H0 H H6) := ((up3.trans up4).trans up5).trans up6
    exact ⟨⟨_, _, _, rfl⟩, bn, Fr.stay Fb F6 uall (bb'.trans b'b) bW, F6, (ua.trans uab).trans uall⟩
  · rintro B σ' H' _ ⟨⟨a, b', c, rfl⟩, bn, bH, Fa, ua⟩
    exact s_retF (K := K) (CK := CK) (m' := m) Fa (EvD.wl ed_b (by omega)) fun d v H8 hd eW8 hw8 r8 => q d v H8 hd eW8 hw8 r8
end
end Any
set_option Elab.async false
set_option linter.all false
set_option maxRecDepth 100000
set_option maxHeartbeats 4000000
/-! repr of data, dicts among them -/
namespace Any
open PySem PySem.Spec PyProof.Rows L2 Evl StX
def kpd : Key → PyData
  | .inl i => .int i
  | .inr x => .str x
mutual
def D.pd : D → PyData
  | .non => .none
  | .bl b => .bool b
  | .int i => .int i
  | .str x => .str x
  | .lst xs => .list (pdL xs)
  | .tup xs => .tuple (pdL xs)
  | .dct kvs => .dict (pdK kvs)
  | .obj _ => .none
def pdL : List D → List PyData
  | [] => []
  | x :: xs => x.pd :: pdL xs
def pdK : List (Key × D) → List (PyData × PyData)
  | [] => []
  | (k, x) :: xs => (kpd k, x.pd) :: pdK xs
end
mutual
/-- no instance in it -/
def D.noI : D → Bool
  | .lst xs => noIL xs
  | .tup xs => noIL xs
  | .dct kvs => noIK kvs
  | .obj _ => false
  | _ => true
def noIL : List D → Bool
  | [] => true
  | x :: xs => x.noI && noIL xs
def noIK : List (Key × D) → Bool
  | [] => true
  | (_, x) :: xs => x.noI && noIK xs
end
theorem pdK_fst : ∀ kvs : List (Key × D), (pdK kvs).map (·.1) = kvs.map fun kv => kpd kv.1
  | [] => rfl
  | (k, x) :: kvs => by rw [pdK, List.map_cons, List.map_cons, pdK_fst kvs]
theorem pdK_snd : ∀ kvs : List (Key × D), (pdK kvs).map (·.2) = kvs.map fun kv => kv.2.pd
  | [] => rfl
  | (k, x) :: kvs => by rw [pdK, List.map_cons, List.map_cons, pdK_snd kvs]
section
variable {X : Cx} {CK : Addr} {pins : List (Addr × Obj)} {σ : L2.St} {H : Hp} {s : Shared}
theorem keys_read {h : Heap} {P : Program} {w : World} : ∀ {es : List DictEntry} {kvs : List (Key × Value)}, Pairs (mixKind P w) es kvs → ReadsAll h (es.map (·.key)) (kvs.map fun kv => kpd kv.1) []
  | _, _, .nil => .nil
  | _, _, .cons (e := e) (kv := kv) h1 _ h3 => by
    have r := keys_read (h := h) h3
    rw [List.map_cons, List.map_cons]
    have h0 : Reads h e.key (kpd kv.1) [] := by
      rcases keyIs_shape (show keyIs kv.1 e.key = true from h1) with ⟨i, t, e1, e2⟩ | ⟨x, t, e1, e2⟩
      · rw [e1, e2]; exact .int i t
      · rw [e1, e2]; exact .str x t
    exact ReadsAll.cons (as := []) (bs := []) h0 r
theorem vals_same {P : Program} {w : World} : ∀ {es : List DictEntry} {kvs : List (Key × Value)}, Pairs (mixKind P w) es kvs → es.map (·.val) = kvs.map (·.2)
  | _, _, .nil => rfl
  | _, _, .cons _ h2 h3 => by rw [List.map_cons, List.map_cons, h2, vals_same h3]
mutual
theorem Rep.reads (I : Inv X pins σ H s) (hS : H sysModules = none) : ∀ (d : D) (v : V) (u : Value), Rep X.K CK H d v → d.noI = true → RelV v u → ∃ as, Reads s.heap u d.pd as ∧ sysModules ∉ as
  | .non, _, u, h, _, r => by
    rw [show _ = V.non from h] at r
    obtain rfl : u = Value.none := r
    exact ⟨[], .none, by simp⟩
  | .bl b, _, u, h, _, r => by
    rw [show _ = V.bl b from h] at r
    obtain rfl : u = Value.bool b := r
    exact ⟨[], .bool b, by simp⟩
  | .int i, _, u, h, _, r => by
    rw [show _ = V.int i from h] at r
    obtain ⟨t, rfl⟩ : ∃ t, u = Value.int i t := r
    exact ⟨[], .int i t, by simp⟩
  | .str x, _, u, h, _, r => by
    rw [show _ = V.str x from h.1] at r
    obtain ⟨t, rfl⟩ : ∃ t, u = Value.str x t := r
    exact ⟨[], .str x t, by simp⟩
  | .lst xs, _, u, ⟨a, vs, h1, ha, _, h3⟩, hn, r => by
    subst h1
    obtain rfl : u = Value.ref a := r
    obtain ⟨_, its, n, rv, e⟩ := I.hok a _ ha
    obtain ⟨as, h4, h5⟩ := RepL.reads I hS xs vs its h3 hn rv
    refine ⟨a :: as, .list e rfl rfl h4, fun z => ?_⟩
    rcases List.mem_cons.mp z with z | z
    · rw [← z, hS] at ha; cases ha
    · exact h5 z
  | .tup xs, _, u, ⟨a, vs, h1, ha, _, h3⟩, hn, r => by
    subst h1
    obtain rfl : u = Value.ref a := r
    obtain ⟨_, its, rv, ob, e, c, n, dt⟩ := I.hok a _ ha
    obtain ⟨as, h4, h5⟩ := RepL.reads I hS xs vs its h3 hn rv
    exact ⟨as, .tuple e c dt h4, h5⟩
  | .dct kvs, _, u, ⟨a, es, h1, ha, h3⟩, hn, r => by
    subst h1
    obtain rfl : u = Value.ref a := r
    obtain ⟨_, hs, vs, kv, ob, ens, ep, e, ex, dt, _, pr, _⟩ := I.hok a _ ha
    obtain ⟨bs, h4, h5⟩ := RepK.reads I hS kvs es vs h3 hn kv
    have hk : es.map (·.1) = kvs.map (·.1) := h3.keys
    have hk2 : vs.map (·.1) = es.map (·.1) := by
      have : ∀ {l1 : List (Key × V)} {l2 : List (Key × Value)}, KV l1 l2 → l2.map (·.1) = l1.map (·.1) := fun {l1 l2} z => by
        induction z with
        | nil => rfl
        | cons h _ ih => rw [List.map_cons, List.map_cons, ih, h.1]
      exact this kv
    have hkp : (vs.map fun kv => kpd kv.1) = kvs.map fun kv => kpd kv.1 := by
      have := congrArg (List.map kpd) (hk2.trans hk)
      rw [List.map_map, List.map_map] at this
      exact this
    have r1 := keys_read (h := s.heap) pr
    rw [hkp, ← pdK_fst] at r1
    rw [← vals_same pr, ← pdK_snd] at h4
    refine ⟨a :: [] ++ bs, .dict e ex.1 dt r1 h4, fun z => ?_⟩
    rcases List.mem_cons.mp z with z | z
    · rw [← z] at hs; simp at hs
    · exact h5 z
  | .obj _, _, _, _, hn, _ => by cases hn
theorem RepL.reads (I : Inv X pins σ H s) (hS : H sysModules = none) : ∀ (ds : List D) (vs : List V) (us : List Value), RepL X.K CK H ds vs → noIL ds = true → Vals vs us → ∃ as, ReadsAll s.heap us (pdL ds) as ∧ sysModules ∉ as
  | [], _, us, h, _, r => by
    rw [show _ = [] from h] at r
    cases r
    exact ⟨[], .nil, by simp⟩
  | d :: ds, _, us, ⟨v, vs, h1, h2, h3⟩, hn, r => by
    subst h1
    have hn' := Bool.and_eq_true_iff.mp hn
    cases r with
    | cons r1 r2 =>
      obtain ⟨as, k1, k2⟩ := Rep.reads I hS d v _ h2 hn'.1 r1
      obtain ⟨bs, k3, k4⟩ := RepL.reads I hS ds vs _ h3 hn'.2 r2
      exact ⟨as ++ bs, .cons k1 k3, fun z => (List.mem_append.mp z).elim k2 k4⟩
theorem RepK.reads (I : Inv X pins σ H s) (hS : H sysModules = none) : ∀ (kvs : List (Key × D)) (es : List (Key × V)) (vs : List (Key × Value)), RepK X.K CK H kvs es → noIK kvs = true → KV es vs → ∃ as, ReadsAll s.heap (vs.map (·.2)) (kvs.map fun kv => kv.2.pd) as ∧ sysModules ∉ as
  | [], _, vs, h, _, r => by
    rw [show _ = [] from h] at r
    cases r
    exact ⟨[], .nil, by simp⟩
  | (k, d) :: kvs, _, vs, ⟨v, es, h1, h2, h3⟩, hn, r => by
    subst h1
    have hn' := Bool.and_eq_true_iff.mp hn
    cases r with
    | cons r1 r2 =>
      obtain ⟨as, k1, k2⟩ := Rep.reads I hS d v _ h2 hn'.1 r1.2
      obtain ⟨bs, k3, k4⟩ := RepK.reads I hS kvs es _ h3 hn'.2 r2
      exact ⟨as ++ bs, .cons k1 k3, fun z => (List.mem_append.mp z).elim k2 k4⟩
end
end
end Any
set_option Elab.async false
set_option linter.all false
set_option maxRecDepth 100000
set_option maxHeartbeats 4000000
/-! defs that ask repr: no object is being shown, sys.modules stands apart -/
namespace Any
open PySem PySem.Spec PyProof.Rows L2 Evl StX
/-- sys.modules stands, and is not tracked -/
def NoS (s : Shared) (H : Hp) : Prop := (∃ o, s.heap.get? sysModules = some o) ∧ H sysModules = none
structure FnG (P : Program) (w : World) (K : PySem.W.Frag) (mg : Str → Option Value) (base : Heap) (k : Nat) (f : Addr) (fd : FuncData) (ps : List Str) (sp : Sp) : Prop where
  len : ∀ vs H Q E, sp vs H Q E → vs.length = ps.length
  run : ∀ (A : Around) (outer : List Env) (s : Shared) (H : Hp) (args : Args) (us : List Value) (vs : List V) (Q : VK) (E : XK), A.guards = some [] → NoS s H → Room k A → Env0 P w K mg base A outer s H → BindsTo s fd args (ps.zip us) → Vals vs us →
    sp vs H Q E → codeAny (model P w) A (.call (.ref f) args) (CR CX0 outer P w H s Q E) s
section
variable {P : Program} {w : World} {K : PySem.W.Frag} {mg : Str → Option Value} {base : Heap}
theorem okG {x qual : Str} {st : Stmt} {f : Addr} {fd : FuncData} {N ps : List Str} {k : Nat} {sp : Sp} (F : Fun K x qual st f fd) (S : FnScope N ps (defScope st)) (len : ∀ vs H Q E, sp vs H Q E → vs.length = ps.length)
    (hbody : ∀ (cdv : Value) (A : Around) (outer : List Env) (s : Shared) (H : Hp) (vs : List V) (Q : VK) (E : XK), A.guards = some [] → NoS s H → Room k (A.deeper (envOfC qual (defScope st) s.heap.objs.size f cdv)) → sp vs H Q E →
      ∃ t, PSs (cxOf CX0 P w K mg base N qual (defScope st) f cdv A outer s H E).nox (defBody st) t ∧ t { nx := fun _ H' => Q .non H', rt := Q } (start N vs) H) : FnG P w K mg base (k + 1) f fd ps sp := by
  obtain ⟨oc, od, kV, doc, pm, an, cdv, ct, osl, rfl, lk, hcd⟩ := F.ex
  refine ⟨len, fun A0 out s0 H0 ar us0 vs0 Q0 E1 hA hNo hr e1 hbind rv hs0 => ?_⟩
  have hlen := len _ _ _ _ hs0
  have KX := e1.mod.kin.keeps fun b o e => (e1.bs b o e).1
  have lim := e1.mod.nolimit.keeps fun b o e => (e1.bs b o e).1
  have hkinds : ∀ y ∈ ps.zip us0, (defScope st).names.lookup y.1 = some .local ∨ ((defScope st).names.lookup y.1 = some .cell ∧ ((cellsFrom (s0.heap.objs.size + 1) (defScope st).names []).lookup y.1).isSome = true) := by
    rintro ⟨n, v⟩ hy
    exact (S.par n (List.of_mem_zip hy).1).imp id fun z => ⟨z, PySem.W.cellsFrom_some _ _ _ (.inl z)⟩
  refine codeAny_call_function hr.depth (KX _ _ lk) rfl S.co S.gen rfl (PySem.W.codeRec_of KX hcd) (hbind _ _ _ _ (wpAny_newFunctionEnv_cells S.kind hkinds fun env he s1 ic => ?_))
  subst he
  refine ⟨lim.keeps ic.toInCall.keep, codeAny_func ?_⟩
  obtain ⟨t, ht0, ht⟩ := hbody cdv A0 out s0 H0 vs0 Q0 E1 hA hNo (hr.deeper _) hs0
  have J0 := inv_start (CX := CX0) (E := E1) (f := f) (cd := cdv) (qual := qual) S hr.hd e1 hlen rv ic
  refine wpAny_mono (ht0.nox.run [] s1 (start N vs0) H0 _ J0 ht) (fun fl s2 hq => ?_) fun _ _ hq => hq
  cases fl with
  | next =>
    obtain ⟨σ2, H2, J, hq2⟩ := hq
    exact ⟨V.non, H2, J.os, J.bare, J.base, J.hok, rfl, hq2⟩
  | ret u =>
    obtain ⟨v2, σ2, H2, J, ru, hq2⟩ := hq
    exact ⟨v2, H2, J.os, J.bare, J.base, J.hok, ru, hq2⟩
  | brk => exact (hq.choose_spec.choose_spec.2).elim
  | cont => exact (hq.choose_spec.choose_spec.2).elim
end
section
variable {X : Cx} {k : Nat} {f : Addr} {fd : FuncData} {ps : List Str} {sp : Sp} {E : XK} {x : Str} {p pos : Pos} {e : Expr} {es : List Expr} {t : TA} {CK : Addr}
/-- sys.modules stays apart -/
theorem NoS.now {pins : List (Addr × Obj)} {σ : L2.St} {H : Hp} {s : Shared} (h : NoS X.s_0 X.H_0) (hex : sysModules ∉ X.ex) (I : Inv X pins σ H s) : NoS s H := by
  obtain ⟨⟨o, ho⟩, hn⟩ := h
  exact ⟨I.base.there _ o ho hex, I.base.free _ o ho hn hex⟩
theorem pe_callG (F : FnG X.prog X.w X.K X.mg X.base k f fd ps sp) (hA : X.A.guards = some []) (hNo : NoS X.s_0 X.H_0) (hex : sysModules ∉ X.ex) (hr : Room k X.A) (hg : Gl X x) (hm : X.mg x = some (.ref f)) (hk : PySem.W.keepIn X.K (.ref f) = true) (hb : Binds X.K fd ps []) (hx : Passes CX0 X E)
    (ha : PA X (e :: es) t) (hdb : (x == ("__debug__" : Str)) = false := by decide) (he : starEach (e :: es) X.env = (false, eval e X.env) :: starEach es X.env := by rfl) (hpl : (backTo pos (starEach es X.env)).any (·.1) = false := by rfl) :
    PE X (.Call (.Name x p) (e :: es) [] pos) (tCall sp [] E t) := by
  refine ⟨fun pins s σ H Q I h => wpAny_Call_Name_kw (ld_glob I hg hm ?_ hdb)⟩
  refine PySem.W.callWith_K (h₀ := X.base) I.ok.mod.kin hk (thn (ha.run pos pins s σ H _ I h) fun us s1 ⟨vs, H1, I1, rv, hq⟩ => ⟨I1.kIn, ?_⟩) he hpl
  have hq2 : sp (vs ++ []) H1 Q E := hq
  rw [List.append_nil] at hq2
  have hl : (us ++ []).length = ps.length := by
    rw [List.append_nil, ← rv.length]
    exact F.len _ _ _ _ hq2
  refine wpAny_call (codeAny_mono (F.run X.A X.stack s1 H1 ⟨us, []⟩ us vs Q E hA (hNo.now hex I1) hr I1.env0 (by have := hb s1 us I1.kIn hl; rwa [List.append_nil] at this) rv hq2) fun r s2 hz => ?_)
  cases r with
  | ok fl =>
    cases fl with
    | ret u => exact I1.after hz
    | _ => exact False.elim hz
  | error er => exact hx pins σ H1 s1 er s2 I1 hz
/-- repr of data -/
def rRepr (K : PySem.W.Frag) (CK : Addr) : List V → Hp → VK → Prop := fun vs H Q => ∃ v d, vs = [v] ∧ Rep K CK H d v ∧ d.noI = true ∧ d.pd.showable = true ∧ d.pd.depth ≤ 60 ∧ d.pd.shown.length ≤ 16000000 ∧ Q (.str d.pd.shown) H
theorem cr_repr (hA : X.A.guards = some []) (hNo : NoS X.s_0 X.H_0) (hex : sysModules ∉ X.ex) (hu : X.A.units + 64 < cLine) : CallR X (.builtin "repr") (rRepr X.K CK) := by
  intro pins s σ H vs us Q I rv ⟨v, d, hv, rd, hn, hs, hd, hl, q⟩
  subst hv
  have hS := (hNo.now hex I).2
  have hz : d.pd.shown.length ≤ sizeLine := Nat.le_trans hl (by rw [sizeLine_eq]; decide)
  obtain ⟨u, rfl, ru⟩ : ∃ u, us = [u] ∧ RelV v u := by
    cases rv with
    | cons h1 h2 =>
      cases h2
      exact ⟨_, rfl, h1⟩
  have leaf : ∀ {t : Nat} {z : Str}, z = d.pd.shown → EP X pins σ Q (.str z t) { s with toks := s.toks + 1 } := fun {t z} e => ⟨.str z, H, I.tok _, ⟨_, rfl⟩, by rw [e]; exact q⟩
  obtain ⟨as, r, hno⟩ := Rep.reads I hS d v u rd hn ru
  have big : ∀ a, u = .ref a → wpAny (model X.prog X.w) X.A (call (.builtin "repr") [u]) (EP X pins σ Q) X.xe s := fun a e => by
    subst e
    exact repr_of_reads' r hs (fun _ => hno) hA (by omega) (fun _ _ z => z) (fun h' tu tk hk => ⟨.str d.pd.shown, H, I.kept hk, ⟨_, rfl⟩, q⟩) hz
  cases d with
  | non =>
    rw [show _ = V.non from rd] at ru
    obtain rfl : u = Value.none := ru
    exact PySem.P.repr_of_none (leaf (by rw [D.pd, PyData.shown]))
  | bl b =>
    rw [show _ = V.bl b from rd] at ru
    obtain rfl : u = Value.bool b := ru
    exact PySem.P.repr_of_bool (leaf (by rw [D.pd, PyData.shown]))
  | int i =>
    rw [show _ = V.int i from rd] at ru
    obtain ⟨t, rfl⟩ : ∃ t, u = Value.int i t := ru
    exact PySem.P.repr_of_int (by simpa [D.pd, PyData.showable] using hs) (leaf (by rw [D.pd, PyData.shown]))
  | str y =>
    rw [show _ = V.str y from rd.1] at ru
    obtain ⟨t, rfl⟩ : ∃ t, u = Value.str y t := ru
    exact PySem.P.repr_of_str (leaf (by rw [D.pd, PyData.shown])) (hsz := by simpa [D.pd, PyData.shown] using hz)
  | lst xs =>
    obtain ⟨a, _, rfl, _⟩ := rd
    exact big a ru
  | tup xs =>
    obtain ⟨a, _, rfl, _⟩ := rd
    exact big a ru
  | dct xs =>
    obtain ⟨a, _, rfl, _⟩ := rd
    exact big a ru
  | obj xs => cases hn
end
end Any
set_option Elab.async false
set_option linter.all false
set_option maxRecDepth 100000
set_option maxHeartbeats 4000000
namespace Any
open PySem PySem.Spec PyProof.Rows L2 Evl StX
theorem textFrom_le : ∀ (ts : List Str) (k : Nat) (acc : Str), (textFrom k acc ts).length ≤ acc.length + (ts.map fun t => t.length + 2).sum
  | [], k, acc => by show acc.length ≤ acc.length + 0; omega
  | t :: r, k, acc => by
    have ih := textFrom_le r (k + 1) (acc ++ (if k > 0 then ", " else "" : String) ++ t)
    have hs : (((if k > 0 then ", " else "" : String) : Str)).length ≤ 2 := by split <;> decide
    rw [strLen_append, strLen_append] at ih
    rw [textFrom, List.map_cons, List.sum_cons]
    omega
theorem join_le (ts : List Str) : (Str.join ", " ts).length ≤ (ts.map fun t => t.length + 2).sum := by
  have h := StrLaws.join_length_le ", " ts
  have h2 : ((", " : String) : Str).length = 2 := rfl
  rw [h2] at h
  have e : ∀ l : List Str, (l.map (·.length)).sum + l.length * 2 = (l.map fun t => t.length + 2).sum := fun l => by
    induction l with
    | nil => rfl
    | cons x l ih => simp only [List.map_cons, List.sum_cons, List.length_cons]; omega
  rw [← e]
  exact h
theorem listText_le (ts : List Str) : (listText ts).length ≤ 2 + (ts.map fun t => t.length + 2).sum := by
  have h := textFrom_le ts 0 "["
  have e : (listText ts).length = (textFrom 0 "[" ts).length + 1 := by
    unfold listText
    rw [strLen_append]
    rfl
  have h1 : (("[" : String) : Str).length = 1 := rfl
  omega
theorem tupleText_le (ts : List Str) : (tupleText ts).length ≤ 3 + (ts.map fun t => t.length + 2).sum := by
  have h := join_le ts
  unfold tupleText
  rw [strLen_append, strLen_append]
  have h1 : (("(" : String) : Str).length = 1 := rfl
  have h2 : (((if ts.length == 1 then ",)" else ")" : String) : Str)).length ≤ 2 := by split <;> decide
  omega
theorem dictText_le (ts : List Str) : (dictText ts).length ≤ 2 + (ts.map fun t => t.length + 2).sum := by
  have h := join_le ts
  unfold dictText
  rw [strLen_append, strLen_append]
  have h1 : (("{" : String) : Str).length = 1 := rfl
  have h2 : (("}" : String) : Str).length = 1 := rfl
  omega
theorem shownL_le : ∀ {xs : List D}, (∀ x ∈ xs, x.pd.shown.length ≤ wt x) → ((PyData.shownAll (pdL xs)).map fun t => t.length + 2).sum ≤ wtL xs
  | [], _ => Nat.le_refl _
  | x :: xs, h => by
    have h1 := h x List.mem_cons_self
    have h2 := shownL_le fun y hy => h y (List.mem_cons_of_mem _ hy)
    rw [pdL, PyData.shownAll, List.map_cons, List.sum_cons, wtL]
    omega
theorem okS_show {x : Str} (h : okS x) : (reprText x).length ≤ 102 := by
  have := StrLaws.reprText_len x h.2
  have := h.1
  omega
theorem small_int {i : Int} (h0 : 0 ≤ i) (h1 : i ≤ 10) : (PyData.int i).showable = true ∧ (PyData.int i).shown.length ≤ 10 := by
  have : i = 0 ∨ i = 1 ∨ i = 2 ∨ i = 3 ∨ i = 4 ∨ i = 5 ∨ i = 6 ∨ i = 7 ∨ i = 8 ∨ i = 9 ∨ i = 10 := by omega
  rcases this with rfl | rfl | rfl | rfl | rfl | rfl | rfl | rfl | rfl | rfl | rfl <;> exact ⟨by decide +kernel, by decide +kernel⟩
theorem okK_show {k : Key} (h : okK k) : (kpd k).showable = true ∧ (kpd k).shown.length ≤ 102 ∧ (kpd k).depth = 0 := by
  cases k with
  | inl i =>
    have := small_int h.1 h.2
    exact ⟨this.1, Nat.le_trans this.2 (by decide), by rw [kpd, PyData.depth]⟩
  | inr x =>
    refine ⟨by rw [kpd, PyData.showable], ?_, by rw [kpd, PyData.depth]⟩
    rw [kpd, PyData.shown]
    exact okS_show h
theorem shownK_le : ∀ {kvs : List (Key × D)}, (∀ kv ∈ kvs, okK kv.1 ∧ kv.2.pd.shown.length ≤ wt kv.2) → ((PyData.shownKv (pdK kvs)).map fun t => t.length + 2).sum ≤ wtK kvs
  | [], _ => Nat.le_refl _
  | (k, x) :: xs, h => by
    have h1 := h (k, x) List.mem_cons_self
    have h2 := shownK_le fun y hy => h y (List.mem_cons_of_mem _ hy)
    have h3 := (okK_show h1.1).2.1
    have h4 := h1.2
    rw [pdK, PyData.shownKv, List.map_cons, List.sum_cons, wtK, strLen_append, strLen_append]
    have h5 : ((": " : String) : Str).length = 2 := rfl
    dsimp only at h3 h4
    omega
structure Shw (n : Nat) (d : D) : Prop where
  i : d.noI = true
  s : d.pd.showable = true
  l : d.pd.shown.length ≤ wt d
  d : d.pd.depth ≤ n
theorem shwL {n : Nat} : ∀ {xs : List D}, (∀ x ∈ xs, Shw n x) → noIL xs = true ∧ PyData.showableAll (pdL xs) = true ∧ PyData.depthAll (pdL xs) ≤ n
  | [], _ => ⟨rfl, by rw [pdL, PyData.showableAll], by rw [pdL, PyData.depthAll]; exact Nat.zero_le _⟩
  | x :: xs, h => by
    have h1 := h x List.mem_cons_self
    obtain ⟨h2, h3, h4⟩ := shwL fun y hy => h y (List.mem_cons_of_mem _ hy)
    refine ⟨by rw [noIL, h1.i, h2]; rfl, by rw [pdL, PyData.showableAll, h1.s, h3]; rfl, ?_⟩
    rw [pdL, PyData.depthAll]
    exact Nat.max_le.mpr ⟨h1.d, h4⟩
theorem shwK {n : Nat} : ∀ {kvs : List (Key × D)}, (∀ kv ∈ kvs, okK kv.1 ∧ Shw n kv.2) → noIK kvs = true ∧ PyData.showableKv (pdK kvs) = true ∧ PyData.depthKv (pdK kvs) ≤ n
  | [], _ => ⟨rfl, by rw [pdK, PyData.showableKv], by rw [pdK, PyData.depthKv]; exact Nat.zero_le _⟩
  | (k, x) :: xs, h => by
    have h1 := h (k, x) List.mem_cons_self
    have hk := okK_show h1.1
    obtain ⟨h2, h3, h4⟩ := shwK fun y hy => h y (List.mem_cons_of_mem _ hy)
    refine ⟨by rw [noIK, h1.2.i, h2]; rfl, by rw [pdK, PyData.showableKv, hk.1, h1.2.s, h3]; rfl, ?_⟩
    rw [pdK, PyData.depthKv]
    have h5 := h1.2.d
    dsimp only at h5 hk
    rw [hk.2.2]
    exact Nat.max_le.mpr ⟨Nat.max_le.mpr ⟨Nat.zero_le _, h5⟩, h4⟩
theorem shwA {n : Nat} {d : D} (h : okA d) : Shw n d := by
  cases d with
  | non => exact ⟨rfl, by rw [D.pd, PyData.showable], by rw [D.pd, PyData.shown]; show (4 : Nat) ≤ 10; decide, by rw [D.pd, PyData.depth]; exact Nat.zero_le _⟩
  | bl b => exact ⟨rfl, by rw [D.pd, PyData.showable], by rw [D.pd, PyData.shown]; cases b <;> decide, by rw [D.pd, PyData.depth]; exact Nat.zero_le _⟩
  | int i =>
    have := small_int h.1 h.2
    exact ⟨rfl, this.1, this.2, by rw [D.pd, PyData.depth]; exact Nat.zero_le _⟩
  | str x =>
    refine ⟨rfl, by rw [D.pd, PyData.showable], ?_, by rw [D.pd, PyData.depth]; exact Nat.zero_le _⟩
    rw [D.pd, PyData.shown]
    exact Nat.le_trans (okS_show h) (by show (102 : Nat) ≤ 110; decide)
  | _ => exact h.elim
theorem okD_show : ∀ {n : Nat} {d : D}, okD n d → Shw n d
  | 0, d, h => shwA h
  | n + 1, d, h => by
    rcases h with h | ⟨hL, _, hx⟩ | ⟨kvs, rfl, _, _, hx⟩
    · exact shwA h
    · have hS : ∀ x ∈ d.items, Shw n x := fun x h => okD_show (hx x h)
      obtain ⟨h1, h2, h3⟩ := shwL hS
      have h4 := shownL_le fun x h => (hS x h).l
      cases d with
      | lst xs =>
        refine ⟨h1, by rw [D.pd, PyData.showable]; exact h2, ?_, by rw [D.pd, PyData.depth]; exact Nat.succ_le_succ h3⟩
        have := listText_le (PyData.shownAll (pdL xs))
        rw [D.pd, PyData.shown, wt]
        have h5 : ((PyData.shownAll (pdL xs)).map fun t => t.length + 2).sum ≤ wtL xs := h4
        omega
      | tup xs =>
        refine ⟨h1, by rw [D.pd, PyData.showable]; exact h2, ?_, by rw [D.pd, PyData.depth]; exact Nat.succ_le_succ h3⟩
        have := tupleText_le (PyData.shownAll (pdL xs))
        rw [D.pd, PyData.shown, wt]
        have h5 : ((PyData.shownAll (pdL xs)).map fun t => t.length + 2).sum ≤ wtL xs := h4
        omega
      | _ => cases hL
    · have hS : ∀ kv ∈ kvs, okK kv.1 ∧ Shw n kv.2 := fun kv h => ⟨(hx kv h).1, okD_show (hx kv h).2⟩
      obtain ⟨h1, h2, h3⟩ := shwK hS
      have h4 := shownK_le fun kv h => ⟨(hS kv h).1, (hS kv h).2.l⟩
      refine ⟨h1, by rw [D.pd, PyData.showable]; exact h2, ?_, by rw [D.pd, PyData.depth]; exact Nat.succ_le_succ h3⟩
      have := dictText_le (PyData.shownKv (pdK kvs))
      rw [D.pd, PyData.shown, wt]
      omega
section
variable {K : PySem.W.Frag} {CK : Addr} {H : Hp} {σ : L2.St}
theorem ev_repr {ta : TE} {d : D} {n : Nat} (h : EvD K CK ta σ H d) (s : Shw n d) (hn : n ≤ 60) (hw : wt d ≤ 16000000) : Ev (tCB (rRepr K CK) (tCons ta tNil)) σ H (.str d.pd.shown) := fun H1 e Q q =>
  h H1 e _ fun v H2 e2 r => ⟨v, d, rfl, r.ex hid_sub, s.i, s.s, Nat.le_trans s.d hn, Nat.le_trans s.l hw, q H2 e2⟩
/-- [d] * k -/
theorem ed_rep {ta : TE} {d : D} {k : Nat} (h : EvD K CK ta σ H d) (hk : k ≤ 100) : EvD K CK (tOp rRep (tLst (tCons ta tNil)) (tC (.int (k : Nat)))) σ H (.lst (List.replicate k d)) := fun H1 e Q q =>
  (ed_lst (ead_cons h ead_nil) (by show (1 : Nat) ≤ 30000; decide)) H1 e _ fun v H2 e2 r => by
    obtain ⟨a, vs, rfl, ha, _, ra⟩ := r
    obtain ⟨v1, rfl, r1⟩ := RepL.one ra
    refine ⟨a, _, [v1], rfl, rfl, hid_sub _ _ ha, by omega, by omega, ?_, fun p hp => ?_⟩
    · show 1 * ((k : Nat) : Int).toNat ≤ sizeLine
      rw [sizeLine_eq]
      omega
    · have rr : ∀ k : Nat, RepL K CK (hid H H1 H2) (List.replicate k d) (List.replicate k [v1]).flatten := fun k => by
        induction k with
        | zero => rfl
        | succ k ih => exact ⟨v1, _, rfl, r1, ih⟩
      refine q _ _ (e2.trans (Ex.new hp)) ⟨p, _, rfl, hid_at (ex_none e2 hp) upd_same, by rw [List.length_replicate]; omega, ?_⟩
      exact RepL.ex (hid_mono (Ex.new hp)) (rr k)
end
end Any
set_option Elab.async false
set_option linter.all false
set_option maxRecDepth 100000
set_option maxHeartbeats 4000000
namespace Any
open PySem PySem.Spec PyProof.Rows L2 Evl StX
theorem okA_items {d : D} (h : okA d) : d.items = [] := by
  cases d with
  | lst _ => exact h.elim
  | tup _ => exact h.elim
  | dct _ => exact h.elim
  | _ => rfl
theorem okD_lvl : ∀ {n : Nat} {d : D}, okD n d → lvl n d
  | 0, d, h => (okA_L h).1
  | n + 1, d, h => fun y hy => by
    rcases h with h | ⟨_, _, hx⟩ | ⟨kvs, rfl, _⟩
    · rw [okA_items h] at hy; cases hy
    · exact okD_lvl (hx y hy)
    · cases hy
section
variable {K : PySem.W.Frag} {CK : Addr} {H H' H0 H1 H2 H3 H4 Ha Hb Hc B B' : Hp} {σ σ2 : L2.St} {X : Cx} {W L : Addr} {m m' m1 k : Nat}
theorem q_unpW {te : TE} {g : TG} {tz : TS} {D0 : Ends} {R : D → Prop} (F : Fr W H0 H m Hc) (h : EvW K CK W m m' te σ (hid H0 H Hc) R)
    (k : ∀ d v H', R d → Fr W H0 H m' H' → Ex (hid H0 H Hc) (hid H0 H H') → Rep K CK (hid H0 H H') d v → ∃ σ2, EvG g v σ (hid H0 H H') σ2 ∧ ∀ H'', Fr W H0 H m' H'' → Ex (hid H0 H H') (hid H0 H H'') → tz D0 σ2 H'') : tSeq (tAsg te g) tz D0 σ Hc :=
  h Hc hid_sub F.bW F.hw _ fun d v H' hd e hw r => by
    have F' : Fr W H0 H m' H' := F.next e hw
    obtain ⟨σ2, hg, k2⟩ := k d v H' hd F' (F.mono e) (r.ex F.up)
    exact hg H' hid_sub _ fun H2 e2 => k2 H2 (F'.next (.of e2) (F'.hw.ex e2)) (F'.mono (.of e2))
theorem q_parF {i j : Nat} {ta : TA} {tz : TS} {D0 : Ends} {R : List D → Prop} (F : Fr W H0 H m Hc) (h : EvAW K CK W m m' ta σ (hid H0 H Hc) R)
    (k : ∀ ds vs H', R ds → Fr W H0 H m' H' → Ex (hid H0 H Hc) (hid H0 H H') → RepL K CK (hid H0 H H') ds vs → ∃ v w, vs = [v, w] ∧ tz D0 ((σ.set i (some v)).set j (some w)) H') : tSeq (tPar i j ta) tz D0 σ Hc :=
  h Hc hid_sub F.bW F.hw _ fun ds vs H' hd e hw r => k ds vs H' hd (F.next e hw) (F.mono e) (RepL.ex F.up r)
end
section
variable {P : Program} {w : World} {K : PySem.W.Frag} {mg : Str → Option Value} {base : Heap} {CK : Addr}
theorem scLToldR : FnScope ["well", "kinds", "rows", "stand", "passed", "other", "was", "found", "sizes", "alike"] ["well", "kinds", "rows", "stand"] (defScope sLToldR) := ⟨rfl, rfl, rfl, by decide +kernel, rfl, by decide +kernel, by decide +kernel⟩
abbrev spTellR (K : PySem.W.Frag) (CK : Addr) : Sp := spW K CK 3 90000000 (fun ds d => d = .bl true) (fun ds => ∃ rs lv s, ds = [kindsD rs, rowsD rs, s] ∧ Gr rs lv ∧ rs ≠ [] ∧ Stn rs 12 s)
theorem ok_toldR (A : Lw K mg) (F : Sts P w K mg base CK) (dAA : Def K mg "are_alike" sAreAlike ["kinds", "stand", "mate"]) (dSO : Def K mg "size_of" sSizeOf ["kinds", "stand"]) (d : Def K mg "_law_told_right" sLToldR ["well", "kinds", "rows", "stand"]) :
    FnG P w K mg base 18 d.f d.fd ["well", "kinds", "rows", "stand"] (spTellR K CK) := by
  have N := F.N
  have T := F.T
  refine okG d.F scLToldR (fun vs H Q E h => spW_len h) (fun cdv Ar outer s H vs Q E hA hNo hr h => ?_)
  obtain ⟨W, m, ws, ds, H0, rfl, _, e0, hw0, hw, hr0, ⟨rs, lv, st, rfl, g, hne, hst⟩, q⟩ := h
  obtain ⟨vk, vr, vs, rfl, rk, rr, rs0⟩ := RepL.three hr0
  have hu := hr.units
  have GPa : FnOk P w K mg base CX0 17 A.passed.f A.passed.fd ["well", "stand"] (spPassed K CK 4) := (ok_passed A.passed A.mixed A.draw N 4 (by omega)).mono (by omega)
  have GSa : FnOk P w K mg base CX0 17 A.same.f A.same.fd ["found", "due"] (spSame K CK 9) := (ok_same A.same T N 9).mono (by omega)
  have GSz : FnOk P w K mg base CX0 17 A.size.f A.size.fd ["records"] (spSizeH K CK 4) := (ok_s_size A.size N 4).mono (by omega)
  have GTS : FnOk P w K mg base CX0 17 F.dTS.f F.dTS.fd ["kinds", "stand"] (spRight K CK 4 (toldH 4)) := ok_told_stand F 4
  have GSO : FnOk P w K mg base CX0 17 dSO.f dSO.fd ["kinds", "stand"] (spRight K CK 4 fun x => .int (sizeH 4 x)) := ok_size_of dSO F 4
  have GAA : FnOk P w K mg base CX0 17 dAA.f dAA.fd ["kinds", "stand", "mate"] _ := ok_are_alike dAA F 4
  have kbA : KBinds K dAA.fd ["kinds", "stand", "mate"] ["mate", "stand", "kinds"] p3r p3r := kb3r dAA.F fun _ _ _ _ _ _ _ _ _ => rfl
  have kbT : KBinds K F.dTS.fd ["kinds", "stand"] ["stand", "kinds"] p2 p2 := kb2 F.dTS.F fun _ _ _ _ _ _ _ _ => rfl
  have kbS : KBinds K dSO.fd ["kinds", "stand"] ["stand", "kinds"] p2 p2 := kb2 dSO.F fun _ _ _ _ _ _ _ _ => rfl
  have hex : sysModules ∉ ([] : List Addr) := by simp
  refine ⟨_, pss_cons (ps_par (i := 4) (j := 5) (by rfl) scLToldR.nd rfl rfl (by decide) rfl rfl (pa_cons (pe_call GPa hr (by rfl) A.passed.m A.passed.F.kp A.passed.b .nil pass0 (pa_cons (pv 0) (pa_cons (pv 3) pa_nil))) (pa_cons (pe_call GPa hr (by rfl) A.passed.m A.passed.F.kp A.passed.b .nil pass0 (pa_cons (pv 0) (pa_cons (pv 3) pa_nil))) pa_nil)) (by rfl))
    (pss_cons (ps_set (i := 6) scLToldR.nd rfl (.inl rfl) (pe_callB (cr_repr (CK := CK) hA hNo hex hu) (by rfl) N.repr boot_repr (pa_cons (pv 4) pa_nil)))
    (pss_cons (ps_set (i := 7) scLToldR.nd rfl (.inl rfl) (pe_lst (pa_cons (pe_call GTS hr (by rfl) F.dTS.m F.dTS.F.kp F.dTS.b .nil pass0 (pa_cons (pv 1) (pa_cons (pv 4) pa_nil)))
        (pa_cons (pe_callN GTS hr (by rfl) F.dTS.m F.dTS.F.kp kbT pass0 (pk_cons (pv 5) (pk_cons (pv 1) pk_nil))) (pa_cons (pe_call GTS hr (by rfl) F.dTS.m F.dTS.F.kp F.dTS.b .nil pass0 (pa_cons (pv 1) (pa_cons (pv 3) pa_nil))) pa_nil)))))
    (pss_cons (ps_set (i := 8) scLToldR.nd rfl (.inl rfl) (pe_lst (pa_cons (pe_call GSO hr (by rfl) dSO.m dSO.F.kp dSO.b .nil pass0 (pa_cons (pv 1) (pa_cons (pv 4) pa_nil)))
        (pa_cons (pe_callN GSO hr (by rfl) dSO.m dSO.F.kp kbS pass0 (pk_cons (pv 5) (pk_cons (pv 1) pk_nil))) pa_nil))))
    (pss_cons (ps_if (PW.pt (pw_or (pt_not (pt_val (pe_call GSa hr (by rfl) A.same.m A.same.F.kp A.same.b .nil pass0 (pa_cons (pv 7) (pa_cons (pe_op op_rep (pe_lst (pa_cons (pv 3) pa_nil)) pe_int) pa_nil)))))
        (pw_or1 (pt_not (pt_val (pe_call GSa hr (by rfl) A.same.m A.same.F.kp A.same.b .nil pass0 (pa_cons (pv 8) (pa_cons (pe_op op_rep (pe_lst (pa_cons (pe_call GSz hr (by rfl) A.size.m A.size.F.kp A.size.b .nil pass0 (pa_cons (pv 3) pa_nil)) pa_nil)) pe_int) pa_nil)))))))) (pss_one (ps_ret pe_bl)) pss_nil)
    (pss_cons (ps_set (i := 9) scLToldR.nd rfl (.inl rfl) (pe_lst (pa_cons (pe_call GAA hr (by rfl) dAA.m dAA.F.kp dAA.b .nil pass0 (pa_cons (pv 1) (pa_cons (pv 4) (pa_cons (pv 5) pa_nil))))
        (pa_cons (pe_callN GAA hr (by rfl) dAA.m dAA.F.kp kbA pass0 (pk_cons (pv 4) (pk_cons (pv 5) (pk_cons (pv 1) pk_nil)))) pa_nil))))
    (pss_one (ps_ret (pe_and (pe_call GSa hr (by rfl) A.same.m A.same.F.kp A.same.b .nil pass0 (pa_cons (pv 9) (pa_cons (pe_lst (pa_cons pe_bl (pa_cons pe_bl pa_nil))) pa_nil)))
        (pe_one (pe_cmpR op_eq (pe_callB (cr_repr (CK := CK) hA hNo hex hu) (by rfl) N.repr boot_repr (pa_cons (pv 4) pa_nil)) (pv 6) (nomark _))))))))))), ?_⟩
  have hkk : 2 * kP 4 ≤ 90000000 := by decide
  have F0 : Fr W H0 H (m + kP 4 + kP 4) H := .start e0 hw0 (hw.less (by omega))
  have k0 := rk.ex F0.ex0
  have s0 := rs0.ex F0.ex0
  have okst := rt_okD g.rn hst.rt
  have fst : st.flat = true := by
    have := (told_ok 4 st hst.rt.h).fl
    rwa [hst.told] at this
  have pre : ∃ s, [st] = [s] ∧ isH 4 s ∧ few 4 s := ⟨_, rfl, hst.rt.h, hst.rt.few⟩
  -- passed, other
  refine q_parF (K := K) (CK := CK) (m' := m) F0 (eaw_cons (ew_call (m := m + kP 4) (k := kP 4) (n := 1) (i := 0) (R := fun ds d => Pas 4 (ds.getD 0 .non) d) (pre := fun ds => ∃ s, ds = [s] ∧ isH 4 s ∧ few 4 s) (ds := [st]) rfl (ead_cons (ed_var (i := 3) rfl s0) ead_nil) rfl pre)
    (eaw_cons (ew_call (m := m) (k := kP 4) (n := 1) (i := 0) (R := fun ds d => Pas 4 (ds.getD 0 .non) d) (pre := fun ds => ∃ s, ds = [s] ∧ isH 4 s ∧ few 4 s) (ds := [st]) rfl (ead_cons (ed_var (i := 3) rfl s0) ead_nil) rfl pre) eaw_nil)) fun l vT H2 hT F2 up2 rT => ?_
  obtain ⟨p, l1, rfl, hp, o, l2, rfl, ho, rfl⟩ := hT
  replace hp : Pas 4 st p := hp
  replace ho : Pas 4 st o := ho
  obtain ⟨v1, v2, rfl, p2', o2⟩ := RepL.two rT
  refine ⟨v1, v2, rfl, ?_⟩
  have k2 := k0.ex up2
  have s2 := s0.ex up2
  have hpr := hst.rt.pas hp
  have hor := hst.rt.pas ho
  have rightP : Right rs 4 p := hpr.right g.kok (by omega)
  have rightO : Right rs 4 o := hor.right g.kok (by omega)
  have rightS : Right rs 4 st := hst.rt.right g.kok (by omega)
  have tp : toldH 4 p = st := hp.2.trans hst.told
  have to : toldH 4 o = st := ho.2.trans hst.told
  have zp : sizeH 4 p = sizeH 4 st := by rw [← size_told 4 p rightP.h, tp]
  have zo : sizeH 4 o = sizeH 4 st := by rw [← size_told 4 o rightO.h, to]
  have shp : Shw 8 p := okD_show (rt_okD g.rn hpr)
  have wp : wt p ≤ 16000000 := by
    have h1 := rt_wt hpr
    have h2 := hst.sz
    omega
  -- was
  refine (ev_repr (ed_var (i := 4) rfl p2') shp (by decide) wp) H2 hid_sub _ fun H3 e3 => ?_
  have F3 : Fr W H0 H m H3 := F2.next (.of e3) (F2.hw.ex e3)
  have up3 : Ex (hid H0 H H2) (hid H0 H H3) := F2.mono (.of e3)
  have k3 := k2.ex up3
  have s3 := s2.ex up3
  have p3' := p2'.ex up3
  have o3 := o2.ex up3
  -- found
  refine q_setF (K := K) (CK := CK) F3 (EvD.w (ed_lst (ead_cons (ed_callX (d := st) (ds := [kindsD rs, p]) (ead_cons (ed_var (i := 1) rfl k3) (ead_cons (ed_var (i := 4) rfl p3') ead_nil)) rfl ⟨rs, p, rfl, rightP, tp.symm⟩)
    (ead_cons (ed_callN2 (d := st) (x := o) (y := kindsD rs) (ead_cons (ed_var (i := 5) rfl o3) (ead_cons (ed_var (i := 1) rfl k3) ead_nil)) ⟨rs, o, rfl, rightO, to.symm⟩)
    (ead_cons (ed_callX (d := st) (ds := [kindsD rs, st]) (ead_cons (ed_var (i := 1) rfl k3) (ead_cons (ed_var (i := 3) rfl s3) ead_nil)) rfl ⟨rs, st, rfl, rightS, hst.told.symm⟩) ead_nil))) (by show (3 : Nat) ≤ 30000; decide))) fun dF vF H4 hdF F4 up4 rF => ?_
  subst hdF
  have k4 := k3.ex up4
  have s4 := s3.ex up4
  have p4 := p3'.ex up4
  have o4 := o3.ex up4
  -- sizes
  refine q_setF (K := K) (CK := CK) F4 (EvD.w (ed_lst (ead_cons (ed_callX (d := .int (sizeH 4 st)) (ds := [kindsD rs, p]) (ead_cons (ed_var (i := 1) rfl k4) (ead_cons (ed_var (i := 4) rfl p4) ead_nil)) rfl ⟨rs, p, rfl, rightP, by dsimp only; rw [zp]⟩)
    (ead_cons (ed_callN2 (d := .int (sizeH 4 st)) (x := o) (y := kindsD rs) (ead_cons (ed_var (i := 5) rfl o4) (ead_cons (ed_var (i := 1) rfl k4) ead_nil)) ⟨rs, o, rfl, rightO, by dsimp only; rw [zo]⟩) ead_nil)) (by show (2 : Nat) ≤ 30000; decide))) fun dZ vZ H5 hdZ F5 up5 rZ => ?_
  subst hdZ
  have k5 := k4.ex up5
  have s5 := s4.ex up5
  have p5 := p4.ex up5
  have o5 := o4.ex up5
  have f5 := rF.ex up5
  have lv9 : lvl 9 (.lst [st, st, st]) := fun y hy => by
    have : y = st := by
      have hy2 : y ∈ [st, st, st] := hy
      simpa using hy2
    rw [this]
    exact okD_lvl okst
  have fl9 : (D.lst [st, st, st]).flat = true := by show (st.flat && (st.flat && (st.flat && true))) = true; rw [fst]; rfl
  refine q_ifF (P := fun z => z = false) F5 (etw_of (et_is (et_or (et_not (et_B (EvD.b (ed_callX (d := .bl true) (ds := [.lst [st, st, st], .lst [st, st, st]]) (ead_cons (ed_var (i := 7) rfl f5) (ead_cons (ed_rep (k := 3) (ed_var (i := 3) rfl s5) (by decide)) ead_nil)) rfl ⟨_, rfl, fl9, lv9, rfl⟩))))
    (fun _ => et_not (et_B (EvD.b (ed_callX (d := .bl true) (ds := [.lst [.int (sizeH 4 st), .int (sizeH 4 st)], .lst [.int (sizeH 4 st), .int (sizeH 4 st)]]) (ead_cons (ed_var (i := 8) rfl rZ) (ead_cons (ed_rep (k := 2) (ed_call (ds := [st]) (ead_cons (ed_var (i := 3) rfl s5) ead_nil) rfl ⟨_, rfl, hst.rt.h⟩) (by decide)) ead_nil)) rfl ⟨_, rfl, rfl, (fun y hy => by
      have : y = .int (sizeH 4 st) := by
        have hy2 : y ∈ [D.int (sizeH 4 st), D.int (sizeH 4 st)] := hy
        simpa using hy2
      rw [this]
      intro z hz
      cases hz), rfl⟩))))) rfl)) (fun h => by cases h) fun _ H6 F6 up6 => ?_
  have k6 := k5.ex up6
  have p6 := p5.ex up6
  have o6 := o5.ex up6
  have b1 : eqTold 4 p o = true := (eqTold_iff rightP.h rightO.h).mpr (tp.trans to.symm)
  have b2 : eqTold 4 o p = true := (eqTold_iff rightO.h rightP.h).mpr (to.trans tp.symm)
  -- alike
  refine q_setF (K := K) (CK := CK) F6 (EvD.w (ed_lst (ead_cons (ed_callX (d := .bl true) (ds := [kindsD rs, p, o]) (ead_cons (ed_var (i := 1) rfl k6) (ead_cons (ed_var (i := 4) rfl p6) (ead_cons (ed_var (i := 5) rfl o6) ead_nil))) rfl ⟨rs, p, o, rfl, rightP, rightO, by rw [b1]⟩)
    (ead_cons (ed_callN3r (d := .bl true) (x := p) (y := o) (z := kindsD rs) (ead_cons (ed_var (i := 4) rfl p6) (ead_cons (ed_var (i := 5) rfl o6) (ead_cons (ed_var (i := 1) rfl k6) ead_nil))) ⟨rs, o, p, rfl, rightO, rightP, by rw [b2]⟩) ead_nil)) (by show (2 : Nat) ≤ 30000; decide))) fun dA vA H7 hdA F7 up7 rA => ?_
  subst hdA
  have p7 := p6.ex up7
  refine s_retF (K := K) (CK := CK) (m' := m) F7 (EvD.w (d := .bl true) (ed_ofB (ev_is (ev_andV (EvD.b (ed_callX (d := .bl true) (ds := [.lst [.bl true, .bl true], .lst [.bl true, .bl true]]) (ead_cons (ed_var (i := 9) rfl rA) (ead_cons (ed_lst (ead_cons ed_b (ead_cons ed_b ead_nil)) (by show (2 : Nat) ≤ 30000; decide)) ead_nil)) rfl ⟨_, rfl, rfl, (fun y hy => by
      have : y = .bl true := by
        have hy2 : y ∈ [D.bl true, D.bl true] := hy
        simpa using hy2
      rw [this]
      intro z hz
      cases hz), rfl⟩))
    (fun _ => ev_op (ev_repr (ed_var (i := 4) rfl p7) shp (by decide) wp) (ev_var (i := 6) rfl) (rv_eq rfl))) (by rw [decide_eq_true rfl]; rfl)))) fun d v H8 hd eW8 hw8 r8 => q d v H8 hd eW8 hw8 r8
end
end Any
set_option Elab.async false
set_option linter.all false
set_option maxRecDepth 100000
set_option maxHeartbeats 4000000
namespace Any
open PySem PySem.Spec PyProof.Rows L2 Evl StX
/-! ### faults -/
def isBad (d : D) : Prop := d = .non ∨ ∃ x way, d = badD x way
theorem firstF_bad {f : Nat → D → D} (h : ∀ i x, isBad (f i x)) : ∀ {xs : List D} {i : Nat}, isBad (firstF f i xs)
  | [], _ => .inl rfl
  | x :: xs, i => by
    unfold firstF
    cases e : f i x with
    | non => exact firstF_bad h
    | _ => dsimp only; rw [← e]; exact h i x
theorem firstF_isN {f g : Nat → D → D} (h : ∀ i x, (f i x).isN = (g i x).isN) : ∀ {xs : List D} {i : Nat}, (firstF f i xs).isN = (firstF g i xs).isN
  | [], _ => rfl
  | x :: xs, i => by
    have hi := h i x
    unfold firstF
    cases e : f i x with
    | non =>
      cases e2 : g i x with
      | non => exact firstF_isN h
      | _ => rw [e, e2] at hi; cases hi
    | _ =>
      cases e2 : g i x with
      | non => rw [e, e2] at hi; cases hi
      | _ => rfl
theorem faultR_isBad {rs : List Row} : ∀ {n : Nat} {a : Str} {d : D} {way : List Int}, isBad (faultR rs n a d way)
  | 0, _, _, way => .inr ⟨_, _, rfl⟩
  | n + 1, a, d, way => by
    unfold faultR
    split
    · split
      · next k m p _ =>
        unfold faultK
        split
        · split
          · unfold faultM
            split
            · split
              · split
                · exact firstF_bad fun i y => faultR_isBad
                · exact .inr ⟨_, _, rfl⟩
              · exact .inr ⟨_, _, rfl⟩
            · exact .inr ⟨_, _, rfl⟩
          · exact .inr ⟨_, _, rfl⟩
        · exact .inr ⟨_, _, rfl⟩
      · exact .inl rfl
    · exact .inr ⟨_, _, rfl⟩
theorem standF_bad {rs : List Row} {n : Nat} {d : D} : isBad (standF rs n d) := by
  unfold standF
  split
  · exact firstF_bad fun i y => faultR_isBad
  · exact .inr ⟨_, _, rfl⟩
theorem bad_lvl {d : D} (h : isBad d) : d.flat = true ∧ lvl 2 d := by
  rcases h with rfl | ⟨x, way, rfl⟩
  · exact ⟨rfl, fun y hy => by cases hy⟩
  · refine ⟨?_, fun y hy => ?_⟩
    · show (true && (flatL (way.map D.int) && true)) = true
      have : flatL (way.map D.int) = true := (flatL_all _).mpr fun z hz => by
        obtain ⟨i, _, rfl⟩ := List.mem_map.mp hz
        rfl
      rw [this]
      rfl
    · have hy2 : y ∈ [D.str x, wayD way] := hy
      rcases List.mem_cons.mp hy2 with rfl | hy2
      · intro z hz; cases hz
      · rw [List.mem_singleton.mp hy2]
        intro z hz
        obtain ⟨i, _, rfl⟩ := List.mem_map.mp (show z ∈ way.map D.int from hz)
        rfl
theorem okD_dpt : ∀ {n : Nat} {d : D}, okD (2 * n) d → dpt n d
  | 0, d, h => (okA_L h).1
  | n + 1, d, h => fun hL x hx hxL y hy => by
    rcases h with h | ⟨_, _, h2⟩ | ⟨kvs, rfl, _⟩
    · rw [(okA_L h).1] at hL; cases hL
    · rcases h2 x hx with h3 | ⟨_, _, h3⟩ | ⟨kvs, rfl, _⟩
      · rw [(okA_L h3).1] at hxL; cases hxL
      · exact okD_dpt (h3 y hy)
      · cases hxL
    · cases hL
theorem okD_items {n : Nat} {d : D} (h : okD (n + 1) d) : ∀ y ∈ d.items, okD n y := fun y hy => by
  rcases h with h | ⟨_, _, h2⟩ | ⟨kvs, rfl, _⟩
  · rw [okA_items h] at hy; cases hy
  · exact h2 y hy
  · cases hy
theorem items_notL {d : D} (h : d.isL = false) : d.items = [] := by
  cases d with
  | lst _ => cases h
  | tup _ => cases h
  | _ => rfl
theorem okD_few {n : Nat} {d : D} (h : okD n d) : d.items.length ≤ 60 := by
  cases n with
  | zero => rw [okA_items h]; exact Nat.zero_le _
  | succ n =>
    rcases h with h | ⟨_, h2, _⟩ | ⟨kvs, rfl, _⟩
    · rw [okA_items h]; exact Nat.zero_le _
    · exact h2
    · exact Nat.zero_le _
/-! ### steps of a def that does not draw -/
structure Fp (H0 H Hc : Hp) : Prop where
  e0 : Ex H0 H
  eP : Ex H Hc
section
variable {K : PySem.W.Frag} {CK : Addr} {H H' H0 H1 H2 H3 H4 Ha Hb Hc B B' : Hp} {σ σ2 : L2.St}
theorem Fp.ex0 (F : Fp H0 H Hc) : Ex H0 (hid H0 H Hc) := hid_ex F.e0 F.eP
theorem Fp.next (F : Fp H0 H Hc) (e : Ex Hc H') : Fp H0 H H' := ⟨F.e0, F.eP.trans e⟩
theorem Fp.mono (F : Fp H0 H Hc) (e : Ex Hc H') : Ex (hid H0 H Hc) (hid H0 H H') := hid_mono e
theorem Fp.item (Fc : Fp H0 H Hc) (Fa : Fp H0 H Ha) (eab : Ex Ha Hb) (bn : ∀ p, hid H0 H Hc p = none → (Hc p).isSome = true → B p = none) (b'b : Ex B' Hb) (bfr : ∀ p, B p = none → (Ha p).isSome = true → B' p = none) : Ex B' (hid H0 H Hb) := fun a o z => by
  have up : ∀ {Hx : Hp}, Ex H Hx → (H a).isSome = true → (Hx a).isSome = true := fun {Hx} e y => by
    obtain ⟨u, hu⟩ := Option.isSome_iff_exists.mp y
    rw [e _ _ hu]
    rfl
  unfold hid
  rw [if_neg]
  · exact b'b _ _ z
  · rintro ⟨y1, y2⟩
    have h1 : hid H0 H Hc a = none := hid_no (by simpa using y1) y2
    rw [bfr a (bn a h1 (up Fc.eP y2)) (up Fa.eP y2)] at z
    cases z
theorem q_setP {te : TE} {i : Nat} {tz : TS} {D0 : Ends} {d : D} (F : Fp H0 H Hc) (h : EvD K CK te σ (hid H0 H Hc) d)
    (k : ∀ v H', Fp H0 H H' → Ex (hid H0 H Hc) (hid H0 H H') → Rep K CK (hid H0 H H') d v → tz D0 (σ.set i (some v)) H') : tSeq (tAsg te (gName i)) tz D0 σ Hc :=
  h Hc hid_sub _ fun v H' e r => k v H' (F.next e) (F.mono e) (by rw [hid_hid F.e0 F.eP] at r; exact r)
theorem s_ifP {tc : TT} {t u : TS} {D0 : Ends} {b : Bool} (F : Fp H0 H Hc) (h : EvT tc σ (hid H0 H Hc) b)
    (h1 : b = true → ∀ H', Fp H0 H H' → Ex (hid H0 H Hc) (hid H0 H H') → t D0 σ H') (h2 : b = false → ∀ H', Fp H0 H H' → Ex (hid H0 H Hc) (hid H0 H H') → u D0 σ H') : tIfS tc t u D0 σ Hc :=
  h Hc hid_sub _ fun H' e => by
    cases b with
    | true => rw [if_pos rfl]; exact h1 rfl H' (F.next e) (F.mono e)
    | false => rw [if_neg Bool.false_ne_true]; exact h2 rfl H' (F.next e) (F.mono e)
theorem q_ifP {tc : TT} {t u tz : TS} {D0 : Ends} {b : Bool} (F : Fp H0 H Hc) (h : EvT tc σ (hid H0 H Hc) b)
    (h1 : b = true → ∀ H', Fp H0 H H' → Ex (hid H0 H Hc) (hid H0 H H') → t { D0 with nx := tz D0 } σ H') (h2 : b = false → ∀ H', Fp H0 H H' → Ex (hid H0 H Hc) (hid H0 H H') → u { D0 with nx := tz D0 } σ H') : tSeq (tIfS tc t u) tz D0 σ Hc :=
  s_ifP (D0 := { D0 with nx := tz D0 }) F h h1 h2
end
end Any
set_option Elab.async false
set_option linter.all false
set_option maxRecDepth 100000
set_option maxHeartbeats 4000000
namespace Any
open PySem PySem.Spec PyProof.Rows L2 Evl StX
theorem Fp.stay {H0 H H2 H3 : Hp} (F : Fp H0 H H2) (F' : Fp H0 H H3) (u : Ex (hid H0 H H2) (hid H0 H H3)) : Ex H2 H3 := fun a o z => by
  by_cases h : (H0 a).isNone = true ∧ (H a).isSome = true
  · obtain ⟨o', ho⟩ := Option.isSome_iff_exists.mp h.2
    have := F.eP _ _ ho
    rw [z] at this
    cases this
    exact F'.eP _ _ ho
  · have : hid H0 H H2 a = some o := by
      unfold hid
      rw [if_neg h]
      exact z
    exact hid_sub _ _ (u _ _ this)
theorem holder_cases (rs : List Row) (d : D) : holderF rs d = .non ∨ ∃ a, holderF rs d = .str a := by
  unfold holderF
  split
  · split
    · split
      · exact .inr ⟨_, rfl⟩
      · exact .inl rfl
    · exact .inl rfl
  · exact .inl rfl
section
variable {P : Program} {w : World} {K : PySem.W.Frag} {mg : Str → Option Value} {base : Heap} {CK : Addr}
theorem scLJudgedR : FnScope ["kinds", "rows", "thing", "due", "was", "found", "judged", "one", "above", "is_one"] ["kinds", "rows", "thing"] (defScope sLJudgedR) := ⟨rfl, rfl, rfl, by decide +kernel, rfl, by decide +kernel, by decide +kernel⟩
abbrev spJudged (K : PySem.W.Frag) (CK : Addr) : Sp := spX K CK 3 (fun ds d => ∃ rs lv thing, ds = [kindsD rs, rowsD rs, thing] ∧ Gr rs lv ∧ okD 14 thing ∧ wt thing ≤ 16000000 ∧ d = .bl true)
theorem ok_judged (A : Lw K mg) (F : Sts P w K mg base CK) (dIR : Def K mg "is_record" sIsRecord ["kinds", "thing"]) (dIS : Def K mg "is_stand" sIsStand ["kinds", "thing"]) (d : Def K mg "_law_judged_right" sLJudgedR ["kinds", "rows", "thing"]) :
    FnG P w K mg base 22 d.f d.fd ["kinds", "rows", "thing"] (spJudged K CK) := by
  have N := F.N
  have T := F.T
  refine okG d.F scLJudgedR (fun vs H Q E h => spX_len h) (fun cdv Ar outer s H vs Q E hA hNo hr h => ?_)
  obtain ⟨ds, dd, H0, hn, e0, hr0, ⟨rs, lv, th, rfl, g, okT, wT, rfl⟩, q⟩ := h
  obtain ⟨vk, vr, vt, rfl, rk, rr, rt⟩ := RepL.three hr0
  have hu := hr.units
  have GLF : FnOk P w K mg base CX0 21 A.fault.f A.fault.fd ["rows", "above", "thing", "way"] (spLF K CK 7) := (ok_lfault A.fault T N 7).mono (by omega)
  have GHo : FnOk P w K mg base CX0 21 A.holder.f A.holder.fd ["rows", "thing"] (spHolder K CK) := (ok_holder A.holder T N).mono (by omega)
  have GSF : FnOk P w K mg base CX0 21 F.dSF.f F.dSF.fd ["kinds", "thing"] (spStandF K CK 7) := (ok_stand_fault F 7).mono (by omega)
  have GIS : FnOk P w K mg base CX0 21 dIS.f dIS.fd ["kinds", "thing"] (spIsStand K CK 7) := ok_is_stand dIS F 7
  have GIR : FnOk P w K mg base CX0 21 dIR.f dIR.fd ["kinds", "thing"] (spIsRecord K CK 7) := (ok_is_record dIR F 7).mono (by omega)
  have GSa : FnOk P w K mg base CX0 21 A.same.f A.same.fd ["found", "due"] (spSame K CK 3) := (ok_same A.same T N 3).mono (by omega)
  have kbF : KBinds K F.dSF.fd ["kinds", "thing"] ["thing", "kinds"] p2 p2 := kb2 F.dSF.F fun _ _ _ _ _ _ _ _ => rfl
  have kbS : KBinds K dIS.fd ["kinds", "thing"] ["thing", "kinds"] p2 p2 := kb2 dIS.F fun _ _ _ _ _ _ _ _ => rfl
  have kbR : KBinds K dIR.fd ["kinds", "thing"] ["thing", "kinds"] p2 p2 := kb2 dIR.F fun _ _ _ _ _ _ _ _ => rfl
  have hex : sysModules ∉ ([] : List Addr) := by simp
  refine ⟨_, pss_cons (ps_par (i := 3) (j := 4) (by rfl) scLJudgedR.nd rfl rfl (by decide) rfl rfl (pa_cons (pe_call GLF hr (by rfl) A.fault.m A.fault.F.kp A.fault.b .nil pass0 (pa_cons (pv 1) (pa_cons pe_str (pa_cons (pv 2) (pa_cons (pe_tup pa_nil) pa_nil)))))
        (pa_cons (pe_callB (cr_repr (CK := CK) hA hNo hex hu) (by rfl) N.repr boot_repr (pa_cons (pv 2) pa_nil)) pa_nil)) (by rfl))
    (pss_cons (ps_set (i := 5) scLJudgedR.nd rfl (.inl rfl) (pe_lst (pa_cons (pe_call GSF hr (by rfl) F.dSF.m F.dSF.F.kp F.dSF.b .nil pass0 (pa_cons (pv 0) (pa_cons (pv 2) pa_nil)))
        (pa_cons (pe_callN GSF hr (by rfl) F.dSF.m F.dSF.F.kp kbF pass0 (pk_cons (pv 2) (pk_cons (pv 0) pk_nil))) pa_nil))))
    (pss_cons (ps_set (i := 6) scLJudgedR.nd rfl (.inl rfl) (pe_lst (pa_cons (pe_call GIS hr (by rfl) dIS.m dIS.F.kp dIS.b .nil pass0 (pa_cons (pv 0) (pa_cons (pv 2) pa_nil)))
        (pa_cons (pe_callN GIS hr (by rfl) dIS.m dIS.F.kp kbS pass0 (pk_cons (pv 2) (pk_cons (pv 0) pk_nil))) pa_nil))))
    (pss_cons (ps_if (PW.pt (pw_or (pt_not (pt_val (pe_call GSa hr (by rfl) A.same.m A.same.F.kp A.same.b .nil pass0 (pa_cons (pv 5) (pa_cons (pe_lst (pa_cons (pv 3) (pa_cons (pv 3) pa_nil))) pa_nil)))))
        (pw_or1 (pt_not (pt_val (pe_call GSa hr (by rfl) A.same.m A.same.F.kp A.same.b .nil pass0 (pa_cons (pv 6) (pa_cons (pe_op op_rep (pe_lst (pa_cons (pe_cmp (pc_isN (pv 3))) pa_nil)) pe_int) pa_nil)))))))) (pss_one (ps_ret pe_bl)) pss_nil)
    (pss_cons (ps_for PassesOwn.never rfl (pi_list (pe_op op_cat (pe_lst (pa_cons (pv 2) pa_nil)) (pe_ifExp (pt_val (pe_callB call_isiT (by rfl) N.isinstance boot_isinstance (pa_cons (pv 2) (pa_cons (pe_tup (pa_cons (pe_bltn (v := .ty "list") (by rfl) N.list boot_list rfl) (pa_cons (pe_bltn (v := .ty "tuple") (by rfl) N.tuple boot_tuple rfl) pa_nil))) pa_nil))))
          (pe_callTy call_list_of (by rfl) N.list boot_list (pa_cons (pv 2) pa_nil)) (pe_lst pa_nil)))) (pg_name (i := 7) scLJudgedR.nd rfl (.inl rfl))
      (pss_cons (ps_set (i := 8) scLJudgedR.nd rfl (.inl rfl) (pe_call GHo hr (by rfl) A.holder.m A.holder.F.kp A.holder.b .nil pass0 (pa_cons (pv 1) (pa_cons (pv 7) pa_nil))))
      (pss_cons (ps_set (i := 9) scLJudgedR.nd rfl (.inl rfl) (pe_and (pe_cmp (pc_notN (pv 8))) (pe_one (pe_cmp (pc_isN (pe_call GLF hr (by rfl) A.fault.m A.fault.F.kp A.fault.b .nil pass0 (pa_cons (pv 1) (pa_cons (pv 8) (pa_cons (pe_lst (pa_cons (pv 7) pa_nil)) (pa_cons (pe_tup pa_nil) pa_nil))))))))))
      (pss_one (ps_if (pt_not (pt_val (pe_call GSa hr (by rfl) A.same.m A.same.F.kp A.same.b .nil pass0 (pa_cons (pe_lst (pa_cons (pe_call GIR hr (by rfl) dIR.m dIR.F.kp dIR.b .nil pass0 (pa_cons (pv 0) (pa_cons (pv 7) pa_nil)))
          (pa_cons (pe_callN GIR hr (by rfl) dIR.m dIR.F.kp kbR pass0 (pk_cons (pv 7) (pk_cons (pv 0) pk_nil))) pa_nil))) (pa_cons (pe_lst (pa_cons (pv 9) (pa_cons (pv 9) pa_nil))) pa_nil))))) (pss_one (ps_ret pe_bl)) pss_nil)))))
    (pss_one (ps_ret (pe_cmpR op_eq (pe_callB (cr_repr (CK := CK) hA hNo hex hu) (by rfl) N.repr boot_repr (pa_cons (pv 2) pa_nil)) (pv 4) (nomark _)))))))), ?_⟩
  have F0 : Fp H0 H H := ⟨e0, Ex.refl H⟩
  have k0 := rk.ex F0.ex0
  have r0 := rr.ex F0.ex0
  have t0 := rt.ex F0.ex0
  have shw := okD_show okT
  have dT : th.isL = true → ∀ y ∈ th.items, dpt 7 y := fun _ y hy => okD_dpt (n := 7) (okD_le (okD_items okT y hy) (by omega))
  -- due, was
  refine (ed_callX (d := standF rs 7 th) (ds := [rowsD rs, .str Str.empty, th, wayD []]) (ead_cons (ed_var (i := 1) rfl r0) (ead_cons (ed_str (by decide)) (ead_cons (ed_var (i := 2) rfl t0) (ead_cons (ed_tup ead_nil (by show (0 : Nat) ≤ 30000; decide)) ead_nil)))) rfl
    ⟨rs, Str.empty, th, [], rfl, g.kok, dT, by show 0 + 7 < 1000; decide, rfl⟩) H hid_sub _ fun v3 H1 e1 s1 => (ev_repr (ed_var (i := 2) rfl t0) shw (by decide) wT) H1 (hid_sub.trans e1) _ fun H2 e2 => ⟨_, _, rfl, ?_⟩
  rw [hid_hid e0 (Ex.refl H)] at s1
  have F2 : Fp H0 H H2 := F0.next (e1.trans e2)
  have u2 : Ex (hid H0 H H) (hid H0 H H2) := F0.mono (e1.trans e2)
  have k2 := k0.ex u2
  have t2 := t0.ex u2
  have r2 := r0.ex u2
  have d2 := s1.ex (hid_mono (H0 := H0) (H1 := H) e2)
  have hbad := bad_lvl (standF_bad (rs := rs) (n := 7) (d := th))
  -- found
  refine q_setP (K := K) (CK := CK) F2 (ed_lst (ead_cons (ed_callX (d := standF rs 7 th) (ds := [kindsD rs, th]) (ead_cons (ed_var (i := 0) rfl k2) (ead_cons (ed_var (i := 2) rfl t2) ead_nil)) rfl ⟨rs, th, rfl, g.kok, by decide, dT, rfl⟩)
    (ead_cons (ed_callN2 (d := standF rs 7 th) (x := th) (y := kindsD rs) (ead_cons (ed_var (i := 2) rfl t2) (ead_cons (ed_var (i := 0) rfl k2) ead_nil)) ⟨rs, th, rfl, g.kok, by decide, dT, rfl⟩) ead_nil)) (by show (2 : Nat) ≤ 30000; decide)) fun v5 H3 F3 u3 r5 => ?_
  have k3 := k2.ex u3
  have t3 := t2.ex u3
  have r3 := r2.ex u3
  have d3 := d2.ex u3
  -- judged
  refine q_setP (K := K) (CK := CK) F3 (ed_lst (ead_cons (ed_callX (d := .bl (standF rs 7 th).isN) (ds := [kindsD rs, th]) (ead_cons (ed_var (i := 0) rfl k3) (ead_cons (ed_var (i := 2) rfl t3) ead_nil)) rfl ⟨rs, th, rfl, g.kok, by decide, dT, rfl⟩)
    (ead_cons (ed_callN2 (d := .bl (standF rs 7 th).isN) (x := th) (y := kindsD rs) (ead_cons (ed_var (i := 2) rfl t3) (ead_cons (ed_var (i := 0) rfl k3) ead_nil)) ⟨rs, th, rfl, g.kok, by decide, dT, rfl⟩) ead_nil)) (by show (2 : Nat) ≤ 30000; decide)) fun v6 H4 F4 u4 r6 => ?_
  have k4 := k3.ex u4
  have t4 := t3.ex u4
  have r4 := r3.ex u4
  have d4 := d3.ex u4
  have f4 := r5.ex u4
  have lvB : ∀ b : Bool, lvl 3 (.lst [.bl b, .bl b]) := fun b y hy => by
    have : y = .bl b := by
      have hy2 : y ∈ [D.bl b, D.bl b] := hy
      simpa using hy2
    rw [this]
    intro z hz
    cases hz
  refine q_ifP (b := false) F4 (et_is (et_or (et_not (et_B (EvD.b (ed_callX (d := .bl true) (ds := [.lst [standF rs 7 th, standF rs 7 th], .lst [standF rs 7 th, standF rs 7 th]]) (ead_cons (ed_var (i := 5) rfl f4) (ead_cons (ed_lst (ead_cons (ed_var (i := 3) rfl d4) (ead_cons (ed_var (i := 3) rfl d4) ead_nil)) (by show (2 : Nat) ≤ 30000; decide)) ead_nil)) rfl
      ⟨_, rfl, (by show ((standF rs 7 th).flat && ((standF rs 7 th).flat && true)) = true; rw [hbad.1]; rfl), (fun y hy => by
        have : y = standF rs 7 th := by
          have hy2 : y ∈ [standF rs 7 th, standF rs 7 th] := hy
          simpa using hy2
        rw [this]
        exact hbad.2), rfl⟩))))
    (fun _ => et_not (et_B (EvD.b (ed_callX (d := .bl true) (ds := [.lst [.bl (standF rs 7 th).isN, .bl (standF rs 7 th).isN], .lst [.bl (standF rs 7 th).isN, .bl (standF rs 7 th).isN]]) (ead_cons (ed_var (i := 6) rfl r6) (ead_cons (ed_rep (k := 2) (ed_ofB (ev_isN (ed_var (i := 3) rfl d4))) (by decide)) ead_nil)) rfl ⟨_, rfl, rfl, lvB _, rfl⟩))))) rfl) (fun h => by cases h) fun _ H5 F5 u5 => ?_
  have k5 := k4.ex u5
  have t5 := t4.ex u5
  have rw5 := r4.ex u5
  have hall : ∀ dk ∈ [th] ++ th.items, okD 14 dk := fun dk h => by
    rcases List.mem_append.mp h with h | h
    · rw [List.mem_singleton.mp h]; exact okT
    · exact okD_le (okD_items okT dk h) (by omega)
  have hfew := okD_few okT
  refine q_forI (K := K) (CK := CK) (H0 := hid H0 H H5) (ds := [th] ++ th.items) (ei_list (ed_catL (ed_lst (ead_cons (ed_var (i := 2) rfl t5) ead_nil) (by show (1 : Nat) ≤ 30000; decide)) (ed_if (et_B (ev_isLD T (ed_var (i := 2) rfl t5))) (fun hL => ed_listOf (ed_var (i := 2) rfl t5) hL) (fun hL => by
      rw [items_notL hL]
      exact ed_lst ead_nil (by show (0 : Nat) ≤ 30000; decide))) (by show 1 + _ ≤ 30000; omega))) hid_sub (fun B i σ' H' => (∃ a b c, σ' = [some vk, some vr, some vt, some v3, some (.str th.pd.shown), some v5, some v6, a, b, c]) ∧
    (∀ p, hid H0 H H5 p = none → (H5 p).isSome = true → B p = none) ∧ Ex B H' ∧ Fp H0 H H' ∧ Ex (hid H0 H H5) (hid H0 H H')) ?_ ?_ ?_ ?_
  · intro H6 e6
    exact ⟨⟨_, _, _, rfl⟩, fun p h1 h2 => hid_no h1 h2, hid_sub, F5.next e6, F5.mono e6⟩
  · rintro B i σ' H' ⟨_, _, h3, _⟩
    exact h3
  · rintro B B' i dk xv σ' Ha Hb _ hx ⟨⟨a, b, c, rfl⟩, bn, bH, Fa, ua⟩ eab bb' b'b bfr rx
    have okk := hall dk (List.mem_of_getElem? hx)
    have dk7 : dpt 7 dk := okD_dpt (n := 7) okk
    have Fb : Fp H0 H Hb := Fa.next eab
    have ub : Ex (hid H0 H H5) (hid H0 H Hb) := ua.trans (Fa.mono eab)
    have xb := rx.ex (Fp.item F5 Fa eab bn b'b bfr)
    have kb := k5.ex ub
    have rb := rw5.ex ub
    show tSeq _ _ _ [some vk, some vr, some vt, some v3, some (.str th.pd.shown), some v5, some v6, some xv, b, c] Hb
    -- above
    refine q_setP (K := K) (CK := CK) Fb (ed_callX (d := holderF rs dk) (ds := [rowsD rs, dk]) (ead_cons (ed_var (i := 1) rfl rb) (ead_cons (ed_var (i := 7) rfl xb) ead_nil)) rfl ⟨rs, dk, rfl, g.kok, rfl⟩) fun v8 H6 F6 u6 r8 => ?_
    have k6 := kb.ex u6
    have rs6 := rb.ex u6
    have x6 := xb.ex u6
    -- is_one
    refine q_setP (K := K) (CK := CK) (d := .bl (recOf rs 7 dk)) F6 (ed_ofB ?_) fun v9 H7 F7 u7 r9 => ?_
    · rw [recOf_law]
      rcases holder_cases rs dk with hh | ⟨ab, hh⟩
      · rw [hh]
        rw [hh] at r8
        exact ev_is (ev_andV (b := false) (ev_notND (ed_var (i := 8) (d := .non) rfl r8)) (fun h => by cases h)) rfl
      · rw [hh]
        rw [hh] at r8
        exact ev_is (ev_andV (ev_notND (ed_var (i := 8) (d := .str ab) rfl r8)) (fun _ => ev_isN (ed_callX (d := lawF rs 7 ab (.lst [dk]) []) (ds := [rowsD rs, .str ab, .lst [dk], wayD []]) (ead_cons (ed_var (i := 1) rfl rs6) (ead_cons (ed_var (i := 8) rfl r8) (ead_cons (ed_lst (ead_cons (ed_var (i := 7) rfl x6) ead_nil) (by show (1 : Nat) ≤ 30000; decide))
          (ead_cons (ed_tup ead_nil (by show (0 : Nat) ≤ 30000; decide)) ead_nil)))) rfl ⟨rs, ab, .lst [dk], [], rfl, g.kok, (fun _ y hy => by
            have : y = dk := by
              have hy2 : y ∈ [dk] := hy
              simpa using hy2
            rw [this]
            exact dk7), by show 0 + 7 < 1000; decide, rfl⟩))) rfl
    have k7 := k6.ex u7
    have x7 := x6.ex u7
    refine s_ifP (b := false) F7 (et_is (et_not (et_B (EvD.b (ed_callX (d := .bl true) (ds := [.lst [.bl (recOf rs 7 dk), .bl (recOf rs 7 dk)], .lst [.bl (recOf rs 7 dk), .bl (recOf rs 7 dk)]])
      (ead_cons (ed_lst (ead_cons (ed_callX (d := .bl (recOf rs 7 dk)) (ds := [kindsD rs, dk]) (ead_cons (ed_var (i := 0) rfl k7) (ead_cons (ed_var (i := 7) rfl x7) ead_nil)) rfl ⟨rs, dk, rfl, g.kok, by decide, dk7, rfl⟩)
        (ead_cons (ed_callN2 (d := .bl (recOf rs 7 dk)) (x := dk) (y := kindsD rs) (ead_cons (ed_var (i := 7) rfl x7) (ead_cons (ed_var (i := 0) rfl k7) ead_nil)) ⟨rs, dk, rfl, g.kok, by decide, dk7, rfl⟩) ead_nil)) (by show (2 : Nat) ≤ 30000; decide))
      (ead_cons (ed_lst (ead_cons (ed_var (i := 9) rfl r9) (ead_cons (ed_var (i := 9) rfl r9) ead_nil)) (by show (2 : Nat) ≤ 30000; decide)) ead_nil)) rfl ⟨_, rfl, rfl, lvB _, rfl⟩)))) rfl) (fun h => by cases h) fun _ H8 F8 u8 => ?_
    have uall : Ex (hid H0 H Hb) (hid H0 H H8) := (u6.trans u7).trans u8
    exact ⟨⟨_, _, _, rfl⟩, bn, (bb'.trans b'b).trans (Fp.stay Fb F8 uall), F8, ub.trans uall⟩
  · rintro B σ' H' _ ⟨⟨a, b, c, rfl⟩, bn, bH, Fa, ua⟩
    have tE := t5.ex ua
    exact s_ret (v := .bl true) (Ev.mono hid_sub (ev_is (ev_op (ev_repr (ed_var (i := 2) rfl tE) shw (by decide) wT) (ev_var (i := 4) rfl) (rv_eq rfl)) (by rw [decide_eq_true rfl]))) fun H9 e9 => q _ H9 (Fa.eP.trans e9) rfl
end
end Any
set_option Elab.async false
set_option linter.all false
set_option maxRecDepth 100000
set_option maxHeartbeats 4000000
namespace Any
open PySem PySem.Spec PyProof.Rows L2 Evl StX
section
variable {P : Program} {w : World} {K : PySem.W.Frag} {mg : Str → Option Value} {base : Heap} {CX : CXT} {k : Nat} {f : Addr} {fd : FuncData} {ps : List Str}
/-- a promise that hangs on what is not known yet -/
def spSome {ι : Type} (p : ι → Prop) (sp : ι → Sp) : Sp := fun vs H Q E => ∃ i, p i ∧ sp i vs H Q E
theorem FnOk.some {ι : Type} {p : ι → Prop} {sp : ι → Sp} (h : ∀ i, p i → FnOk P w K mg base CX k f fd ps (sp i)) : FnOk P w K mg base CX k f fd ps (spSome p sp) :=
  ⟨fun vs H Q E ⟨i, hp, hs⟩ => (h i hp).len _ _ _ _ hs, fun A o s H args us vs Q E hr e hb hv ⟨i, hp, hs⟩ => (h i hp).run A o s H args us vs Q E hr e hb hv hs⟩
end
section
variable {K : PySem.W.Frag} {CK : Addr} {H H' H0 H1 H2 H3 H4 Ha Hb Hc B B' : Hp} {σ σ2 : L2.St} {X : Cx} {W L : Addr} {m m' m1 k : Nat}
theorem ews_call {ι : Type} {p : ι → Prop} {n i : Nat} {R : ι → List D → D → Prop} {pre : ι → List D → Prop} {R1 : List D → Prop} {R2 : D → Prop} {E : XK} {ta : TA} (hi : σ[i]? = some (some (V.ref W))) (h : EvAW K CK W m1 (m + k) ta σ B R1)
    (hp : ∀ ds, R1 ds → ∃ j, p j ∧ ds.length = n ∧ pre j ds ∧ ∀ d, R j ds d → R2 d) :
    EvW K CK W m1 m (tCall (spSome p fun j => spW K CK n k (R j) (pre j)) [] E (tCons (tVar i) ta)) σ B R2 := fun H1 e hB hw Q q => ⟨_, hi, h H1 e hB hw _ fun ds vs H2 hds e2 hw2 r => by
    obtain ⟨j, hj, hn, hpre, h2⟩ := hp ds hds
    exact ⟨j, hj, W, m, vs, ds, hid B H1 H2, by rw [List.append_nil], hn, hid_sub, hid_no hB hw.some, hw2, r, hpre, fun d v H' hR e3 hw3 r3 => q d v H' (h2 d hR) (e2.trans e3) hw3 (r3.ex (hid_outW (fun a h1 h2 => hid_no h1 h2) e2 hw2.some))⟩⟩
/-- not of what draws -/
theorem etw_notB {te : TE} (h : EvW K CK W m m' te σ B (fun e => e = .bl true)) : EvTW W m m' (tNot (tB te)) σ B (fun b => b = false) := fun H1 e hB hw Q q => h H1 e hB hw _ fun d v H2 hd e2 hw2 r => by
  subst hd
  obtain rfl := rep_bl r
  exact ⟨true, rfl, q false H2 rfl e2 hw2⟩
theorem etw_orF {t u : TT} (h1 : EvTW W m m1 t σ B (fun b => b = false)) (h2 : EvTW W m1 m' u σ B (fun b => b = false)) : EvTW W m m' (tOr t u) σ B (fun b => b = false) := fun H1 e hB hw Q q => h1 H1 e hB hw _ fun b H2 hb e2 hw2 => by
  subst hb
  show (if false = true then Q true H2 else u σ H2 Q)
  rw [if_neg Bool.false_ne_true]
  exact h2 H2 (e2.known e hB) hB hw2 _ fun c H3 hc e3 hw3 => q c H3 hc (e2.trans e3) hw3
theorem ei_rangeC {n : Nat} (hn : n ≤ 1000) : EvID K CK (iRng1 (tCons (tC (.int (n : Nat))) tNil)) σ H ((List.range n).map fun i => D.int (i : Nat)) := fun H1 e R q =>
  ⟨(n : Nat), rfl, by omega, by omega, q (Itr 0 n) H1 (fun _ => True) _ (Ex.refl H1) (by rw [List.length_map, List.length_range]; exact walk_range) (fun _ _ => trivial) fun i d Ha x Hb hd _ y => by
    obtain ⟨y1, y2⟩ := y
    rw [List.getElem?_map] at hd
    cases hr : (List.range n)[i]? with
    | none => rw [hr] at hd; cases hd
    | some j =>
      rw [hr] at hd
      cases hd
      obtain ⟨h1, h2⟩ := List.getElem?_eq_some_iff.mp hr
      rw [List.getElem_range] at h2
      subst h2
      exact .inl ⟨y1, by rw [y2]; show V.int (0 + _) = V.int _; rw [Int.zero_add]⟩⟩
/-- x = xs + ys, what draws: a list of its own -/
theorem q_catF {ta tb : TE} {i : Nat} {tz : TS} {D0 : Ends} {R1 R2 : List D → Prop} (F : Fr W H0 H m Hc) (h1 : EvW K CK W m m1 ta σ (hid H0 H Hc) (fun e => ∃ xs, e = .lst xs ∧ R1 xs)) (h2 : EvW K CK W m1 m' tb σ (hid H0 H Hc) (fun e => ∃ xs, e = .lst xs ∧ R2 xs)) (hl : ∀ xs ys, R1 xs → R2 ys → xs.length + ys.length ≤ 30000)
    (k : ∀ xs ys L ws H', R1 xs → R2 ys → H L = none → Fr W H0 H m' H' → Ex (hid H0 H Hc) (hid H0 H (cut L H')) → H' L = some (.lst ws) → RepL K CK (hid H0 H (cut L H')) (xs ++ ys) ws → tz D0 (σ.set i (some (.ref L))) H') : tSeq (tAsg (tOp rCat ta tb) (gName i)) tz D0 σ Hc :=
  h1 Hc hid_sub F.bW F.hw _ fun d v H2 ⟨xs, hd, hR1⟩ e2 hw2 r => h2 H2 (e2.known hid_sub F.bW) F.bW hw2 _ fun d2 v2 H3 ⟨ys, hd2, hR2⟩ e3 hw3 r2 => by
    subst hd hd2
    have r' := r.ex (hidW_first F.bW F.hw.some e3)
    have r2' := r2.ex (hidW_second e2 hw2.some)
    obtain ⟨a, vs, rfl, ha, la, ra⟩ := r'
    obtain ⟨b, ws, rfl, hb, lb, rb⟩ := r2'
    have hlen := hl xs ys hR1 hR2
    refine ⟨a, b, vs, ws, rfl, rfl, hid_sub _ _ ha, hid_sub _ _ hb, by rw [ra.len, rb.len, sizeLine_eq]; omega, fun L hn => ?_⟩
    have e13 := e2.trans e3
    have wl : W ≠ L := fun c => by have := hw3.some; rw [c, hn] at this; cases this
    have cn : ∀ a o, H3 a = some o → cut L H3 a = some o := fun a o z => cut_at (fun c => by rw [c, hn] at z; cases z) z
    have cE : ∀ {B : Hp}, Ex (hid B H H3) (hid B H (cut L (upd H3 L (.lst (vs ++ ws))))) := fun {B} => by
      rw [cut_upd]
      exact hid_mono cn
    have e1 : ExW W Hc (upd H3 L (.lst (vs ++ ws))) := e13.trans (.of (Ex.new hn))
    have hLn : H L = none := by
      cases c : H L with
      | none => rfl
      | some o =>
        have := (F.eW.trans e13) _ _ (cut_at wl.symm c)
        rw [hn] at this
        cases this
    exact k xs ys L _ _ hR1 hR2 hLn (F.next e1 (hw3.ex (Ex.new hn))) ((F.mono e13).trans cE) upd_same (RepL.ex (F.up.trans cE) (RepL.app ra rb))
/-- an item of a walk, where the list at L is being filled -/
theorem Fr.itemC (Fc : Fr W H0 H m Hc) (Fa : Fr W H0 H m' Ha) (eab : Ex Ha Hb) (bn : ∀ p, hid H0 H (cut L Hc) p = none → (Hc p).isSome = true → B p = none) (b'b : Ex B' Hb) (bfr : ∀ p, B p = none → (Ha p).isSome = true → B' p = none) (hLc : (Hc L).isSome = true) (hLa : (Ha L).isSome = true) : Ex B' (hid H0 H (cut L Hb)) := fun a o z => by
  have hL : hid H0 H (cut L Hc) L = none := by
    unfold hid
    split
    · rfl
    · exact cut_none
  have aL : a ≠ L := fun c => by
    rw [c, bfr L (bn L hL hLc) hLa] at z
    cases z
  unfold hid
  rw [if_neg]
  · exact cut_at aL (b'b _ _ z)
  · rintro ⟨y1, y2⟩
    have h1 : hid H0 H (cut L Hc) a = none := hid_no (by simpa using y1) y2
    rw [bfr a (bn a h1 (Fc.eW.isSome Fc.hw.some y2)) (Fa.eW.isSome Fa.hw.some y2)] at z
    cases z
end
end Any
set_option Elab.async false
set_option linter.all false
set_option maxRecDepth 100000
set_option maxHeartbeats 4000000
namespace Any
open PySem PySem.Spec PyProof.Rows L2 Evl StX
theorem okD_paths {rs : List Row} (rn : RN rs) : ∀ {n : Nat} {a : Str} {d : D} {way : List Int}, RtH rs n a d → ∀ x ∈ pathsF n d way, ∃ w c, x = .tup [wayD w, c] ∧ okD (2 * n) c ∧ wt c ≤ wt d
  | 0, _, _, _, h => h.elim
  | n + 1, a, d, way, h => by
    have key : ∀ (xs : List D) (i : Nat), (∀ y ∈ xs, y ∈ d.items) → ∀ x ∈ pathsL (pathsF n) way i xs, ∃ w c, x = .tup [wayD w, c] ∧ okD (2 * (n + 1)) c ∧ wt c ≤ wt d := fun xs => by
      induction xs with
      | nil => intro i _ x hx; cases hx
      | cons y ys ih =>
        intro i hs x hx
        have hy := hs y List.mem_cons_self
        have wy : wt y ≤ wt d := by
          have := wtL_mem hy
          rw [wt_L h.1]
          omega
        have hx2 : x ∈ D.tup [wayD (way ++ [(i : Int)]), y] :: (pathsF n (y.at 2) (way ++ [(i : Int)]) ++ pathsL (pathsF n) way (i + 1) ys) := hx
        rcases List.mem_cons.mp hx2 with rfl | hx3
        · refine ⟨_, y, rfl, ?_, wy⟩
          have := okD_items (n := 2 * n + 1) (rt_okD rn h) y hy
          exact okD_le this (by omega)
        · rcases List.mem_append.mp hx3 with h4 | h4
          · obtain ⟨hyL, r, _, m, p, _, _, hi, hp⟩ := h.2.2 y hy
            rw [at2 hi] at h4
            obtain ⟨w, c, h5, h6, h7⟩ := okD_paths rn hp x h4
            have wp : wt p ≤ wt y := by
              have := wtL_mem (xs := y.items) (x := p) (by rw [hi]; simp)
              rw [wt_L hyL]
              omega
            exact ⟨w, c, h5, okD_le h6 (by omega), by omega⟩
          · exact ih (i + 1) (fun z hz => hs z (List.mem_cons_of_mem _ hz)) x h4
    exact key d.items 0 fun _ h => h
end Any
set_option Elab.async false
set_option linter.all false
set_option maxRecDepth 100000
set_option maxHeartbeats 4000000
namespace Any
open PySem PySem.Spec PyProof.Rows L2 Evl StX
def rowZ : Row := ⟨"z", Str.empty, ["a"], true⟩
def rowA : Row := ⟨"a", "z", ["a", "z"], false⟩
def rowB : Row := ⟨"a", "z", ["z", "a"], false⟩
def recX : D := .lst [.tup [.str "z", .str "a", .lst [.tup [.str "a", .str "z", .lst []], .lst [.str "a", .str "a", .tup []]]], .lst [.str "z", .str "a", .tup []]]
def recY : D := .tup [.tup [.str "z", .str "a", .tup []], .tup [.str "z", .str "a", .tup [.tup [.str "a", .str "a", .tup []], .tup [.str "a", .str "z", .tup []]]]]
theorem sort2 {x y : D} (hf : flatL [x, y] = true) (ha : ([x, y].all fun u => [x, y].all fun v => PySem.W.alike u.py v.py) = true) (h : leD y x = true) : sortD [x, y] = [y, x] := by
  rw [sortD_same (List.Perm.swap y x []) hf fun u hu v hv => List.all_eq_true.mp (List.all_eq_true.mp ha u hu) v hv]
  exact sortD_id (List.pairwise_cons.mpr ⟨fun z hz => by rw [List.mem_singleton.mp hz]; exact h, List.pairwise_singleton _ _⟩)
theorem sMarks_of {ms : List Str} (h : (ms.map D.str).Pairwise (fun a b => leD a b = true)) : sMarks ms = ms := strs_inj (by rw [sMarks_D, sortD_id h])
theorem told_nilL (n : Nat) : toldH (n + 1) (.lst []) = .tup [] := by
  rw [toldH_succ]
  show D.tup (sortD []) = _
  rw [sortD_nil]
theorem told_nilT (n : Nat) : toldH (n + 1) (.tup []) = .tup [] := by
  rw [toldH_succ]
  show D.tup (sortD []) = _
  rw [sortD_nil]
theorem told_X : toldH 4 recX = recY := by
  have h3 : toldH 3 (.lst [.tup [.str "a", .str "z", .lst []], .lst [.str "a", .str "a", .tup []]]) = .tup [.tup [.str "a", .str "a", .tup []], .tup [.str "a", .str "z", .tup []]] := by
    rw [toldH_succ]
    show D.tup (sortD [.tup [.str "a", .str "z", toldH 2 (.lst [])], .tup [.str "a", .str "a", toldH 2 (.tup [])]]) = _
    rw [told_nilL, told_nilT, sort2 rfl (by decide +kernel) (by decide +kernel)]
  rw [toldH_succ]
  show D.tup (sortD [.tup [.str "z", .str "a", toldH 3 (.lst [.tup [.str "a", .str "z", .lst []], .lst [.str "a", .str "a", .tup []]])], .tup [.str "z", .str "a", toldH 3 (.tup [])]]) = _
  rw [h3, told_nilT, sort2 rfl (by decide +kernel) (by decide +kernel)]
  rfl
theorem gr2 : ∃ lv, Gr [rowA, rowZ] lv := by
  have nz : isNameS "z" = true := by decide +kernel
  have na : isNameS "a" = true := by decide +kernel
  have g0 := Gr.nil
  have oz : rowZ.Ok := ⟨nz, .inl rfl, (fun z => by cases z), fun m hm => by rw [List.mem_singleton.mp hm]; exact na, by decide +kernel, by decide⟩
  have oa : rowA.Ok := ⟨na, .inr nz, (fun z => by cases z), fun m hm => by
    rcases List.mem_cons.mp hm with rfl | hm
    · exact na
    · rw [List.mem_singleton.mp hm]; exact nz, by decide +kernel, by decide⟩
  have g1 := g0.add (r := rowZ) oz (fun z => by cases z) (.inl rfl) (by decide) (sMarks_of (List.pairwise_singleton _ _)) (by decide) (by decide)
  have g2 := g1.add (r := rowA) oa (by decide +kernel) (.inr ⟨rowZ, List.mem_append_right _ List.mem_cons_self, rfl, fun z => by cases z⟩) (by decide +kernel) (sMarks_of (List.pairwise_cons.mpr ⟨fun z hz => by
    have hz2 : z ∈ [D.str "z"] := hz
    rw [List.mem_singleton.mp hz2]
    decide +kernel, List.pairwise_singleton _ _⟩)) (by decide) (by decide)
  exact ⟨_, g2.perm (List.Perm.swap _ _ _)⟩
theorem sort_two : sortRows [rowA, rowZ] = [rowA, rowZ] := rows_inj (by
  rw [sortRows_D]
  exact sortD_id (List.pairwise_cons.mpr ⟨fun z hz => by
    have hz2 : z ∈ [rowD rowZ] := hz
    rw [List.mem_singleton.mp hz2]
    decide +kernel, List.pairwise_singleton _ _⟩))
theorem mx2 : Mx [rowA, rowZ] [rowZ, rowB] := by
  have sz : Sm rowZ rowZ := ⟨rfl, rfl, rfl, List.Perm.refl _⟩
  have sa : Sm rowA rowB := ⟨rfl, rfl, rfl, List.Perm.swap _ _ _⟩
  refine ⟨List.Perm.swap _ _ _, fun s hs => ?_, fun r hr => ?_, ?_⟩
  · rcases List.mem_cons.mp hs with rfl | hs
    · exact ⟨rowZ, by simp, sz⟩
    · rw [List.mem_singleton.mp hs]; exact ⟨rowA, by simp, sa⟩
  · rcases List.mem_cons.mp hr with rfl | hr
    · exact ⟨rowB, by simp, sa⟩
    · rw [List.mem_singleton.mp hr]; exact ⟨rowZ, by simp, sz⟩
  · show [rowS rowZ, rowS rowB].Perm [rowS rowA, rowS rowZ]
    rw [sa.rowS]
    exact List.Perm.swap _ _ _
theorem rt2 : RtH [rowA, rowZ] 4 Str.empty recX := by
  refine ⟨rfl, by decide, fun x hx => ?_⟩
  have hx2 : x ∈ [D.tup [.str "z", .str "a", .lst [.tup [.str "a", .str "z", .lst []], .lst [.str "a", .str "a", .tup []]]], D.lst [.str "z", .str "a", .tup []]] := hx
  have leaf : ∀ (n : Nat) (a : Str) (d : D), d.isL = true → d.items = [] → RtH [rowA, rowZ] (n + 1) a d := fun n a d h1 h2 => ⟨h1, by rw [h2]; decide, fun y hy => by rw [h2] at hy; cases hy⟩
  rcases List.mem_cons.mp hx2 with rfl | hx2
  · refine ⟨rfl, rowZ, by simp, "a", _, rfl, by simp [rowZ], rfl, rfl, by decide, fun y hy => ?_⟩
    have hy2 : y ∈ [D.tup [.str "a", .str "z", .lst []], D.lst [.str "a", .str "a", .tup []]] := hy
    rcases List.mem_cons.mp hy2 with rfl | hy2
    · exact ⟨rfl, rowA, by simp, "z", _, rfl, by simp [rowA], rfl, leaf _ _ _ rfl rfl⟩
    · rw [List.mem_singleton.mp hy2]
      exact ⟨rfl, rowA, by simp, "a", _, rfl, by simp [rowA], rfl, leaf _ _ _ rfl rfl⟩
  · rw [List.mem_singleton.mp hx2]
    exact ⟨rfl, rowZ, by simp, "a", _, rfl, by simp [rowZ], rfl, leaf _ _ _ rfl rfl⟩
theorem f1a : standF [] 7 (.lst [.tup [.str "a", .str "b", .lst []]]) = badD "kind" [0] := rfl
theorem f1b : recOf [] 7 (.tup [.str "a", .str "b", .tup []]) = false := by decide +kernel
theorem f2a : standF [rowA, rowZ] 7 (.lst [.str "zaz"]) = badD "record" [0] := rfl
theorem f2b : standF [rowA, rowZ] 7 (.lst [.tup [.str "z", .str "a", .str "a"]]) = badD "list" [0] := by rfl
theorem f2c : (standF [rowA, rowZ] 7 (.lst [.tup [.str "z", .str "a", .lst [.str "az()"]]])).isN = false := by decide +kernel
def lvlB : Nat → D → Bool
  | 0, d => !d.isL
  | n + 1, d => d.items.all (lvlB n)
theorem lvl_of : ∀ {n : Nat} {d : D}, lvlB n d = true → lvl n d
  | 0, d, h => by
    have h2 : (!d.isL) = true := h
    show d.isL = false
    simpa using h2
  | n + 1, d, h => fun y hy => lvl_of (List.all_eq_true.mp (show d.items.all (lvlB n) = true from h) y hy)
def dptB : Nat → D → Bool
  | 0, d => !d.isL
  | n + 1, d => d.items.all fun x => !x.isL || x.items.all (dptB n)
theorem dpt_of : ∀ {n : Nat} {d : D}, dptB n d = true → dpt n d
  | 0, d, h => by
    have h2 : (!d.isL) = true := h
    show d.isL = false
    simpa using h2
  | n + 1, d, h => fun _ x hx hL y hy => by
    have h1 := List.all_eq_true.mp (show (d.items.all fun x => !x.isL || x.items.all (dptB n)) = true from h) x hx
    rw [hL] at h1
    exact dpt_of (List.all_eq_true.mp (show x.items.all (dptB n) = true from h1) y hy)
theorem dpts_of {n : Nat} {d : D} (h : d.items.all (dptB n) = true) : d.isL = true → ∀ y ∈ d.items, dpt n y := fun _ y hy => dpt_of (List.all_eq_true.mp h y hy)
section
variable {K : PySem.W.Frag} {CK : Addr} {H H' H0 Hc : Hp} {σ : L2.St} {W L : Addr} {m m' : Nat}
/-- x = e, while the list at L is being filled -/
theorem q_setC {te : TE} {i : Nat} {tz : TS} {D0 : Ends} {R : D → Prop} {ws : List V} (F : Fr W H0 H m Hc) (hLn : H L = none) (hL : Hc L = some (.lst ws)) (h : EvW K CK W m m' te σ (hid H0 H (cut L Hc)) R)
    (k : ∀ d v H', R d → Fr W H0 H m' H' → Ex (hid H0 H (cut L Hc)) (hid H0 H (cut L H')) → H' L = some (.lst ws) → Rep K CK (hid H0 H (cut L H')) d v → tz D0 (σ.set i (some v)) H') : tSeq (tAsg te (gName i)) tz D0 σ Hc := by
  have wl : W ≠ L := fun c => by have := F.hws; rw [c, hLn] at this; cases this
  exact h Hc (fun a o z => cut_sub _ _ (hid_sub _ _ z)) (hid_no F.hw0 F.hws) F.hw _ fun d v H' hd e hw r => k d v H' hd (F.next e hw) (hcW_mono F.hw0 F.hws fun a o aW aL z => e _ _ (cut_at aW z)) (e _ _ (cut_at wl.symm hL)) (r.ex (hc_inW F.eW F.hw.some (by rw [hL]; rfl) hLn))
end
theorem rt_nil {rs : List Row} {d : D} (h1 : d.isL = true) (h2 : d.items = []) : RtH rs 4 Str.empty d := ⟨h1, by rw [h2]; decide, fun y hy => by rw [h2] at hy; cases hy⟩
theorem rowsD2 : RowsD [rowZ, rowB] [.tup [.str "z", .str Str.empty, .lst [.str "a"], .bl true], .tup [.str "a", .str "z", .lst [.str "z", .str "a"], .bl false]] := by
  refine ⟨rfl, fun i r d hr hd => ?_⟩
  match i, hr, hd with
  | 0, hr, hd => cases hr; cases hd; exact ⟨rfl, _, rfl, rfl, rfl⟩
  | 1, hr, hd => cases hr; cases hd; exact ⟨rfl, _, rfl, rfl, rfl⟩
theorem kinds_nil : kindsOf [] = [] := by
  have := (sortRows_perm []).length_eq
  exact List.eq_nil_of_length_eq_zero this
end Any
set_option Elab.async false
set_option linter.all false
set_option maxRecDepth 100000
set_option maxHeartbeats 8000000
namespace Any
open PySem PySem.Spec PyProof.Rows L2 Evl StX
section
variable {P : Program} {w : World} {K : PySem.W.Frag} {mg : Str → Option Value} {base : Heap} {CK : Addr}
theorem scLaw : FnScope ["script", "place", "well", "turn", "rows", "kinds", "stand", "things", "path", "record", "thing", "none", "found", "two", "due", "one"] ["script"] (defScope sLaw) := ⟨rfl, rfl, rfl, by decide +kernel, rfl, by decide +kernel, by decide +kernel⟩
def okR (p : List Row × (Str → Nat)) : Prop := Gr p.1 p.2 ∧ p.1 ≠ []
abbrev spStandE (K : PySem.W.Frag) (CK : Addr) : Sp := spSome okR fun p => spLStand K CK p.1 12
abbrev spBentE (K : PySem.W.Frag) (CK : Addr) : Sp := spSome okR fun p => spBent K CK p.1 4 2884
def spLaw (K : PySem.W.Frag) : Sp := fun vs H Q _ => ∃ (a : Addr) (ns : List Int), vs = [V.ref a] ∧ SqL K H a (ns.map V.int) ∧ ∀ H', Q (.bl true) H'
theorem ok_law (A : Lw K mg) (F : Sts P w K mg base CK) (dAA : Def K mg "are_alike" sAreAlike ["kinds", "stand", "mate"]) (dSO : Def K mg "size_of" sSizeOf ["kinds", "stand"]) (dIR : Def K mg "is_record" sIsRecord ["kinds", "thing"]) (dIS : Def K mg "is_stand" sIsStand ["kinds", "thing"])
    (dT : Def K mg "_law_told_right" sLToldR ["well", "kinds", "rows", "stand"]) (dM : Def K mg "_law_mate_right" sLMateR ["well", "kinds", "rows", "stand"]) (dJ : Def K mg "_law_judged_right" sLJudgedR ["kinds", "rows", "thing"])
    (i : MDef K CK "__init__" "Kinds.__init__" sKInit ["self", "rows"]) (GI : FnOk P w K mg base CX0 5 i.f i.fd ["self", "rows"] (spKInit K CK)) (M : Mk K CK i.f) (d : Def K mg "law" sLaw ["script"]) :
    FnG P w K mg base 23 d.f d.fd ["script"] (spLaw K) := by
  have N := F.N
  have T := F.T
  refine okG d.F scLaw (fun vs H Q E h => ?_) (fun cdv Ar outer s H vs Q E hA hNo hr h => ?_)
  · obtain ⟨_, _, rfl, _⟩ := h
    rfl
  obtain ⟨a, ns, rfl, hs, q⟩ := h
  have hu := hr.units
  have GW : FnOk P w K mg base CX0 22 A.well.f A.well.fd ["script", "place"] (spWell K) := (ok_well A.well N).mono (by omega)
  have GD : FnOk P w K mg base CX0 22 A.draw.f A.draw.fd ["well", "many"] spDraw := (ok_draw A.draw N).mono (by omega)
  have GR : FnOk P w K mg base CX0 22 A.rows.f A.rows.fd ["well", "many", "levels", "marks"] (spRows K CK) := (ok_rows A.rows A.chain A.row A.mixed A.pick A.draw T N).mono (by omega)
  have GK : FnOk P w K mg base CX0 22 A.kinds.f A.kinds.fd ["well", "rows"] (spLKinds K CK) := (ok_lkinds A.kinds A.loose A.mixed A.draw GI M F.mgK T N).mono (by omega)
  have GS : FnOk P w K mg base CX0 22 A.stand.f A.stand.fd ["well", "rows", "many"] (spStandE K CK) := (FnOk.some fun p hp => ok_stand (by omega) hp.1.lvl hp.1.kok hp.2 hp.1.ms A.stand A.grown A.built A.draw A.pick N).mono (by omega)
  have GB : FnOk P w K mg base CX0 22 A.bent.f A.bent.fd ["well", "rows", "stand"] (spBentE K CK) := (FnOk.some fun p hp => ok_bent hp.2 hp.1.rn A.bent A.odd A.draw A.pick N 4 (by omega)).mono (by omega)
  have GL : FnOk P w K mg base CX0 22 A.loose.f A.loose.fd ["well", "thing"] (spLoose K CK 14) := (ok_loose A.loose A.mixed A.draw T N 14).mono (by omega)
  have GPa : FnOk P w K mg base CX0 22 A.passed.f A.passed.fd ["well", "stand"] (spPassed K CK 4) := (ok_passed A.passed A.mixed A.draw N 4 (by omega)).mono (by omega)
  have GPt : FnOk P w K mg base CX0 22 A.paths.f A.paths.fd ["records", "way"] (spPaths K CK 4) := (ok_paths A.paths N 4).mono (by omega)
  have GSa : FnOk P w K mg base CX0 22 A.same.f A.same.fd ["found", "due"] (spSame K CK 9) := (ok_same A.same T N 9).mono (by omega)
  have GTR : FnG P w K mg base 18 dT.f dT.fd ["well", "kinds", "rows", "stand"] (spTellR K CK) := ok_toldR A F dAA dSO dT
  have GMR : FnOk P w K mg base CX0 22 dM.f dM.fd ["well", "kinds", "rows", "stand"] (spMateR K CK) := (ok_mate A F dAA dM).mono (by omega)
  have GJR : FnG P w K mg base 22 dJ.f dJ.fd ["kinds", "rows", "thing"] (spJudged K CK) := ok_judged A F dIR dIS dJ
  have GTS : FnOk P w K mg base CX0 22 F.dTS.f F.dTS.fd ["kinds", "stand"] (spRight K CK 4 (toldH 4)) := (ok_told_stand F 4).mono (by omega)
  have GSO : FnOk P w K mg base CX0 22 dSO.f dSO.fd ["kinds", "stand"] (spRight K CK 4 fun x => .int (sizeH 4 x)) := (ok_size_of dSO F 4).mono (by omega)
  have GSF : FnOk P w K mg base CX0 22 F.dSF.f F.dSF.fd ["kinds", "thing"] (spStandF K CK 7) := (ok_stand_fault F 7).mono (by omega)
  have GIS : FnOk P w K mg base CX0 22 dIS.f dIS.fd ["kinds", "thing"] (spIsStand K CK 7) := (ok_is_stand dIS F 7).mono (by omega)
  have GIR : FnOk P w K mg base CX0 22 dIR.f dIR.fd ["kinds", "thing"] (spIsRecord K CK 7) := (ok_is_record dIR F 7).mono (by omega)
  have hex : sysModules ∉ ([] : List Addr) := by simp
  have hr6 : Room (5 + 1) _ := hr.mono (by decide)
  have hr18 : Room 18 _ := hr.mono (by decide)
  refine ⟨_, pss_cons (ps_for PassesOwn.never rfl (pi_range1 (by rfl) N.range (pa_cons pe_int pa_nil)) (pg_name (i := 1) scLaw.nd rfl (.inl rfl))
      (pss_cons (ps_set (i := 2) scLaw.nd rfl (.inr rfl) (pe_call GW hr (by rfl) A.well.m A.well.F.kp A.well.b .nil pass0 (pa_cons (pv 0) (pa_cons (pv 1) pa_nil))))
      (pss_one (ps_for PassesOwn.never rfl (pi_range1 (by rfl) N.range (pa_cons pe_int pa_nil)) (pg_name (i := 3) scLaw.nd rfl (.inl rfl))
        (pss_cons (ps_set (i := 4) scLaw.nd rfl (.inr rfl) (pe_call GR hr (by rfl) A.rows.m A.rows.F.kp A.rows.b .nil pass0 (pa_cons (pv 2) (pa_cons (pe_op op_add pe_int (pe_call GD hr (by rfl) A.draw.m A.draw.F.kp A.draw.b .nil pass0 (pa_cons (pv 2) (pa_cons pe_int pa_nil))))
            (pa_cons (pe_op op_add pe_int (pe_call GD hr (by rfl) A.draw.m A.draw.F.kp A.draw.b .nil pass0 (pa_cons (pv 2) (pa_cons pe_int pa_nil)))) (pa_cons pe_int pa_nil))))))
        (pss_cons (ps_asg (pe_tup (pa_cons (pe_call GK hr (by rfl) A.kinds.m A.kinds.F.kp A.kinds.b .nil pass0 (pa_cons (pv 2) (pa_cons (pv 4) pa_nil))) (pa_cons (pe_call GS hr (by rfl) A.stand.m A.stand.F.kp A.stand.b .nil pass0 (pa_cons (pv 2) (pa_cons (pv 4) (pa_cons pe_int pa_nil)))) pa_nil)))
            (pg_unp rfl (pgs_cons (pg_name (i := 5) scLaw.nd rfl (.inl rfl)) (pgs_cons (pg_name (i := 6) scLaw.nd rfl (.inr rfl)) pgs_nil))))
        (pss_cons (ps_if (PW.pt (pw_or (pt_not (pt_val (pe_callG GTR hA hNo hex hr18 (by rfl) dT.m dT.F.kp dT.b pass0 (pa_cons (pv 2) (pa_cons (pv 5) (pa_cons (pv 4) (pa_cons (pv 6) pa_nil)))))))
            (pw_or1 (pt_not (pt_val (pe_call GMR hr (by rfl) dM.m dM.F.kp dM.b .nil pass0 (pa_cons (pv 2) (pa_cons (pv 5) (pa_cons (pv 4) (pa_cons (pv 6) pa_nil)))))))))) (pss_one (ps_ret pe_bl)) pss_nil)
        (pss_cons (ps_set (i := 7) scLaw.nd rfl (.inl rfl) (pe_op op_cat (pe_lst (pa_cons (pe_call GPa hr (by rfl) A.passed.m A.passed.F.kp A.passed.b .nil pass0 (pa_cons (pv 2) (pa_cons (pv 6) pa_nil))) pa_nil))
            (pe_lc (own := [("one", 15)]) (g := gName 15) (tt := tYes) (te := tCall (spLoose K CK 14) [] E0 (tCons (tVar 2) (tCons (tCall (spBentE K CK) [] E0 (tCons (tVar 2) (tCons (tVar 4) (tCons (tVar 6) tNil)))) tNil))) rfl scLaw.nd (pi_range1 (by rfl) N.range (pa_cons pe_int pa_nil))
              (blkOk_by (N := ["script", "place", "well", "turn", "rows", "kinds", "stand", "things", "path", "record", "thing", "none", "found", "two", "due", "one"]) (sc := defScope sLaw) (by decide +kernel)) (fun _ _ _ _ _ => pg_name (i := 15) scLaw.nd rfl (Or.inl rfl)) (fun _ _ _ _ _ => pts_nil)
              (fun _ _ _ _ _ => pe_call GL hr (by rfl) A.loose.m A.loose.F.kp A.loose.b .nil pass0 (pa_cons (pv 2) (pa_cons (pe_call GB hr (by rfl) A.bent.m A.bent.F.kp A.bent.b .nil pass0 (pa_cons (pv 2) (pa_cons (pv 4) (pa_cons (pv 6) pa_nil)))) pa_nil))))))
        (pss_cons (ps_for PassesOwn.never rfl (pi_list (pe_call GPt hr (by rfl) A.paths.m A.paths.F.kp A.paths.b .nil pass0 (pa_cons (pv 6) (pa_cons (pe_tup pa_nil) pa_nil)))) (pg_unp rfl (pgs_cons (pg_name (i := 8) scLaw.nd rfl (.inl rfl)) (pgs_cons (pg_name (i := 9) scLaw.nd rfl (.inl rfl)) pgs_nil)))
          (pss_one (ps_expr (pe_bm PySem.F.plainAttrs_list PySem.F.slot_list_append PySem.F.type_list_append mt_append (pv 7) (pa_cons (pv 9) pa_nil)))))
        (pss_one (ps_for PassesOwn.never rfl (pi_list (pv 7)) (pg_name (i := 10) scLaw.nd rfl (.inl rfl))
          (pss_one (ps_if (pt_not (pt_val (pe_callG GJR hA hNo hex hr (by rfl) dJ.m dJ.F.kp dJ.b pass0 (pa_cons (pv 5) (pa_cons (pv 4) (pa_cons (pv 10) pa_nil)))))) (pss_one (ps_ret pe_bl)) pss_nil)))))))))))))
    (pss_cons (ps_set (i := 11) scLaw.nd rfl (.inl rfl) (pe_make M GI hr6 (by rfl) F.mgK i.b .nil pass0 (pa_cons (pe_lst pa_nil) pa_nil)))
    (pss_cons (ps_set (i := 12) scLaw.nd rfl (.inl rfl) (pe_lst (pa_cons (pe_call GTS hr (by rfl) F.dTS.m F.dTS.F.kp F.dTS.b .nil pass0 (pa_cons (pv 11) (pa_cons (pe_lst pa_nil) pa_nil)))
        (pa_cons (pe_call GSO hr (by rfl) dSO.m dSO.F.kp dSO.b .nil pass0 (pa_cons (pv 11) (pa_cons (pe_tup pa_nil) pa_nil)))
        (pa_cons (pe_call GSF hr (by rfl) F.dSF.m F.dSF.F.kp F.dSF.b .nil pass0 (pa_cons (pv 11) (pa_cons (pe_lst (pa_cons (pe_tup (pa_cons pe_str (pa_cons pe_str (pa_cons (pe_lst pa_nil) pa_nil)))) pa_nil)) pa_nil)))
        (pa_cons (pe_call GIR hr (by rfl) dIR.m dIR.F.kp dIR.b .nil pass0 (pa_cons (pv 11) (pa_cons (pe_tup (pa_cons pe_str (pa_cons pe_str (pa_cons (pe_tup pa_nil) pa_nil)))) pa_nil))) pa_nil))))))
    (pss_cons (ps_set (i := 13) scLaw.nd rfl (.inl rfl) (pe_make M GI hr6 (by rfl) F.mgK i.b .nil pass0 (pa_cons (pe_lst (pa_cons (pe_tup (pa_cons pe_str (pa_cons pe_str (pa_cons (pe_lst (pa_cons pe_str pa_nil)) (pa_cons pe_bl pa_nil)))))
        (pa_cons (pe_tup (pa_cons pe_str (pa_cons pe_str (pa_cons (pe_lst (pa_cons pe_str (pa_cons pe_str pa_nil))) (pa_cons pe_bl pa_nil))))) pa_nil))) pa_nil)))
    (pss_cons (ps_expr (pe_bm PySem.F.plainAttrs_list PySem.F.slot_list_append PySem.F.type_list_append mt_append (pv 12) (pa_cons (pe_call GTS hr (by rfl) F.dTS.m F.dTS.F.kp F.dTS.b .nil pass0 (pa_cons (pv 13) (pa_cons (pe_lst
        (pa_cons (pe_tup (pa_cons pe_str (pa_cons pe_str (pa_cons (pe_lst (pa_cons (pe_tup (pa_cons pe_str (pa_cons pe_str (pa_cons (pe_lst pa_nil) pa_nil)))) (pa_cons (pe_lst (pa_cons pe_str (pa_cons pe_str (pa_cons (pe_tup pa_nil) pa_nil)))) pa_nil))) pa_nil))))
        (pa_cons (pe_lst (pa_cons pe_str (pa_cons pe_str (pa_cons (pe_tup pa_nil) pa_nil)))) pa_nil))) pa_nil))) pa_nil)))
    (pss_cons (ps_expr (pe_bm PySem.F.plainAttrs_list PySem.F.slot_list_extend PySem.F.type_list_extend mt_extend (pv 12) (pa_cons (pe_lst (pa_cons (pe_call GSF hr (by rfl) F.dSF.m F.dSF.F.kp F.dSF.b .nil pass0 (pa_cons (pv 13) (pa_cons (pe_lst (pa_cons pe_str pa_nil)) pa_nil)))
        (pa_cons (pe_call GSF hr (by rfl) F.dSF.m F.dSF.F.kp F.dSF.b .nil pass0 (pa_cons (pv 13) (pa_cons (pe_lst (pa_cons (pe_tup (pa_cons pe_str (pa_cons pe_str (pa_cons pe_str pa_nil)))) pa_nil)) pa_nil)))
        (pa_cons (pe_call GIS hr (by rfl) dIS.m dIS.F.kp dIS.b .nil pass0 (pa_cons (pv 13) (pa_cons (pe_lst (pa_cons (pe_tup (pa_cons pe_str (pa_cons pe_str (pa_cons (pe_lst (pa_cons pe_str pa_nil)) pa_nil)))) pa_nil)) pa_nil))) pa_nil)))) pa_nil)))
    (pss_cons (ps_set (i := 14) scLaw.nd rfl (.inl rfl) (pe_lst (pa_cons (pe_tup pa_nil) (pa_cons pe_int (pa_cons (pe_tup (pa_cons pe_str (pa_cons (pe_tup (pa_cons pe_int pa_nil)) pa_nil))) (pa_cons pe_bl
        (pa_cons (pe_tup (pa_cons (pe_tup (pa_cons pe_str (pa_cons pe_str (pa_cons (pe_tup pa_nil) pa_nil)))) (pa_cons (pe_tup (pa_cons pe_str (pa_cons pe_str (pa_cons (pe_tup (pa_cons (pe_tup (pa_cons pe_str (pa_cons pe_str (pa_cons (pe_tup pa_nil) pa_nil))))
          (pa_cons (pe_tup (pa_cons pe_str (pa_cons pe_str (pa_cons (pe_tup pa_nil) pa_nil)))) pa_nil))) pa_nil)))) pa_nil))) pa_nil)))))))
    (pss_one (ps_ret (pe_call GSa hr (by rfl) A.same.m A.same.F.kp A.same.b .nil pass0 (pa_cons (pv 12) (pa_cons (pe_op op_cat (pv 14) (pe_lst (pa_cons (pe_tup (pa_cons pe_str (pa_cons (pe_tup (pa_cons pe_int pa_nil)) pa_nil)))
        (pa_cons (pe_tup (pa_cons pe_str (pa_cons (pe_tup (pa_cons pe_int pa_nil)) pa_nil))) (pa_cons pe_bl pa_nil))))) pa_nil))))))))))), ?_⟩
  have kP4 : kP 4 = 8597841 := by decide
  obtain ⟨T1, hT1⟩ : ∃ t, t = 1300000000 := ⟨_, rfl⟩
  obtain ⟨k2, hk2⟩ : ∃ k, k = 63323260 := ⟨_, rfl⟩
  -- the places
  refine ⟨3, rfl, by decide, by decide, for_it (walk_range (lo := 0) (n := 3)) (fun i σ' H' => (∃ b1 b2 b3 b4 b5 b6 b7 b8 b9 b10 b11 b12 b13 b14 b15, σ' = [some (.ref a), b1, b2, b3, b4, b5, b6, b7, b8, b9, b10, b11, b12, b13, b14, b15]) ∧ Ex H H' ∧ (i = 0 ∨ ∃ W, WellAt W 0 H')) ?_ (fun _ _ _ _ _ => trivial) ?_ ?_⟩
  · exact ⟨⟨_, _, _, _, _, _, _, _, _, _, _, _, _, _, _, rfl⟩, Ex.refl H, .inl rfl⟩
  · rintro i x σ' Hx0 Hx hi ⟨⟨b1, b2, b3, b4, b5, b6, b7, b8, b9, b10, b11, b12, b13, b14, b15, rfl⟩, eH, _⟩ ⟨rfl, rfl⟩
    refine ⟨_, rfl, _, rfl, a, ns, i, (by show [V.ref a, V.int (0 + ((i : Nat) : Int))] = _; rw [Int.zero_add]), ex_l eH hs, by omega, fun W H1 hWn e1 hw1 => ?_⟩
    have F0 : Fr W Hx H1 (T1 * (3 - 0)) H1 := .start e1 hWn (hw1.less (by rw [hT1]; decide))
    -- the turns
    refine ⟨3, rfl, by decide, by decide, for_it (walk_range (lo := 0) (n := 3)) (fun j σ' Hc => (∃ b3 b4 b5 b6 b7 b8 b9 b10 b11 b12 b13 b14 b15, σ' = [some (.ref a), some (.int (0 + (i : Nat))), some (.ref W), b3, b4, b5, b6, b7, b8, b9, b10, b11, b12, b13, b14, b15]) ∧ Fr W Hx H1 (T1 * (3 - j)) Hc) ?_ (fun _ _ _ _ _ => trivial) ?_ ?_⟩
    · exact ⟨⟨_, _, _, _, _, _, _, _, _, _, _, _, _, rfl⟩, F0⟩
    · rintro j x σ' Hb0 Hb hj ⟨⟨b3, b4, b5, b6, b7, b8, b9, b10, b11, b12, b13, b14, b15, rfl⟩, Fj⟩ ⟨rfl, rfl⟩
      have hmm : T1 * (3 - j) = T1 * (3 - (j + 1)) + T1 := by
        have : 3 - j = (3 - (j + 1)) + 1 := by omega
        rw [this, Nat.mul_succ]
      rw [hmm] at Fj
      obtain ⟨c7, hc7⟩ : ∃ c, c = T1 * (3 - (j + 1)) := ⟨_, rfl⟩
      rw [← hc7] at Fj
      obtain ⟨c6, h6⟩ : ∃ c, c = c7 + 886526200 := ⟨_, rfl⟩
      obtain ⟨c5, h5⟩ : ∃ c, c = c6 + kP 4 := ⟨_, rfl⟩
      obtain ⟨c4, h4⟩ : ∃ c, c = c5 + 90000000 := ⟨_, rfl⟩
      obtain ⟨c3, h3⟩ : ∃ c, c = c4 + 90000000 := ⟨_, rfl⟩
      obtain ⟨c2, h2⟩ : ∃ c, c = c3 + 41 := ⟨_, rfl⟩
      obtain ⟨c1, h1⟩ : ∃ c, c = c2 + 15000000 := ⟨_, rfl⟩
      obtain ⟨c0, h0⟩ : ∃ c, c = c1 + 6102 := ⟨_, rfl⟩
      have Fa : Fr W Hx H1 c0 Hb := ⟨Fj.e0, Fj.hw0, Fj.hws, Fj.eW, Fj.hw.less (by rw [kP4] at h5; omega)⟩
      show tSeq _ _ _ [some (.ref a), some (.int (0 + (i : Nat))), some (.ref W), some (.int (0 + (j : Nat))), b4, b5, b6, b7, b8, b9, b10, b11, b12, b13, b14, b15] Hb
      -- rows
      refine q_setF (K := K) (CK := CK) (m' := c1) Fa (ew_more (m := c1 + 6100 + 1 + 1) (eww_call (m := c1) (k := 6100) (n := 3) (i := 2) (R := fun ds d => ∃ rs lv, d = rowsD rs ∧ Gr rs lv ∧ rs ≠ [] ∧ sortRows rs = rs) (pre := fun ds => ∃ many levels : Nat, ds = [.int many, .int levels, .int 3] ∧ 1 ≤ many ∧ many ≤ 5 ∧ levels ≤ 3) (R2 := fun d => ∃ rs lv, d = rowsD rs ∧ Gr rs lv ∧ rs ≠ [] ∧ sortRows rs = rs) rfl
        (eaw_cons (ew_1draw (m := c1 + 6100 + 1) (i := 2) (n := 5) rfl (by decide) (by decide)) (eaw_cons (ew_1draw (m := c1 + 6100) (i := 2) (n := 3) rfl (by decide) (by decide)) (eaw_cons (EvD.w ed_int) eaw_nil))) (by
          rintro ds ⟨_, l1, rfl, ⟨e1, rfl, g1⟩, _, l2, rfl, ⟨e2, rfl, g2⟩, _, l3, rfl, rfl, rfl⟩
          exact ⟨rfl, ⟨1 + e1, 1 + e2, rfl, by omega, by omega, by omega⟩, fun d h => h⟩)) (by omega)) fun dR vR H2 hR F2 up2 rR => ?_
      obtain ⟨rs, lv, rfl, g, hne, hsrt⟩ := hR
      -- kinds, stand
      refine q_unpW (K := K) (CK := CK) (m' := c3) F2 (ew_tup (eaw_cons (ew_more (m1 := c1) (ew_call (m := c2) (k := 15000000) (n := 1) (i := 2) (R := fun ds d => ∀ rs, ds = [rowsD rs] → d = kindsD rs) (pre := fun ds => ∃ rs lv, ds = [rowsD rs] ∧ Gr rs lv ∧ sortRows rs = rs) (ds := [rowsD rs]) rfl (ead_cons (ed_var (i := 4) rfl rR) ead_nil) rfl ⟨rs, lv, rfl, g, hsrt⟩) (by omega))
        (eaw_cons (ew_more (m1 := c2) (ews_call (m := c3) (k := 41) (n := 2) (i := 2) (p := okR) (R := fun p ds d => Stn p.1 12 d) (pre := fun p ds => ds = [rowsD p.1, .int ((12 : Nat) : Int)]) (R2 := fun d => Stn rs 12 d) rfl (eaw_cons (EvD.w (ed_var (i := 4) rfl rR)) (eaw_cons (EvD.w ed_int) eaw_nil)) (by
          rintro ds ⟨_, l1, rfl, rfl, _, l2, rfl, rfl, rfl⟩
          exact ⟨(rs, lv), ⟨g, hne⟩, rfl, rfl, fun d h => h⟩)) (by omega)) eaw_nil)) (by
          rintro l ⟨_, _, rfl, _, _, _, rfl, _, rfl⟩
          show (2 : Nat) ≤ 30000
          decide)) fun dT vT H3 hT F3 up3 rT => ?_
      obtain ⟨l, rfl, dk, l1, rfl, hk, st, l2, rfl, hst, rfl⟩ := hT
      obtain rfl : dk = kindsD rs := hk rs rfl
      obtain ⟨v5, v6, r5, r6, hg⟩ := eg_unp2 (σ := [some (.ref a), some (.int (0 + (i : Nat))), some (.ref W), some (.int (0 + (j : Nat))), some vR, b5, b6, b7, b8, b9, b10, b11, b12, b13, b14, b15]) (i := 5) (j := 6) rT rfl rfl
      refine ⟨_, hg, fun H4 F4 up4 => ?_⟩
      have row4 := (rR.ex up3).ex up4
      have k4 := r5.ex up4
      have s4 := r6.ex up4
      -- the two looks
      refine q_ifF (m1 := c5) (P := fun z => z = false) F4 (etw_orF (m1 := c4) (etw_notB (ew_more (m1 := c3) (ew_call (m := c4) (k := 90000000) (n := 3) (i := 2) (R := fun ds d => d = .bl true) (pre := fun ds => ∃ rs lv s, ds = [kindsD rs, rowsD rs, s] ∧ Gr rs lv ∧ rs ≠ [] ∧ Stn rs 12 s) (ds := [kindsD rs, rowsD rs, st]) rfl (ead_cons (ed_var (i := 5) rfl k4) (ead_cons (ed_var (i := 4) rfl row4) (ead_cons (ed_var (i := 6) rfl s4) ead_nil))) rfl ⟨rs, lv, st, rfl, g, hne, hst⟩) (by omega)))
        (etw_notB (ew_more (m1 := c4) (ew_call (m := c5) (k := 90000000) (n := 3) (i := 2) (R := fun ds d => d = .bl true) (pre := fun ds => ∃ rs lv s, ds = [kindsD rs, rowsD rs, s] ∧ Gr rs lv ∧ rs ≠ [] ∧ Stn rs 12 s) (ds := [kindsD rs, rowsD rs, st]) rfl (ead_cons (ed_var (i := 5) rfl k4) (ead_cons (ed_var (i := 4) rfl row4) (ead_cons (ed_var (i := 6) rfl s4) ead_nil))) rfl ⟨rs, lv, st, rfl, g, hne, hst⟩) (by omega)))) (fun h => by cases h) fun _ H5 F5 up5 => ?_
      have row5 := row4.ex up5
      have k5 := k4.ex up5
      have s5 := s4.ex up5
      have ws : wt st ≤ 2884 := by
        have h1 := rt_wt hst.rt
        have h2 := hst.sz
        omega
      -- things
      refine q_catF (K := K) (CK := CK) (m1 := c6) (m' := c7) F5 (R1 := fun xs => xs.length = 1 ∧ ∀ y ∈ xs, okD 14 y ∧ wt y ≤ 63260) (R2 := fun ys => ys.length = 14 ∧ ∀ y ∈ ys, okD 14 y ∧ wt y ≤ 63260)
        (EvW.imp (ew_more (m1 := c5) (m := c6 + kP 4) (ew_lst (eaw_cons (ew_call (m := c6) (k := kP 4) (n := 1) (i := 2) (R := fun ds d => Pas 4 (ds.getD 0 .non) d) (pre := fun ds => ∃ s, ds = [s] ∧ isH 4 s ∧ few 4 s) (ds := [st]) rfl (ead_cons (ed_var (i := 6) rfl s5) ead_nil) rfl ⟨_, rfl, hst.rt.h, hst.rt.few⟩) eaw_nil) (by
          rintro l ⟨_, _, rfl, _, rfl⟩
          show (1 : Nat) ≤ 30000
          decide)) (by omega)) fun e he => by
            obtain ⟨l, rfl, p, l1, rfl, hp, rfl⟩ := he
            refine ⟨_, rfl, rfl, fun y hy => ?_⟩
            rw [List.mem_singleton.mp hy]
            have hpr := hst.rt.pas (show Pas 4 st p from hp)
            have h1 := rt_wt hpr
            have zp : sizeH 4 p = sizeH 4 st := by rw [← size_told 4 p hpr.h, (show Pas 4 st p from hp).2, hst.told]
            have h2 := hst.sz
            exact ⟨okD_le (rt_okD g.rn hpr) (by omega), by omega⟩)
        (EvW.imp (ew_more (m1 := c6) (ew_lc (k := k2 + 40) (m := c7) (vs := [15]) (R := fun _ e => okD 14 e ∧ wt e ≤ 63260) (ei_rangeC (n := 14) (by decide)) (by rw [List.length_map, List.length_range]; decide) fun m2 d2 x2 Hz ez bz hd2 rx => ⟨_, eg_name, rfl, ew_more (m := m2 + k2 + 40) (ewf_call (m := m2) (m1 := m2 + k2 + 40) (kk := k2) (i := 2) (n := 1) (kf := fun ds => 1001 * wt (ds.getD 0 .non)) (R := fun ds d => Lo 14 (ds.getD 0 .non) d) (pre := fun ds => ∃ x, ds = [x] ∧ okD 14 x) (R2 := fun e => okD 14 e ∧ wt e ≤ 63260) rfl
            (eaw_cons (ews_call (m := m2 + k2) (k := 40) (n := 2) (i := 2) (p := okR) (R := fun p ds d => okD (2 * 4 + 6) d ∧ wt d ≤ (4 + 1) * (3 * 2884 + 4000)) (pre := fun p ds => ∃ s a, ds = [rowsD p.1, s] ∧ RtH p.1 4 a s ∧ toldH 4 s = s ∧ wt s ≤ 2884) (R2 := fun e => okD 14 e ∧ wt e ≤ 63260) rfl (eaw_cons (EvD.w (ed_var (i := 4) rfl (row5.ex ez))) (eaw_cons (EvD.w (ed_var (i := 6) rfl (s5.ex ez))) eaw_nil)) (by
              rintro ds ⟨_, l1, rfl, rfl, _, l2, rfl, rfl, rfl⟩
              exact ⟨(rs, lv), ⟨g, hne⟩, rfl, ⟨_, Str.empty, rfl, hst.rt, hst.told, ws⟩, fun d h => ⟨h.1, Nat.le_trans h.2 (by decide)⟩⟩)) eaw_nil) (by
              rintro ds ⟨e, l1, rfl, ⟨he, hw⟩, rfl⟩
              exact ⟨rfl, Nat.le_trans (Nat.mul_le_mul_left _ hw) (by rw [hk2]; decide), ⟨_, rfl, he⟩, fun d hd => by
                obtain ⟨h1, h2⟩ := lo_ok he hd
                exact ⟨h1, by rw [h2]; exact hw⟩⟩)) (by omega)⟩) (by rw [List.length_map, List.length_range, hk2]; omega)) fun e he => by
            obtain ⟨es, rfl, hE⟩ := he
            refine ⟨es, rfl, by rw [hE.len, List.length_map, List.length_range], fun y hy => ?_⟩
            obtain ⟨_, _, h⟩ := hE.mem y hy
            exact h) (fun xs ys h1 h2 => by rw [h1.1, h2.1]; decide) fun xs ys L wl H6 hxs hys hLn F6 up6 hL6 rw6 => ?_
      have row6 := row5.ex up6
      have k6 := k5.ex up6
      have s6 := s5.ex up6
      have cutUp : ∀ {Gp Gq : Hp} {c : Nat}, Fr W Hx H1 c Gp → Ex Gp Gq → Ex (hid Hx H1 (cut L Gp)) (hid Hx H1 (cut L Gq)) := fun F e => hcW_mono F.hw0 F.hws fun a o _ _ z => e _ _ z
      have hbW : hid Hx H1 (cut L H6) W = none := hid_no F6.hw0 F6.hws
      have hbL : hid Hx H1 (cut L H6) L = none := by
        unfold hid
        split
        · rfl
        · exact cut_none
      have sL6 : (H6 L).isSome = true := by rw [hL6]; rfl
      have hpl : (pathsF 4 st []).length ≤ 12 := by
        have h1 := paths_len (way := []) hst.rt.h
        have h2 := hst.sz
        omega
      -- the records
      refine q_forI (K := K) (CK := CK) (H0 := hid Hx H1 (cut L H6)) (ds := pathsF 4 st []) (ei_list (ed_callX (d := .lst (pathsF 4 st [])) (ds := [st, wayD []]) (ead_cons (ed_var (i := 6) rfl s6) (ead_cons (ed_tup ead_nil (by show (0 : Nat) ≤ 30000; decide)) ead_nil)) rfl ⟨st, [], rfl, hst.rt.h, by have := hst.sz; omega, by decide, rfl⟩)) (fun a o z => cut_sub _ _ (hid_sub _ _ z))
        (fun B i2 σ' H' => (∃ d8 d9 d10 d11 d12 d13 d14 d15, σ' = [some (.ref a), some (.int (0 + (i : Nat))), some (.ref W), some (.int (0 + (j : Nat))), some vR, some v5, some v6, some (.ref L), d8, d9, d10, d11, d12, d13, d14, d15]) ∧
          (∀ p, hid Hx H1 (cut L H6) p = none → (H6 p).isSome = true → B p = none) ∧ Ex B H' ∧ Fr W Hx H1 c7 H' ∧ Ex (hid Hx H1 (cut L H6)) (hid Hx H1 (cut L H')) ∧
          ∃ (zs : List D) (wz : List V), H' L = some (.lst wz) ∧ RepL K CK (hid Hx H1 (cut L H')) zs wz ∧ (∀ y ∈ zs, okD 14 y ∧ wt y ≤ 63260) ∧ zs.length ≤ 15 + i2) ?_ ?_ ?_ ?_
      · intro H7 e7
        refine ⟨⟨_, _, _, _, _, _, _, _, rfl⟩, fun p h1 h2 => hid_no h1 h2, hid_sub, F6.next (.of e7) (F6.hw.ex e7), cutUp F6 e7, xs ++ ys, wl, e7 _ _ hL6, RepL.ex (cutUp F6 e7) rw6, fun y hy => ?_, by rw [List.length_append, hxs.1, hys.1]; decide⟩
        exact (List.mem_append.mp hy).elim (hxs.2 y) (hys.2 y)
      · rintro B i2 σ' H' ⟨_, _, h, _⟩
        exact h
      · rintro B B' i2 dk xv σ' Gp Gq _ hx ⟨⟨d8, d9, d10, d11, d12, d13, d14, d15, rfl⟩, bn, bH, Fo, ua, zs, wz, hLp, rz, hz, hzl⟩ epq bb' b'b bfr rx
        have hi2 := (List.getElem?_eq_some_iff.mp hx).1
        obtain ⟨w0, rc, rfl, okr, wr⟩ := okD_paths g.rn hst.rt dk (List.mem_of_getElem? hx)
        obtain ⟨v8, v9, q8, q9, hg2⟩ := eg_unp2 (σ := [some (.ref a), some (.int (0 + (i : Nat))), some (.ref W), some (.int (0 + (j : Nat))), some vR, some v5, some v6, some (.ref L), d8, d9, d10, d11, d12, d13, d14, d15]) (i := 8) (j := 9) rx rfl rfl
        refine hg2 Gq b'b _ fun H7 e7 => ?_
        have Fq : Fr W Hx H1 c7 H7 := Fo.next (.of (epq.trans e7)) (Fo.hw.ex (epq.trans e7))
        have hLq : H7 L = some (.lst wz) := e7 _ _ (epq _ _ hLp)
        have cq := cutUp Fo (epq.trans e7)
        have Fm : Fr W Hx H1 c7 Gq := Fo.next (.of epq) (Fo.hw.ex epq)
        have rc7 := (q9.ex (Fr.itemC F6 Fo epq bn b'b bfr sL6 (by rw [hLp]; rfl))).ex (cutUp Fm e7)
        refine q_pushF (K := K) (CK := CK) (m' := c7) (i := 7) Fq rfl hLn hLq (by rw [rz.len]; omega) (EvD.w (ed_var (i := 9) rfl rc7)) fun dX vX H8 hX F8 up8 hL8 rX => ?_
        subst hX
        refine ⟨⟨_, _, _, _, _, _, _, _, rfl⟩, bn, Fr.stayB Fo F8 (cq.trans up8) bH (bn W hbW F6.hw.some) (bn L hbL sL6), F8, (ua.trans cq).trans up8, zs ++ [dX], _, hL8, RepL.app (RepL.ex up8 (RepL.ex cq rz)) ⟨vX, [], rfl, rX, rfl⟩, fun y hy => ?_, by rw [List.length_append]; show _ + 1 ≤ _; omega⟩
        rcases List.mem_append.mp hy with h | h
        · exact hz y h
        · rw [List.mem_singleton.mp h]
          exact ⟨okD_le okr (by omega), by omega⟩
      · rintro B σ' H' _ ⟨⟨d8, d9, d10, d11, d12, d13, d14, d15, rfl⟩, bn, bH, F9, ua, zs, wz, hL9, rz, hz, hzl⟩
        have rL : Rep K CK (hid Hx H1 H') (.lst zs) (.ref L) := ⟨L, wz, rfl, hid_at hLn hL9, by omega, RepL.ex (hid_mono cut_sub) rz⟩
        have k9 := (k6.ex ua).ex (hid_mono (H0 := Hx) (H1 := H1) (cut_sub (p := L) (H := H')))
        have row9 := (row6.ex ua).ex (hid_mono (H0 := Hx) (H1 := H1) (cut_sub (p := L) (H := H')))
        -- each thing
        refine s_forI (K := K) (CK := CK) (H0 := hid Hx H1 H') (ds := zs) (ei_list (ed_var (i := 7) rfl rL)) hid_sub (fun B i2 σ' Hc => (∃ d8 d9 d10 d11 d12 d13 d14 d15, σ' = [some (.ref a), some (.int (0 + (i : Nat))), some (.ref W), some (.int (0 + (j : Nat))), some vR, some v5, some v6, some (.ref L), d8, d9, d10, d11, d12, d13, d14, d15]) ∧
          (∀ p, hid Hx H1 H' p = none → (H' p).isSome = true → B p = none) ∧ Ex B Hc ∧ Fr W Hx H1 c7 Hc ∧ Ex (hid Hx H1 H') (hid Hx H1 Hc)) ?_ ?_ ?_ ?_
        · intro H7 e7
          exact ⟨⟨_, _, _, _, _, _, _, _, rfl⟩, fun p h1 h2 => hid_no h1 h2, hid_sub, F9.next (.of e7) (F9.hw.ex e7), F9.mono (.of e7)⟩
        · rintro B i2 σ' H' ⟨_, _, h, _⟩
          exact h
        · rintro B B' i2 dk xv σ' Gp Gq _ hx ⟨⟨e8, e9, e10, e11, e12, e13, e14, e15, rfl⟩, bn, bH, Fo, ub⟩ epq bb' b'b bfr rx
          have hdk := hz dk (List.mem_of_getElem? hx)
          have Fq : Fr W Hx H1 c7 Gq := Fo.next (.of epq) (Fo.hw.ex epq)
          have uq := Fo.mono (.of epq)
          have xq := rx.ex (Fr.item F9 Fo epq bn b'b bfr)
          have kq := (k9.ex ub).ex uq
          have rq := (row9.ex ub).ex uq
          show tIfS _ _ _ _ [some (.ref a), some (.int (0 + (i : Nat))), some (.ref W), some (.int (0 + (j : Nat))), some vR, some v5, some v6, some (.ref L), e8, e9, some xv, e11, e12, e13, e14, e15] Gq
          refine s_ifF (b := false) Fq (et_is (et_not (et_B (EvD.b (ed_callX (d := .bl true) (ds := [kindsD rs, rowsD rs, dk]) (ead_cons (ed_var (i := 5) rfl kq) (ead_cons (ed_var (i := 4) rfl rq) (ead_cons (ed_var (i := 10) rfl xq) ead_nil))) rfl ⟨rs, lv, dk, rfl, g, hdk.1, Nat.le_trans hdk.2 (by decide), rfl⟩)))) rfl) (fun h => by cases h) fun _ H8 F8 u8 => ?_
          exact ⟨⟨_, _, _, _, _, _, _, _, rfl⟩, bn, Fr.stay Fq F8 u8 (bb'.trans b'b) (bn W (hid_no F9.hw0 F9.hws) F9.hw.some), F8, (ub.trans uq).trans u8⟩
        · rintro B σ' Hc _ ⟨⟨e8, e9, e10, e11, e12, e13, e14, e15, rfl⟩, bn, bH, Fo, ub⟩
          exact ⟨⟨_, _, _, _, _, _, _, _, _, _, _, _, _, rfl⟩, by rw [← hc7]; exact Fo⟩
    · rintro σ' Hc ⟨⟨b3, b4, b5, b6, b7, b8, b9, b10, b11, b12, b13, b14, b15, rfl⟩, Fc⟩
      exact ⟨⟨_, _, _, _, _, _, _, _, _, _, _, _, _, _, _, rfl⟩, eH.trans (Fc.eW.known Fc.e0 Fc.hw0), .inr ⟨W, Fc.hw⟩⟩
  · rintro σ' Hc ⟨⟨b1, b2, b3, b4, b5, b6, b7, b8, b9, b10, b11, b12, b13, b14, b15, rfl⟩, eH, hw⟩
    obtain ⟨W, hw⟩ := hw.resolve_left (by decide)
    have F : Fr W (cut W Hc) Hc 0 Hc := ⟨cut_sub, cut_none, hw.some, .refl, hw⟩
    obtain ⟨lv2, g2⟩ := gr2
    have kok0 : KOk ([] : List Row) := Gr.nil.kok
    have kok2 : KOk [rowA, rowZ] := g2.kok
    show tSeq _ _ _ [some (.ref a), b1, b2, b3, b4, b5, b6, b7, b8, b9, b10, b11, b12, b13, b14, b15] Hc
    -- none
    refine q_setF (K := K) (CK := CK) F (EvD.w (ed_kinds (rs := []) (d := .lst []) (ead_cons (ed_lst ead_nil (by show (0 : Nat) ≤ 30000; decide)) ead_nil) rfl ⟨rfl, fun i r d h => by cases h⟩ Gr.nil.rowsOk)) fun dN vN H1 hdN F1 up1 rN => ?_
    subst hdN
    rw [kinds_nil] at rN
    -- found
    refine q_lstF (K := K) (CK := CK) (m' := 0) F1 (R := fun l => l = [.tup [], .int 0, badD "kind" [0], .bl false]) (EvAW.imp
      (eaw_cons (EvD.w (ed_callX (d := .tup []) (ds := [kindsD [], .lst []]) (ead_cons (ed_var (i := 11) rfl rN) (ead_cons (ed_lst ead_nil (by show (0 : Nat) ≤ 30000; decide)) ead_nil)) rfl ⟨[], .lst [], rfl, (rt_nil rfl rfl).right kok0 (by omega), (told_nilL 3).symm⟩))
      (eaw_cons (EvD.w (ed_callX (d := .int 0) (ds := [kindsD [], .tup []]) (ead_cons (ed_var (i := 11) rfl rN) (ead_cons (ed_tup ead_nil (by show (0 : Nat) ≤ 30000; decide)) ead_nil)) rfl ⟨[], .tup [], rfl, (rt_nil rfl rfl).right kok0 (by omega), rfl⟩))
      (eaw_cons (EvD.w (ed_callX (d := badD "kind" [0]) (ds := [kindsD [], .lst [.tup [.str "a", .str "b", .lst []]]]) (ead_cons (ed_var (i := 11) rfl rN) (ead_cons (ed_lst (ead_cons (ed_tup (ead_cons (ed_str (by decide)) (ead_cons (ed_str (by decide)) (ead_cons (ed_lst ead_nil (by show (0 : Nat) ≤ 30000; decide)) ead_nil))) (by show (3 : Nat) ≤ 30000; decide)) ead_nil) (by show (1 : Nat) ≤ 30000; decide)) ead_nil)) rfl ⟨[], _, rfl, kok0, by decide, dpts_of (by decide +kernel), f1a.symm⟩))
      (eaw_cons (EvD.w (ed_callX (d := .bl false) (ds := [kindsD [], .tup [.str "a", .str "b", .tup []]]) (ead_cons (ed_var (i := 11) rfl rN) (ead_cons (ed_tup (ead_cons (ed_str (by decide)) (ead_cons (ed_str (by decide)) (ead_cons (ed_tup ead_nil (by show (0 : Nat) ≤ 30000; decide)) ead_nil))) (by show (3 : Nat) ≤ 30000; decide)) ead_nil)) rfl ⟨[], _, rfl, kok0, by decide, dpt_of (by decide +kernel), by rw [f1b]⟩)) eaw_nil)))) (by
        rintro l ⟨_, l1, rfl, rfl, _, l2, rfl, rfl, _, l3, rfl, rfl, _, l4, rfl, rfl, rfl⟩
        rfl)) (fun ds h => by rw [h]; decide) fun ds0 L ws0 H2 hds0 hLn F2 up2 hL2 rds0 => ?_
    subst hds0
    -- two
    refine q_setC (K := K) (CK := CK) F2 hLn hL2 (EvD.w (ed_kinds (rs := [rowZ, rowB]) (d := .lst [.tup [.str "z", .str Str.empty, .lst [.str "a"], .bl true], .tup [.str "a", .str "z", .lst [.str "z", .str "a"], .bl false]]) (ead_cons (ed_lst (ead_cons (ed_tup (ead_cons (ed_str (by decide)) (ead_cons (ed_str (by decide)) (ead_cons (ed_lst (ead_cons (ed_str (by decide)) ead_nil) (by show (1 : Nat) ≤ 30000; decide)) (ead_cons ed_b ead_nil)))) (by show (4 : Nat) ≤ 30000; decide)) (ead_cons (ed_tup (ead_cons (ed_str (by decide)) (ead_cons (ed_str (by decide)) (ead_cons (ed_lst (ead_cons (ed_str (by decide)) (ead_cons (ed_str (by decide)) ead_nil)) (by show (2 : Nat) ≤ 30000; decide)) (ead_cons ed_b ead_nil)))) (by show (4 : Nat) ≤ 30000; decide)) ead_nil)) (by show (2 : Nat) ≤ 30000; decide)) ead_nil) rfl rowsD2 (mx2.rowsOk g2))) fun dK vK H3 hdK F3 up3 hL3 rK => ?_
    subst hdK
    rw [mx2.kinds g2 sort_two] at rK
    have len0 : ws0.length = 4 := rds0.len
    have q0 := RepL.ex up3 rds0
    -- append
    refine q_pushF (K := K) (CK := CK) (m' := 0) (i := 12) F3 rfl hLn hL3 (by omega) (EvD.w (ed_callX (d := recY) (ds := [kindsD [rowA, rowZ], recX]) (ead_cons (ed_var (i := 13) rfl rK) (ead_cons (ed_lst (ead_cons (ed_tup (ead_cons (ed_str (by decide)) (ead_cons (ed_str (by decide)) (ead_cons (ed_lst (ead_cons (ed_tup (ead_cons (ed_str (by decide)) (ead_cons (ed_str (by decide)) (ead_cons (ed_lst ead_nil (by show (0 : Nat) ≤ 30000; decide)) ead_nil))) (by show (3 : Nat) ≤ 30000; decide)) (ead_cons (ed_lst (ead_cons (ed_str (by decide)) (ead_cons (ed_str (by decide)) (ead_cons (ed_tup ead_nil (by show (0 : Nat) ≤ 30000; decide)) ead_nil))) (by show (3 : Nat) ≤ 30000; decide)) ead_nil)) (by show (2 : Nat) ≤ 30000; decide)) ead_nil))) (by show (3 : Nat) ≤ 30000; decide)) (ead_cons (ed_lst (ead_cons (ed_str (by decide)) (ead_cons (ed_str (by decide)) (ead_cons (ed_tup ead_nil (by show (0 : Nat) ≤ 30000; decide)) ead_nil))) (by show (3 : Nat) ≤ 30000; decide)) ead_nil)) (by show (2 : Nat) ≤ 30000; decide)) ead_nil)) rfl ⟨_, recX, rfl, rt2.right kok2 (by omega), told_X.symm⟩)) fun dY vY H4 hdY F4 up4 hL4 rY => ?_
    subst hdY
    have k4 := rK.ex up4
    have q4 := RepL.app (RepL.ex up4 q0) (show RepL K CK _ [recY] [vY] from ⟨vY, [], rfl, rY, rfl⟩)
    -- extend
    refine q_extF (K := K) (CK := CK) (m' := 0) (i := 12) F4 rfl hLn hL4 (R := fun l => l = [badD "record" [0], badD "list" [0], .bl false]) (EvW.imp (ew_lst
      (eaw_cons (EvD.w (ed_callX (d := badD "record" [0]) (ds := [kindsD [rowA, rowZ], .lst [.str "zaz"]]) (ead_cons (ed_var (i := 13) rfl k4) (ead_cons (ed_lst (ead_cons (ed_str (by decide)) ead_nil) (by show (1 : Nat) ≤ 30000; decide)) ead_nil)) rfl ⟨_, _, rfl, kok2, by decide, dpts_of (by decide +kernel), f2a.symm⟩))
      (eaw_cons (EvD.w (ed_callX (d := badD "list" [0]) (ds := [kindsD [rowA, rowZ], .lst [.tup [.str "z", .str "a", .str "a"]]]) (ead_cons (ed_var (i := 13) rfl k4) (ead_cons (ed_lst (ead_cons (ed_tup (ead_cons (ed_str (by decide)) (ead_cons (ed_str (by decide)) (ead_cons (ed_str (by decide)) ead_nil))) (by show (3 : Nat) ≤ 30000; decide)) ead_nil) (by show (1 : Nat) ≤ 30000; decide)) ead_nil)) rfl ⟨_, _, rfl, kok2, by decide, dpts_of (by decide +kernel), f2b.symm⟩))
      (eaw_cons (EvD.w (ed_callX (d := .bl false) (ds := [kindsD [rowA, rowZ], .lst [.tup [.str "z", .str "a", .lst [.str "az()"]]]]) (ead_cons (ed_var (i := 13) rfl k4) (ead_cons (ed_lst (ead_cons (ed_tup (ead_cons (ed_str (by decide)) (ead_cons (ed_str (by decide)) (ead_cons (ed_lst (ead_cons (ed_str (by decide)) ead_nil) (by show (1 : Nat) ≤ 30000; decide)) ead_nil))) (by show (3 : Nat) ≤ 30000; decide)) ead_nil) (by show (1 : Nat) ≤ 30000; decide)) ead_nil)) rfl ⟨_, _, rfl, kok2, by decide, dpts_of (by decide +kernel), by rw [f2c]⟩)) eaw_nil))) (by
        rintro l ⟨_, l1, rfl, _, _, l2, rfl, _, _, l3, rfl, _, rfl⟩
        show (3 : Nat) ≤ 30000
        decide)) fun e he => by
          obtain ⟨l, rfl, _, l1, rfl, rfl, _, l2, rfl, rfl, _, l3, rfl, rfl, rfl⟩ := he
          exact ⟨_, rfl, rfl⟩) (fun zs h => by rw [h, List.length_append, len0]; show 4 + 1 + 3 ≤ 30000; decide) fun zs vz H5 hzs F5 up5 hL5 rz => ?_
    subst hzs
    have q5 := RepL.app (RepL.ex up5 q4) rz
    -- due
    refine q_setC (K := K) (CK := CK) F5 hLn hL5 (EvD.w (ed_lst (ead_cons (ed_tup ead_nil (by show (0 : Nat) ≤ 30000; decide)) (ead_cons ed_int (ead_cons (ed_tup (ead_cons (ed_str (by decide)) (ead_cons (ed_tup (ead_cons ed_int ead_nil) (by show (1 : Nat) ≤ 30000; decide)) ead_nil)) (by show (2 : Nat) ≤ 30000; decide)) (ead_cons ed_b (ead_cons (ed_tup (ead_cons (ed_tup (ead_cons (ed_str (by decide)) (ead_cons (ed_str (by decide)) (ead_cons (ed_tup ead_nil (by show (0 : Nat) ≤ 30000; decide)) ead_nil))) (by show (3 : Nat) ≤ 30000; decide)) (ead_cons (ed_tup (ead_cons (ed_str (by decide)) (ead_cons (ed_str (by decide)) (ead_cons (ed_tup (ead_cons (ed_tup (ead_cons (ed_str (by decide)) (ead_cons (ed_str (by decide)) (ead_cons (ed_tup ead_nil (by show (0 : Nat) ≤ 30000; decide)) ead_nil))) (by show (3 : Nat) ≤ 30000; decide)) (ead_cons (ed_tup (ead_cons (ed_str (by decide)) (ead_cons (ed_str (by decide)) (ead_cons (ed_tup ead_nil (by show (0 : Nat) ≤ 30000; decide)) ead_nil))) (by show (3 : Nat) ≤ 30000; decide)) ead_nil)) (by show (2 : Nat) ≤ 30000; decide)) ead_nil))) (by show (3 : Nat) ≤ 30000; decide)) ead_nil)) (by show (2 : Nat) ≤ 30000; decide)) ead_nil))))) (by show (5 : Nat) ≤ 30000; decide))) fun dU vU H6 hdU F6 up6 hL6 rU => ?_
    subst hdU
    have q6 := RepL.ex up6 q5
    have rL : Rep K CK (hid (cut W Hc) Hc H6) (.lst ([.tup [], .int 0, badD "kind" [0], .bl false] ++ [recY] ++ [badD "record" [0], badD "list" [0], .bl false])) (.ref L) := ⟨L, _, rfl, hid_at hLn hL6, by decide, RepL.ex (hid_mono cut_sub) q6⟩
    have rU6 := rU.ex (hid_mono (H0 := cut W Hc) (H1 := Hc) (cut_sub (p := L) (H := H6)))
    refine s_retF (K := K) (CK := CK) (m' := 0) F6 (EvD.w (ed_callX (d := .bl true) (ds := [.lst ([.tup [], .int 0, badD "kind" [0], .bl false] ++ [recY] ++ [badD "record" [0], badD "list" [0], .bl false]), .lst ([.tup [], .int 0, badD "kind" [0], .bl false] ++ [recY] ++ [badD "record" [0], badD "list" [0], .bl false])])
      (ead_cons (ed_var (i := 12) rfl rL) (ead_cons (ed_catL (xs := [.tup [], .int 0, badD "kind" [0], .bl false, recY]) (ys := [badD "record" [0], badD "list" [0], .bl false]) (ed_var (i := 14) rfl rU6) (ed_lst (ead_cons (ed_tup (ead_cons (ed_str (by decide)) (ead_cons (ed_tup (ead_cons ed_int ead_nil) (by show (1 : Nat) ≤ 30000; decide)) ead_nil)) (by show (2 : Nat) ≤ 30000; decide)) (ead_cons (ed_tup (ead_cons (ed_str (by decide)) (ead_cons (ed_tup (ead_cons ed_int ead_nil) (by show (1 : Nat) ≤ 30000; decide)) ead_nil)) (by show (2 : Nat) ≤ 30000; decide)) (ead_cons ed_b ead_nil))) (by show (3 : Nat) ≤ 30000; decide)) (by decide)) ead_nil)) rfl ⟨_, rfl, rfl, lvl_of (by decide +kernel), rfl⟩)) fun d v H7 hd _ _ r7 => ?_
    subst hd
    obtain rfl := rep_bl r7
    exact q H7
end
end Any
set_option Elab.async false
set_option linter.all false
set_option maxRecDepth 100000
set_option maxHeartbeats 4000000
/-! the law called, where sys.modules stands apart -/
namespace Any
open PySem PySem.Spec PyProof.Rows L2 Evl StX
theorem headG {P : Program} {w : World} {K : PySem.W.Frag} {mg mb : Str → Option Value} {k : Nat} {fa a : Addr} {fd : FuncData} {x : Str} {sp : Sp} {s1 : Shared} {vs : List Value} {ns : List Int}
    (kin : K.In s1.heap) (gns : s1.heap.Ns mainGlobals mg) (bns : s1.heap.Ns builtinsNs mb) (bbt : ∀ x : Str, x ≠ "__name__" → mb x = bootBuiltins x) (nol : s1.heap.NoLimit) (gen0 : s1.gens = #[]) (sysm : ∃ mm, s1.heap.Ns sysModules mm)
    (obj : s1.heap.get? a = some { cls := .type "list", data := .seq vs.toArray }) (iav : IntsAre vs ns) (few : ns.length ≤ sizeLine) (room : Room k callerA)
    (F : ∀ base : Heap, K.In base → base.Ns mainGlobals mg → FnG P w K mg base k fa fd [x] sp) (bind : ∀ (s : Shared) (u : Value), BindsTo s fd ⟨[u], []⟩ [(x, u)])
    (hsp : ∀ H : Hp, Only H → SqL K H a (ns.map V.int) → sp [.ref a] H (fun v _ => v = .bl true) fun _ _ _ => False) :
    codeAny (model P w) callerA (.call (.ref fa) ⟨[.ref a], []⟩) (fun r s2 => r = .ok (.ret (.bool true)) ∧ OldK s1.heap s2.heap ∧ s2.os = s1.os ∧ AllBare s2.gens) s1 := by
  have rvs := vals_ints iav
  obtain ⟨mm, osys, es0, ep0, hsys, dt0, _⟩ := sysm
  have apart : a ≠ sysModules := fun c => by
    rw [c, hsys] at obj
    cases obj
    cases dt0
  -- the heap in which the script alone may stand
  have walk0 : ∀ G : Hp, Only G → SqL K G a (ns.map V.int) → HOk P w G s1.heap → (∀ b, G b ≠ none → b = a) → (G a ≠ none → K.lookup a = none) →
      codeAny (model P w) callerA (.call (.ref fa) ⟨[.ref a], []⟩) (fun r s2 => r = .ok (.ret (.bool true)) ∧ OldK s1.heap s2.heap ∧ s2.os = s1.os ∧ AllBare s2.gens) s1 := by
    intro G gOnly gSq gOk gAt gK
    have dictFree : ∀ {b : Addr} {o : Obj} {es : Array DictEntry} {ep : Nat}, s1.heap.get? b = some o → o.data = .dict es ep → G b = none := by
      intro b o es ep hb hd
      cases hG : G b with
      | none => rfl
      | some u =>
        obtain rfl : b = a := gAt b (by rw [hG]; exact Option.some_ne_none u)
        rw [obj] at hb
        cases hb
        cases (show Data.seq vs.toArray _ = Data.dict es ep from hd)
    have nsUp : ∀ {b : Addr} {m : Str → Option Value}, s1.heap.Ns b m → (hidT s1.heap G).Ns b m := by
      rintro b m ⟨o, es, ep, hb, hd, hr⟩
      exact ⟨o, es, ep, hidT_get hb (dictFree hb hd), hd, hr⟩
    have kinUp : K.In (hidT s1.heap G) := by
      intro b o hb
      refine hidT_get (kin b o hb) ?_
      cases hG : G b with
      | none => rfl
      | some u =>
        obtain rfl : b = a := gAt b (by rw [hG]; exact Option.some_ne_none u)
        rw [gK (by rw [hG]; exact Option.some_ne_none u)] at hb
        cases hb
    obtain ⟨mc, lim1, lim2⟩ := nol
    have md : Mod K mg (hidT s1.heap G) := ⟨kinUp, nsUp gns, ⟨mb, nsUp bns, bbt⟩, ⟨mc, nsUp lim1, lim2⟩⟩
    have env : Env0 P w K mg (hidT s1.heap G) callerA [] s1 G := ⟨rfl, md, fun b o h => of_hidT h, Nat.le_of_eq (hidT_size _ _), trivial, fun b hb => (List.not_mem_nil (a := b) hb).elim, gOk, .of_eq gen0⟩
    have nos : NoS s1 G := ⟨⟨osys, hsys⟩, dictFree hsys dt0⟩
    refine codeAny_mono ((F _ kinUp (nsUp gns)).run callerA [] s1 G ⟨[.ref a], []⟩ [.ref a] [.ref a] _ _ rfl nos room env (bind s1 (.ref a)) (.cons rfl .nil) (hsp G gOnly gSq)) fun r s2 hq => ?_
    match r, hq with
    | .ok (.ret u), hq =>
      obtain ⟨v, G2, os2, bare2, un2, ok2, ru, hv⟩ := hq
      obtain rfl : v = .bl true := hv
      obtain rfl : u = Value.bool true := ru
      refine ⟨rfl, OldK.of_keep fun b o hb => ?_, os2, bare2⟩
      rcases gOnly b with hn | ⟨ob, xs, hf⟩
      · exact un2.keep b o hb hn (List.not_mem_nil) (List.not_mem_nil)
      · obtain ⟨t1, _⟩ := gOk b _ hf
        obtain ⟨t2, _⟩ := ok2 b _ (un2.frzs b ob _ hf)
        rw [hb] at t1
        cases t1
        exact t2
    | .ok .next, hq => exact False.elim hq
    | .ok .brk, hq => exact False.elim hq
    | .ok .cont, hq => exact False.elim hq
    | .error e, hq => exact False.elim hq
  cases own : K.lookup a with
  | some o =>
    have hb := kin a o own
    rw [obj] at hb
    cases hb
    refine walk0 (fun _ => none) (fun _ => .inl rfl) (.inr ⟨_, vs.toArray, _, own, rfl, rfl, rfl, by rw [List.size_toArray, iav.length]; exact few, by simpa using rvs⟩) (fun b u z => by cases (show (none : Option HO) = some u from z)) (fun b z => (z rfl).elim) (fun z => (z rfl).elim)
  | none =>
    let G : Hp := fun b => if b = a then some (.frz { cls := .type "list", data := .seq vs.toArray } (.lst (ns.map V.int))) else none
    have gA : G a = some (.frz { cls := .type "list", data := .seq vs.toArray } (.lst (ns.map V.int))) := if_pos rfl
    have gN : ∀ b, b ≠ a → G b = none := fun b h => if_neg h
    refine walk0 G (fun b => ?_) (.inl (.inr ⟨_, gA⟩)) (fun b u z => ?_) (fun b z => ?_) fun _ => own
    · by_cases c : b = a
      · rw [c]; exact .inr ⟨_, _, gA⟩
      · exact .inl (gN b c)
    · by_cases c : b = a
      · subst c
        rw [gA] at z
        cases z
        exact ⟨obj, by rw [List.length_map]; exact few, vs, _, rvs, obj⟩
      · rw [gN b c] at z; cases z
    · by_cases c : b = a
      · exact c
      · exact (z (gN b c)).elim
end Any
set_option Elab.async false
set_option linter.all false
set_option maxRecDepth 100000
set_option maxHeartbeats 4000000
namespace Any
open PySem PySem.Spec PyProof.Rows L2 Evl StX
section
variable {K : PySem.W.Frag} {h : Heap} {mg : Str → Option Value} {CK : Addr}
/-- what the top has left of a def -/
structure Sto (K : PySem.W.Frag) (x q : Str) (st : Stmt) (f : Addr) (fd : FuncData) : Prop where
  F : Fun K x q st f fd
  sh : ∃ (kV doc pm : Value) (an : Option Addr) (cdv ct : Value), fd = PySem.W.fnOf x q (defArgs st) (defBody st) (defScope st) .none kV doc pm an cdv ct
theorem sto {x q : Str} {st : Stmt} {f : Addr} {oc : Value} {od an : Option Addr} {osl : Array (Option Value)} {kV doc pm cdv ct : Value} (l : K.lookup f = some ⟨oc, od, .func (PySem.W.fnOf x q (defArgs st) (defBody st) (defScope st) .none kV doc pm an cdv ct), osl⟩)
    (c : PySem.W.codeIn K cdv q = true) (k : PySem.W.keepIn K (.ref f) = true) : Sto K x q st f (PySem.W.fnOf x q (defArgs st) (defBody st) (defScope st) .none kV doc pm an cdv ct) := ⟨fun_mk l c k, kV, doc, pm, an, cdv, ct, rfl⟩
def mkDef {x : Str} {st : Stmt} {ps : List Str} {f : Addr} {oc : Value} {od an : Option Addr} {osl : Array (Option Value)} {kV doc pm cdv ct : Value} (X : K.In h) (G : h.Ns mainGlobals mg)
    (b : ∀ (kV doc pm : Value) (an : Option Addr) (cdv ct : Value) (us : List Value), us.length = ps.length → bindArgs (PySem.W.fnOf x x (defArgs st) (defBody st) (defScope st) .none kV doc pm an cdv ct) ⟨us, []⟩ = pure (ps.zip us))
    (a : PySem.W.nsIn K mainGlobals x = some (some (.ref f))) (l : K.lookup f = some ⟨oc, od, .func (PySem.W.fnOf x x (defArgs st) (defBody st) (defScope st) .none kV doc pm an cdv ct), osl⟩)
    (c : PySem.W.codeIn K cdv x = true) (k : PySem.W.keepIn K (.ref f) = true) : Def K mg x st ps := ⟨f, _, fun_mk l c k, (fun_mk l c k).binds b, PySem.W.mg_of X G a⟩
def mkMDef {x q : Str} {st : Stmt} {ps : List Str} {f : Addr} {oc : Value} {od an : Option Addr} {osl : Array (Option Value)} {kV doc pm cdv ct : Value}
    (b : ∀ (kV doc pm : Value) (an : Option Addr) (cdv ct : Value) (us : List Value), us.length = ps.length → bindArgs (PySem.W.fnOf x q (defArgs st) (defBody st) (defScope st) .none kV doc pm an cdv ct) ⟨us, []⟩ = pure (ps.zip us))
    (a : PySem.W.findIn K (.ref CK) x = some (some (.ref f))) (l : K.lookup f = some ⟨oc, od, .func (PySem.W.fnOf x q (defArgs st) (defBody st) (defScope st) .none kV doc pm an cdv ct), osl⟩)
    (i : PySem.W.isFn K (.ref f) = true) (c : PySem.W.codeIn K cdv q = true) (k : PySem.W.keepIn K (.ref f) = true) : MDef K CK x q st ps := ⟨f, _, fun_mk l c k, (fun_mk l c k).binds b, ⟨a, i, k⟩⟩
theorem MDef.mk2 {x q : Str} {st : Stmt} {ps : List Str} (d : MDef K CK x q st ps) : True := trivial
/-- the module's own defs -/
structure Mo (K : PySem.W.Frag) (mg : Str → Option Value) (CK : Addr) where
  dN : Def K mg "is_name" sIsName ["thing"]
  dL : Def K mg "is_list" sIsList ["thing"]
  dLO : Def K mg "is_list_of" sIsListOf ["thing", "many"]
  dOO : Def K mg "is_one_of" sIsOneOf ["thing", "names"]
  dU : Def K mg "_are_unlike_names" sUnlike ["things"]
  dR : Def K mg "is_row" sIsRow ["thing"]
  dF : Def K mg "_rows_fault" sRowsFault ["rows"]
  dKI : Def K mg "_kinds_in_themselves" sKIT ["aboves"]
  dNK : Def K mg "need_kinds" sNeedKinds ["kinds"]
  dTH : Def K mg "told_heap" sToldHeap ["records"]
  dTR : Def K mg "told_record" sToldRecord ["record"]
  dHS : Def K mg "heap_size" sHeapSize ["heap"]
  dIR : Def K mg "is_record" sIsRecord ["kinds", "thing"]
  dIS : Def K mg "is_stand" sIsStand ["kinds", "thing"]
  dSF : Def K mg "stand_fault" sStandFault ["kinds", "thing"]
  dPF : Def K mg "_parts_fault" sPartsFault ["kinds", "above", "things", "way"]
  dRF : Def K mg "_record_fault" sRecordFault ["kinds", "above", "thing", "way"]
  dSI : Def K mg "stand_index" sStandIndex ["kinds", "thing"]
  dNS : Def K mg "need_stand" sNeedStand ["kinds", "stand"]
  dNM : Def K mg "need_mate_stand" sNeedMate ["kinds", "mate"]
  dTS : Def K mg "told_stand" sToldStand ["kinds", "stand"]
  dAA : Def K mg "are_alike" sAreAlike ["kinds", "stand", "mate"]
  dSO : Def K mg "size_of" sSizeOf ["kinds", "stand"]
  dI : MDef K CK "__init__" "Kinds.__init__" sKInit ["self", "rows"]
  dA : MDef K CK "all_kinds" "Kinds.all_kinds" sKAll ["self"]
  dAb : MDef K CK "above" "Kinds.above" sKAbove ["self", "kind"]
  dM : MDef K CK "marks" "Kinds.marks" sKMarks ["self", "kind"]
  dP : MDef K CK "parts" "Kinds.parts" sKParts ["self", "kind"]
  dRo : MDef K CK "_row_of" "Kinds._row_of" sKRowOf ["self", "kind"]
  mgK : mg "Kinds" = some (.ref CK)
  T : KCls K CK
  KN : KNm K CK
  N : Nm mg
  C : Cn mg
  mks : PySem.W.makesIn K CK = true
  kc : PySem.W.keepIn K (.ref CK) = true
def Mo.sts (M : Mo K mg CK) (P : Program) (w : World) (base : Heap) : Sts P w K mg base CK where
  dL := M.dL
  dLO := M.dLO
  dOO := M.dOO
  dP := M.dP
  dM := M.dM
  dRo := M.dRo
  dPF := M.dPF
  dRF := M.dRF
  T := M.T
  KN := M.KN
  N := M.N
  dNK := M.dNK
  mgK := M.mgK
  dA := M.dA
  dAb := M.dAb
  dTH := M.dTH
  dTR := M.dTR
  dHS := M.dHS
  dSF := M.dSF
  dSI := M.dSI
  dNS := M.dNS
  dNM := M.dNM
  dTS := M.dTS
theorem all_mk {l : PySem.W.OpenLaw} {w : World} {fa : Addr} (M : Mo K mg CK) (A : Lw K mg) (dT : Def K mg "_law_told_right" sLToldR ["well", "kinds", "rows", "stand"]) (dM : Def K mg "_law_mate_right" sLMateR ["well", "kinds", "rows", "stand"]) (dJ : Def K mg "_law_judged_right" sLJudgedR ["kinds", "rows", "thing"])
    {f : Addr} {oc : Value} {od an : Option Addr} {osl : Array (Option Value)} {kV doc pm cdv ct : Value} (X : K.In h) (G : h.Ns mainGlobals mg) (hfa : mg "law" = some (.ref fa))
    (a : PySem.W.nsIn K mainGlobals "law" = some (some (.ref f))) (lk : K.lookup f = some ⟨oc, od, .func (PySem.W.fnOf "law" "law" (defArgs sLaw) (defBody sLaw) (defScope sLaw) .none kV doc pm an cdv ct), osl⟩)
    (c : PySem.W.codeIn K cdv "law" = true) (k : PySem.W.keepIn K (.ref f) = true) :
    ∃ fd : FuncData, (∀ (s : Shared) (u : Value), BindsTo s fd ⟨[u], []⟩ [("script", u)]) ∧ ∀ base : Heap, K.In base → base.Ns mainGlobals mg → FnG l.prog w K mg base 23 fa fd ["script"] (spLaw K) := by
  have e := hfa.symm.trans (PySem.W.mg_of X G a)
  cases e
  let d : Def K mg "law" sLaw ["script"] := ⟨fa, _, fun_mk lk c k, (fun_mk lk c k).binds fun _ _ _ _ _ _ us hl => match us, hl with | [_], _ => rfl, hfa⟩
  refine ⟨PySem.W.fnOf "law" "law" (defArgs sLaw) (defBody sLaw) (defScope sLaw) .none kV doc pm an cdv ct, fun s v => .of_eq rfl, fun base _ _ => ?_⟩
  have GF : FnOk l.prog w K mg base CX0 4 M.dF.f M.dF.fd ["rows"] (spRowsFault K CK) := ok_rows_fault M.dF M.dR M.dU M.dN M.dL M.dLO M.dOO M.dKI M.T M.N M.C
  have GI : FnOk l.prog w K mg base CX0 5 M.dI.f M.dI.fd ["self", "rows"] (spKInit K CK) := ok_kinit M.dI M.dF GF M.T M.KN M.N
  exact ok_law A (M.sts l.prog w base) M.dAA M.dSO M.dIR M.dIS dT dM dJ M.dI GI ⟨M.mks, M.dI.m.at_, M.dI.m.fn, M.kc⟩ d
end
/-- the goal that k_head leaves, from the law's promise -/
theorem walkG {l : PySem.W.OpenLaw} {q : Program} {loose : List Str} {XP : (Str → Option Value) → Heap → Prop} {YP : World → Heap → Prop} {d : DefRec} {K : Params → PySem.W.Frag} (hn : l.most = some 63) (hdf : d.params.defaults = []) (hi : importsNone q = true)
    (hY : ∀ (w : World) (h : Heap), YP w h → (K w.params).In h)
    (F : ∀ (w : World) (mg : Str → Option Value) (fa : Addr) (h : Heap), (K w.params).In h → h.Ns mainGlobals mg → mg d.name = some (.ref fa) →
      ∃ fd : FuncData, (∀ (s : Shared) (u : Value), BindsTo s fd ⟨[u], []⟩ [("script", u)]) ∧ ∀ base : Heap, (K w.params).In base → base.Ns mainGlobals mg → FnG l.prog w (K w.params) mg base 23 fa fd ["script"] (spLaw (K w.params))) :
    PySem.W.WalkO q loose XP YP l.row.toRowW d [] (fun f vs => PySem.call f vs) := by
  refine Att.attach_call hn hdf fun w s0 s1 mg mb fa o pm cd doc a vs ns G Y ho hd hcd hmg hobj hints hlen hg => ?_
  have kin := hY w _ Y
  obtain ⟨fd, hb, hF⟩ := F w mg fa _ kin G.T.g hmg
  obtain ⟨mm, hmm, _⟩ := (G.T.seer hi).mods
  exact headG kin G.T.g G.T.b G.T.builtins G.T.nolimit hg ⟨mm, hmm⟩ hobj hints (Nat.le_trans hlen (by decide)) ⟨rfl, by decide, by decide⟩ hF hb fun H hO hS => ⟨a, ns, rfl, hS, fun _ => rfl⟩
end Any
set_option Elab.async false
set_option linter.all false
set_option maxRecDepth 100000
set_option maxHeartbeats 4000000
namespace Any
open PySem PySem.Spec PyProof.Rows L2 Evl StX
section
variable {K : PySem.W.Frag} {h : Heap} {mg : Str → Option Value} {CK : Addr}
theorem kit_no {T : String} (m : PySem.W.mroIn K CK (.type T) = some false) (hm : PySem.W.kitMeta T = true) : PySem.W.kitOne K (.ref CK) (.type T) = some false := by
  have hne : ¬ (Value.ref CK == Value.type T) = true := fun h => by
    have h2 := beq_iff_eq.mp h
    cases h2
  unfold PySem.W.kitOne
  rw [if_neg hne]
  show (if PySem.W.kitMeta T = true then PySem.W.subIn K (.ref CK) (.type T) else none) = some false
  rw [if_pos hm]
  exact m
theorem kcls_mk (cl : Cls K CK) (ha : PySem.W.findIn K (.ref CK) "__class__" = some (some (.builtin "object.__class__"))) (hn : PySem.W.specialIn K (.builtin "object.__class__") "__get__" = some (some (.builtin "getset_descriptor.__get__")))
    (htk : PySem.W.takesIn K (.builtin "object.__class__") = some true) (hm : PySem.W.mroIn K CK (.type "object") = some true) (m1 : PySem.W.mroIn K CK (.type "str") = some false) (m2 : PySem.W.mroIn K CK (.type "list") = some false)
    (m3 : PySem.W.mroIn K CK (.type "tuple") = some false) (m4 : PySem.W.mroIn K CK (.type "dict") = some false) (m5 : PySem.W.mroIn K CK (.type "bool") = some false) : KCls K CK :=
  ⟨cl, ha, hn, htk, hm, kit_no m1 (by decide +kernel), kit_no m2 (by decide +kernel), kit_no m3 (by decide +kernel), kit_no m4 (by decide +kernel), kit_no m5 (by decide +kernel)⟩
theorem kn_mk (h1 : PySem.W.findIn K (.ref CK) "_rows" = some none) (h2 : PySem.W.findIn K (.ref CK) "_parts" = some none) : KNm K CK := ⟨h1, h2⟩
theorem cn_mk {t1 t2 : Tok} (X : K.In h) (G : h.Ns mainGlobals mg) (h1 : PySem.W.nsIn K mainGlobals "LETTERS" = some (some (.str lettersS t1))) (h2 : PySem.W.nsIn K mainGlobals "SIGNS" = some (some (.str signsS t2))) : Cn mg :=
  ⟨⟨t1, PySem.W.mg_of X G h1⟩, ⟨t2, PySem.W.mg_of X G h2⟩⟩
theorem nm_mk (X : K.In h) (G : h.Ns mainGlobals mg) (z1 : PySem.W.nsIn K mainGlobals "isinstance" = some none) (z2 : PySem.W.nsIn K mainGlobals "list" = some none) (z3 : PySem.W.nsIn K mainGlobals "tuple" = some none) (z4 : PySem.W.nsIn K mainGlobals "str" = some none)
    (z5 : PySem.W.nsIn K mainGlobals "bool" = some none) (z6 : PySem.W.nsIn K mainGlobals "dict" = some none) (z7 : PySem.W.nsIn K mainGlobals "len" = some none) (z8 : PySem.W.nsIn K mainGlobals "all" = some none) (z9 : PySem.W.nsIn K mainGlobals "any" = some none)
    (z10 : PySem.W.nsIn K mainGlobals "set" = some none) (z11 : PySem.W.nsIn K mainGlobals "range" = some none) (z12 : PySem.W.nsIn K mainGlobals "enumerate" = some none) (z13 : PySem.W.nsIn K mainGlobals "zip" = some none) (z14 : PySem.W.nsIn K mainGlobals "sorted" = some none)
    (z15 : PySem.W.nsIn K mainGlobals "sum" = some none) (z16 : PySem.W.nsIn K mainGlobals "abs" = some none) (z17 : PySem.W.nsIn K mainGlobals "int" = some none) (z18 : PySem.W.nsIn K mainGlobals "repr" = some none) : Nm mg where
  isinstance := PySem.W.mg_none_of X G z1
  list := PySem.W.mg_none_of X G z2
  tuple := PySem.W.mg_none_of X G z3
  str := PySem.W.mg_none_of X G z4
  bool := PySem.W.mg_none_of X G z5
  dict := PySem.W.mg_none_of X G z6
  len := PySem.W.mg_none_of X G z7
  all := PySem.W.mg_none_of X G z8
  any := PySem.W.mg_none_of X G z9
  set := PySem.W.mg_none_of X G z10
  range := PySem.W.mg_none_of X G z11
  enumerate := PySem.W.mg_none_of X G z12
  zip := PySem.W.mg_none_of X G z13
  sorted := PySem.W.mg_none_of X G z14
  sum := PySem.W.mg_none_of X G z15
  abs := PySem.W.mg_none_of X G z16
  int := PySem.W.mg_none_of X G z17
  repr := PySem.W.mg_none_of X G z18
end
end Any
set_option Elab.async false
set_option linter.all false
open PySem PySem.W PyProof.Rows
set_option maxRecDepth 100000 in
set_option maxHeartbeats 0 in
theorem PySem.Challenge.cw_anywithin_k03_whole_records_and_stands_holds : PySem.Challenge.rw_anywithin_k03_whole_records_and_stands.Holds := by
  w_on; o_law; k_head; (case hw => w_witness2)
  k_fill
  refine Any.walkG (l := PySem.Challenge.rw_anywithin_k03_whole_records_and_stands) rfl rfl ?hi (fun w h Y => PySem.W.kIn_of Y) ?F
  case hi => decide +kernel
  case F =>
    intro w mg fa h KX G hmg
    refine' Any.all_mk ?zqM ?zqA ?zqT ?zqN ?zqJ KX G hmg ?zqa ?zql ?zqc ?zqk
    (case zqa => k_is); (case zql => k_is); (case zqc => k_is); (case zqk => k_is)
    case zqM =>
      refine' { dN := ?zhdN, dL := ?zhdL, dLO := ?zhdLO, dOO := ?zhdOO, dU := ?zhdU, dR := ?zhdR, dF := ?zhdF, dKI := ?zhdKI, dNK := ?zhdNK, dTH := ?zhdTH, dTR := ?zhdTR, dHS := ?zhdHS, dIR := ?zhdIR, dIS := ?zhdIS, dSF := ?zhdSF, dPF := ?zhdPF, dRF := ?zhdRF, dSI := ?zhdSI, dNS := ?zhdNS, dNM := ?zhdNM, dTS := ?zhdTS, dAA := ?zhdAA, dSO := ?zhdSO, dI := ?zhdI, dA := ?zhdA, dAb := ?zhdAb, dM := ?zhdM, dP := ?zhdP, dRo := ?zhdRo, mgK := ?zhmgK, T := ?zhT, KN := ?zhKN, N := ?zhN, C := ?zhC, mks := ?zhmks, kc := ?zhkc }
      case zhmgK =>
        refine' PySem.W.mg_of KX G ?zqz
        (case zqz => k_is)
      (case zhdN => refine' Any.mkDef KX G (fun _ _ _ _ _ _ us hl => match us, hl with | [_], _ => rfl) ?zda1 ?zdl1 ?zdc1 ?zdk1; (case zda1 => k_is); (case zdl1 => k_is); (case zdc1 => k_is); (case zdk1 => k_is)); (case zhdL => refine' Any.mkDef KX G (fun _ _ _ _ _ _ us hl => match us, hl with | [_], _ => rfl) ?zda2 ?zdl2 ?zdc2 ?zdk2; (case zda2 => k_is); (case zdl2 => k_is); (case zdc2 => k_is); (case zdk2 => k_is)); (case zhdLO => refine' Any.mkDef KX G (fun _ _ _ _ _ _ us hl => match us, hl with | [_, _], _ => rfl) ?zda3 ?zdl3 ?zdc3 ?zdk3; (case zda3 => k_is); (case zdl3 => k_is); (case zdc3 => k_is); (case zdk3 => k_is)); (case zhdOO => refine' Any.mkDef KX G (fun _ _ _ _ _ _ us hl => match us, hl with | [_, _], _ => rfl) ?zda4 ?zdl4 ?zdc4 ?zdk4; (case zda4 => k_is); (case zdl4 => k_is); (case zdc4 => k_is); (case zdk4 => k_is)); (case zhdU => refine' Any.mkDef KX G (fun _ _ _ _ _ _ us hl => match us, hl with | [_], _ => rfl) ?zda5 ?zdl5 ?zdc5 ?zdk5; (case zda5 => k_is); (case zdl5 => k_is); (case zdc5 => k_is); (case zdk5 => k_is)); (case zhdR => refine' Any.mkDef KX G (fun _ _ _ _ _ _ us hl => match us, hl with | [_], _ => rfl) ?zda6 ?zdl6 ?zdc6 ?zdk6; (case zda6 => k_is); (case zdl6 => k_is); (case zdc6 => k_is); (case zdk6 => k_is))
      (case zhdF => refine' Any.mkDef KX G (fun _ _ _ _ _ _ us hl => match us, hl with | [_], _ => rfl) ?zda7 ?zdl7 ?zdc7 ?zdk7; (case zda7 => k_is); (case zdl7 => k_is); (case zdc7 => k_is); (case zdk7 => k_is)); (case zhdKI => refine' Any.mkDef KX G (fun _ _ _ _ _ _ us hl => match us, hl with | [_], _ => rfl) ?zda8 ?zdl8 ?zdc8 ?zdk8; (case zda8 => k_is); (case zdl8 => k_is); (case zdc8 => k_is); (case zdk8 => k_is)); (case zhdNK => refine' Any.mkDef KX G (fun _ _ _ _ _ _ us hl => match us, hl with | [_], _ => rfl) ?zda9 ?zdl9 ?zdc9 ?zdk9; (case zda9 => k_is); (case zdl9 => k_is); (case zdc9 => k_is); (case zdk9 => k_is)); (case zhdTH => refine' Any.mkDef KX G (fun _ _ _ _ _ _ us hl => match us, hl with | [_], _ => rfl) ?zda10 ?zdl10 ?zdc10 ?zdk10; (case zda10 => k_is); (case zdl10 => k_is); (case zdc10 => k_is); (case zdk10 => k_is)); (case zhdTR => refine' Any.mkDef KX G (fun _ _ _ _ _ _ us hl => match us, hl with | [_], _ => rfl) ?zda11 ?zdl11 ?zdc11 ?zdk11; (case zda11 => k_is); (case zdl11 => k_is); (case zdc11 => k_is); (case zdk11 => k_is)); (case zhdHS => refine' Any.mkDef KX G (fun _ _ _ _ _ _ us hl => match us, hl with | [_], _ => rfl) ?zda12 ?zdl12 ?zdc12 ?zdk12; (case zda12 => k_is); (case zdl12 => k_is); (case zdc12 => k_is); (case zdk12 => k_is))
      (case zhdIR => refine' Any.mkDef KX G (fun _ _ _ _ _ _ us hl => match us, hl with | [_, _], _ => rfl) ?zda13 ?zdl13 ?zdc13 ?zdk13; (case zda13 => k_is); (case zdl13 => k_is); (case zdc13 => k_is); (case zdk13 => k_is)); (case zhdIS => refine' Any.mkDef KX G (fun _ _ _ _ _ _ us hl => match us, hl with | [_, _], _ => rfl) ?zda14 ?zdl14 ?zdc14 ?zdk14; (case zda14 => k_is); (case zdl14 => k_is); (case zdc14 => k_is); (case zdk14 => k_is)); (case zhdSF => refine' Any.mkDef KX G (fun _ _ _ _ _ _ us hl => match us, hl with | [_, _], _ => rfl) ?zda15 ?zdl15 ?zdc15 ?zdk15; (case zda15 => k_is); (case zdl15 => k_is); (case zdc15 => k_is); (case zdk15 => k_is)); (case zhdPF => refine' Any.mkDef KX G (fun _ _ _ _ _ _ us hl => match us, hl with | [_, _, _, _], _ => rfl) ?zda16 ?zdl16 ?zdc16 ?zdk16; (case zda16 => k_is); (case zdl16 => k_is); (case zdc16 => k_is); (case zdk16 => k_is)); (case zhdRF => refine' Any.mkDef KX G (fun _ _ _ _ _ _ us hl => match us, hl with | [_, _, _, _], _ => rfl) ?zda17 ?zdl17 ?zdc17 ?zdk17; (case zda17 => k_is); (case zdl17 => k_is); (case zdc17 => k_is); (case zdk17 => k_is)); (case zhdSI => refine' Any.mkDef KX G (fun _ _ _ _ _ _ us hl => match us, hl with | [_, _], _ => rfl) ?zda18 ?zdl18 ?zdc18 ?zdk18; (case zda18 => k_is); (case zdl18 => k_is); (case zdc18 => k_is); (case zdk18 => k_is))
      (case zhdNS => refine' Any.mkDef KX G (fun _ _ _ _ _ _ us hl => match us, hl with | [_, _], _ => rfl) ?zda19 ?zdl19 ?zdc19 ?zdk19; (case zda19 => k_is); (case zdl19 => k_is); (case zdc19 => k_is); (case zdk19 => k_is)); (case zhdNM => refine' Any.mkDef KX G (fun _ _ _ _ _ _ us hl => match us, hl with | [_, _], _ => rfl) ?zda20 ?zdl20 ?zdc20 ?zdk20; (case zda20 => k_is); (case zdl20 => k_is); (case zdc20 => k_is); (case zdk20 => k_is)); (case zhdTS => refine' Any.mkDef KX G (fun _ _ _ _ _ _ us hl => match us, hl with | [_, _], _ => rfl) ?zda21 ?zdl21 ?zdc21 ?zdk21; (case zda21 => k_is); (case zdl21 => k_is); (case zdc21 => k_is); (case zdk21 => k_is)); (case zhdAA => refine' Any.mkDef KX G (fun _ _ _ _ _ _ us hl => match us, hl with | [_, _, _], _ => rfl) ?zda22 ?zdl22 ?zdc22 ?zdk22; (case zda22 => k_is); (case zdl22 => k_is); (case zdc22 => k_is); (case zdk22 => k_is)); (case zhdSO => refine' Any.mkDef KX G (fun _ _ _ _ _ _ us hl => match us, hl with | [_, _], _ => rfl) ?zda23 ?zdl23 ?zdc23 ?zdk23; (case zda23 => k_is); (case zdl23 => k_is); (case zdc23 => k_is); (case zdk23 => k_is))
      (case zhdI => refine' Any.mkMDef (fun _ _ _ _ _ _ us hl => match us, hl with | [_, _], _ => rfl) ?zda24 ?zdl24 ?zdi24 ?zdc24 ?zdk24; (case zda24 => k_is); (case zdl24 => k_is); (case zdi24 => k_is); (case zdc24 => k_is); (case zdk24 => k_is)); (case zhdA => refine' Any.mkMDef (fun _ _ _ _ _ _ us hl => match us, hl with | [_], _ => rfl) ?zda25 ?zdl25 ?zdi25 ?zdc25 ?zdk25; (case zda25 => k_is); (case zdl25 => k_is); (case zdi25 => k_is); (case zdc25 => k_is); (case zdk25 => k_is)); (case zhdAb => refine' Any.mkMDef (fun _ _ _ _ _ _ us hl => match us, hl with | [_, _], _ => rfl) ?zda26 ?zdl26 ?zdi26 ?zdc26 ?zdk26; (case zda26 => k_is); (case zdl26 => k_is); (case zdi26 => k_is); (case zdc26 => k_is); (case zdk26 => k_is)); (case zhdM => refine' Any.mkMDef (fun _ _ _ _ _ _ us hl => match us, hl with | [_, _], _ => rfl) ?zda27 ?zdl27 ?zdi27 ?zdc27 ?zdk27; (case zda27 => k_is); (case zdl27 => k_is); (case zdi27 => k_is); (case zdc27 => k_is); (case zdk27 => k_is)); (case zhdP => refine' Any.mkMDef (fun _ _ _ _ _ _ us hl => match us, hl with | [_, _], _ => rfl) ?zda28 ?zdl28 ?zdi28 ?zdc28 ?zdk28; (case zda28 => k_is); (case zdl28 => k_is); (case zdi28 => k_is); (case zdc28 => k_is); (case zdk28 => k_is)); (case zhdRo => refine' Any.mkMDef (fun _ _ _ _ _ _ us hl => match us, hl with | [_, _], _ => rfl) ?zda29 ?zdl29 ?zdi29 ?zdc29 ?zdk29; (case zda29 => k_is); (case zdl29 => k_is); (case zdi29 => k_is); (case zdc29 => k_is); (case zdk29 => k_is))
      case zhT =>
        refine' Any.kcls_mk ⟨?zft1, ?zft2, ?zft3, ?zft4⟩ ?zft5 ?zft6 ?zft7 ?zft8 ?zft9 ?zft10 ?zft11 ?zft12 ?zft13
        (case zft1 => k_is); (case zft2 => k_is); (case zft3 => k_is); (case zft4 => k_is); (case zft5 => k_is); (case zft6 => k_is); (case zft7 => k_is); (case zft8 => k_is); (case zft9 => k_is); (case zft10 => k_is); (case zft11 => k_is); (case zft12 => k_is); (case zft13 => k_is)
      case zhKN =>
        refine' Any.kn_mk ?zfn1 ?zfn2
        (case zfn1 => k_is); (case zfn2 => k_is)
      case zhN =>
        refine' Any.nm_mk KX G ?zfz1 ?zfz2 ?zfz3 ?zfz4 ?zfz5 ?zfz6 ?zfz7 ?zfz8 ?zfz9 ?zfz10 ?zfz11 ?zfz12 ?zfz13 ?zfz14 ?zfz15 ?zfz16 ?zfz17 ?zfz18
        all_goals k_is
      case zhC =>
        refine' Any.cn_mk KX G ?zgc1 ?zgc2
        (case zgc1 => k_is); (case zgc2 => k_is)
      (case zhmks => k_is); (case zhkc => k_is)
    case zqA =>
      refine' { well := ?zhwell, draw := ?zhdraw, pick := ?zhpick, mixed := ?zhmixed, same := ?zhsame, loose := ?zhloose, row := ?zhrow, chain := ?zhchain, rows := ?zhrows, kinds := ?zhkinds, told := ?zhtold, size := ?zhsize, flat := ?zhflat, built := ?zhbuilt, grown := ?zhgrown, stand := ?zhstand, more := ?zhmore, fewer := ?zhfewer, marked := ?zhmarked, passed := ?zhpassed, paths := ?zhpaths, fault := ?zhfault, holder := ?zhholder, odd := ?zhodd, bent := ?zhbent }
      (case zhwell => refine' Any.mkDef KX G (fun _ _ _ _ _ _ us hl => match us, hl with | [_, _], _ => rfl) ?zda30 ?zdl30 ?zdc30 ?zdk30; (case zda30 => k_is); (case zdl30 => k_is); (case zdc30 => k_is); (case zdk30 => k_is)); (case zhdraw => refine' Any.mkDef KX G (fun _ _ _ _ _ _ us hl => match us, hl with | [_, _], _ => rfl) ?zda31 ?zdl31 ?zdc31 ?zdk31; (case zda31 => k_is); (case zdl31 => k_is); (case zdc31 => k_is); (case zdk31 => k_is)); (case zhpick => refine' Any.mkDef KX G (fun _ _ _ _ _ _ us hl => match us, hl with | [_, _], _ => rfl) ?zda32 ?zdl32 ?zdc32 ?zdk32; (case zda32 => k_is); (case zdl32 => k_is); (case zdc32 => k_is); (case zdk32 => k_is)); (case zhmixed => refine' Any.mkDef KX G (fun _ _ _ _ _ _ us hl => match us, hl with | [_, _], _ => rfl) ?zda33 ?zdl33 ?zdc33 ?zdk33; (case zda33 => k_is); (case zdl33 => k_is); (case zdc33 => k_is); (case zdk33 => k_is)); (case zhsame => refine' Any.mkDef KX G (fun _ _ _ _ _ _ us hl => match us, hl with | [_, _], _ => rfl) ?zda34 ?zdl34 ?zdc34 ?zdk34; (case zda34 => k_is); (case zdl34 => k_is); (case zdc34 => k_is); (case zdk34 => k_is)); (case zhloose => refine' Any.mkDef KX G (fun _ _ _ _ _ _ us hl => match us, hl with | [_, _], _ => rfl) ?zda35 ?zdl35 ?zdc35 ?zdk35; (case zda35 => k_is); (case zdl35 => k_is); (case zdc35 => k_is); (case zdk35 => k_is))
      (case zhrow => refine' Any.mkDef KX G (fun _ _ _ _ _ _ us hl => match us, hl with | [_, _], _ => rfl) ?zda36 ?zdl36 ?zdc36 ?zdk36; (case zda36 => k_is); (case zdl36 => k_is); (case zdc36 => k_is); (case zdk36 => k_is)); (case zhchain => refine' Any.mkDef KX G (fun _ _ _ _ _ _ us hl => match us, hl with | [_, _], _ => rfl) ?zda37 ?zdl37 ?zdc37 ?zdk37; (case zda37 => k_is); (case zdl37 => k_is); (case zdc37 => k_is); (case zdk37 => k_is)); (case zhrows => refine' Any.mkDef KX G (fun _ _ _ _ _ _ us hl => match us, hl with | [_, _, _, _], _ => rfl) ?zda38 ?zdl38 ?zdc38 ?zdk38; (case zda38 => k_is); (case zdl38 => k_is); (case zdc38 => k_is); (case zdk38 => k_is)); (case zhkinds => refine' Any.mkDef KX G (fun _ _ _ _ _ _ us hl => match us, hl with | [_, _], _ => rfl) ?zda39 ?zdl39 ?zdc39 ?zdk39; (case zda39 => k_is); (case zdl39 => k_is); (case zdc39 => k_is); (case zdk39 => k_is)); (case zhtold => refine' Any.mkDef KX G (fun _ _ _ _ _ _ us hl => match us, hl with | [_], _ => rfl) ?zda40 ?zdl40 ?zdc40 ?zdk40; (case zda40 => k_is); (case zdl40 => k_is); (case zdc40 => k_is); (case zdk40 => k_is)); (case zhsize => refine' Any.mkDef KX G (fun _ _ _ _ _ _ us hl => match us, hl with | [_], _ => rfl) ?zda41 ?zdl41 ?zdc41 ?zdk41; (case zda41 => k_is); (case zdl41 => k_is); (case zdc41 => k_is); (case zdk41 => k_is))
      (case zhflat => refine' Any.mkDef KX G (fun _ _ _ _ _ _ us hl => match us, hl with | [_, _, _], _ => rfl) ?zda42 ?zdl42 ?zdc42 ?zdk42; (case zda42 => k_is); (case zdl42 => k_is); (case zdc42 => k_is); (case zdk42 => k_is)); (case zhbuilt => refine' Any.mkDef KX G (fun _ _ _ _ _ _ us hl => match us, hl with | [_, _], _ => rfl) ?zda43 ?zdl43 ?zdc43 ?zdk43; (case zda43 => k_is); (case zdl43 => k_is); (case zdc43 => k_is); (case zdk43 => k_is)); (case zhgrown => refine' Any.mkDef KX G (fun _ _ _ _ _ _ us hl => match us, hl with | [_, _, _, _], _ => rfl) ?zda44 ?zdl44 ?zdc44 ?zdk44; (case zda44 => k_is); (case zdl44 => k_is); (case zdc44 => k_is); (case zdk44 => k_is)); (case zhstand => refine' Any.mkDef KX G (fun _ _ _ _ _ _ us hl => match us, hl with | [_, _, _], _ => rfl) ?zda45 ?zdl45 ?zdc45 ?zdk45; (case zda45 => k_is); (case zdl45 => k_is); (case zdc45 => k_is); (case zdk45 => k_is)); (case zhmore => refine' Any.mkDef KX G (fun _ _ _ _ _ _ us hl => match us, hl with | [_, _, _, _], _ => rfl) ?zda46 ?zdl46 ?zdc46 ?zdk46; (case zda46 => k_is); (case zdl46 => k_is); (case zdc46 => k_is); (case zdk46 => k_is)); (case zhfewer => refine' Any.mkDef KX G (fun _ _ _ _ _ _ us hl => match us, hl with | [_, _], _ => rfl) ?zda47 ?zdl47 ?zdc47 ?zdk47; (case zda47 => k_is); (case zdl47 => k_is); (case zdc47 => k_is); (case zdk47 => k_is))
      (case zhmarked => refine' Any.mkDef KX G (fun _ _ _ _ _ _ us hl => match us, hl with | [_, _, _], _ => rfl) ?zda48 ?zdl48 ?zdc48 ?zdk48; (case zda48 => k_is); (case zdl48 => k_is); (case zdc48 => k_is); (case zdk48 => k_is)); (case zhpassed => refine' Any.mkDef KX G (fun _ _ _ _ _ _ us hl => match us, hl with | [_, _], _ => rfl) ?zda49 ?zdl49 ?zdc49 ?zdk49; (case zda49 => k_is); (case zdl49 => k_is); (case zdc49 => k_is); (case zdk49 => k_is)); (case zhpaths => refine' Any.mkDef KX G (fun _ _ _ _ _ _ us hl => match us, hl with | [_, _], _ => rfl) ?zda50 ?zdl50 ?zdc50 ?zdk50; (case zda50 => k_is); (case zdl50 => k_is); (case zdc50 => k_is); (case zdk50 => k_is)); (case zhfault => refine' Any.mkDef KX G (fun _ _ _ _ _ _ us hl => match us, hl with | [_, _, _, _], _ => rfl) ?zda51 ?zdl51 ?zdc51 ?zdk51; (case zda51 => k_is); (case zdl51 => k_is); (case zdc51 => k_is); (case zdk51 => k_is)); (case zhholder => refine' Any.mkDef KX G (fun _ _ _ _ _ _ us hl => match us, hl with | [_, _], _ => rfl) ?zda52 ?zdl52 ?zdc52 ?zdk52; (case zda52 => k_is); (case zdl52 => k_is); (case zdc52 => k_is); (case zdk52 => k_is)); (case zhodd => refine' Any.mkDef KX G (fun _ _ _ _ _ _ us hl => match us, hl with | [_, _, _], _ => rfl) ?zda53 ?zdl53 ?zdc53 ?zdk53; (case zda53 => k_is); (case zdl53 => k_is); (case zdc53 => k_is); (case zdk53 => k_is)); (case zhbent => refine' Any.mkDef KX G (fun _ _ _ _ _ _ us hl => match us, hl with | [_, _, _], _ => rfl) ?zda54 ?zdl54 ?zdc54 ?zdk54; (case zda54 => k_is); (case zdl54 => k_is); (case zdc54 => k_is); (case zdk54 => k_is))
    (case zqT => refine' Any.mkDef KX G (fun _ _ _ _ _ _ us hl => match us, hl with | [_, _, _, _], _ => rfl) ?zda55 ?zdl55 ?zdc55 ?zdk55; (case zda55 => k_is); (case zdl55 => k_is); (case zdc55 => k_is); (case zdk55 => k_is)); (case zqN => refine' Any.mkDef KX G (fun _ _ _ _ _ _ us hl => match us, hl with | [_, _, _, _], _ => rfl) ?zda56 ?zdl56 ?zdc56 ?zdk56; (case zda56 => k_is); (case zdl56 => k_is); (case zdc56 => k_is); (case zdk56 => k_is)); (case zqJ => refine' Any.mkDef KX G (fun _ _ _ _ _ _ us hl => match us, hl with | [_, _, _], _ => rfl) ?zda57 ?zdl57 ?zdc57 ?zdk57; (case zda57 => k_is); (case zdl57 => k_is); (case zdc57 => k_is); (case zdk57 => k_is))
