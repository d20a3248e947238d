import PyProof.Rows.All
import Wide.All
import OpenK.AllK
import Wide.FinOn
import HandS.ForMost
import HandS.FStr
import HandS.Wide
import HandS.Flow
import HandS.Style
import HandS.StrMore
import HandS.Conv
import HandS.IsInst
import HandS.TupAny
import HandS.Replace
import HandS.RaiseMore
import HandS.Deep
import PyProof.AutoSeq1
import PyProof.Rows.StrIntSpec
import PyProof.Draws
import PyProof.EnumMake
import HandS.ReplaceLit
import HandS.ReplaceList
import HandS.WideBits
import HandS.Codes
import HandS.Strs
import PySem.Challenge.RW_ownanswer_k62_conditions_judged
set_option Elab.async false
set_option linter.all false
set_option maxRecDepth 100000
set_option maxHeartbeats 4000000
namespace Fw
open PySem PySem.Spec L2
open PyProof.Rows hiding St

mutual
inductive Dq (K : PySem.W.Frag) (H : Hp) : V → PyData → Prop
  | non : Dq K H .non .none
  | bl (b : Bool) : Dq K H (.bl b) (.bool b)
  | int (i : Int) : Dq K H (.int i) (.int i)
  | str (x : Str) : Dq K H (.str x) (.str x)
  | lst {a : Addr} {xs : List V} {ds : List PyData} : H a = some (.lst xs) → DqAll K H xs ds → Dq K H (.ref a) (.list ds)
  | tup {a : Addr} {xs : List V} {ds : List PyData} : SqT K H a xs → DqAll K H xs ds → Dq K H (.ref a) (.tuple ds)
inductive DqAll (K : PySem.W.Frag) (H : Hp) : List V → List PyData → Prop
  | nil : DqAll K H [] []
  | cons {v : V} {vs : List V} {d : PyData} {ds : List PyData} : Dq K H v d → DqAll K H vs ds → DqAll K H (v :: vs) (d :: ds)
end
theorem seqT {K : PySem.W.Frag} {H H' : Hp} {a : Addr} {xs : List V} (e : Same H H') (h : SqT K H a xs) : SqT K H' a xs := by
  rcases h with (h | ⟨o, h⟩) | h
  · exact .inl (.inl (e _ _ h))
  · exact .inl (.inr ⟨o, e _ _ h⟩)
  · exact .inr h
mutual
theorem Dq.mono {K : PySem.W.Frag} {H H' : Hp} (e : Same H H') : ∀ {v : V} {d : PyData}, Dq K H v d → Dq K H' v d
  | _, _, .non => .non
  | _, _, .bl b => .bl b
  | _, _, .int i => .int i
  | _, _, .str x => .str x
  | _, _, .lst h r => .lst (e _ _ h) (DqAll.mono e r)
  | _, _, .tup h r => .tup (seqT e h) (DqAll.mono e r)
theorem DqAll.mono {K : PySem.W.Frag} {H H' : Hp} (e : Same H H') : ∀ {vs : List V} {ds : List PyData}, DqAll K H vs ds → DqAll K H' vs ds
  | _, _, .nil => .nil
  | _, _, .cons h r => .cons (Dq.mono e h) (DqAll.mono e r)
end
mutual
theorem Dq.dp {K : PySem.W.Frag} {H : Hp} : ∀ {v : V} {d : PyData}, Dq K H v d → Dp K H v d
  | _, _, .non => .non
  | _, _, .bl b => .bl b
  | _, _, .int i => .int i
  | _, _, .str x => .str x
  | _, _, .lst h r => .lst (SqL.of h) (DqAll.dp r)
  | _, _, .tup h r => .tup h (DqAll.dp r)
theorem DqAll.dp {K : PySem.W.Frag} {H : Hp} : ∀ {vs : List V} {ds : List PyData}, DqAll K H vs ds → DpAll K H vs ds
  | _, _, .nil => .nil
  | _, _, .cons h r => .cons (Dq.dp h) (DqAll.dp r)
end
theorem DqAll.length {K : PySem.W.Frag} {H : Hp} : ∀ {vs : List V} {ds : List PyData}, DqAll K H vs ds → vs.length = ds.length
  | _, _, .nil => rfl
  | _, _, .cons _ r => congrArg (· + 1) (DqAll.length r)
theorem DqAll.get {K : PySem.W.Frag} {H : Hp} : ∀ {vs : List V} {ds : List PyData} {i : Nat} {d : PyData}, DqAll K H vs ds → ds[i]? = some d → ∃ v, vs[i]? = some v ∧ Dq K H v d
  | _, _, _, _, .nil, e => by simp at e
  | _, _, 0, _, .cons h _, e => by simp at e; subst e; exact ⟨_, rfl, h⟩
  | _, _, i + 1, _, .cons _ r, e => by
    obtain ⟨v, a, b⟩ := DqAll.get (i := i) r (by simpa using e)
    exact ⟨v, by simpa using a, b⟩
theorem DqAll.getV {K : PySem.W.Frag} {H : Hp} : ∀ {vs : List V} {ds : List PyData} {i : Nat} {v : V}, DqAll K H vs ds → vs[i]? = some v → ∃ d, ds[i]? = some d ∧ Dq K H v d
  | _, _, _, _, .nil, e => by simp at e
  | _, _, 0, _, .cons h _, e => by simp at e; subst e; exact ⟨_, rfl, h⟩
  | _, _, i + 1, _, .cons _ r, e => by
    obtain ⟨v, a, b⟩ := DqAll.getV (i := i) r (by simpa using e)
    exact ⟨v, by simpa using a, b⟩
theorem DqAll.append {K : PySem.W.Frag} {H : Hp} : ∀ {vs ws : List V} {ds es : List PyData}, DqAll K H vs ds → DqAll K H ws es → DqAll K H (vs ++ ws) (ds ++ es)
  | _, _, _, _, .nil, s => s
  | _, _, _, _, .cons h r, s => .cons h (DqAll.append r s)
theorem DqAll.take {K : PySem.W.Frag} {H : Hp} : ∀ {vs : List V} {ds : List PyData} (n : Nat), DqAll K H vs ds → DqAll K H (vs.take n) (ds.take n)
  | _, _, 0, _ => .nil
  | _, _, _ + 1, .nil => .nil
  | _, _, n + 1, .cons h r => .cons h (DqAll.take n r)
theorem DqAll.drop {K : PySem.W.Frag} {H : Hp} : ∀ {vs : List V} {ds : List PyData} (n : Nat), DqAll K H vs ds → DqAll K H (vs.drop n) (ds.drop n)
  | _, _, 0, r => r
  | _, _, _ + 1, .nil => .nil
  | _, _, n + 1, .cons _ r => DqAll.drop n r
theorem DqAll.set {K : PySem.W.Frag} {H : Hp} {v : V} {d : PyData} (h : Dq K H v d) : ∀ {vs : List V} {ds : List PyData} (i : Nat), DqAll K H vs ds → DqAll K H (vs.set i v) (ds.set i d)
  | _, _, _, .nil => .nil
  | _, _, 0, .cons _ r => .cons h r
  | _, _, i + 1, .cons a r => .cons a (DqAll.set h i r)
theorem DqAll.one {K : PySem.W.Frag} {H : Hp} {v : V} {d : PyData} (h : Dq K H v d) : DqAll K H [v] [d] := .cons h .nil

inductive Sl where
  | un
  | dat (d : PyData)
  | own (xs : List PyData)
  | scr (ns : List Int)
abbrev En := List Sl

inductive SlR (K : PySem.W.Frag) (P H : Hp) : Sl → Option V → List Addr → Prop
  | un {ov : Option V} : SlR K P H .un ov []
  | dat {d : PyData} {v : V} : Dq K P v d → SlR K P H (.dat d) (some v) []
  | own {a : Addr} {vs : List V} {xs : List PyData} : P a = none → H a = some (.lst vs) → DqAll K P vs xs → SlR K P H (.own xs) (some (.ref a)) [a]
  | scr {a : Addr} {ns : List Int} : SqL K P a (ns.map V.int) → SlR K P H (.scr ns) (some (.ref a)) []

/-- no new thing in P' but what was free -/
def Fresh (F : Addr → Prop) (P H P' : Hp) : Prop := ∀ a o, P' a = some o → (∃ u, P a = some u) ∨ H a = none ∨ F a
def In (fps : Nat → List Addr) (a : Addr) : Prop := ∃ i, a ∈ fps i
abbrev NoF : Addr → Prop := fun _ => False

structure Rel (K : PySem.W.Frag) (vs0 : List V) (P : Hp) (E : En) (σ : St) (H : Hp) (fps : Nat → List Addr) : Prop where
  sub : Same P H
  len : E.length = σ.length
  sl : ∀ (i : Nat) (s : Sl), E[i]? = some s → ∃ ov, σ[i]? = some ov ∧ SlR K P H s ov (fps i)
  out : ∀ i : Nat, E.length ≤ i → fps i = []
  dj : ∀ (i j : Nat) (a : Addr), a ∈ fps i → a ∈ fps j → i = j
  par : ∀ (i : Nat) (xs : List PyData) (v : V), vs0[i]? = some v → E[i]? = some (Sl.own xs) → σ[i]? = some (some v)

structure Step (F : Addr → Prop) (P H : Hp) (F' : Addr → Prop) (P' H' : Hp) : Prop where
  pp : Same P P'
  keep : ∀ a o, H a = some o → ¬ F a → H' a = some o
  fresh : Fresh F P H P'
  foot : ∀ a, F' a → F a ∨ H a = none
  live : ∀ a o, H a = some o → ∃ u, H' a = some u

theorem Step.refl (F : Addr → Prop) (P H : Hp) : Step F P H F P H := ⟨Same.refl P, fun _ _ h _ => h, fun a o h => .inl ⟨o, h⟩, fun _ h => .inl h, fun _ o h => ⟨o, h⟩⟩
theorem Step.trans {F F1 F2 : Addr → Prop} {P H P1 H1 P2 H2 : Hp} (a : Step F P H F1 P1 H1) (b : Step F1 P1 H1 F2 P2 H2) : Step F P H F2 P2 H2 where
  pp := a.pp.trans b.pp
  keep := fun x o h n => b.keep x o (a.keep x o h n) fun h1 => by
    rcases a.foot x h1 with h2 | h2
    · exact n h2
    · rw [h] at h2; cases h2
  fresh := fun x o h => by
    rcases b.fresh x o h with ⟨u, h1⟩ | h1 | h1
    · exact a.fresh x u h1
    · by_cases hF : F x
      · exact .inr (.inr hF)
      · cases e : H x with
        | none => exact .inr (.inl rfl)
        | some u =>
          rw [a.keep x u e hF] at h1
          cases h1
    · rcases a.foot x h1 with h2 | h2
      · exact .inr (.inr h2)
      · exact .inr (.inl h2)
  foot := fun x h => by
    rcases b.foot x h with h1 | h1
    · exact a.foot x h1
    · by_cases hF : F x
      · exact .inl hF
      · cases e : H x with
        | none => exact .inr rfl
        | some u =>
          rw [a.keep x u e hF] at h1
          cases h1
  live := fun x o h => by
    obtain ⟨u, h1⟩ := a.live x o h
    exact b.live x u h1

theorem Step.free {F F' : Addr → Prop} {P H P' H' : Hp} (s : Step F P H F' P' H') {a : Addr} (h : H' a = none) : H a = none := by
  cases e : H a with
  | none => rfl
  | some o =>
    obtain ⟨u, h1⟩ := s.live a o e
    rw [h] at h1
    cases h1
section
variable {K : PySem.W.Frag} {vs0 : List V} {P P' : Hp} {E E' : En} {σ σ' : St} {H H' : Hp} {fps fps' : Nat → List Addr}
theorem SlR.foot {s : Sl} {ov : Option V} {fp : List Addr} (h : SlR K P H s ov fp) {a : Addr} (ha : a ∈ fp) : P a = none ∧ ∃ o, H a = some o := by
  cases h with
  | un => cases ha
  | dat _ => cases ha
  | own p q _ =>
    cases List.mem_singleton.mp ha
    exact ⟨p, _, q⟩
  | scr _ => cases ha
theorem Rel.foot (r : Rel K vs0 P E σ H fps) {a : Addr} (h : In fps a) : P a = none ∧ ∃ o, H a = some o := by
  obtain ⟨i, hi⟩ := h
  by_cases hl : i < E.length
  · obtain ⟨ov, _, q⟩ := r.sl i E[i] (List.getElem?_eq_getElem hl)
    exact q.foot hi
  · rw [r.out i (by omega)] at hi
    cases hi
theorem SlR.mono {s : Sl} {ov : Option V} {fp : List Addr} (h : SlR K P H s ov fp) (pp : Same P P') (k : ∀ a, a ∈ fp → H' a = H a ∧ P' a = none) : SlR K P' H' s ov fp := by
  cases h with
  | un => exact .un
  | dat d => exact .dat (d.mono pp)
  | own p q r =>
    obtain ⟨h1, h2⟩ := k _ (List.mem_singleton.mpr rfl)
    exact .own h2 (h1.trans q) (r.mono pp)
  | scr q => exact .scr (pp.seq q)
/-- the persistent part grows by what was free; all that was tracked stays -/
theorem Rel.alloc (r : Rel K vs0 P E σ H fps) (pp : Same P P') (sub : Same P' H') (hh : Same H H') (fr : Fresh NoF P H P') : Rel K vs0 P' E σ H' fps := by
  refine ⟨sub, r.len, fun i s hs => ?_, r.out, r.dj, r.par⟩
  obtain ⟨ov, e, q⟩ := r.sl i s hs
  refine ⟨ov, e, q.mono pp fun a ha => ?_⟩
  obtain ⟨h1, o, h2⟩ := q.foot ha
  refine ⟨(hh _ _ h2).trans h2.symm, ?_⟩
  cases e2 : P' a with
  | none => rfl
  | some u =>
    rcases fr a u e2 with ⟨w, h3⟩ | h3 | h3
    · rw [h1] at h3; cases h3
    · rw [h2] at h3; cases h3
    · exact h3.elim
theorem Step.alloc {F : Addr → Prop} (pp : Same P P') (hh : Same H H') (fr : Fresh NoF P H P') : Step F P H F P' H' :=
  ⟨pp, fun a o h _ => hh a o h, fun a o h => by
    rcases fr a o h with h | h | h
    · exact .inl h
    · exact .inr (.inl h)
    · exact h.elim, fun a h => .inl h, fun a o h => ⟨o, hh a o h⟩⟩
end

abbrev SE (α : Type) := En → Option (α × En)
def ret {α : Type} (a : α) : SE α := fun E => some (a, E)
def bnd {α β : Type} (f : SE α) (k : α → SE β) : SE β := fun E => match f E with
  | some (a, E') => k a E'
  | none => none
def lft {α : Type} (o : Option α) : SE α := fun E => match o with
  | some a => some (a, E)
  | none => none
theorem bnd_some {α β : Type} {f : SE α} {k : α → SE β} {E E2 : En} {b : β} (h : bnd f k E = some (b, E2)) : ∃ a E1, f E = some (a, E1) ∧ k a E1 = some (b, E2) := by
  unfold bnd at h
  split at h
  · rename_i a E1 e
    exact ⟨a, E1, e, h⟩
  · cases h
theorem lft_some {α : Type} {o : Option α} {E E2 : En} {a : α} (h : lft o E = some (a, E2)) : o = some a ∧ E2 = E := by
  unfold lft at h
  split at h
  · injection h with h
    injection h with h1 h2
    subst h1 h2
    exact ⟨rfl, rfl⟩
  · cases h
theorem ret_some {α : Type} {a b : α} {E E2 : En} (h : ret a E = some (b, E2)) : b = a ∧ E2 = E := by
  unfold ret at h
  injection h with h
  injection h with h1 h2
  exact ⟨h1.symm, h2.symm⟩

/-- which heap a value's data is read in -/
abbrev pick (p : Bool) (P H : Hp) : Hp := bif p then P else H
/-- m: the expression may change owned lists; p: its value stands in the persistent part -/
def tX (K : PySem.W.Frag) (m p : Bool) (f : SE PyData) : TE := fun σ H Q => ∃ (vs0 : List V) (P : Hp) (E : En) (fps : Nat → List Addr) (d : PyData) (E' : En), Rel K vs0 P E σ H fps ∧ f E = some (d, E') ∧
  ∀ (P' H' : Hp) (fps' : Nat → List Addr) (v : V), Rel K vs0 P' E' σ H' fps' → Step (In fps) P H (In fps') P' H' → (m = false → Same H H') → Dq K (pick p P' H') v d → Q v H'
def tXL (K : PySem.W.Frag) (m : Bool) (f : SE (List PyData)) : TE := fun σ H Q => ∃ (vs0 : List V) (P : Hp) (E : En) (fps : Nat → List Addr) (ds : List PyData) (E' : En), Rel K vs0 P E σ H fps ∧ f E = some (ds, E') ∧
  ∀ (P' H' : Hp) (fps' : Nat → List Addr) (a : Addr) (vs : List V), Rel K vs0 P' E' σ H' fps' → Step (In fps) P H (In fps') P' H' → (m = false → Same H H') → H a = none → P' a = none → ¬ In fps' a → H' a = some (.lst vs) → DqAll K P' vs ds → Q (.ref a) H'
def tXT (K : PySem.W.Frag) (m : Bool) (f : SE Bool) : TT := fun σ H Q => ∃ (vs0 : List V) (P : Hp) (E : En) (fps : Nat → List Addr) (b : Bool) (E' : En), Rel K vs0 P E σ H fps ∧ f E = some (b, E') ∧
  ∀ (P' H' : Hp) (fps' : Nat → List Addr), Rel K vs0 P' E' σ H' fps' → Step (In fps) P H (In fps') P' H' → (m = false → Same H H') → Q b H'
def tXA (K : PySem.W.Frag) (m : Bool) (f : SE (List PyData)) : TA := fun σ H Q => ∃ (vs0 : List V) (P : Hp) (E : En) (fps : Nat → List Addr) (ds : List PyData) (E' : En), Rel K vs0 P E σ H fps ∧ f E = some (ds, E') ∧
  ∀ (P' H' : Hp) (fps' : Nat → List Addr) (vs : List V), Rel K vs0 P' E' σ H' fps' → Step (In fps) P H (In fps') P' H' → (m = false → Same H H') → DqAll K P' vs ds → Q vs H'

/-- an expression | a new list | a test | arguments -/
def PX (X : Cx) (m p : Bool) (e : Expr) (f : SE PyData) : Prop := PE X e (tX X.K m p f)
def PL (X : Cx) (m : Bool) (e : Expr) (f : SE (List PyData)) : Prop := PE X e (tXL X.K m f)
def PXT (X : Cx) (m : Bool) (e : Expr) (f : SE Bool) : Prop := PT X e (tXT X.K m f)
def PXA (X : Cx) (m : Bool) (es : List Expr) (f : SE (List PyData)) : Prop := PA X es (tXA X.K m f)

theorem pe_imp {X : Cx} {e : Expr} {t u : TE} (h : PE X e t) (i : ∀ σ H Q, u σ H Q → t σ H Q) : PE X e u := ⟨fun pins s σ H Q I q => h.run pins s σ H Q I (i σ H Q q)⟩
theorem pt_imp {X : Cx} {e : Expr} {t u : TT} (h : PT X e t) (i : ∀ σ H Q, u σ H Q → t σ H Q) : PT X e u := ⟨fun pins s σ H Q I q => h.run pins s σ H Q I (i σ H Q q)⟩
theorem pw_imp {X : Cx} {e : Expr} {t u : TT} (h : PW X e t) (i : ∀ σ H Q, u σ H Q → t σ H Q) : PW X e u := ⟨fun wh pins s σ H Q I q => h.run wh pins s σ H Q I (i σ H Q q)⟩
theorem pa_imp {X : Cx} {es : List Expr} {t u : TA} (h : PA X es t) (i : ∀ σ H Q, u σ H Q → t σ H Q) : PA X es u := ⟨fun pos pins s σ H Q I q => h.run pos pins s σ H Q I (i σ H Q q)⟩
theorem ps_imp {X : Cx} {st : Stmt} {t u : TS} (h : PS X st t) (i : ∀ D σ H, u D σ H → t D σ H) : PS X st u := ⟨fun pins s σ H D I q => h.run pins s σ H D I (i D σ H q)⟩
theorem pss_imp {X : Cx} {st : List Stmt} {t u : TS} (h : PSs X st t) (i : ∀ D σ H, u D σ H → t D σ H) : PSs X st u := ⟨fun pins s σ H D I q => h.run pins s σ H D I (i D σ H q)⟩

theorem Dq.pick {K : PySem.W.Frag} {P H : Hp} {v : V} {d : PyData} {p : Bool} (s : Same P H) (h : Dq K (pick p P H) v d) : Dq K H v d := by
  cases p with
  | true => exact h.mono s
  | false => exact h

section
variable {X : Cx} {m m1 m2 p p1 p2 : Bool} {e a b : Expr} {pos : Pos} {f fa fb : SE PyData}
theorem PX.eff (h : PX X m p e f) : PX X true p e f := pe_imp h fun σ H Q => by
  rintro ⟨vs0, P, E, fps, d, E', r, hf, q⟩
  exact ⟨vs0, P, E, fps, d, E', r, hf, fun P' H' fps' v r' st _ dv => q P' H' fps' v r' st (fun z => nomatch z) dv⟩
theorem PX.brw (h : PX X m true e f) : PX X m false e f := pe_imp h fun σ H Q => by
  rintro ⟨vs0, P, E, fps, d, E', r, hf, q⟩
  exact ⟨vs0, P, E, fps, d, E', r, hf, fun P' H' fps' v r' st sm dv => q P' H' fps' v r' st sm (Dq.mono r'.sub dv)⟩
/-- a new list handed on is never changed again -/
theorem PL.px {g : SE (List PyData)} (h : PL X m e g) : PX X m true e (bnd g fun ds => ret (.list ds)) := pe_imp h fun σ H Q => by
  rintro ⟨vs0, P, E, fps, d, E', r, hf, q⟩
  obtain ⟨ds, E1, h1, h2⟩ := bnd_some hf
  obtain ⟨rfl, rfl⟩ := ret_some h2
  refine ⟨vs0, P, E, fps, ds, _, r, h1, fun P' H' fps' ad vs r' st sm ha pa nf hv dv => ?_⟩
  have s1 : Same P' (upd P' ad (.lst vs)) := fun x o hx => by rw [upd_ne (ne_of_none hx pa)]; exact hx
  have fr : ∀ x o, upd P' ad (.lst vs) x = some o → x = ad ∨ P' x = some o := fun x o hx => by
    by_cases e1 : x = ad
    · exact .inl e1
    · rw [upd_ne e1] at hx; exact .inr hx
  refine q (upd P' ad (.lst vs)) H' fps' (.ref ad) ⟨fun x o hx => ?_, r'.len, fun i s hs => ?_, r'.out, r'.dj, r'.par⟩ ⟨st.pp.trans s1, st.keep, fun x o hx => ?_, st.foot, st.live⟩ sm (.lst upd_same (dv.mono s1))
  · rcases fr x o hx with rfl | h3
    · rw [upd_same] at hx; cases hx; exact hv
    · exact r'.sub x o h3
  · obtain ⟨ov, e1, q1⟩ := r'.sl i s hs
    refine ⟨ov, e1, q1.mono s1 fun x hx => ⟨rfl, ?_⟩⟩
    have hne : x ≠ ad := fun z => nf (z ▸ ⟨i, hx⟩)
    rw [upd_ne hne]
    exact (q1.foot hx).1
  · rcases fr x o hx with rfl | h3
    · exact .inr (.inl ha)
    · exact st.fresh x o h3
end
end Fw
namespace Fw
open PySem PySem.Spec L2
open PyProof.Rows hiding St

def rdD (i : Nat) : SE PyData := fun E => match E[i]? with
  | some (.dat d) => some (d, E)
  | _ => none
def rdO (i : Nat) : SE PyData := fun E => match E[i]? with
  | some (.own xs) => some (.list xs, E)
  | _ => none
theorem rdD_some {i : Nat} {E E2 : En} {d : PyData} (h : rdD i E = some (d, E2)) : E[i]? = some (.dat d) ∧ E2 = E := by
  unfold rdD at h
  split at h
  · rename_i d' e
    injection h with h
    injection h with h1 h2
    subst h1 h2
    exact ⟨e, rfl⟩
  · cases h
theorem rdO_some {i : Nat} {E E2 : En} {d : PyData} (h : rdO i E = some (d, E2)) : ∃ xs, E[i]? = some (.own xs) ∧ d = .list xs ∧ E2 = E := by
  unfold rdO at h
  split at h
  · rename_i xs e
    injection h with h
    injection h with h1 h2
    subst h1 h2
    exact ⟨xs, e, rfl, rfl⟩
  · cases h
section
variable {X : Cx} {m m1 m2 p p1 p2 : Bool} {e a b : Expr} {pos : Pos} {f fa fb : SE PyData}
theorem px_var {i : Nat} (h : PE X e (tVar i)) : PX X false true e (rdD i) := pe_imp h fun σ H Q => by
  rintro ⟨vs0, P, E, fps, d, E', r, hf, q⟩
  obtain ⟨h1, rfl⟩ := rdD_some hf
  obtain ⟨ov, e1, s⟩ := r.sl i _ h1
  generalize hfp : fps i = fp at s
  cases s with
  | dat dv => exact ⟨_, e1, q P H fps _ r (.refl _ _ _) (fun _ => Same.refl H) dv⟩
theorem px_own {i : Nat} (h : PE X e (tVar i)) : PX X false false e (rdO i) := pe_imp h fun σ H Q => by
  rintro ⟨vs0, P, E, fps, d, E', r, hf, q⟩
  obtain ⟨xs, h1, rfl, rfl⟩ := rdO_some hf
  obtain ⟨ov, e1, s⟩ := r.sl i _ h1
  generalize hfp : fps i = fp at s
  cases s with
  | own pa ha dv => exact ⟨_, e1, q P H fps _ r (.refl _ _ _) (fun _ => Same.refl H) (.lst ha (dv.mono r.sub))⟩
/-- a value that is known everywhere -/
def Kn (K : PySem.W.Frag) (v : V) (d : PyData) : Prop := ∀ P : Hp, Dq K P v d
theorem px_kn {v : V} {d : PyData} (h : PE X e (tC v)) (k : Kn X.K v d) : PX X false true e (ret d) := pe_imp h fun σ H Q => by
  rintro ⟨vs0, P, E, fps, d', E', r, hf, q⟩
  obtain ⟨rfl, rfl⟩ := ret_some hf
  exact q P H fps v r (.refl _ _ _) (fun _ => Same.refl H) (k P)
theorem px_int {i : Int} {j : Nat} : PX X false true (.Constant (.int i) j pos) (ret (.int i)) := px_kn pe_int fun _ => .int i
theorem px_bl {b : Bool} {j : Nat} : PX X false true (.Constant (.bool b) j pos) (ret (.bool b)) := px_kn pe_bl fun _ => .bl b
theorem px_non {j : Nat} : PX X false true (.Constant .none j pos) (ret .none) := px_kn pe_non fun _ => .non
theorem px_str {x : Str} {j : Nat} : PX X false true (.Constant (.str x) j pos) (ret (.str x)) := px_kn pe_str fun _ => .str x

/-- what is shown behind an operation that lays new things at most -/
abbrev After (K : PySem.W.Frag) (P H : Hp) (z : PyData) (Q : VK) : Prop := ∀ (P' H' : Hp) (v : V), Same P P' → Same P' H' → Same H H' → Fresh NoF P H P' → Dq K P' v z → Q v H'
theorem Fresh.same {F : Addr → Prop} {P H : Hp} : Fresh F P H P := fun a o h => .inl ⟨o, h⟩
theorem After.at {K : PySem.W.Frag} {P H : Hp} {z : PyData} {Q : VK} (q : After K P H z Q) {v : V} (s : Same P H) (h : Dq K P v z) : Q v H := q P H v (Same.refl P) s (Same.refl H) .same h
theorem same_upd {H : Hp} {p : Addr} {o : HO} (h : H p = none) : Same H (upd H p o) := fun b x e => by
  rw [upd_ne (ne_of_none e h)]
  exact e
theorem same_upd2 {P H : Hp} {p : Addr} {o : HO} (s : Same P H) (h : H p = none) : Same (upd P p o) (upd H p o) := fun b x e => by
  by_cases e1 : b = p
  · subst e1
    rw [upd_same] at e ⊢
    exact e
  · rw [upd_ne e1] at e ⊢
    exact s b x e
theorem sub_none {P H : Hp} {p : Addr} (s : Same P H) (h : H p = none) : P p = none := by
  cases e : P p with
  | none => rfl
  | some o =>
    rw [s p o e] at h
    cases h
theorem fresh_upd {F : Addr → Prop} {P H : Hp} {p : Addr} {o : HO} (h : H p = none) : Fresh F P H (upd P p o) := fun a u e => by
  by_cases e1 : a = p
  · subst e1
    exact .inr (.inl h)
  · rw [upd_ne e1] at e
    exact .inl ⟨u, e⟩
theorem After.new {K : PySem.W.Frag} {P H : Hp} {z : PyData} {Q : VK} (q : After K P H z Q) {p : Addr} {o : HO} (s : Same P H) (h : H p = none) (d : Dq K (upd P p o) (.ref p) z) : Q (.ref p) (upd H p o) :=
  q (upd P p o) (upd H p o) (.ref p) (same_upd (sub_none s h)) (same_upd2 s h) (same_upd h) (fresh_upd h) d
def VO (K : PySem.W.Frag) (p1 p2 : Bool) (r : R2) (g : PyData → PyData → Option PyData) : Prop := ∀ (P H : Hp) (x y : V) (d e z : PyData) (Q : VK), Same P H → Dq K (pick p1 P H) x d → Dq K (pick p2 P H) y e → g d e = some z → After K P H z Q → r x y H Q
def VU (K : PySem.W.Frag) (p : Bool) (r : V → Hp → VK → Prop) (g : PyData → Option PyData) : Prop := ∀ (P H : Hp) (x : V) (d z : PyData) (Q : VK), Same P H → Dq K (pick p P H) x d → g d = some z → After K P H z Q → r x H Q
def bin (fa fb : SE PyData) (g : PyData → PyData → Option PyData) : SE PyData := bnd fa fun d => bnd fb fun e => lft (g d e)
def una (fa : SE PyData) (g : PyData → Option PyData) : SE PyData := bnd fa fun d => lft (g d)

theorem px_op2 {r : R2} {g : PyData → PyData → Option PyData} (h : PE X e (tOp r (tX X.K m1 p1 fa) (tX X.K m2 p2 fb))) (v : VO X.K p1 p2 r g) (hf : p1 = true ∨ m2 = false) : PX X (m1 || m2) true e (bin fa fb g) := pe_imp h fun σ H Q => by
  rintro ⟨vs0, P, E, fps, d, E', rel, hh, q⟩
  obtain ⟨d1, E1, h1, hh⟩ := bnd_some hh
  obtain ⟨d2, E2, h2, hh⟩ := bnd_some hh
  obtain ⟨h3, rfl⟩ := lft_some hh
  refine ⟨vs0, P, E, fps, d1, E1, rel, h1, fun P1 H1 fps1 x r1 s1 m1' dx => ⟨vs0, P1, E1, fps1, d2, E', r1, h2, fun P2 H2 fps2 y r2 s2 m2' dy => ?_⟩⟩
  have dx2 : Dq X.K (pick p1 P2 H2) x d1 := by
    cases p1 with
    | true => exact Dq.mono s2.pp dx
    | false =>
      rcases hf with hf | hf
      · cases hf
      · exact Dq.mono (m2' hf) dx
  refine v P2 H2 x y d1 d2 d Q r2.sub dx2 dy h3 fun P3 H3 w pp su hh fr dw => ?_
  refine q P3 H3 fps2 w (r2.alloc pp su hh fr) ((s1.trans s2).trans (.alloc pp hh fr)) (fun hm => ?_) dw
  rw [Bool.or_eq_false_iff] at hm
  exact ((m1' hm.1).trans (m2' hm.2)).trans hh
theorem px_op1 {r : V → Hp → VK → Prop} {g : PyData → Option PyData} (h : PE X e (fun σ H Q => tX X.K m p fa σ H fun x H1 => r x H1 Q)) (v : VU X.K p r g) : PX X m true e (una fa g) := pe_imp h fun σ H Q => by
  rintro ⟨vs0, P, E, fps, d, E', rel, hh, q⟩
  obtain ⟨d1, E1, h1, hh⟩ := bnd_some hh
  obtain ⟨h3, rfl⟩ := lft_some hh
  refine ⟨vs0, P, E, fps, d1, _, rel, h1, fun P1 H1 fps1 x r1 s1 m1' dx => ?_⟩
  refine v P1 H1 x d1 d Q r1.sub dx h3 fun P3 H3 w pp su hh fr dw => ?_
  exact q P3 H3 fps1 w (r1.alloc pp su hh fr) (s1.trans (.alloc pp hh fr)) (fun hm => (m1' hm).trans hh) dw

def gAdd : PyData → PyData → Option PyData
  | .int i, .int j => some (.int (i + j))
  | .str x, .str y => if x.length + y.length ≤ sizeLine then some (.str (x ++ y)) else none
  | .tuple xs, .tuple ys => if xs.length + ys.length ≤ sizeLine then some (.tuple (xs ++ ys)) else none
  | _, _ => none
abbrev rAddA (K : PySem.W.Frag) : R2 := fun x y H Q => (rI0 fun i j => .int (i + j)) x y H Q ∨ ((fun x y H Q => ∃ i j, x = V.str i ∧ y = V.str j ∧ i.length + j.length ≤ sizeLine ∧ Q (.str (i ++ j)) H) x y H Q ∨ rCatA K x y H Q)
theorem op_addA : OpR X (binaryOp .Add) (rAddA X.K) := op_add.or (op_add_str.or op_catA)
theorem vo_add {K : PySem.W.Frag} : VO K true true (rAddA K) gAdd := by
  intro P H x y d e z Q su dx dy hg q
  unfold gAdd at hg
  split at hg
  · cases dx; cases dy; cases hg
    exact .inl ⟨_, _, rfl, rfl, q.at su (.int _)⟩
  · split at hg
    · rename_i hl
      cases dx; cases dy; cases hg
      exact .inr (.inl ⟨_, _, rfl, rfl, hl, q.at su (.str _)⟩)
    · cases hg
  · split at hg
    · rename_i xs ys hl
      cases dx with
      | @tup a vs _ ha hv =>
        cases dy with
        | @tup b ws _ hb hw =>
          cases hg
          have l1 := hv.length
          have l2 := hw.length
          refine .inr (.inr ⟨a, b, vs, ws, rfl, rfl, seqT su ha, seqT su hb, by omega, fun e1 => ?_, fun e1 e2 => ?_, fun e1 e2 p hp => ?_⟩)
          · subst e1
            have : xs = [] := by cases xs with | nil => rfl | cons => simp at l1
            subst this
            exact q.at su (.tup hb hw)
          · subst e2
            have : ys = [] := by cases ys with | nil => rfl | cons => simp at l2
            subst this
            rw [List.append_nil] at q
            exact q.at su (.tup ha hv)
          · have s1 : Same P (upd P p (.tup (vs ++ ws))) := Fw.same_upd (sub_none su hp)
            exact q.new su hp (.tup (SqT.of upd_same) ((hv.mono s1).append (hw.mono s1)))
    · cases hg
  · cases hg
theorem px_add (ha : PX X m1 true a fa) (hb : PX X m2 true b fb) : PX X (m1 || m2) true (.BinOp a .Add b pos) (bin fa fb gAdd) := px_op2 (pe_op op_addA ha hb) vo_add (.inl rfl)
theorem dq_int {K : PySem.W.Frag} {H : Hp} {x : V} {i : Int} (h : Dq K H x (.int i)) : x = .int i := by cases h; rfl
theorem dq_bl {K : PySem.W.Frag} {H : Hp} {x : V} {i : Bool} (h : Dq K H x (.bool i)) : x = .bl i := by cases h; rfl
theorem dq_str {K : PySem.W.Frag} {H : Hp} {x : V} {i : Str} (h : Dq K H x (.str i)) : x = .str i := by cases h; rfl
/-- ints alone, under a condition -/
def gI (c : Int → Int → Bool) (g : Int → Int → PyData) : PyData → PyData → Option PyData
  | .int i, .int j => if c i j then some (g i j) else none
  | _, _ => none
theorem vo_I {K : PySem.W.Frag} {C : Int → Int → Prop} {c : Int → Int → Bool} {gv : Int → Int → V} {g : Int → Int → PyData} (hc : ∀ i j, c i j = true → C i j) (hd : ∀ i j P, Dq K P (gv i j) (g i j)) : VO K p1 p2 (rI C gv) (gI c g) := by
  intro P H x y d e z Q su dx dy hg q
  unfold gI at hg
  split at hg
  · split at hg
    · rename_i hl
      cases hg
      rw [dq_int dx, dq_int dy]
      exact ⟨_, _, rfl, rfl, hc _ _ hl, q.at su (hd _ _ _)⟩
    · cases hg
  · cases hg
theorem vo_I0 {K : PySem.W.Frag} {gv : Int → Int → V} {g : Int → Int → PyData} (hd : ∀ i j P, Dq K P (gv i j) (g i j)) : VO K p1 p2 (rI0 gv) (gI (fun _ _ => true) g) := by
  intro P H x y d e z Q su dx dy hg q
  unfold gI at hg
  split at hg
  · cases hg
    rw [dq_int dx, dq_int dy]
    exact ⟨_, _, rfl, rfl, q.at su (hd _ _ _)⟩
  · cases hg
def gSub := gI (fun _ _ => true) fun i j => .int (i - j)
def cMul (i j : Int) : Bool := decide (-(2 ^ 64) < i ∧ i < 2 ^ 64) || decide (-(2 ^ 64) < j ∧ j < 2 ^ 64)
def gMul := gI cMul fun i j => .int (i * j)
def gDiv := gI (fun _ j => decide (0 < j ∧ j < 18446744073709551616)) fun i j => .int (i / j)
def gMod := gI (fun _ j => decide (0 < j)) fun i j => .int (i % j)
theorem px_sub (ha : PX X m1 true a fa) (hb : PX X m2 true b fb) : PX X (m1 || m2) true (.BinOp a .Sub b pos) (bin fa fb gSub) := px_op2 (pe_op op_sub ha hb) (vo_I0 fun _ _ _ => .int _) (.inl rfl)
theorem px_mul (ha : PX X m1 true a fa) (hb : PX X m2 true b fb) : PX X (m1 || m2) true (.BinOp a .Mult b pos) (bin fa fb gMul) := px_op2 (pe_op op_mul ha hb) (vo_I (fun i j h => by
  unfold cMul at h
  rw [Bool.or_eq_true, decide_eq_true_iff, decide_eq_true_iff] at h
  exact h) fun _ _ _ => .int _) (.inl rfl)
theorem px_div (ha : PX X m1 true a fa) (hb : PX X m2 true b fb) : PX X (m1 || m2) true (.BinOp a .FloorDiv b pos) (bin fa fb gDiv) := px_op2 (pe_op op_fdivW ha hb) (vo_I (C := CDivW) (fun i j h => by
  have h : 0 < j ∧ j < 18446744073709551616 := of_decide_eq_true h
  exact wide_div (b := 64) h.1 (by have := h.2; omega) (by decide) (by decide)) fun _ _ _ => .int _) (.inl rfl)
theorem px_mod (ha : PX X m1 true a fa) (hb : PX X m2 true b fb) : PX X (m1 || m2) true (.BinOp a .Mod b pos) (bin fa fb gMod) := px_op2 (pe_op op_mod ha hb) (vo_I (fun i j h => of_decide_eq_true h) fun _ _ _ => .int _) (.inl rfl)
def gNeg : PyData → Option PyData
  | .int i => some (.int (-i))
  | _ => none
theorem px_neg (ha : PX X m p a fa) : PX X m true (.UnaryOp .USub a pos) (una fa gNeg) := px_op1 (pe_un un_neg ha) (by
  intro P H x d z Q su dx hg q
  unfold gNeg at hg
  split at hg
  · cases hg
    rw [dq_int dx]
    exact ⟨_, rfl, q.at su (.int _)⟩
  · cases hg)

def okEq : PyData → PyData → Bool
  | .none, .none => true
  | .none, .int _ => true
  | .int _, .none => true
  | .none, .bool _ => true
  | .bool _, .none => true
  | .none, .str _ => true
  | .str _, .none => true
  | .int _, .int _ => true
  | .bool _, .bool _ => true
  | .str _, .str _ => true
  | .int _, .str _ => true
  | .str _, .int _ => true
  | d, e => SeqAt.shaped d && SeqAt.shaped e
def gEq (d e : PyData) : Option PyData := if okEq d e then some (.bool (PyData.eqv d e)) else none
def gNe (d e : PyData) : Option PyData := if okEq d e then some (.bool (!PyData.eqv d e)) else none
theorem okEq_cases {K : PySem.W.Frag} {H : Hp} {x y : V} {d e : PyData} (h : okEq d e = true) (dx : Dq K H x d) (dy : Dq K H y e) : (scal x y = true ∧ PyData.eqv d e = decide (x = y)) ∨ (SeqAt.shaped d = true ∧ SeqAt.shaped e = true) := by
  unfold okEq at h
  split at h
  all_goals first
    | (cases dx; cases dy; refine .inl ⟨rfl, ?_⟩; simp [PyData.eqv]; done)
    | (cases dx; cases dy; refine .inl ⟨rfl, ?_⟩; simp [PyData.eqv, Bool.beq_eq_decide_eq]; done)
    | (rw [Bool.and_eq_true] at h; exact .inr h)
abbrev rEqA (K : PySem.W.Frag) : R2 := fun x y H Q => rEq x y H Q ∨ rEqD K x y H Q
abbrev rNeA (K : PySem.W.Frag) : R2 := fun x y H Q => rNe x y H Q ∨ rNeD K x y H Q
theorem vo_eq {K : PySem.W.Frag} : VO K p1 p2 (rEqA K) gEq := by
  intro P H x y d e z Q su dx dy hg q
  unfold gEq at hg
  split at hg
  · rename_i hok
    cases hg
    have dx := Dq.pick su dx
    have dy := Dq.pick su dy
    rcases okEq_cases hok dx dy with ⟨h1, h2⟩ | ⟨h1, h2⟩
    · refine .inl ⟨h1, ?_⟩
      rw [← h2]
      exact q.at su (.bl _)
    · exact .inr ⟨d, e, dx.dp, dy.dp, h1, h2, q.at su (.bl _)⟩
  · cases hg
theorem vo_ne {K : PySem.W.Frag} : VO K p1 p2 (rNeA K) gNe := by
  intro P H x y d e z Q su dx dy hg q
  unfold gNe at hg
  split at hg
  · rename_i hok
    cases hg
    have dx := Dq.pick su dx
    have dy := Dq.pick su dy
    rcases okEq_cases hok dx dy with ⟨h1, h2⟩ | ⟨h1, h2⟩
    · refine .inl ⟨h1, ?_⟩
      rw [← h2]
      exact q.at su (.bl _)
    · exact .inr ⟨d, e, dx.dp, dy.dp, h1, h2, q.at su (.bl _)⟩
  · cases hg
theorem px_eq {k : Nat} (hr : Room k X.A) (ha : PX X m1 p1 a fa) (hb : PX X m2 p2 b fb) (hf : p1 = true ∨ m2 = false) : PX X (m1 || m2) true (.Compare a [.Eq] [b] pos) (bin fa fb gEq) := px_op2 (pe_cmpR (op_eq.or (op_eqD hr.units)) ha hb (nomark _)) vo_eq hf
theorem px_ne {k : Nat} (hr : Room k X.A) (ha : PX X m1 p1 a fa) (hb : PX X m2 p2 b fb) (hf : p1 = true ∨ m2 = false) : PX X (m1 || m2) true (.Compare a [.NotEq] [b] pos) (bin fa fb gNe) := px_op2 (pe_cmpR (op_ne.or (op_neD hr.units)) ha hb (nomark _)) vo_ne hf
def gLt := gI (fun _ _ => true) fun i j => .bool (decide (i < j))
def gGt := gI (fun _ _ => true) fun i j => .bool (decide (j < i))
def gGe := gI (fun _ _ => true) fun i j => .bool (decide (j ≤ i))
def gLe : PyData → PyData → Option PyData
  | .int i, .int j => some (.bool (decide (i ≤ j)))
  | .str x, .str y => some (.bool (!decide (y.cps.toList < x.cps.toList)))
  | _, _ => none
abbrev rLeA : R2 := fun x y H Q => (rI0 fun i j => .bl (decide (i ≤ j))) x y H Q ∨ (fun x y H Q => ∃ i j, x = V.str i ∧ y = V.str j ∧ Q (.bl (!decide (j.cps.toList < i.cps.toList))) H) x y H Q
theorem op_leA : OpR X (compareOp .LtE) rLeA := op_le.or op_le_str
theorem vo_le {K : PySem.W.Frag} : VO K p1 p2 rLeA gLe := by
  intro P H x y d e z Q su dx dy hg q
  unfold gLe at hg
  split at hg
  · cases hg
    rw [dq_int dx, dq_int dy]
    exact .inl ⟨_, _, rfl, rfl, q.at su (.bl _)⟩
  · cases hg
    rw [dq_str dx, dq_str dy]
    exact .inr ⟨_, _, rfl, rfl, q.at su (.bl _)⟩
  · cases hg
theorem px_lt (ha : PX X m1 p1 a fa) (hb : PX X m2 p2 b fb) (hf : p1 = true ∨ m2 = false) : PX X (m1 || m2) true (.Compare a [.Lt] [b] pos) (bin fa fb gLt) := px_op2 (pe_cmpR op_lt ha hb (nomark _)) (vo_I0 fun _ _ _ => .bl _) hf
theorem px_gt (ha : PX X m1 p1 a fa) (hb : PX X m2 p2 b fb) (hf : p1 = true ∨ m2 = false) : PX X (m1 || m2) true (.Compare a [.Gt] [b] pos) (bin fa fb gGt) := px_op2 (pe_cmpR op_gt ha hb (nomark _)) (vo_I0 fun _ _ _ => .bl _) hf
theorem px_ge (ha : PX X m1 p1 a fa) (hb : PX X m2 p2 b fb) (hf : p1 = true ∨ m2 = false) : PX X (m1 || m2) true (.Compare a [.GtE] [b] pos) (bin fa fb gGe) := px_op2 (pe_cmpR op_ge ha hb (nomark _)) (vo_I0 fun _ _ _ => .bl _) hf
theorem px_le (ha : PX X m1 p1 a fa) (hb : PX X m2 p2 b fb) (hf : p1 = true ∨ m2 = false) : PX X (m1 || m2) true (.Compare a [.LtE] [b] pos) (bin fa fb gLe) := px_op2 (pe_cmpR op_leA ha hb (nomark _)) vo_le hf
/-- is None, is not None -/
def gIsN : PyData → Option PyData
  | .none => some (.bool true)
  | _ => some (.bool false)
def gNotN : PyData → Option PyData
  | .none => some (.bool false)
  | _ => some (.bool true)
theorem px_isN {j : Nat} {pos' : Pos} (ha : PX X m p a fa) : PX X m true (.Compare a [.Is] [.Constant .none j pos'] pos) (una fa gIsN) := px_op1 (r := fun x H Q => Q (.bl (decide (x = .non))) H) (pe_cmp (pc_isN ha)) (by
  intro P H x d z Q su dx hg q
  unfold gIsN at hg
  cases dx <;> cases hg <;> exact q.at su (.bl _))
theorem px_notN {j : Nat} {pos' : Pos} (ha : PX X m p a fa) : PX X m true (.Compare a [.IsNot] [.Constant .none j pos'] pos) (una fa gNotN) := px_op1 (r := fun x H Q => Q (.bl (!decide (x = .non))) H) (pe_cmp (pc_notN ha)) (by
  intro P H x d z Q su dx hg q
  unfold gNotN at hg
  cases dx <;> cases hg <;> exact q.at su (.bl _))
end
end Fw
namespace Fw
open PySem PySem.Spec L2
open PyProof.Rows hiding St
section
variable {X : Cx} {m m1 m2 m3 p p1 p2 p3 : Bool} {e a b c : Expr} {rest : List Expr} {pos : Pos} {f fa fb fc : SE PyData}

def toB (f : SE PyData) : SE Bool := bnd f fun d => match d with
  | .bool b => ret b
  | _ => fun _ => none
theorem toB_some {E E2 : En} {b : Bool} (h : toB f E = some (b, E2)) : f E = some (.bool b, E2) := by
  obtain ⟨d, E1, h1, h2⟩ := bnd_some h
  split at h2
  · obtain ⟨rfl, rfl⟩ := ret_some h2
    exact h1
  · cases h2
theorem pt_of_px (h : PX X m p e f) (he : ∀ whole, isTrue e X.env whole = (do let v ← whole; standAt e.pos; holding [v] (truthy v)) := by intro _; rfl) : PXT X m e (toB f) := pt_imp (pt_val h he) fun σ H Q => by
  rintro ⟨vs0, P, E, fps, bb, E', r, hf, q⟩
  refine ⟨vs0, P, E, fps, .bool bb, E', r, toB_some hf, fun P' H' fps' v r' st sm dv => ?_⟩
  have : v = .bl bb := by cases p <;> exact dq_bl dv
  exact ⟨bb, this, q P' H' fps' r' st sm⟩
theorem pt_op2 {r : R2} {g : PyData → PyData → Option PyData} (h : PT X e (tTest (tOp r (tX X.K m1 p1 fa) (tX X.K m2 p2 fb)))) (v : VO X.K p1 p2 r g) (hf : p1 = true ∨ m2 = false) : PXT X (m1 || m2) e (toB (bin fa fb g)) := pt_imp h fun σ H Q => by
  rintro ⟨vs0, P, E, fps, d, E', rel, hh, q⟩
  have hh := toB_some hh
  obtain ⟨d1, E1, h1, hh⟩ := bnd_some hh
  obtain ⟨d2, E2, h2, hh⟩ := bnd_some hh
  obtain ⟨h3, rfl⟩ := lft_some hh
  refine ⟨vs0, P, E, fps, d1, E1, rel, h1, fun P1 H1 fps1 x r1 s1 m1' dx => ⟨vs0, P1, E1, fps1, d2, E', r1, h2, fun P2 H2 fps2 y r2 s2 m2' dy => ?_⟩⟩
  have dx2 : Dq X.K (pick p1 P2 H2) x d1 := by
    cases p1 with
    | true => exact Dq.mono s2.pp dx
    | false =>
      rcases hf with hf | hf
      · cases hf
      · exact Dq.mono (m2' hf) dx
  refine v P2 H2 x y d1 d2 (.bool d) _ r2.sub dx2 dy h3 fun P3 H3 w pp su hh fr dw => ?_
  refine ⟨d, dq_bl dw, q P3 H3 fps2 (r2.alloc pp su hh fr) ((s1.trans s2).trans (.alloc pp hh fr)) (fun hm => ?_)⟩
  rw [Bool.or_eq_false_iff] at hm
  exact ((m1' hm.1).trans (m2' hm.2)).trans hh
theorem pt_op1 {r : V → Hp → VK → Prop} {g : PyData → Option PyData} (h : PT X e (tB (fun σ H Q => tX X.K m p fa σ H fun x H1 => r x H1 Q))) (v : VU X.K p r g) : PXT X m e (toB (una fa g)) := pt_imp h fun σ H Q => by
  rintro ⟨vs0, P, E, fps, d, E', rel, hh, q⟩
  have hh := toB_some hh
  obtain ⟨d1, E1, h1, hh⟩ := bnd_some hh
  obtain ⟨h3, rfl⟩ := lft_some hh
  refine ⟨vs0, P, E, fps, d1, _, rel, h1, fun P1 H1 fps1 x r1 s1 m1' dx => ?_⟩
  refine v P1 H1 x d1 (.bool d) _ r1.sub dx h3 fun P3 H3 w pp su hh fr dw => ?_
  exact ⟨d, dq_bl dw, q P3 H3 fps1 (r1.alloc pp su hh fr) (s1.trans (.alloc pp hh fr)) (fun hm => (m1' hm).trans hh)⟩
theorem pt_eq' {k : Nat} (hr : Room k X.A) (ha : PX X m1 p1 a fa) (hb : PX X m2 p2 b fb) (hf : p1 = true ∨ m2 = false) : PXT X (m1 || m2) (.Compare a [.Eq] [b] pos) (toB (bin fa fb gEq)) := pt_op2 (pt_cmpR (op_eq.or (op_eqD hr.units)) ha hb (nomark _)) vo_eq hf
theorem pt_ne' {k : Nat} (hr : Room k X.A) (ha : PX X m1 p1 a fa) (hb : PX X m2 p2 b fb) (hf : p1 = true ∨ m2 = false) : PXT X (m1 || m2) (.Compare a [.NotEq] [b] pos) (toB (bin fa fb gNe)) := pt_op2 (pt_cmpR (op_ne.or (op_neD hr.units)) ha hb (nomark _)) vo_ne hf
theorem pt_lt' (ha : PX X m1 p1 a fa) (hb : PX X m2 p2 b fb) (hf : p1 = true ∨ m2 = false) : PXT X (m1 || m2) (.Compare a [.Lt] [b] pos) (toB (bin fa fb gLt)) := pt_op2 (pt_cmpR (op_lt) ha hb (nomark _)) (vo_I0 fun _ _ _ => .bl _) hf
theorem pt_gt' (ha : PX X m1 p1 a fa) (hb : PX X m2 p2 b fb) (hf : p1 = true ∨ m2 = false) : PXT X (m1 || m2) (.Compare a [.Gt] [b] pos) (toB (bin fa fb gGt)) := pt_op2 (pt_cmpR (op_gt) ha hb (nomark _)) (vo_I0 fun _ _ _ => .bl _) hf
theorem pt_ge' (ha : PX X m1 p1 a fa) (hb : PX X m2 p2 b fb) (hf : p1 = true ∨ m2 = false) : PXT X (m1 || m2) (.Compare a [.GtE] [b] pos) (toB (bin fa fb gGe)) := pt_op2 (pt_cmpR (op_ge) ha hb (nomark _)) (vo_I0 fun _ _ _ => .bl _) hf
theorem pt_le' (ha : PX X m1 p1 a fa) (hb : PX X m2 p2 b fb) (hf : p1 = true ∨ m2 = false) : PXT X (m1 || m2) (.Compare a [.LtE] [b] pos) (toB (bin fa fb gLe)) := pt_op2 (pt_cmpR (op_leA) ha hb (nomark _)) vo_le hf
theorem pt_isN' {j : Nat} {pos' : Pos} (ha : PX X m p a fa) : PXT X m (.Compare a [.Is] [.Constant .none j pos'] pos) (toB (una fa gIsN)) := pt_op1 (r := fun x H Q => Q (.bl (decide (x = .non))) H) (pt_cmp (pc_isN ha)) (by
  intro P H x d z Q su dx hg q
  unfold gIsN at hg
  cases dx <;> cases hg <;> exact q.at su (.bl _))
theorem pt_notN' {j : Nat} {pos' : Pos} (ha : PX X m p a fa) : PXT X m (.Compare a [.IsNot] [.Constant .none j pos'] pos) (toB (una fa gNotN)) := pt_op1 (r := fun x H Q => Q (.bl (!decide (x = .non))) H) (pt_cmp (pc_notN ha)) (by
  intro P H x d z Q su dx hg q
  unfold gNotN at hg
  cases dx <;> cases hg <;> exact q.at su (.bl _))

def PXW (X : Cx) (m : Bool) (e : Expr) (f : SE Bool) : Prop := PW X e (tXT X.K m f)
variable {g ga gb : SE Bool}
theorem PXW.pt (h : PXW X m e g) : PXT X m e g := PW.pt h
def sAnd (ga gb : SE Bool) : SE Bool := bnd ga fun b => if b then gb else ret false
def sOr (ga gb : SE Bool) : SE Bool := bnd ga fun b => if b then ret true else gb
def sNot (ga : SE Bool) : SE Bool := bnd ga fun b => ret (!b)
theorem pw_and1' (h : PXT X m a g) : PXW X m (.BoolOp .And [a] pos) g := pw_and1 h
theorem pw_or1' (h : PXT X m a g) : PXW X m (.BoolOp .Or [a] pos) g := pw_or1 h
theorem pw_and' (h1 : PXT X m1 a ga) (h2 : PXW X m2 (.BoolOp .And (b :: rest) pos) gb) : PXW X (m1 || m2) (.BoolOp .And (a :: b :: rest) pos) (sAnd ga gb) := pw_imp (pw_and h1 h2) fun σ H Q => by
  rintro ⟨vs0, P, E, fps, d, E', rel, hh, q⟩
  obtain ⟨d1, E1, h1, hh⟩ := bnd_some hh
  refine ⟨vs0, P, E, fps, d1, E1, rel, h1, fun P1 H1 fps1 r1 s1 m1' => ?_⟩
  cases d1 with
  | true =>
    rw [if_pos rfl] at hh
    rw [if_pos rfl]
    refine ⟨vs0, P1, E1, fps1, d, E', r1, hh, fun P2 H2 fps2 r2 s2 m2' => q P2 H2 fps2 r2 (s1.trans s2) fun hm => ?_⟩
    rw [Bool.or_eq_false_iff] at hm
    exact (m1' hm.1).trans (m2' hm.2)
  | false =>
    rw [if_neg Bool.false_ne_true] at hh
    obtain ⟨rfl, rfl⟩ := ret_some hh
    rw [if_neg Bool.false_ne_true]
    refine q P1 H1 fps1 r1 s1 fun hm => ?_
    rw [Bool.or_eq_false_iff] at hm
    exact m1' hm.1
theorem pw_or' (h1 : PXT X m1 a ga) (h2 : PXW X m2 (.BoolOp .Or (b :: rest) pos) gb) : PXW X (m1 || m2) (.BoolOp .Or (a :: b :: rest) pos) (sOr ga gb) := pw_imp (pw_or h1 h2) fun σ H Q => by
  rintro ⟨vs0, P, E, fps, d, E', rel, hh, q⟩
  obtain ⟨d1, E1, h1, hh⟩ := bnd_some hh
  refine ⟨vs0, P, E, fps, d1, E1, rel, h1, fun P1 H1 fps1 r1 s1 m1' => ?_⟩
  cases d1 with
  | false =>
    rw [if_neg Bool.false_ne_true] at hh
    rw [if_neg Bool.false_ne_true]
    refine ⟨vs0, P1, E1, fps1, d, E', r1, hh, fun P2 H2 fps2 r2 s2 m2' => q P2 H2 fps2 r2 (s1.trans s2) fun hm => ?_⟩
    rw [Bool.or_eq_false_iff] at hm
    exact (m1' hm.1).trans (m2' hm.2)
  | true =>
    rw [if_pos rfl] at hh
    obtain ⟨rfl, rfl⟩ := ret_some hh
    rw [if_pos rfl]
    refine q P1 H1 fps1 r1 s1 fun hm => ?_
    rw [Bool.or_eq_false_iff] at hm
    exact m1' hm.1
theorem pt_not' (h : PXT X m a g) : PXT X m (.UnaryOp .Not a pos) (sNot g) := pt_imp (pt_not h) fun σ H Q => by
  rintro ⟨vs0, P, E, fps, d, E', rel, hh, q⟩
  obtain ⟨d1, E1, h1, hh⟩ := bnd_some hh
  obtain ⟨rfl, rfl⟩ := ret_some hh
  exact ⟨vs0, P, E, fps, d1, _, rel, h1, q⟩
def vAnd (fa fb : SE PyData) : SE PyData := bnd (toB fa) fun b => if b then fb else ret (.bool false)
def vOr (fa fb : SE PyData) : SE PyData := bnd (toB fa) fun b => if b then ret (.bool true) else fb
def gNot : PyData → Option PyData
  | .bool b => some (.bool (!b))
  | _ => none
theorem px_one {op : BoolOp} (h : PX X m p a fa) : PX X m p (.BoolOp op [a] pos) fa := pe_one h
theorem px_and (h1 : PX X m1 p1 a fa) (h2 : PX X m2 true (.BoolOp .And (b :: rest) pos) fb) : PX X (m1 || m2) true (.BoolOp .And (a :: b :: rest) pos) (vAnd fa fb) := pe_imp (pe_and h1 h2) fun σ H Q => by
  rintro ⟨vs0, P, E, fps, d, E', rel, hh, q⟩
  obtain ⟨d1, E1, h1, hh⟩ := bnd_some hh
  refine ⟨vs0, P, E, fps, .bool d1, E1, rel, toB_some h1, fun P1 H1 fps1 v r1 s1 m1' dv => ⟨d1, by cases p1 <;> exact dq_bl dv, ?_⟩⟩
  cases d1 with
  | true =>
    rw [if_pos rfl] at hh
    rw [if_pos rfl]
    refine ⟨vs0, P1, E1, fps1, d, E', r1, hh, fun P2 H2 fps2 v2 r2 s2 m2' dv2 => q P2 H2 fps2 v2 r2 (s1.trans s2) (fun hm => ?_) dv2⟩
    rw [Bool.or_eq_false_iff] at hm
    exact (m1' hm.1).trans (m2' hm.2)
  | false =>
    rw [if_neg Bool.false_ne_true] at hh
    obtain ⟨rfl, rfl⟩ := ret_some hh
    rw [if_neg Bool.false_ne_true]
    refine q P1 H1 fps1 _ r1 s1 (fun hm => ?_) (.bl false)
    rw [Bool.or_eq_false_iff] at hm
    exact m1' hm.1
theorem px_or (h1 : PX X m1 p1 a fa) (h2 : PX X m2 true (.BoolOp .Or (b :: rest) pos) fb) : PX X (m1 || m2) true (.BoolOp .Or (a :: b :: rest) pos) (vOr fa fb) := pe_imp (pe_or h1 h2) fun σ H Q => by
  rintro ⟨vs0, P, E, fps, d, E', rel, hh, q⟩
  obtain ⟨d1, E1, h1, hh⟩ := bnd_some hh
  refine ⟨vs0, P, E, fps, .bool d1, E1, rel, toB_some h1, fun P1 H1 fps1 v r1 s1 m1' dv => ⟨d1, by cases p1 <;> exact dq_bl dv, ?_⟩⟩
  cases d1 with
  | false =>
    rw [if_neg Bool.false_ne_true] at hh
    rw [if_neg Bool.false_ne_true]
    refine ⟨vs0, P1, E1, fps1, d, E', r1, hh, fun P2 H2 fps2 v2 r2 s2 m2' dv2 => q P2 H2 fps2 v2 r2 (s1.trans s2) (fun hm => ?_) dv2⟩
    rw [Bool.or_eq_false_iff] at hm
    exact (m1' hm.1).trans (m2' hm.2)
  | true =>
    rw [if_pos rfl] at hh
    obtain ⟨rfl, rfl⟩ := ret_some hh
    rw [if_pos rfl]
    refine q P1 H1 fps1 _ r1 s1 (fun hm => ?_) (.bl true)
    rw [Bool.or_eq_false_iff] at hm
    exact m1' hm.1
theorem px_not (h : PX X m p a fa) : PX X m true (.UnaryOp .Not a pos) (una fa gNot) := px_op1 (r := fun x H Q => ∃ c, x = .bl c ∧ Q (.bl (!c)) H) (pe_not h) (by
  intro P H x d z Q su dx hg q
  unfold gNot at hg
  split at hg
  · cases hg
    exact ⟨_, dq_bl dx, q.at su (.bl _)⟩
  · cases hg)
def sIf (g : SE Bool) (fa fb : SE PyData) : SE PyData := bnd g fun b => if b then fa else fb
theorem px_if (hc : PXT X m1 c g) (ha : PX X m2 p a fa) (hb : PX X m3 p b fb) : PX X (m1 || (m2 || m3)) p (.IfExp c a b pos) (sIf g fa fb) := pe_imp (pe_ifExp hc ha hb) fun σ H Q => by
  rintro ⟨vs0, P, E, fps, d, E', rel, hh, q⟩
  obtain ⟨d1, E1, h1, hh⟩ := bnd_some hh
  refine ⟨vs0, P, E, fps, d1, E1, rel, h1, fun P1 H1 fps1 r1 s1 m1' => ?_⟩
  cases d1 with
  | true =>
    rw [if_pos rfl] at hh
    rw [if_pos rfl]
    refine ⟨vs0, P1, E1, fps1, d, E', r1, hh, fun P2 H2 fps2 v2 r2 s2 m2' dv2 => q P2 H2 fps2 v2 r2 (s1.trans s2) (fun hm => ?_) dv2⟩
    rw [Bool.or_eq_false_iff, Bool.or_eq_false_iff] at hm
    exact (m1' hm.1).trans (m2' hm.2.1)
  | false =>
    rw [if_neg Bool.false_ne_true] at hh
    rw [if_neg Bool.false_ne_true]
    refine ⟨vs0, P1, E1, fps1, d, E', r1, hh, fun P2 H2 fps2 v2 r2 s2 m2' dv2 => q P2 H2 fps2 v2 r2 (s1.trans s2) (fun hm => ?_) dv2⟩
    rw [Bool.or_eq_false_iff, Bool.or_eq_false_iff] at hm
    exact (m1' hm.1).trans (m2' hm.2.2)

def flatD : PyData → Bool
  | .none => true
  | .bool _ => true
  | .int _ => true
  | .str _ => true
  | _ => false
theorem flat_of {K : PySem.W.Frag} {H : Hp} {x : V} {d : PyData} (dx : Dq K H x d) : flatV x = flatD d := by cases dx <;> rfl
theorem eqV_of {K : PySem.W.Frag} {H : Hp} {x y : V} {d e : PyData} (dx : Dq K H x d) (dy : Dq K H y e) (h1 : flatD d = true) (h2 : flatD e = true) : eqV x y = PyData.eqv d e := by
  cases dx <;> cases dy <;> first
    | (simp [eqV, PyData.eqv]; done)
    | (cases h1; done)
    | (cases h2; done)
theorem all_flat {K : PySem.W.Frag} {H : Hp} : ∀ {vs : List V} {ds : List PyData}, DqAll K H vs ds → vs.all flatV = ds.all flatD
  | _, _, .nil => rfl
  | _, _, .cons h r => by rw [List.all_cons, List.all_cons, flat_of h, all_flat r]
theorem any_eq {K : PySem.W.Frag} {H : Hp} {x : V} {d : PyData} (dx : Dq K H x d) (h1 : flatD d = true) : ∀ {vs : List V} {ds : List PyData}, DqAll K H vs ds → ds.all flatD = true → (vs.any fun y => eqV y x) = ds.any fun y => PyData.eqv y d
  | _, _, .nil, _ => rfl
  | _, _, .cons h r, hf => by
    rw [List.all_cons, Bool.and_eq_true] at hf
    rw [List.any_cons, List.any_cons, eqV_of h dx hf.1 h1, any_eq dx h1 r hf.2]
def gInB : PyData → PyData → Option Bool
  | d, .list ys => if flatD d && ys.all flatD then some (ys.any fun y => PyData.eqv y d) else if SeqAt.shaped d && SeqAt.shaped (.list ys) then some (ys.any fun y => PyData.eqv y d) else none
  | d, .tuple ys => if flatD d && ys.all flatD then some (ys.any fun y => PyData.eqv y d) else if SeqAt.shaped d && SeqAt.shaped (.tuple ys) then some (ys.any fun y => PyData.eqv y d) else none
  | .str x, .str z => match x.cps.toList with
    | [c] => some (decide (c ∈ z.cps.toList))
    | _ => none
  | _, _ => none
def gIn (d e : PyData) : Option PyData := (gInB d e).map .bool
def gNin (d e : PyData) : Option PyData := (gInB d e).map fun b => .bool (!b)
def rInDT (K : PySem.W.Frag) : R2 := fun x y H Q => ∃ d ds, Dp K H x d ∧ Dp K H y (.tuple ds) ∧ SeqAt.shaped d = true ∧ SeqAt.shaped (.tuple ds) = true ∧ Q (.bl (ds.any fun z => PyData.eqv z d)) H
def rNotInDT (K : PySem.W.Frag) : R2 := fun x y H Q => ∃ d ds, Dp K H x d ∧ Dp K H y (.tuple ds) ∧ SeqAt.shaped d = true ∧ SeqAt.shaped (.tuple ds) = true ∧ Q (.bl (!ds.any fun z => PyData.eqv z d)) H
theorem shT_room {A : Around} {ds : List PyData} {d : PyData} (sd : SeqAt.shaped d = true) (hu : A.units + 65 < cLine) : A.units + 1 + min (PyData.depthAll ds) d.depth < cLine := by
  have h1 := SeqAt.depth_of_shaped sd
  have h2 : min (PyData.depthAll ds) d.depth ≤ d.depth := Nat.min_le_right _ _
  omega
theorem op_inDT (hu : X.A.units + 65 < cLine) : OpR X (compareOp .In) (rInDT X.K) := by
  intro pins s σ H x y v u Q I rx ry h
  obtain ⟨d, ds, hd, he, sd, se, q⟩ := h
  obtain ⟨as, r1⟩ := Dp.reads I d x v hd rx
  obtain ⟨bs, r2⟩ := Dp.reads I (.tuple ds) y u he ry
  exact SeqAt.in_tuple_reads r2 r1 (SeqAt.canLay_of_shaped se) (SeqAt.canLay_of_shaped sd) (shT_room sd hu) ⟨.bl _, H, I, rfl, q⟩
theorem op_notInDT (hu : X.A.units + 65 < cLine) : OpR X (compareOp .NotIn) (rNotInDT X.K) := by
  intro pins s σ H x y v u Q I rx ry h
  obtain ⟨d, ds, hd, he, sd, se, q⟩ := h
  obtain ⟨as, r1⟩ := Dp.reads I d x v hd rx
  obtain ⟨bs, r2⟩ := Dp.reads I (.tuple ds) y u he ry
  exact SeqAt.notIn_tuple_reads r2 r1 (SeqAt.canLay_of_shaped se) (SeqAt.canLay_of_shaped sd) (shT_room sd hu) ⟨.bl _, H, I, rfl, q⟩
abbrev rInX (K : PySem.W.Frag) (neg : Bool) : R2 := fun x y H Q => rIn K neg x y H Q ∨ ((fun x y H Q => ∃ (c : Nat) (z : Str), x = .str ⟨#[c]⟩ ∧ y = .str z ∧ Q (.bl (if neg then !decide (c ∈ z.cps.toList) else decide (c ∈ z.cps.toList))) H) x y H Q ∨
  ((fun x y H Q => ∃ d ds, Dp K H x d ∧ Dp K H y (.list ds) ∧ SeqAt.shaped d = true ∧ SeqAt.shaped (.list ds) = true ∧ Q (.bl (if neg then !(ds.any fun z => PyData.eqv z d) else ds.any fun z => PyData.eqv z d)) H) x y H Q ∨
  (fun x y H Q => ∃ d ds, Dp K H x d ∧ Dp K H y (.tuple ds) ∧ SeqAt.shaped d = true ∧ SeqAt.shaped (.tuple ds) = true ∧ Q (.bl (if neg then !(ds.any fun z => PyData.eqv z d) else ds.any fun z => PyData.eqv z d)) H) x y H Q))
theorem op_inX (hu : X.A.units + 65 < cLine) : OpR X (compareOp .In) (rInX X.K false) := op_in_seq.or (OpR.or (op_in_sign) (OpR.or (op_inD hu) (op_inDT hu)))
theorem op_ninX (hu : X.A.units + 65 < cLine) : OpR X (compareOp .NotIn) (rInX X.K true) := op_notIn_seq.or (OpR.or (op_notIn_sign) (OpR.or (op_notInD hu) (op_notInDT hu)))
theorem in_core {K : PySem.W.Frag} {P H : Hp} {x y : V} {d e : PyData} {Q : VK} {b neg : Bool} (su : Same P H) (dx : Dq K (pick p1 P H) x d) (dy : Dq K (pick p2 P H) y e) (hg : gInB d e = some b) (q : Q (.bl (if neg then !b else b)) H) : rInX K neg x y H Q := by
  replace dx := Dq.pick su dx
  replace dy := Dq.pick su dy
  unfold gInB at hg
  split at hg
  · rename_i ys
    split at hg
    · rename_i hfl
      rw [Bool.and_eq_true] at hfl
      cases dy with
      | @lst a vs _ ha hv =>
        cases hg
        refine .inl ⟨a, vs, rfl, .inl (SqL.of ha), by rw [flat_of dx]; exact hfl.1, by rw [all_flat hv]; exact hfl.2, ?_⟩
        have e1 : inV x vs = ys.any fun y => PyData.eqv y d := any_eq dx hfl.1 hv hfl.2
        rw [e1]
        exact q
    · split at hg
      · rename_i hfl
        rw [Bool.and_eq_true] at hfl
        cases hg
        exact .inr (.inr (.inl ⟨d, ys, dx.dp, dy.dp, hfl.1, hfl.2, q⟩))
      · cases hg
  · rename_i ys
    split at hg
    · rename_i hfl
      rw [Bool.and_eq_true] at hfl
      cases dy with
      | @tup a vs _ ha hv =>
        cases hg
        refine .inl ⟨a, vs, rfl, .inr ha, by rw [flat_of dx]; exact hfl.1, by rw [all_flat hv]; exact hfl.2, ?_⟩
        have e1 : inV x vs = ys.any fun y => PyData.eqv y d := any_eq dx hfl.1 hv hfl.2
        rw [e1]
        exact q
    · split at hg
      · rename_i hfl
        rw [Bool.and_eq_true] at hfl
        cases hg
        exact .inr (.inr (.inr ⟨d, ys, dx.dp, dy.dp, hfl.1, hfl.2, q⟩))
      · cases hg
  · rename_i xs zs
    split at hg
    · rename_i c hc
      cases hg
      refine .inr (.inl ⟨c, zs, ?_, dq_str dy, q⟩)
      rw [dq_str dx]
      have : xs = ⟨#[c]⟩ := by
        cases xs with
        | mk cps =>
          congr 1
          exact Array.toList_inj.mp hc
      rw [this]
    · cases hg
  · cases hg
theorem vo_in {K : PySem.W.Frag} : VO K p1 p2 (rInX K false) gIn := by
  intro P H x y d e z Q su dx dy hg q
  unfold gIn at hg
  cases h : gInB d e with
  | none => rw [h] at hg; cases hg
  | some b =>
    rw [h] at hg
    cases hg
    exact in_core (neg := false) su dx dy h (q.at su (.bl _))
theorem vo_nin {K : PySem.W.Frag} : VO K p1 p2 (rInX K true) gNin := by
  intro P H x y d e z Q su dx dy hg q
  unfold gNin at hg
  cases h : gInB d e with
  | none => rw [h] at hg; cases hg
  | some b =>
    rw [h] at hg
    cases hg
    exact in_core (neg := true) su dx dy h (q.at su (.bl _))
theorem Room.u65 {k : Nat} {A : Around} (hr : Room k A) : A.units + 65 < cLine := by have := hr.un; omega
theorem px_in {k : Nat} (hr : Room k X.A) (ha : PX X m1 p1 a fa) (hb : PX X m2 p2 b fb) (hf : p1 = true ∨ m2 = false) (hm : behindInMarks .In b = false := by rfl) : PX X (m1 || m2) true (.Compare a [.In] [b] pos) (bin fa fb gIn) := px_op2 (pe_cmpR (op_inX (Room.u65 hr)) ha hb hm) vo_in hf
theorem px_nin {k : Nat} (hr : Room k X.A) (ha : PX X m1 p1 a fa) (hb : PX X m2 p2 b fb) (hf : p1 = true ∨ m2 = false) (hm : behindInMarks .NotIn b = false := by rfl) : PX X (m1 || m2) true (.Compare a [.NotIn] [b] pos) (bin fa fb gNin) := px_op2 (pe_cmpR (op_ninX (Room.u65 hr)) ha hb hm) vo_nin hf
theorem pt_in' {k : Nat} (hr : Room k X.A) (ha : PX X m1 p1 a fa) (hb : PX X m2 p2 b fb) (hf : p1 = true ∨ m2 = false) (hm : behindInMarks .In b = false := by rfl) : PXT X (m1 || m2) (.Compare a [.In] [b] pos) (toB (bin fa fb gIn)) := pt_op2 (pt_cmpR (op_inX (Room.u65 hr)) ha hb hm) vo_in hf
theorem pt_nin' {k : Nat} (hr : Room k X.A) (ha : PX X m1 p1 a fa) (hb : PX X m2 p2 b fb) (hf : p1 = true ∨ m2 = false) (hm : behindInMarks .NotIn b = false := by rfl) : PXT X (m1 || m2) (.Compare a [.NotIn] [b] pos) (toB (bin fa fb gNin)) := pt_op2 (pt_cmpR (op_ninX (Room.u65 hr)) ha hb hm) vo_nin hf

def chn (fa fb fc : SE PyData) (g1 g2 : PyData → PyData → Option PyData) : SE PyData := bnd fa fun d => bnd fb fun e => bnd (toB (lft (g1 d e))) fun k => if k then bnd fc fun w => lft (g2 e w) else ret (.bool false)
theorem chn_core {K : PySem.W.Frag} {r1 r2 : R2} {g1 g2 : PyData → PyData → Option PyData} (v1 : VO K true true r1 g1) (v2 : VO K true true r2 g2) {σ : St} {H : Hp} {Q : VK} (h : tX K (m1 || (m2 || m3)) true (chn fa fb fc g1 g2) σ H Q) : tChain r1 r2 (tX K m1 true fa) (tX K m2 true fb) (tX K m3 true fc) σ H Q := by
  obtain ⟨vs0, P, E, fps, d, E', rel, hh, q⟩ := h
  obtain ⟨d1, E1, h1, hh⟩ := bnd_some hh
  obtain ⟨d2, E2, h2, hh⟩ := bnd_some hh
  obtain ⟨k, E3, h3, hh⟩ := bnd_some hh
  obtain ⟨h3', rfl⟩ := lft_some (toB_some h3)
  refine ⟨vs0, P, E, fps, d1, E1, rel, h1, fun P1 H1 fps1 x r1 s1 m1' dx => ⟨vs0, P1, E1, fps1, d2, _, r1, h2, fun P2 H2 fps2 y r2 s2 m2' dy => ?_⟩⟩
  refine v1 P2 H2 x y d1 d2 _ _ r2.sub (Dq.mono s2.pp dx) dy h3' fun P3 H3 z pp su hh3 fr dz => ⟨k, dq_bl dz, ?_⟩
  have r3 := r2.alloc pp su hh3 fr
  have s3 := (s1.trans s2).trans (Step.alloc (F := In fps2) pp hh3 fr)
  cases k with
  | true =>
    rw [if_pos rfl] at hh
    rw [if_pos rfl]
    obtain ⟨d4, E4, h4, hh⟩ := bnd_some hh
    obtain ⟨h5, rfl⟩ := lft_some hh
    refine ⟨vs0, P3, _, fps2, d4, _, r3, h4, fun P4 H4 fps4 w r4 s4 m4' dw => ?_⟩
    refine v2 P4 H4 y w d2 d4 d _ r4.sub (Dq.mono (pp.trans s4.pp) dy) dw h5 fun P5 H5 u pp5 su5 hh5 fr5 du => ?_
    refine q P5 H5 fps4 u (r4.alloc pp5 su5 hh5 fr5) ((s3.trans s4).trans (.alloc pp5 hh5 fr5)) (fun hm => ?_) du
    rw [Bool.or_eq_false_iff, Bool.or_eq_false_iff] at hm
    exact ((((m1' hm.1).trans (m2' hm.2.1)).trans hh3).trans (m4' hm.2.2)).trans hh5
  | false =>
    rw [if_neg Bool.false_ne_true] at hh
    obtain ⟨rfl, rfl⟩ := ret_some hh
    rw [if_neg Bool.false_ne_true]
    refine q P3 H3 fps2 _ r3 s3 (fun hm => ?_) (.bl false)
    rw [Bool.or_eq_false_iff, Bool.or_eq_false_iff] at hm
    exact ((m1' hm.1).trans (m2' hm.2.1)).trans hh3
theorem px_chle (ha : PX X m1 true a fa) (hb : PX X m2 true b fb) (hc : PX X m3 true c fc) : PX X (m1 || (m2 || m3)) true (.Compare a [.LtE, .LtE] [b, c] pos) (chn fa fb fc gLe gLe) := pe_imp (pe_chain op_leA op_leA ha hb hc (nomark c)) fun σ H Q h => chn_core vo_le vo_le h
theorem pt_chle (ha : PX X m1 true a fa) (hb : PX X m2 true b fb) (hc : PX X m3 true c fc) : PXT X (m1 || (m2 || m3)) (.Compare a [.LtE, .LtE] [b, c] pos) (toB (chn fa fb fc gLe gLe)) := pt_imp (pt_chain op_leA op_leA ha hb hc (nomark c)) fun σ H Q => by
  rintro ⟨vs0, P, E, fps, d, E', rel, hh, q⟩
  refine chn_core vo_le vo_le ⟨vs0, P, E, fps, .bool d, E', rel, toB_some hh, fun P' H' fps' v r' st sm dv => ⟨d, dq_bl dv, q P' H' fps' r' st sm⟩⟩

def sNil : SE (List PyData) := ret []
def sCons (fa : SE PyData) (fs : SE (List PyData)) : SE (List PyData) := bnd fa fun d => bnd fs fun ds => ret (d :: ds)
variable {es : List Expr} {fs : SE (List PyData)}
theorem pxa_nil : PXA X false [] sNil := pa_imp pa_nil fun σ H Q => by
  rintro ⟨vs0, P, E, fps, ds, E', rel, hh, q⟩
  obtain ⟨rfl, rfl⟩ := ret_some hh
  exact q P H fps [] rel (.refl _ _ _) (fun _ => Same.refl H) .nil
theorem pxa_cons (h1 : PX X m1 true a fa) (h2 : PXA X m2 es fs) (hs : starEach (a :: es) X.env = (false, eval a X.env) :: starEach es X.env := by rfl) : PXA X (m1 || m2) (a :: es) (sCons fa fs) := pa_imp (pa_cons h1 h2 hs) fun σ H Q => by
  rintro ⟨vs0, P, E, fps, d, E', rel, hh, q⟩
  obtain ⟨d1, E1, h1, hh⟩ := bnd_some hh
  obtain ⟨d2, E2, h2, hh⟩ := bnd_some hh
  obtain ⟨rfl, rfl⟩ := ret_some hh
  refine ⟨vs0, P, E, fps, d1, E1, rel, h1, fun P1 H1 fps1 x r1 s1 m1' dx => ⟨vs0, P1, E1, fps1, d2, _, r1, h2, fun P2 H2 fps2 ys r2 s2 m2' dy => ?_⟩⟩
  refine q P2 H2 fps2 (x :: ys) r2 (s1.trans s2) (fun hm => ?_) (.cons (Dq.mono s2.pp dx) dy)
  rw [Bool.or_eq_false_iff] at hm
  exact (m1' hm.1).trans (m2' hm.2)
def dTup (fs : SE (List PyData)) : SE PyData := bnd fs fun ds => if ds.length ≤ sizeLine then ret (.tuple ds) else fun _ => none
def dLst (fs : SE (List PyData)) : SE (List PyData) := bnd fs fun ds => if ds.length ≤ sizeLine then ret ds else fun _ => none
theorem px_tup {k : Nat} (h : PXA X m es fs) : PX X m true (.Tuple es k pos) (dTup fs) := pe_imp (pe_tup h) fun σ H Q => by
  rintro ⟨vs0, P, E, fps, d, E', rel, hh, q⟩
  obtain ⟨ds, E1, h1, hh⟩ := bnd_some hh
  split at hh
  · rename_i hl
    obtain ⟨rfl, rfl⟩ := ret_some hh
    refine ⟨vs0, P, E, fps, ds, _, rel, h1, fun P1 H1 fps1 vs r1 s1 m1' dv => ⟨by rw [dv.length]; exact hl, fun p0 hp => ?_⟩⟩
    have s2 : Same P1 (upd P1 p0 (.tup vs)) := Fw.same_upd (sub_none r1.sub hp)
    exact q (upd P1 p0 (.tup vs)) (upd H1 p0 (.tup vs)) fps1 (.ref p0) (r1.alloc s2 (same_upd2 r1.sub hp) (Fw.same_upd hp) (fresh_upd hp)) (s1.trans (.alloc s2 (Fw.same_upd hp) (fresh_upd hp)))
      (fun hm => (m1' hm).trans (Fw.same_upd hp)) (.tup (SqT.of upd_same) (dv.mono s2))
  · cases hh
theorem Rel.newList {K : PySem.W.Frag} {vs0 : List V} {P : Hp} {E : En} {σ : St} {H : Hp} {fps : Nat → List Addr} (r : Rel K vs0 P E σ H fps) {p0 : Addr} {o : HO} (hp : H p0 = none) : Rel K vs0 P E σ (upd H p0 o) fps :=
  r.alloc (Same.refl P) (fun x u hx => by rw [upd_ne (ne_of_none (r.sub x u hx) hp)]; exact r.sub x u hx) (Fw.same_upd hp) .same
theorem Rel.notIn {K : PySem.W.Frag} {vs0 : List V} {P : Hp} {E : En} {σ : St} {H : Hp} {fps : Nat → List Addr} (r : Rel K vs0 P E σ H fps) {p0 : Addr} (hp : H p0 = none) : ¬ In fps p0 := fun h => by
  obtain ⟨_, o, h2⟩ := r.foot h
  rw [hp] at h2
  cases h2
end
end Fw
namespace Fw
open PySem PySem.Spec L2
open PyProof.Rows hiding St
section
variable {X : Cx} {m m1 m2 m3 p p1 p2 p3 : Bool} {e a b c : Expr} {es : List Expr} {pos : Pos} {f fa fb fc : SE PyData} {fs fs2 : SE (List PyData)}

/-- what is shown behind an operation that lays a new list -/
abbrev AfterL (K : PySem.W.Frag) (P H : Hp) (zs : List PyData) (Q : VK) : Prop := ∀ (P' H' : Hp) (l : Addr) (vs : List V), Same P P' → Same P' H' → Same H H' → Fresh NoF P H P' → H l = none → P' l = none → H' l = some (.lst vs) → DqAll K P' vs zs → Q (.ref l) H'
theorem AfterL.new {K : PySem.W.Frag} {P H : Hp} {zs : List PyData} {Q : VK} (q : AfterL K P H zs Q) {l : Addr} {vs : List V} (s : Same P H) (h : H l = none) (d : DqAll K P vs zs) : Q (.ref l) (upd H l (.lst vs)) :=
  q P (upd H l (.lst vs)) l vs (Same.refl P) (fun x u hx => by rw [upd_ne (ne_of_none (s x u hx) h)]; exact s x u hx) (Fw.same_upd h) .same h (sub_none s h) upd_same d
/-- .. as data -/
theorem AfterL.of {K : PySem.W.Frag} {P H : Hp} {zs : List PyData} {Q : VK} (q : After K P H (.list zs) Q) : AfterL K P H zs Q := fun P' H' l vs pp su hh fr hl pl hv dv => by
  have s1 : Same P' (upd P' l (.lst vs)) := Fw.same_upd pl
  refine q (upd P' l (.lst vs)) H' (.ref l) (pp.trans s1) (fun x u hx => ?_) hh (fun x u hx => ?_) (.lst upd_same (dv.mono s1))
  · by_cases e1 : x = l
    · subst e1
      rw [upd_same] at hx
      cases hx
      exact hv
    · rw [upd_ne e1] at hx
      exact su x u hx
  · by_cases e1 : x = l
    · subst e1
      exact .inr (.inl hl)
    · rw [upd_ne e1] at hx
      exact fr x u hx
theorem tXL_end {K : PySem.W.Frag} {vs0 : List V} {P H P1 H1 : Hp} {E1 : En} {σ : L2.St} {fps fps1 : Nat → List Addr} {zs : List PyData} {Q : VK} (r1 : Rel K vs0 P1 E1 σ H1 fps1) (s1 : Step (In fps) P H (In fps1) P1 H1) (sm : m = false → Same H H1)
    (q : ∀ (P' H' : Hp) (fps' : Nat → List Addr) (a : Addr) (vs : List V), Rel K vs0 P' E1 σ H' fps' → Step (In fps) P H (In fps') P' H' → (m = false → Same H H') → H a = none → P' a = none → ¬ In fps' a → H' a = some (.lst vs) → DqAll K P' vs zs → Q (.ref a) H') :
    AfterL K P1 H1 zs Q := fun P' H' l vs pp su hh fr hl pl hv dv => by
  have r2 := r1.alloc pp su hh fr
  have s2 := s1.trans (.alloc (F := In fps1) pp hh fr)
  exact q P' H' fps1 l vs r2 s2 (fun hm => (sm hm).trans hh) (s1.free hl) pl (r1.notIn hl) hv dv
def VLA (K : PySem.W.Frag) (r : List V → Hp → VK → Prop) (g : List PyData → Option (List PyData)) : Prop := ∀ (P H : Hp) (xs : List V) (ds zs : List PyData) (Q : VK), Same P H → DqAll K P xs ds → g ds = some zs → AfterL K P H zs Q → r xs H Q
def VAA (K : PySem.W.Frag) (r : List V → Hp → VK → Prop) (g : List PyData → Option PyData) : Prop := ∀ (P H : Hp) (xs : List V) (ds : List PyData) (z : PyData) (Q : VK), Same P H → DqAll K P xs ds → g ds = some z → After K P H z Q → r xs H Q
def mny {α β : Type} (fs : SE α) (g : α → Option β) : SE β := bnd fs fun ds => lft (g ds)
theorem pl_args {r : List V → Hp → VK → Prop} {g : List PyData → Option (List PyData)} (h : PE X e (fun σ H Q => tXA X.K m fs σ H fun vs H1 => r vs H1 Q)) (v : VLA X.K r g) : PL X m e (mny fs g) := pe_imp h fun σ H Q => by
  rintro ⟨vs0, P, E, fps, d, E', rel, hh, q⟩
  obtain ⟨ds, E1, h1, hh⟩ := bnd_some hh
  obtain ⟨h2, rfl⟩ := lft_some hh
  exact ⟨vs0, P, E, fps, ds, _, rel, h1, fun P1 H1 fps1 vs r1 s1 m1' dv => v P1 H1 vs ds d Q r1.sub dv h2 (tXL_end r1 s1 m1' q)⟩
theorem px_args {r : List V → Hp → VK → Prop} {g : List PyData → Option PyData} (h : PE X e (fun σ H Q => tXA X.K m fs σ H fun vs H1 => r vs H1 Q)) (v : VAA X.K r g) : PX X m true e (mny fs g) := pe_imp h fun σ H Q => by
  rintro ⟨vs0, P, E, fps, d, E', rel, hh, q⟩
  obtain ⟨ds, E1, h1, hh⟩ := bnd_some hh
  obtain ⟨h2, rfl⟩ := lft_some hh
  refine ⟨vs0, P, E, fps, ds, _, rel, h1, fun P1 H1 fps1 vs r1 s1 m1' dv => v P1 H1 vs ds d Q r1.sub dv h2 fun P3 H3 w pp su hh fr dw => ?_⟩
  exact q P3 H3 fps1 w (r1.alloc pp su hh fr) (s1.trans (.alloc pp hh fr)) (fun hm => (m1' hm).trans hh) dw
def VOL (K : PySem.W.Frag) (p1 p2 : Bool) (r : R2) (g : PyData → PyData → Option (List PyData)) : Prop := ∀ (P H : Hp) (x y : V) (d e : PyData) (zs : List PyData) (Q : VK), Same P H → Dq K (pick p1 P H) x d → Dq K (pick p2 P H) y e → g d e = some zs → AfterL K P H zs Q → r x y H Q
def binL (fa fb : SE PyData) (g : PyData → PyData → Option (List PyData)) : SE (List PyData) := bnd fa fun d => bnd fb fun e => lft (g d e)
theorem pl_op2 {r : R2} {g : PyData → PyData → Option (List PyData)} (h : PE X e (tOp r (tX X.K m1 p1 fa) (tX X.K m2 p2 fb))) (v : VOL X.K p1 p2 r g) (hf : p1 = true ∨ m2 = false) : PL X (m1 || m2) e (binL fa fb g) := pe_imp h fun σ H Q => by
  rintro ⟨vs0, P, E, fps, d, E', rel, hh, q⟩
  obtain ⟨d1, E1, h1, hh⟩ := bnd_some hh
  obtain ⟨d2, E2, h2, hh⟩ := bnd_some hh
  obtain ⟨h3, rfl⟩ := lft_some hh
  refine ⟨vs0, P, E, fps, d1, E1, rel, h1, fun P1 H1 fps1 x r1 s1 m1' dx => ⟨vs0, P1, E1, fps1, d2, E', r1, h2, fun P2 H2 fps2 y r2 s2 m2' dy => ?_⟩⟩
  have dx2 : Dq X.K (pick p1 P2 H2) x d1 := by
    cases p1 with
    | true => exact Dq.mono s2.pp dx
    | false =>
      rcases hf with hf | hf
      · cases hf
      · exact Dq.mono (m2' hf) dx
  refine v P2 H2 x y d1 d2 d Q r2.sub dx2 dy h3 (tXL_end r2 (s1.trans s2) (fun hm => ?_) q)
  rw [Bool.or_eq_false_iff] at hm
  exact (m1' hm.1).trans (m2' hm.2)
theorem pl_lst (h : PXA X m es fs) : PL X m (.List es pos) (dLst fs) := pe_imp (pe_lst h) fun σ H Q => by
  rintro ⟨vs0, P, E, fps, d, E', rel, hh, q⟩
  obtain ⟨ds, E1, h1, hh⟩ := bnd_some hh
  split at hh
  · rename_i hl
    obtain ⟨rfl, rfl⟩ := ret_some hh
    exact ⟨vs0, P, E, fps, _, _, rel, h1, fun P1 H1 fps1 vs r1 s1 m1' dv => ⟨by rw [dv.length]; exact hl, fun p0 hp => (tXL_end r1 s1 m1' q).new r1.sub hp dv⟩⟩
  · cases hh
/-- [a] + [b] -/
def gCat : PyData → PyData → Option (List PyData)
  | .list xs, .list ys => if xs.length + ys.length ≤ sizeLine then some (xs ++ ys) else none
  | _, _ => none
theorem pl_cat (ha : PX X m1 true a fa) (hb : PX X m2 true b fb) : PL X (m1 || m2) (.BinOp a .Add b pos) (binL fa fb gCat) := pl_op2 (pe_op op_cat ha hb) (by
  intro P H x y d e zs Q su dx dy hg q
  unfold gCat at hg
  split at hg
  · split at hg
    · rename_i xs ys hl
      cases dx with
      | @lst l vs _ hx hv =>
        cases dy with
        | @lst l2 ws _ hy hw =>
          cases hg
          have l1 := hv.length
          have l2 := hw.length
          exact ⟨_, _, vs, ws, rfl, rfl, su _ _ hx, su _ _ hy, by omega, fun p0 hp => q.new su hp (hv.append hw)⟩
    · cases hg
  · cases hg) (.inl rfl)

def gIx : PyData → PyData → Option PyData
  | .list ys, .int i => atI ys i
  | .tuple ys, .int i => atI ys i
  | .str z, .int i => if z.length ≤ sizeLine then (atI z.cps.toList i).map fun c => .str ⟨#[c]⟩ else none
  | _, _ => none
theorem atI_dq {K : PySem.W.Frag} {H : Hp} {vs : List V} {ds : List PyData} (h : DqAll K H vs ds) {i : Int} {d : PyData} (e : atI ds i = some d) : ∃ v, atI vs i = some v ∧ Dq K H v d := by
  unfold atI at e ⊢
  rw [h.length]
  cases e1 : ixN ds.length i with
  | none => rw [e1] at e; cases e
  | some j =>
    rw [e1] at e
    obtain ⟨v, h1, h2⟩ := h.get (i := j) (show ds[j]? = some d from e)
    exact ⟨v, h1, h2⟩
theorem vo_ix {K : PySem.W.Frag} : VO K true p2 (rIx K) gIx := by
  intro P H x y d e z Q su dx dy hg q
  unfold gIx at hg
  split at hg
  · cases dx with
    | @lst l vs _ hx hv =>
      obtain ⟨v, h1, h2⟩ := atI_dq hv hg
      rw [dq_int dy]
      exact .inl ⟨l, vs, _, v, rfl, rfl, SqL.of (su _ _ hx), h1, q.at su h2⟩
  · cases dx with
    | @tup l vs _ hx hv =>
      obtain ⟨v, h1, h2⟩ := atI_dq hv hg
      rw [dq_int dy]
      exact .inr (.inl ⟨l, vs, _, v, rfl, rfl, seqT su hx, h1, q.at su h2⟩)
  · split at hg
    · rename_i s i hl
      rw [dq_str dx, dq_int dy]
      cases e1 : atI s.cps.toList i with
      | none => rw [e1] at hg; cases hg
      | some c =>
        rw [e1] at hg
        cases hg
        exact .inr (.inr ⟨_, _, c, rfl, rfl, hl, e1, q.at su (.str _)⟩)
    · cases hg
  · cases hg
theorem px_ix (ha : PX X m1 true a fa) (hb : PX X m2 p2 b fb) (hp : PlainIx b := by exact fun _ _ => rfl) : PX X (m1 || m2) true (.Subscript a b pos) (bin fa fb gIx) := px_op2 (pe_ix ix_seq ha hb hp) vo_ix (.inl rfl)
/-- the slot's list as it stands, if it is an owned one -/
def own? (i : Nat) (E : En) : Option (List PyData) := match E[i]? with
  | some (.own xs) => some xs
  | _ => none
theorem own?_some {i : Nat} {E : En} {xs : List PyData} (h : own? i E = some xs) : E[i]? = some (.own xs) := by
  unfold own? at h
  split at h
  · rename_i ys e1
    cases h
    exact e1
  · cases h
theorem Rel.ownAt {K : PySem.W.Frag} {vs0 : List V} {P : Hp} {E : En} {σ : L2.St} {H : Hp} {fps : Nat → List Addr} (r : Rel K vs0 P E σ H fps) {i : Nat} {xs : List PyData} (h : own? i E = some xs) :
    ∃ (a : Addr) (vs : List V), σ[i]? = some (some (.ref a)) ∧ fps i = [a] ∧ P a = none ∧ H a = some (.lst vs) ∧ DqAll K P vs xs := by
  obtain ⟨ov, e1, s⟩ := r.sl i _ (own?_some h)
  generalize hfp : fps i = fp at s
  cases s with
  | own pa ha dv => exact ⟨_, _, e1, rfl, pa, ha, dv⟩
def ixO (i : Nat) (fb : SE PyData) : SE PyData := fun E => match own? i E with
  | some _ => bnd fb (fun e => fun E1 => match own? i E1 with
    | some xs => lft (gIx (.list xs) e) E1
    | none => none) E
  | none => none
theorem px_ixO {i : Nat} (ha : PE X a (tVar i)) (hb : PX X m2 p2 b fb) (hp : PlainIx b := by exact fun _ _ => rfl) : PX X m2 true (.Subscript a b pos) (ixO i fb) := pe_imp (pe_ix ix_seq ha hb hp) fun σ H Q => by
  rintro ⟨vs0, P, E, fps, d, E', rel, hh, q⟩
  unfold ixO at hh
  split at hh
  · rename_i xs0 e0
    obtain ⟨ad, vs0', es, -, -, -, -⟩ := rel.ownAt e0
    obtain ⟨d1, E1, h1, hh⟩ := bnd_some hh
    split at hh
    · rename_i xs e1
      obtain ⟨h2, rfl⟩ := lft_some hh
      refine ⟨_, es, vs0, P, E, fps, d1, _, rel, h1, fun P1 H1 fps1 y r1 s1 m1' dy => ?_⟩
      obtain ⟨ad2, vs, es2, -, -, hv, dv⟩ := r1.ownAt e1
      rw [es] at es2
      cases es2
      obtain ⟨i', hi'⟩ : ∃ i', d1 = .int i' := by
        cases d1 <;> first | exact ⟨_, rfl⟩ | (cases h2; done)
      subst hi'
      obtain ⟨v, g1, g2⟩ := atI_dq dv (show atI xs i' = some d from h2)
      have ey : y = .int i' := by cases p2 <;> exact dq_int dy
      exact .inl ⟨ad, vs, i', v, rfl, ey, SqL.of hv, g1, q P1 H1 fps1 v r1 s1 m1' g2⟩
    · cases hh
  · cases hh

def tXO (K : PySem.W.Frag) (m : Bool) (f : SE (Option Int)) : TO := fun σ H Q => ∃ (vs0 : List V) (P : Hp) (E : En) (fps : Nat → List Addr) (o : Option Int) (E' : En), Rel K vs0 P E σ H fps ∧ f E = some (o, E') ∧
  ∀ (P' H' : Hp) (fps' : Nat → List Addr), Rel K vs0 P' E' σ H' fps' → Step (In fps) P H (In fps') P' H' → (m = false → Same H H') → Q o H'
def PXO (X : Cx) (m : Bool) (e : Option Expr) (f : SE (Option Int)) : Prop := PO X e (tXO X.K m f)
theorem po_imp {X : Cx} {e : Option Expr} {t u : TO} (h : PO X e t) (i : ∀ σ H Q, u σ H Q → t σ H Q) : PO X e u := ⟨fun pins s σ H Q I q => h.run pins s σ H Q I (i σ H Q q)⟩
def sPart (f : SE PyData) : SE (Option Int) := bnd f fun d => match d with
  | .int i => ret (some i)
  | _ => fun _ => none
theorem pxo_none : PXO X false none (ret none) := po_imp po_none fun σ H Q => by
  rintro ⟨vs0, P, E, fps, o, E', rel, hh, q⟩
  obtain ⟨rfl, rfl⟩ := ret_some hh
  exact q P H fps rel (.refl _ _ _) fun _ => Same.refl H
theorem pxo_some (h : PX X m p e f) : PXO X m (some e) (sPart f) := po_imp (po_some h) fun σ H Q => by
  rintro ⟨vs0, P, E, fps, o, E', rel, hh, q⟩
  obtain ⟨d, E1, h1, hh⟩ := bnd_some hh
  split at hh
  · obtain ⟨rfl, rfl⟩ := ret_some hh
    exact ⟨vs0, P, E, fps, _, _, rel, h1, fun P1 H1 fps1 v r1 s1 m1' dv => ⟨_, by cases p <;> exact dq_int dv, q P1 H1 fps1 r1 s1 m1'⟩⟩
  · cases hh
def cutL {α : Type} (xs : List α) (lo hi : Option Int) : List α := (xs.drop (HT.sIx xs.length 0 lo)).take (HT.sIx xs.length xs.length hi - HT.sIx xs.length 0 lo)
theorem cut_dq {K : PySem.W.Frag} {H : Hp} {vs : List V} {ds : List PyData} (h : DqAll K H vs ds) (lo hi : Option Int) : DqAll K H (cutV vs lo hi) (cutL ds lo hi) := by
  unfold cutV cutL
  rw [h.length]
  exact (h.drop _).take _
def gSl (d : PyData) (lo hi : Option Int) : Option PyData := match d with
  | .str z => if z.length ≤ sizeLine then some (.str (cutS z lo hi)) else none
  | .tuple ys => some (.tuple (cutL ys lo hi))
  | .list ys => some (.list (cutL ys lo hi))
  | _ => none
def sSl (f : SE PyData) (fl fh : SE (Option Int)) : SE PyData := bnd f fun d => bnd fl fun lo => bnd fh fun hi => lft (gSl d lo hi)
abbrev rSlX3 (K : PySem.W.Frag) : V → Option Int → Option Int → Hp → VK → Prop := fun x lo hi H Q => rSlS x lo hi H Q ∨ (rSlA K x lo hi H Q ∨ rSlL K x lo hi H Q)
theorem sl_any3 : L2.SlR X (rSlX3 X.K) := L2.SlR.or sl_str (L2.SlR.or sl_tupA sl_list)
theorem cut_whole {α : Type} {xs : List α} {lo hi : Option Int} (h : HT.sIx xs.length 0 lo = 0 ∧ HT.sIx xs.length xs.length hi = xs.length) : cutL xs lo hi = xs := by
  unfold cutL
  rw [h.1, h.2, List.drop_zero, Nat.sub_zero, List.take_length]
theorem px_sl {lo hi : Option Expr} {p2' : Pos} {fl fh : SE (Option Int)} (ha : PX X m1 true a fa) (hl : PXO X m2 lo fl) (hh : PXO X m3 hi fh) : PX X (m1 || (m2 || m3)) true (.Subscript a (.Slice lo hi none p2') pos) (sSl fa fl fh) := pe_imp (pe_slice sl_any3 ha hl hh) fun σ H Q => by
  rintro ⟨vs0, P, E, fps, d, E', rel, hh, q⟩
  obtain ⟨d1, E1, h1, hh⟩ := bnd_some hh
  obtain ⟨l, E2, h2, hh⟩ := bnd_some hh
  obtain ⟨u, E3, h3, hh⟩ := bnd_some hh
  obtain ⟨h4, rfl⟩ := lft_some hh
  refine ⟨vs0, P, E, fps, d1, E1, rel, h1, fun P1 H1 fps1 x r1 s1 m1' dx => ⟨vs0, P1, E1, fps1, l, E2, r1, h2, fun P2 H2 fps2 r2 s2 m2' => ⟨vs0, P2, E2, fps2, u, _, r2, h3, fun P3 H3 fps3 r3 s3 m3' => ?_⟩⟩⟩
  have dx3 : Dq X.K P3 x d1 := Dq.mono (s2.pp.trans s3.pp) dx
  have fin : After X.K P3 H3 d Q := fun P4 H4 w pp su hh fr dw => by
    refine q P4 H4 fps3 w (r3.alloc pp su hh fr) (((s1.trans s2).trans s3).trans (.alloc pp hh fr)) (fun hm => ?_) dw
    rw [Bool.or_eq_false_iff, Bool.or_eq_false_iff] at hm
    exact (((m1' hm.1).trans (m2' hm.2.1)).trans (m3' hm.2.2)).trans hh
  unfold gSl at h4
  split at h4
  · split at h4
    · rename_i hz
      cases h4
      rw [dq_str dx3]
      exact .inl ⟨_, rfl, hz, fin.at r3.sub (.str _)⟩
    · cases h4
  · cases h4
    cases dx3 with
    | @tup ad vs ys hx hv =>
      refine .inr (.inl ⟨ad, vs, rfl, seqT r3.sub hx, fun hw => ?_, fun _ p0 hp => ?_⟩)
      · rw [hv.length] at hw
        rw [cut_whole hw] at fin
        exact fin.at r3.sub (.tup hx hv)
      · exact fin.new r3.sub hp (.tup (SqT.of upd_same) ((cut_dq hv l u).mono (Fw.same_upd (sub_none r3.sub hp))))
  · cases h4
    cases dx3 with
    | @lst ad vs ys hx hv =>
      refine .inr (.inr ⟨ad, vs, rfl, SqL.of (r3.sub _ _ hx), fun p0 hp => ?_⟩)
      exact fin.new r3.sub hp (.lst upd_same ((cut_dq hv l u).mono (Fw.same_upd (sub_none r3.sub hp))))
  · cases h4
end
end Fw
namespace Fw
open PySem PySem.Spec L2
open PyProof.Rows hiding St
section
variable {X : Cx} {m m1 m2 m3 p p1 p2 p3 : Bool} {e a b c : Expr} {es : List Expr} {pos px apos : Pos} {f fa fb fc : SE PyData} {fs fs2 : SE (List PyData)} {x : Str} {K : PySem.W.Frag}

theorem px_call1 {id : String} {r : List V → Hp → VK → Prop} {g : PyData → Option PyData} (hc : CallR X (.builtin id) r) (v : VU X.K p (fun y H Q => r [y] H Q) g) (hg : Gl X x) (hm : X.mg x = none) (hv : bootBuiltins x = some (.builtin id)) (ha : PX X m p a fa)
    (hn : x ≠ "__name__" := by decide) (hd : (x == ("__debug__" : Str)) = false := by decide) (he : starEach [a] X.env = (false, eval a X.env) :: starEach [] X.env := by rfl) : PX X m true (.Call (.Name x px) [a] [] pos) (una fa g) :=
  px_op1 (r := fun y H Q => r [y] H Q) (pe_callB hc hg hm hv (pa_cons ha pa_nil he) hn hd he rfl) v
theorem px_callT1 {T : String} {r : List V → Hp → VK → Prop} {g : PyData → Option PyData} (hc : CallR X (.type T) r) (v : VU X.K p (fun y H Q => r [y] H Q) g) (hg : Gl X x) (hm : X.mg x = none) (hv : bootBuiltins x = some (.type T)) (ha : PX X m p a fa)
    (hn : x ≠ "__name__" := by decide) (hd : (x == ("__debug__" : Str)) = false := by decide) (he : starEach [a] X.env = (false, eval a X.env) :: starEach [] X.env := by rfl) : PX X m true (.Call (.Name x px) [a] [] pos) (una fa g) :=
  px_op1 (r := fun y H Q => r [y] H Q) (pe_callTy hc hg hm hv (pa_cons ha pa_nil he) hn hd he rfl) v
def gLen : PyData → Option PyData
  | .str z => if z.length ≤ sizeLine then some (.int z.length) else none
  | .list ys => some (.int ys.length)
  | .tuple ys => some (.int ys.length)
  | _ => none
theorem vu_len : VU K p (fun y H Q => ∃ x n, [y] = [x] ∧ LenV K x H n ∧ Q (.int n) H) gLen := by
  intro P H y d z Q su dy hg q
  replace dy := Dq.pick su dy
  unfold gLen at hg
  split at hg
  · split at hg
    · rename_i hl
      cases hg
      rw [dq_str dy]
      exact ⟨_, _, rfl, ⟨hl, rfl⟩, q.at su (.int _)⟩
    · cases hg
  · cases hg
    cases dy with
    | @lst l vs _ hx hv => exact ⟨_, _, rfl, .inl ⟨vs, SqL.of hx, rfl⟩, by rw [hv.length]; exact q.at su (.int _)⟩
  · cases hg
    cases dy with
    | @tup l vs _ hx hv => exact ⟨_, _, rfl, .inr ⟨vs, hx, rfl⟩, by rw [hv.length]; exact q.at su (.int _)⟩
  · cases hg
def gAbs : PyData → Option PyData
  | .int i => some (.int (if i < 0 then -i else i))
  | _ => none
theorem vu_abs : VU K p (fun y H Q => ∃ i, [y] = [.int i] ∧ Q (.int (if i < 0 then -i else i)) H) gAbs := by
  intro P H y d z Q su dy hg q
  unfold gAbs at hg
  split at hg
  · cases hg
    rw [dq_int dy]
    exact ⟨_, rfl, q.at su (.int _)⟩
  · cases hg
def gInt : PyData → Option PyData
  | .int i => some (.int i)
  | .bool b => some (.int (if b then 1 else 0))
  | .str z => if z.length ≤ 640 then (PySem.intText? z).map .int else none
  | _ => none
theorem cr_intA : CallR X (.type "int") (fun xs H Q => ((∃ i, xs = [.int i] ∧ Q (.int i) H) ∨ ∃ k, xs = [.bl k] ∧ Q (.int (if k then 1 else 0)) H) ∨ (∃ a n, xs = [.str a] ∧ PySem.intText? a = some n ∧ a.length ≤ 640 ∧ Q (.int n) H)) := call_int1.or call_int_str
theorem vu_int : VU K p (fun y H Q => ((∃ i, [y] = [.int i] ∧ Q (.int i) H) ∨ ∃ k, [y] = [.bl k] ∧ Q (.int (if k then 1 else 0)) H) ∨ (∃ a n, [y] = [.str a] ∧ PySem.intText? a = some n ∧ a.length ≤ 640 ∧ Q (.int n) H)) gInt := by
  intro P H y d z Q su dy hg q
  unfold gInt at hg
  split at hg
  · cases hg
    rw [dq_int dy]
    exact .inl (.inl ⟨_, rfl, q.at su (.int _)⟩)
  · cases hg
    rw [dq_bl dy]
    exact .inl (.inr ⟨_, rfl, q.at su (.int _)⟩)
  · split at hg
    · rename_i s hl
      rw [dq_str dy]
      cases e1 : PySem.intText? s with
      | none => rw [e1] at hg; cases hg
      | some n =>
        rw [e1] at hg
        cases hg
        exact .inr ⟨_, n, rfl, e1, hl, q.at su (.int _)⟩
    · cases hg
  · cases hg
def gOrd : PyData → Option PyData
  | .str z => if z.length = 1 then some (.int (z.cps.getD 0 0 : Nat)) else none
  | _ => none
theorem vu_ord : VU K p (fun y H Q => ∃ x, [y] = [.str x] ∧ x.length = 1 ∧ Q (.int (x.cps.getD 0 0 : Nat)) H) gOrd := by
  intro P H y d z Q su dy hg q
  unfold gOrd at hg
  split at hg
  · split at hg
    · rename_i hl
      cases hg
      rw [dq_str dy]
      exact ⟨_, rfl, hl, q.at su (.int _)⟩
    · cases hg
  · cases hg
def gStr : PyData → Option PyData
  | .int i => if i.natAbs.log2 < 1920 then some (.str (toString i)) else none
  | .str z => some (.str z)
  | _ => none
theorem cr_strA : CallR X (.type "str") (fun xs H Q => (∃ i, xs = [.int i] ∧ i.natAbs.log2 < 1920 ∧ Q (.str (toString i)) H) ∨ (∃ a, xs = [.str a] ∧ Q (.str a) H)) := call_str_int.or SkE.call_str_str
theorem vu_str : VU K p (fun y H Q => (∃ i, [y] = [.int i] ∧ i.natAbs.log2 < 1920 ∧ Q (.str (toString i)) H) ∨ (∃ a, [y] = [.str a] ∧ Q (.str a) H)) gStr := by
  intro P H y d z Q su dy hg q
  unfold gStr at hg
  split at hg
  · split at hg
    · rename_i hl
      cases hg
      rw [dq_int dy]
      exact .inl ⟨_, rfl, hl, q.at su (.str _)⟩
    · cases hg
  · cases hg
    rw [dq_str dy]
    exact .inr ⟨_, rfl, q.at su (.str _)⟩
  · cases hg
def gTuple : PyData → Option PyData
  | .list ys => some (.tuple ys)
  | .tuple ys => some (.tuple ys)
  | _ => none
theorem vu_tuple : VU K true (fun y H Q => ∃ p ys, [y] = [.ref p] ∧ ((SqL K H p ys ∧ ∀ l, H l = none → Q (.ref l) (upd H l (.tup ys))) ∨ (SqT K H p ys ∧ Q (.ref p) H))) gTuple := by
  intro P H y d z Q su dy hg q
  unfold gTuple at hg
  split at hg
  · cases hg
    cases dy with
    | @lst l vs _ hx hv => exact ⟨l, vs, rfl, .inl ⟨SqL.of (su _ _ hx), fun p0 hp => q.new su hp (.tup (SqT.of upd_same) (hv.mono (Fw.same_upd (sub_none su hp))))⟩⟩
  · cases hg
    cases dy with
    | @tup l vs _ hx hv => exact ⟨l, vs, rfl, .inr ⟨seqT su hx, q.at su (.tup hx hv)⟩⟩
  · cases hg
/-- tuple(name of an owned list) -/
def tupO (i : Nat) : SE PyData := fun E => match own? i E with
  | some xs => some (.tuple xs, E)
  | none => none
theorem px_tupO {i : Nat} (hg : Gl X "tuple") (hm : X.mg "tuple" = none) (ha : PE X a (tVar i)) (he : starEach [a] X.env = (false, eval a X.env) :: starEach [] X.env := by rfl) : PX X false true (.Call (.Name "tuple" px) [a] [] pos) (tupO i) :=
  pe_imp (pe_callTy (T := "tuple") call_tuple_of hg hm (by decide +kernel) (pa_cons ha pa_nil he) (by decide) (by decide) he rfl) fun σ H Q => by
  rintro ⟨vs0, P, E, fps, d, E', rel, hh, q⟩
  unfold tupO at hh
  split at hh
  · rename_i xs e1
    cases hh
    obtain ⟨ad, vs, es, -, -, hv, dv⟩ := rel.ownAt e1
    refine ⟨_, es, ad, vs, rfl, .inl ⟨SqL.of hv, fun p0 hp => ?_⟩⟩
    have s1 : Same P (upd P p0 (.tup vs)) := Fw.same_upd (sub_none rel.sub hp)
    exact q (upd P p0 (.tup vs)) (upd H p0 (.tup vs)) fps (.ref p0) (rel.alloc s1 (same_upd2 rel.sub hp) (Fw.same_upd hp) (fresh_upd hp)) (.alloc s1 (Fw.same_upd hp) (fresh_upd hp)) (fun _ => Fw.same_upd hp) (.tup (SqT.of upd_same) (dv.mono s1))
  · cases hh
/-- list(x) -/
def gList : PyData → Option (List PyData)
  | .list ys => some ys
  | .tuple ys => some ys
  | _ => none
def unaL (fa : SE PyData) (g : PyData → Option (List PyData)) : SE (List PyData) := bnd fa fun d => lft (g d)
theorem pl_op1 {r : V → Hp → VK → Prop} {g : PyData → Option (List PyData)} (h : PE X e (fun σ H Q => tX X.K m p fa σ H fun x H1 => r x H1 Q)) (v : ∀ (P H : Hp) (y : V) (d : PyData) (zs : List PyData) (Q : VK), Same P H → Dq X.K (pick p P H) y d → g d = some zs → AfterL X.K P H zs Q → r y H Q) : PL X m e (unaL fa g) := pe_imp h fun σ H Q => by
  rintro ⟨vs0, P, E, fps, d, E', rel, hh, q⟩
  obtain ⟨d1, E1, h1, hh⟩ := bnd_some hh
  obtain ⟨h3, rfl⟩ := lft_some hh
  exact ⟨vs0, P, E, fps, d1, _, rel, h1, fun P1 H1 fps1 x r1 s1 m1' dx => v P1 H1 x d1 d Q r1.sub dx h3 (tXL_end r1 s1 m1' q)⟩
theorem pl_list (hg : Gl X "list") (hm : X.mg "list" = none) (ha : PX X m true a fa) (he : starEach [a] X.env = (false, eval a X.env) :: starEach [] X.env := by rfl) : PL X m (.Call (.Name "list" px) [a] [] pos) (unaL fa gList) :=
  pl_op1 (r := fun y H Q => ∃ p ys, [y] = [.ref p] ∧ (SqL X.K H p ys ∨ SqT X.K H p ys) ∧ ∀ l, H l = none → Q (.ref l) (upd H l (.lst ys))) (pe_callTy (T := "list") call_list_of hg hm (by decide +kernel) (pa_cons ha pa_nil he) (by decide) (by decide) he rfl) (by
    intro P H y d zs Q su dy hg q
    unfold gList at hg
    split at hg
    · cases hg
      cases dy with
      | @lst l vs _ hx hv => exact ⟨l, vs, rfl, .inl (SqL.of (su _ _ hx)), fun p0 hp => q.new su hp hv⟩
    · cases hg
      cases dy with
      | @tup l vs _ hx hv => exact ⟨l, vs, rfl, .inr (seqT su hx), fun p0 hp => q.new su hp hv⟩
    · cases hg)
/-- a list of ints | bools | texts alone -/
def intsOf : List PyData → Option (List Int)
  | [] => some []
  | .int i :: r => (intsOf r).map (i :: ·)
  | _ :: _ => none
def boolsOf : List PyData → Option (List Bool)
  | [] => some []
  | .bool i :: r => (boolsOf r).map (i :: ·)
  | _ :: _ => none
def strsOf : List PyData → Option (List Str)
  | [] => some []
  | .str i :: r => (strsOf r).map (i :: ·)
  | _ :: _ => none
theorem ints_dq {H : Hp} : ∀ {vs : List V} {ds : List PyData} {ns : List Int}, DqAll K H vs ds → intsOf ds = some ns → vs = ns.map V.int
  | _, _, _, .nil, e => by cases e; rfl
  | _, _, _, .cons (d := d) h r, e => by
    cases d <;> first
      | (cases e; done)
      | (rw [dq_int h]
         unfold intsOf at e
         cases e1 : intsOf _ with
         | none => rw [e1] at e; cases e
         | some k => rw [e1] at e; cases e; rw [ints_dq r e1]; rfl)
theorem bools_dq {H : Hp} : ∀ {vs : List V} {ds : List PyData} {ns : List Bool}, DqAll K H vs ds → boolsOf ds = some ns → vs = ns.map V.bl
  | _, _, _, .nil, e => by cases e; rfl
  | _, _, _, .cons (d := d) h r, e => by
    cases d <;> first
      | (cases e; done)
      | (rw [dq_bl h]
         unfold boolsOf at e
         cases e1 : boolsOf _ with
         | none => rw [e1] at e; cases e
         | some k => rw [e1] at e; cases e; rw [bools_dq r e1]; rfl)
theorem strs_dq {H : Hp} : ∀ {vs : List V} {ds : List PyData} {ns : List Str}, DqAll K H vs ds → strsOf ds = some ns → vs = ns.map V.str
  | _, _, _, .nil, e => by cases e; rfl
  | _, _, _, .cons (d := d) h r, e => by
    cases d <;> first
      | (cases e; done)
      | (rw [dq_str h]
         unfold strsOf at e
         cases e1 : strsOf _ with
         | none => rw [e1] at e; cases e
         | some k => rw [e1] at e; cases e; rw [strs_dq r e1]; rfl)
def gSum : PyData → Option PyData
  | .list ys => (intsOf ys).map fun ns => .int ns.sum
  | _ => none
theorem vu_sum : VU K p (fun y H Q => rSum K [y] H Q) gSum := by
  intro P H y d z Q su dy hg q
  replace dy := Dq.pick su dy
  unfold gSum at hg
  split at hg
  · rename_i ys
    cases e1 : intsOf ys with
    | none => rw [e1] at hg; cases hg
    | some ns =>
      rw [e1] at hg
      cases hg
      cases dy with
      | @lst l vs _ hx hv => exact ⟨l, ns, rfl, by rw [← ints_dq hv e1]; exact SqL.of hx, q.at su (.int _)⟩
  · cases hg
def gAll : PyData → Option PyData
  | .list ys => (boolsOf ys).map fun ns => .bool (ns.all id)
  | _ => none
def gAny : PyData → Option PyData
  | .list ys => (boolsOf ys).map fun ns => .bool (ns.any id)
  | _ => none
theorem vu_all : VU K p (fun y H Q => rAll K [y] H Q) gAll := by
  intro P H y d z Q su dy hg q
  replace dy := Dq.pick su dy
  unfold gAll at hg
  split at hg
  · rename_i ys
    cases e1 : boolsOf ys with
    | none => rw [e1] at hg; cases hg
    | some ns =>
      rw [e1] at hg
      cases hg
      cases dy with
      | @lst l vs _ hx hv => exact ⟨l, ns, rfl, by rw [← bools_dq hv e1]; exact SqL.of hx, q.at su (.bl _)⟩
  · cases hg
theorem vu_any : VU K p (fun y H Q => rAny K [y] H Q) gAny := by
  intro P H y d z Q su dy hg q
  replace dy := Dq.pick su dy
  unfold gAny at hg
  split at hg
  · rename_i ys
    cases e1 : boolsOf ys with
    | none => rw [e1] at hg; cases hg
    | some ns =>
      rw [e1] at hg
      cases hg
      cases dy with
      | @lst l vs _ hx hv => exact ⟨l, ns, rfl, by rw [← bools_dq hv e1]; exact SqL.of hx, q.at su (.bl _)⟩
  · cases hg
/-- isinstance(x, T) -/
def tyD : PyData → String
  | .none => "NoneType"
  | .bool _ => "bool"
  | .int _ => "int"
  | .str _ => "str"
  | .list _ => "list"
  | .tuple _ => "tuple"
  | .dict _ => "dict"
def gIsi (T : String) (d : PyData) : Option PyData := (kitB (tyD d) T).map .bool
theorem ty_dq {H : Hp} {y : V} {d : PyData} (h : Dq K H y d) : TyX K H y (.type (tyD d)) := by
  cases h with
  | non => exact .base .non
  | bl b => exact .base (.bl b)
  | int i => exact .base (.int i)
  | str z => exact .base (.str z)
  | lst h _ => exact .base (.lst h)
  | tup h _ =>
    rcases h with (h | ⟨o, h⟩) | ⟨o, its, n, hk, hc, _⟩
    · exact .base (.tup h)
    · exact .fTuple h
    · exact .kTuple hk hc
theorem px_isi {T : Str} {u : String} (hg : Gl X "isinstance") (hm : X.mg "isinstance" = none) (hT : PE X b (tC (.ty u))) (ha : PX X m p a fa) (he : starEach [a, b] X.env = (false, eval a X.env) :: starEach [b] X.env := by rfl) (he2 : starEach [b] X.env = (false, eval b X.env) :: starEach [] X.env := by rfl)
    (hpl : (backTo pos (starEach [b] X.env)).any (·.1) = false := by rfl) : PX X m true (.Call (.Name "isinstance" px) [a, b] [] pos) (una fa (gIsi u)) :=
  px_op1 (r := fun y H Q => rIsi X.K [y, .ty u] H Q) (pe_callB (id := "isinstance") call_isi hg hm (by decide +kernel) (pa_cons ha (pa_cons hT pa_nil he2) he) (by decide) (by decide) he hpl) (by
    intro P H y d z Q su dy hg q
    replace dy := Dq.pick su dy
    unfold gIsi at hg
    cases e1 : kitB (tyD d) u with
    | none => rw [e1] at hg; cases hg
    | some bb =>
      rw [e1] at hg
      cases hg
      exact ⟨y, .ty u, _, _, bb, rfl, .ty u, ty_dq dy, kit_ty e1, q.at su (.bl _)⟩)
/-- min(a, b), max(a, b) of ints -/
def gMax : List PyData → Option PyData
  | [.int i, .int j] => some (.int (if j > i then j else i))
  | _ => none
def gMin : List PyData → Option PyData
  | [.int i, .int j] => some (.int (if j < i then j else i))
  | _ => none
theorem va_max : VAA K (fun xs H Q => ∃ i j, xs = [.int i, .int j] ∧ Q (.int (if j > i then j else i)) H) gMax := by
  intro P H xs ds z Q su dx hg q
  unfold gMax at hg
  split at hg
  · cases hg
    cases dx with
    | cons h1 r1 =>
      cases r1 with
      | cons h2 r2 =>
        cases r2
        rw [dq_int h1, dq_int h2]
        exact ⟨_, _, rfl, q.at su (.int _)⟩
  · cases hg
theorem va_min : VAA K (fun xs H Q => ∃ i j, xs = [.int i, .int j] ∧ Q (.int (if j < i then j else i)) H) gMin := by
  intro P H xs ds z Q su dx hg q
  unfold gMin at hg
  split at hg
  · cases hg
    cases dx with
    | cons h1 r1 =>
      cases r1 with
      | cons h2 r2 =>
        cases r2
        rw [dq_int h1, dq_int h2]
        exact ⟨_, _, rfl, q.at su (.int _)⟩
  · cases hg
theorem px_callN {id : String} {r : List V → Hp → VK → Prop} {g : List PyData → Option PyData} (hc : CallR X (.builtin id) r) (v : VAA X.K r g) (hg : Gl X x) (hm : X.mg x = none) (hv : bootBuiltins x = some (.builtin id)) (ha : PXA X m (a :: es) fs)
    (hn : x ≠ "__name__" := by decide) (hd : (x == ("__debug__" : Str)) = false := by decide) (he : starEach (a :: es) X.env = (false, eval a X.env) :: starEach es X.env := by rfl) (hpl : (backTo pos (starEach es X.env)).any (·.1) = false := by rfl) : PX X m true (.Call (.Name x px) (a :: es) [] pos) (mny fs g) :=
  px_args (r := r) (pe_callB hc hg hm hv ha hn hd he hpl) v

def m1S (fa fb : SE PyData) (g : Str → PyData → Option PyData) : SE PyData := bnd fa fun d => match d with
  | .str s => bnd fb fun e => lft (g s e)
  | _ => fun _ => none
def m1L (fa fb : SE PyData) (g : Str → PyData → Option (List PyData)) : SE (List PyData) := bnd fa fun d => match d with
  | .str s => bnd fb fun e => lft (g s e)
  | _ => fun _ => none
theorem px_m1 {r : V → List V → Hp → VK → Prop} {g : Str → PyData → Option PyData} (h : PE X e (tM1 r (tX X.K m1 true fa) (tX X.K m2 p2 fb))) (v : ∀ (P H : Hp) (s : Str) (y : V) (d z : PyData) (Q : VK), Same P H → Dq X.K (pick p2 P H) y d → g s d = some z → After X.K P H z Q → r (.str s) [y] H Q) : PX X (m1 || m2) true e (m1S fa fb g) := pe_imp h fun σ H Q => by
  rintro ⟨vs0, P, E, fps, d, E', rel, hh, q⟩
  obtain ⟨d1, E1, h1, hh⟩ := bnd_some hh
  split at hh
  · rename_i s
    obtain ⟨d2, E2, h2, hh⟩ := bnd_some hh
    obtain ⟨h3, rfl⟩ := lft_some hh
    refine ⟨vs0, P, E, fps, _, E1, rel, h1, fun P1 H1 fps1 x r1 s1 m1' dx => ⟨⟨s, dq_str dx⟩, vs0, P1, E1, fps1, d2, _, r1, h2, fun P2 H2 fps2 y r2 s2 m2' dy => ?_⟩⟩
    rw [dq_str dx]
    refine v P2 H2 s y d2 d Q r2.sub dy h3 fun P3 H3 w pp su hh fr dw => ?_
    refine q P3 H3 fps2 w (r2.alloc pp su hh fr) ((s1.trans s2).trans (.alloc pp hh fr)) (fun hm => ?_) dw
    rw [Bool.or_eq_false_iff] at hm
    exact ((m1' hm.1).trans (m2' hm.2)).trans hh
  · cases hh
theorem pl_m1 {r : V → List V → Hp → VK → Prop} {g : Str → PyData → Option (List PyData)} (h : PE X e (tM1 r (tX X.K m1 true fa) (tX X.K m2 p2 fb))) (v : ∀ (P H : Hp) (s : Str) (y : V) (d : PyData) (zs : List PyData) (Q : VK), Same P H → Dq X.K (pick p2 P H) y d → g s d = some zs → AfterL X.K P H zs Q → r (.str s) [y] H Q) : PL X (m1 || m2) e (m1L fa fb g) := pe_imp h fun σ H Q => by
  rintro ⟨vs0, P, E, fps, d, E', rel, hh, q⟩
  obtain ⟨d1, E1, h1, hh⟩ := bnd_some hh
  split at hh
  · rename_i s
    obtain ⟨d2, E2, h2, hh⟩ := bnd_some hh
    obtain ⟨h3, rfl⟩ := lft_some hh
    refine ⟨vs0, P, E, fps, _, E1, rel, h1, fun P1 H1 fps1 x r1 s1 m1' dx => ⟨⟨s, dq_str dx⟩, vs0, P1, E1, fps1, d2, _, r1, h2, fun P2 H2 fps2 y r2 s2 m2' dy => ?_⟩⟩
    rw [dq_str dx]
    refine v P2 H2 s y d2 d Q r2.sub dy h3 (tXL_end r2 (s1.trans s2) (fun hm => ?_) q)
    rw [Bool.or_eq_false_iff] at hm
    exact (m1' hm.1).trans (m2' hm.2)
  · cases hh
def m0S (fa : SE PyData) (g : Str → Option PyData) : SE PyData := bnd fa fun d => match d with
  | .str s => lft (g s)
  | _ => fun _ => none
theorem px_m0 {r : V → List V → Hp → VK → Prop} {g : Str → Option PyData} (h : PE X e (tM0 r (tX X.K m p fa))) (v : ∀ (P H : Hp) (s : Str) (z : PyData) (Q : VK), Same P H → g s = some z → After X.K P H z Q → r (.str s) [] H Q) : PX X m true e (m0S fa g) := pe_imp h fun σ H Q => by
  rintro ⟨vs0, P, E, fps, d, E', rel, hh, q⟩
  obtain ⟨d1, E1, h1, hh⟩ := bnd_some hh
  split at hh
  · rename_i s
    obtain ⟨h3, rfl⟩ := lft_some hh
    refine ⟨vs0, P, E, fps, _, _, rel, h1, fun P1 H1 fps1 x r1 s1 m1' dx => ?_⟩
    have ex : x = .str s := by cases p <;> exact dq_str dx
    refine ⟨⟨s, ex⟩, ?_⟩
    rw [ex]
    exact v P1 H1 s d Q r1.sub h3 fun P3 H3 w pp su hh fr dw => q P3 H3 fps1 w (r1.alloc pp su hh fr) (s1.trans (.alloc pp hh fr)) (fun hm => (m1' hm).trans hh) dw
  · cases hh
section
variable {apos : Pos} (hs : starEach [b] X.env = [(false, eval b X.env)] := by rfl) (hbL : attributeBase a "lower" X.env (eval a X.env) = eval a X.env := by rfl) (hline : (apos.endLine == pos.line) = true := by rfl)
def gLower (s : Str) : Option PyData := if s.length ≤ 5592405 then some (.str (Txt.lower s)) else none
def gUpper (s : Str) : Option PyData := if s.length ≤ 5592405 then some (.str (Txt.upper s)) else none
theorem px_lower (ha : PX X m p a fa) (hb : attributeBase a "lower" X.env (eval a X.env) = eval a X.env := by rfl) (hline : (apos.endLine == pos.line) = true := by rfl) : PX X m true (.Call (.Attribute a "lower" apos) [] [] pos) (m0S fa gLower) := px_m0 (pe_lower ha hb hline) (by
  intro P H s z Q su hg q
  unfold gLower at hg
  split at hg
  · rename_i hl
    cases hg
    exact ⟨s, rfl, rfl, hl, q.at su (.str _)⟩
  · cases hg)
theorem px_upper (ha : PX X m p a fa) (hb : attributeBase a "upper" X.env (eval a X.env) = eval a X.env := by rfl) (hline : (apos.endLine == pos.line) = true := by rfl) : PX X m true (.Call (.Attribute a "upper" apos) [] [] pos) (m0S fa gUpper) := px_m0 (pe_upper ha hb hline) (by
  intro P H s z Q su hg q
  unfold gUpper at hg
  split at hg
  · rename_i hl
    cases hg
    exact ⟨s, rfl, rfl, hl, q.at su (.str _)⟩
  · cases hg)
def gStrip (s : Str) : PyData → Option PyData
  | .str t => if s.length ≤ sizeLine then some (.str (Txt.stripChars s t)) else none
  | _ => none
def gLstrip (s : Str) : PyData → Option PyData
  | .str t => if s.length ≤ sizeLine then some (.str (Txt.lstripChars s t)) else none
  | _ => none
theorem px_strip (ha : PX X m1 true a fa) (hb : PX X m2 p2 b fb) (hs : starEach [b] X.env = [(false, eval b X.env)] := by rfl) (hba : attributeBase a "strip" X.env (eval a X.env) = eval a X.env := by rfl) (hline : (apos.endLine == pos.line) = true := by rfl) : PX X (m1 || m2) true (.Call (.Attribute a "strip" apos) [b] [] pos) (m1S fa fb gStrip) :=
  px_m1 (pe_m1 PySem.F.slot_str_strip PySem.F.type_str_strip mt_stripChars ha hb hs hba hline) (by
  intro P H s y d z Q su dy hg q
  unfold gStrip at hg
  split at hg
  · split at hg
    · rename_i hl
      cases hg
      rw [dq_str dy]
      exact ⟨s, _, rfl, rfl, hl, q.at su (.str _)⟩
    · cases hg
  · cases hg)
theorem px_lstrip (ha : PX X m1 true a fa) (hb : PX X m2 p2 b fb) (hs : starEach [b] X.env = [(false, eval b X.env)] := by rfl) (hba : attributeBase a "lstrip" X.env (eval a X.env) = eval a X.env := by rfl) (hline : (apos.endLine == pos.line) = true := by rfl) : PX X (m1 || m2) true (.Call (.Attribute a "lstrip" apos) [b] [] pos) (m1S fa fb gLstrip) :=
  px_m1 (pe_m1 PySem.F.slot_str_lstrip PySem.F.type_str_lstrip mt_lstripChars ha hb hs hba hline) (by
  intro P H s y d z Q su dy hg q
  unfold gLstrip at hg
  split at hg
  · split at hg
    · rename_i hl
      cases hg
      rw [dq_str dy]
      exact ⟨s, _, rfl, rfl, hl, q.at su (.str _)⟩
    · cases hg
  · cases hg)
def gSplit (s : Str) : PyData → Option (List PyData)
  | .str t => if (t.length == 0) = false ∧ s.length + 2 ≤ sizeLine then some ((Txt.split s t).map .str) else none
  | _ => none
theorem strs_all {H : Hp} : ∀ ys : List Str, DqAll K H (ys.map V.str) (ys.map PyData.str)
  | [] => .nil
  | y :: ys => .cons (.str y) (strs_all ys)
theorem ints_all {H : Hp} : ∀ ys : List Int, DqAll K H (ys.map V.int) (ys.map PyData.int)
  | [] => .nil
  | y :: ys => .cons (.int y) (ints_all ys)
theorem pl_split (ha : PX X m1 true a fa) (hb : PX X m2 p2 b fb) (hs : starEach [b] X.env = [(false, eval b X.env)] := by rfl) (hba : attributeBase a "split" X.env (eval a X.env) = eval a X.env := by rfl) (hline : (apos.endLine == pos.line) = true := by rfl) : PL X (m1 || m2) (.Call (.Attribute a "split" apos) [b] [] pos) (m1L fa fb gSplit) :=
  pl_m1 (pe_split ha hb hs hba hline) (by
  intro P H s y d z Q su dy hg q
  unfold gSplit at hg
  split at hg
  · split at hg
    · rename_i hl
      cases hg
      rw [dq_str dy]
      exact ⟨s, _, rfl, rfl, hl.1, hl.2, fun p0 hp => q.new su hp (strs_all _)⟩
    · cases hg
  · cases hg)
def gPartition (s : Str) : PyData → Option PyData
  | .str t => if (t.length == 0) = false ∧ s.length ≤ sizeLine then some (.tuple [.str (Txt.partition s t).1, .str (Txt.partition s t).2.1, .str (Txt.partition s t).2.2]) else none
  | _ => none
theorem px_partition (ha : PX X m1 true a fa) (hb : PX X m2 p2 b fb) (hs : starEach [b] X.env = [(false, eval b X.env)] := by rfl) (hba : attributeBase a "partition" X.env (eval a X.env) = eval a X.env := by rfl) (hline : (apos.endLine == pos.line) = true := by rfl) : PX X (m1 || m2) true (.Call (.Attribute a "partition" apos) [b] [] pos) (m1S fa fb gPartition) :=
  px_m1 (pe_partition ha hb hs hba hline) (by
  intro P H s y d z Q su dy hg q
  unfold gPartition at hg
  split at hg
  · split at hg
    · rename_i hl
      cases hg
      rw [dq_str dy]
      exact ⟨s, _, rfl, rfl, hl.1, hl.2, fun p0 hp => q.new su hp (.tup (SqT.of upd_same) (.cons (.str _) (.cons (.str _) (.cons (.str _) .nil))))⟩
    · cases hg
  · cases hg)
def gJoin (s : Str) : PyData → Option PyData
  | .list ys => match strsOf ys with
    | some zs => if (zs.map (·.length)).sum + zs.length * s.length ≤ 16777216 then some (.str (Txt.join s zs)) else none
    | none => none
  | .tuple ys => match strsOf ys with
    | some zs => if (zs.map (·.length)).sum + zs.length * s.length ≤ 16777216 then some (.str (Txt.join s zs)) else none
    | none => none
  | _ => none
theorem px_join (ha : PX X m1 true a fa) (hb : PX X m2 p2 b fb) (hs : starEach [b] X.env = [(false, eval b X.env)] := by rfl) (hba : attributeBase a "join" X.env (eval a X.env) = eval a X.env := by rfl) (hline : (apos.endLine == pos.line) = true := by rfl) : PX X (m1 || m2) true (.Call (.Attribute a "join" apos) [b] [] pos) (m1S fa fb gJoin) :=
  px_m1 (pe_join ha hb hs hba hline) (by
  intro P H s y d z Q su dy hg q
  replace dy := Dq.pick su dy
  unfold gJoin at hg
  split at hg
  · split at hg
    · rename_i zs e1
      split at hg
      · rename_i hl
        cases hg
        cases dy with
        | @lst l vs _ hx hv => exact ⟨s, l, zs, rfl, rfl, .inl (by rw [← strs_dq hv e1]; exact SqL.of hx), hl, q.at su (.str _)⟩
      · cases hg
    · cases hg
  · split at hg
    · rename_i zs e1
      split at hg
      · rename_i hl
        cases hg
        cases dy with
        | @tup l vs _ hx hv => exact ⟨s, l, zs, rfl, rfl, .inr (by rw [← strs_dq hv e1]; exact hx), hl, q.at su (.str _)⟩
      · cases hg
    · cases hg
  · cases hg)
end

def gFmt : PyData → Option PyData
  | .str y => if y.length ≤ sizeLine then some (.str y) else none
  | .int i => if i.natAbs.log2 < 1920 then some (.str (toString i)) else none
  | _ => none
theorem px_fmt (ha : PX X m p a fa) : PX X m true (.FormattedValue a (-1) none pos) (una fa gFmt) := px_op1 (r := fun x H1 Q => (∃ y : Str, x = .str y ∧ y.length ≤ sizeLine ∧ Q (.str y) H1) ∨ ∃ i : Int, x = .int i ∧ i.natAbs.log2 < 1920 ∧ Q (.str (toString i)) H1) (pe_fmt ha) (by
  intro P H y d z Q su dy hg q
  unfold gFmt at hg
  split at hg
  · split at hg
    · rename_i hl
      cases hg
      exact .inl ⟨_, dq_str dy, hl, q.at su (.str _)⟩
    · cases hg
  · split at hg
    · rename_i hl
      cases hg
      exact .inr ⟨_, dq_int dy, hl, q.at su (.str _)⟩
    · cases hg
  · cases hg)
inductive PXJ (X : Cx) : List Expr → List (SE PyData) → Prop where
  | nil : PXJ X [] []
  | cons {e : Expr} {m p : Bool} {f : SE PyData} {es : List Expr} {fs : List (SE PyData)} (h : PX X m p e f) (r : PXJ X es fs) : PXJ X (e :: es) (f :: fs)
def jns : List (SE PyData) → Str → SE PyData
  | [], acc => ret (.str acc)
  | f :: fs, acc => bnd f fun d => match d with
    | .str y => if (acc ++ y).length ≤ sizeLine then jns fs (acc ++ y) else fun _ => none
    | _ => fun _ => none
theorem pj_of {es : List Expr} {fs : List (SE PyData)} (h : PXJ X es fs) : ∃ ts, PJ X es ts ∧ ∀ (acc : Str) (σ : L2.St) (H : Hp) (Q : VK), tX X.K true true (jns fs acc) σ H Q → tJs ts acc σ H fun out H1 => Q (.str out) H1 := by
  induction h with
  | nil =>
    refine ⟨[], .nil, fun acc σ H Q => ?_⟩
    rintro ⟨vs0, P, E, fps, d, E', rel, hh, q⟩
    obtain ⟨rfl, rfl⟩ := ret_some hh
    exact q P H fps _ rel (.refl _ _ _) (fun _ => Same.refl H) (.str acc)
  | @cons e m p f es fs h r ih =>
    obtain ⟨ts, h1, h2⟩ := ih
    refine ⟨tX X.K m p f :: ts, .cons h h1, fun acc σ H Q => ?_⟩
    rintro ⟨vs0, P, E, fps, d, E', rel, hh, q⟩
    obtain ⟨d1, E1, g1, hh⟩ := bnd_some hh
    split at hh
    · rename_i y
      split at hh
      · rename_i hl
        refine ⟨vs0, P, E, fps, _, E1, rel, g1, fun P1 H1 fps1 x r1 s1 m1' dx => ⟨y, by cases p <;> exact dq_str dx, hl, h2 _ σ H1 Q ⟨vs0, P1, E1, fps1, d, E', r1, hh, fun P2 H2 fps2 v r2 s2 m2' dv => q P2 H2 fps2 v r2 (s1.trans s2) (fun hm => nomatch hm) dv⟩⟩⟩
      · cases hh
    · cases hh
theorem px_joined {v1 v2 : Expr} {rest : List Expr} {fs : List (SE PyData)} (h : PXJ X (v1 :: v2 :: rest) fs) : PX X true true (.JoinedStr (v1 :: v2 :: rest) pos) (jns fs Str.empty) := by
  obtain ⟨ts, h1, h2⟩ := pj_of h
  exact pe_imp (pe_joined h1) fun σ H Q q => h2 _ σ H Q q
theorem px_joined1 (h : PX X m p e f) : PX X m p (.JoinedStr [e] pos) f := pe_joined1 h
end
end Fw
namespace Fw
open PySem PySem.Spec L2
open PyProof.Rows hiding St
structure Snap (K : PySem.W.Frag) (J : It) (G : Hp → Prop) (ds : List PyData) : Prop where
  mono : ∀ P P', Same P P' → G P → G P'
  go : ∀ (i : Nat) (P H : Hp), i < ds.length → G P → Same P H → J.go i H
  yld : ∀ (i : Nat) (P H : Hp) (y : V) (H' : Hp) (d : PyData), G P → Same P H → ds[i]? = some d → J.yld i H y H' → ∃ P', Same P P' ∧ Same P' H' ∧ Same H H' ∧ Fresh NoF P H P' ∧ Dq K P' y d
  stop : ∀ (P H : Hp), G P → Same P H → J.stop ds.length H
def tXI (K : PySem.W.Frag) (m : Bool) (f : SE (List PyData)) : TI := fun σ H R => ∃ (vs0 : List V) (P : Hp) (E : En) (fps : Nat → List Addr) (ds : List PyData) (E' : En), Rel K vs0 P E σ H fps ∧ f E = some (ds, E') ∧
  ∀ (P' H' : Hp) (fps' : Nat → List Addr) (J : It) (G : Hp → Prop), Rel K vs0 P' E' σ H' fps' → Step (In fps) P H (In fps') P' H' → (m = false → Same H H') → Snap K J G ds → G P' → R J H'
def PXI (X : Cx) (m : Bool) (tg e : Expr) (f : SE (List PyData)) : Prop := PI X tg e (tXI X.K m f)
def signs (z : Str) : List PyData := z.cps.toList.map fun c => .str ⟨#[c]⟩
def itemsOf : PyData → Option (List PyData)
  | .list ys => some ys
  | .tuple ys => some ys
  | .str z => some (signs z)
  | _ => none
theorem snap_list {K : PySem.W.Frag} {a : Addr} {vs : List V} {ds : List PyData} : Snap K (Itl K a) (fun P => P a = some (.lst vs) ∧ DqAll K P vs ds) ds where
  mono := fun P P' s h => ⟨s _ _ h.1, h.2.mono s⟩
  go := fun i P H hi h s => ⟨vs, vs[i]'(by rw [h.2.length]; exact hi), SqL.of (s _ _ h.1), by simp⟩
  yld := fun i P H y H' d h s hd hy => by
    obtain ⟨rfl, hy⟩ := hy
    obtain ⟨v, h1, h2⟩ := h.2.get hd
    have h3 := hy vs (SqL.of (s _ _ h.1))
    rw [h1] at h3
    cases h3
    exact ⟨P, Same.refl P, s, Same.refl _, .same, h2⟩
  stop := fun P H h s => ⟨vs, SqL.of (s _ _ h.1), by rw [h.2.length]; exact Nat.le_refl _⟩
theorem snap_tup {K : PySem.W.Frag} {a : Addr} {vs : List V} {ds : List PyData} : Snap K (Itt K a) (fun P => SqT K P a vs ∧ DqAll K P vs ds) ds where
  mono := fun P P' s h => ⟨seqT s h.1, h.2.mono s⟩
  go := fun i P H hi h s => ⟨vs, vs[i]'(by rw [h.2.length]; exact hi), seqT s h.1, by simp⟩
  yld := fun i P H y H' d h s hd hy => by
    obtain ⟨rfl, hy⟩ := hy
    obtain ⟨v, h1, h2⟩ := h.2.get hd
    have h3 := hy vs (seqT s h.1)
    rw [h1] at h3
    cases h3
    exact ⟨P, Same.refl P, s, Same.refl _, .same, h2⟩
  stop := fun P H h s => ⟨vs, seqT s h.1, by rw [h.2.length]; exact Nat.le_refl _⟩
theorem snap_str {K : PySem.W.Frag} {z : Str} : Snap K (Its z) (fun _ => True) (signs z) where
  mono := fun _ _ _ _ => trivial
  go := fun i P H hi _ _ => by
    show i < z.cps.size
    simpa [signs] using hi
  yld := fun i P H y H' d _ s hd hy => by
    obtain ⟨rfl, c, h1, rfl⟩ := hy
    refine ⟨P, Same.refl P, s, Same.refl _, .same, ?_⟩
    unfold signs at hd
    rw [List.getElem?_map, Array.getElem?_toList, h1] at hd
    cases hd
    exact .str _
  stop := fun P H _ _ => by
    show z.cps.size ≤ (signs z).length
    simp [signs]
theorem snap_scr {K : PySem.W.Frag} {a : Addr} {ns : List Int} : Snap K (Itl K a) (fun P => SqL K P a (ns.map V.int)) (ns.map PyData.int) where
  mono := fun P P' s h => s.seq h
  go := fun i P H hi h s => ⟨ns.map V.int, (ns.map V.int)[i]'(by simpa using hi), s.seq h, by simp⟩
  yld := fun i P H y H' d h s hd hy => by
    obtain ⟨rfl, hy⟩ := hy
    have h3 := hy _ (s.seq h)
    refine ⟨P, Same.refl P, s, Same.refl _, .same, ?_⟩
    rw [List.getElem?_map] at hd h3
    cases e : ns[i]? with
    | none => rw [e] at hd; cases hd
    | some n =>
      rw [e] at hd h3
      cases hd
      cases h3
      exact .int n
  stop := fun P H h s => ⟨_, s.seq h, by simp⟩
def rngL (lo : Int) (n : Nat) : List PyData := (List.range n).map fun i => .int (lo + (i : Nat))
theorem snap_rng {K : PySem.W.Frag} {lo : Int} {n : Nat} : Snap K (Itr lo n) (fun _ => True) (rngL lo n) where
  mono := fun _ _ _ _ => trivial
  go := fun i P H hi _ _ => by
    show i < n
    simpa [rngL] using hi
  yld := fun i P H y H' d _ s hd hy => by
    obtain ⟨rfl, rfl⟩ := hy
    refine ⟨P, Same.refl P, s, Same.refl _, .same, ?_⟩
    unfold rngL at hd
    rw [List.getElem?_map] at hd
    cases e : (List.range n)[i]? with
    | none => rw [e] at hd; cases hd
    | some k =>
      rw [e] at hd
      have : k = i := by
        have := List.getElem?_eq_some_iff.mp e
        obtain ⟨h1, h2⟩ := this
        rw [List.getElem_range] at h2
        exact h2.symm
      subst this
      cases hd
      exact .int _
  stop := fun P H _ _ => by
    show n ≤ (rngL lo n).length
    simp [rngL]
theorem pi_imp {X : Cx} {tg e : Expr} {t u : TI} (h : PI X tg e t) (i : ∀ σ H R, u σ H R → t σ H R) : PI X tg e u := ⟨fun pins s σ H R I q => h.run pins s σ H R I (i σ H R q)⟩
section
variable {X : Cx} {m m1 m2 m3 p p1 p2 p3 : Bool} {e a b c tg : Expr} {es : List Expr} {pos px apos : Pos} {f fa fb fc : SE PyData} {fs fs2 : SE (List PyData)} {x : Str}
/-- data that is walked -/
def sItems (fa : SE PyData) : SE (List PyData) := bnd fa fun d => lft (itemsOf d)
theorem pxi_data (h : PX X m true a fa) : PXI X m tg a (sItems fa) := ⟨fun pins s σ H R I q => by
  obtain ⟨vs0, P, E, fps, ds, E', rel, hh, q⟩ := q
  obtain ⟨d, E1, h1, hh⟩ := bnd_some hh
  obtain ⟨h2, rfl⟩ := lft_some hh
  unfold itemsOf at h2
  split at h2
  · cases h2
    refine (pi_list h).run pins s σ H R I ⟨vs0, P, E, fps, _, _, rel, h1, fun P1 H1 fps1 v r1 s1 m1' dv => ?_⟩
    cases dv with
    | @lst ad vs _ hx hv => exact ⟨ad, rfl, ⟨vs, SqL.of (r1.sub _ _ hx)⟩, q P1 H1 fps1 _ _ r1 s1 m1' snap_list ⟨hx, hv⟩⟩
  · cases h2
    refine (pi_tup h).run pins s σ H R I ⟨vs0, P, E, fps, _, _, rel, h1, fun P1 H1 fps1 v r1 s1 m1' dv => ?_⟩
    cases dv with
    | @tup ad vs _ hx hv => exact ⟨ad, rfl, ⟨vs, seqT r1.sub hx⟩, q P1 H1 fps1 _ _ r1 s1 m1' snap_tup ⟨hx, hv⟩⟩
  · cases h2
    refine (pi_str h).run pins s σ H R I ⟨vs0, P, E, fps, _, _, rel, h1, fun P1 H1 fps1 v r1 s1 m1' dv => ?_⟩
    exact ⟨_, dq_str dv, q P1 H1 fps1 _ _ r1 s1 m1' snap_str trivial⟩
  · cases h2⟩
/-- the script -/
def sScr (i : Nat) : SE (List PyData) := fun E => match E[i]? with
  | some (.scr ns) => some (ns.map .int, E)
  | _ => none
theorem pxi_scr {i : Nat} (h : PE X a (tVar i)) : PXI X false tg a (sScr i) := pi_imp (pi_list h) fun σ H R => by
  rintro ⟨vs0, P, E, fps, ds, E', rel, hh, q⟩
  unfold sScr at hh
  split at hh
  · rename_i ns e1
    cases hh
    obtain ⟨ov, e2, s⟩ := rel.sl i _ e1
    generalize hfp : fps i = fp at s
    cases s with
    | scr hs => exact ⟨_, e2, _, rfl, ⟨_, rel.sub.seq hs⟩, q P H fps _ _ rel (.refl _ _ _) (fun _ => Same.refl H) snap_scr hs⟩
  · cases hh
/-- range(n), range(a, b) -/
def sRng1 (fa : SE PyData) : SE (List PyData) := bnd fa fun d => match d with
  | .int j => if -(2 ^ 62) ≤ j ∧ j < 2 ^ 62 then ret (rngL 0 j.toNat) else fun _ => none
  | _ => fun _ => none
theorem pxi_rng1 (hg : Gl X "range") (hm : X.mg "range" = none) (h : PX X m p a fa) (hs : starEach [a] X.env = [(false, eval a X.env)] := by rfl) : PXI X m tg (.Call (.Name "range" px) [a] [] pos) (sRng1 fa) := pi_imp (pi_range1 hg hm (pa_cons h pa_nil hs) hs) fun σ H R => by
  rintro ⟨vs0, P, E, fps, ds, E', rel, hh, q⟩
  obtain ⟨d, E1, h1, hh⟩ := bnd_some hh
  split at hh
  · split at hh
    · rename_i j hj
      obtain ⟨rfl, rfl⟩ := ret_some hh
      refine ⟨vs0, P, E, fps, _, _, rel, h1, fun P1 H1 fps1 v r1 s1 m1' dv => ⟨j, by rw [dq_int dv], hj.1, hj.2, q P1 H1 fps1 _ _ r1 s1 m1' snap_rng trivial⟩⟩
    · cases hh
  · cases hh
def sRng2 (fa fb : SE PyData) : SE (List PyData) := bnd fa fun d => bnd fb fun e => match d, e with
  | .int i, .int j => if -(2 ^ 62) ≤ i ∧ i < 2 ^ 62 ∧ -(2 ^ 62) ≤ j ∧ j < 2 ^ 62 then ret (rngL i (j - i).toNat) else fun _ => none
  | _, _ => fun _ => none
theorem pxi_rng2 (hg : Gl X "range") (hm : X.mg "range" = none) (ha : PX X m1 p1 a fa) (hb : PX X m2 p2 b fb) (hs : starEach [a, b] X.env = [(false, eval a X.env), (false, eval b X.env)] := by rfl) (hs2 : starEach [b] X.env = [(false, eval b X.env)] := by rfl) : PXI X (m1 || m2) tg (.Call (.Name "range" px) [a, b] [] pos) (sRng2 fa fb) :=
  pi_imp (pi_range2 hg hm (pa_cons ha (pa_cons hb pa_nil hs2) (by rw [hs, hs2])) hs hs2) fun σ H R => by
  rintro ⟨vs0, P, E, fps, ds, E', rel, hh, q⟩
  obtain ⟨d, E1, h1, hh⟩ := bnd_some hh
  obtain ⟨d2, E2, h2, hh⟩ := bnd_some hh
  split at hh
  · split at hh
    · rename_i hj
      obtain ⟨rfl, rfl⟩ := ret_some hh
      refine ⟨vs0, P, E, fps, _, _, rel, h1, fun P1 H1 fps1 v r1 s1 m1' dv => ⟨vs0, P1, _, fps1, _, _, r1, h2, fun P2 H2 fps2 w r2 s2 m2' dw => ⟨_, _, by rw [dq_int dv, dq_int dw], hj, q P2 H2 fps2 _ _ r2 (s1.trans s2) (fun hm => ?_) snap_rng trivial⟩⟩⟩
      rw [Bool.or_eq_false_iff] at hm
      exact (m1' hm.1).trans (m2' hm.2)
    · cases hh
  · cases hh
/-- the name of a list that is not changed any more -/
def rdA (i : Nat) : SE PyData := fun E => match E[i]? with
  | some (.dat d) => some (d, E)
  | some (.own xs) => some (.list xs, E.set i (.dat (.list xs)))
  | _ => none
end

section
variable {K : PySem.W.Frag} {vs0 : List V} {P P' : Hp} {E E' : En} {σ σ' : L2.St} {H H' : Hp} {fps fps' : Nat → List Addr}
def clr (fps : Nat → List Addr) (i : Nat) (l : List Addr) : Nat → List Addr := fun j => if j = i then l else fps j
theorem in_clr {i : Nat} {l : List Addr} {a : Addr} (h : In (clr fps i l) a) : a ∈ l ∨ In fps a := by
  obtain ⟨j, hj⟩ := h
  unfold clr at hj
  split at hj
  · exact .inl hj
  · exact .inr ⟨j, hj⟩
theorem Rel.put {i : Nat} {s : Sl} {ov : Option V} {l : List Addr} (r : Rel K vs0 P E σ H fps) (hs : SlR K P H s ov l) (hl : ∀ a ∈ l, ∀ j, j ≠ i → a ∉ fps j) (hp : ∀ xs v, vs0[i]? = some v → s = .own xs → ov = some v) : Rel K vs0 P (E.set i s) (σ.set i ov) H (if i < E.length then clr fps i l else fps) := by
  by_cases hi : i < E.length
  · rw [if_pos hi]
    have hi' : i < σ.length := by rw [← r.len]; exact hi
    refine ⟨r.sub, by rw [List.length_set, List.length_set]; exact r.len, fun j t ht => ?_, fun j hj => ?_, fun j k a hj hk => ?_, fun j xs v hv ht => ?_⟩
    · by_cases e : i = j
      · subst e
        rw [List.getElem?_set_self hi] at ht
        cases ht
        exact ⟨ov, List.getElem?_set_self hi', by unfold clr; rw [if_pos rfl]; exact hs⟩
      · rw [List.getElem?_set_ne e] at ht
        obtain ⟨w, h1, h2⟩ := r.sl j t ht
        exact ⟨w, by rw [List.getElem?_set_ne e]; exact h1, by unfold clr; rw [if_neg (Ne.symm e)]; exact h2⟩
    · rw [List.length_set] at hj
      unfold clr
      rw [if_neg (by omega)]
      exact r.out j hj
    · unfold clr at hj hk
      by_cases e1 : j = i
      · by_cases e2 : k = i
        · exact e1.trans e2.symm
        · rw [if_pos e1] at hj
          rw [if_neg e2] at hk
          exact absurd hk (hl a hj k e2)
      · by_cases e2 : k = i
        · rw [if_neg e1] at hj
          rw [if_pos e2] at hk
          exact absurd hj (hl a hk j e1)
        · rw [if_neg e1] at hj
          rw [if_neg e2] at hk
          exact r.dj j k a hj hk
    · by_cases e : i = j
      · subst e
        rw [List.getElem?_set_self hi] at ht
        rw [List.getElem?_set_self hi']
        exact congrArg some (hp xs v hv (Option.some.inj ht))
      · rw [List.getElem?_set_ne e] at ht
        rw [List.getElem?_set_ne e]
        exact r.par j xs v hv ht
  · rw [if_neg hi]
    have hi' : ¬ i < σ.length := by rw [← r.len]; exact hi
    rw [List.set_eq_of_length_le (by omega), List.set_eq_of_length_le (by omega)]
    exact r
theorem Rel.putDat {i : Nat} {d : PyData} {v : V} (r : Rel K vs0 P E σ H fps) (h : Dq K P v d) : ∃ fps', Rel K vs0 P (E.set i (.dat d)) (σ.set i (some v)) H fps' ∧ Step (In fps) P H (In fps') P H := by
  refine ⟨_, r.put (.dat h) (fun a ha => nomatch ha) (fun xs v' _ e => nomatch e), Same.refl P, fun a o h1 _ => h1, .same, fun a ha => ?_, fun a o h1 => ⟨o, h1⟩⟩
  split at ha
  · rcases in_clr ha with h1 | h1
    · cases h1
    · exact .inl h1
  · exact .inl ha
theorem Rel.putUn {i : Nat} {ov : Option V} (r : Rel K vs0 P E σ H fps) : ∃ fps', Rel K vs0 P (E.set i .un) (σ.set i ov) H fps' ∧ Step (In fps) P H (In fps') P H := by
  refine ⟨_, r.put .un (fun a ha => nomatch ha) (fun xs v' _ e => nomatch e), Same.refl P, fun a o h1 _ => h1, .same, fun a ha => ?_, fun a o h1 => ⟨o, h1⟩⟩
  split at ha
  · rcases in_clr ha with h1 | h1
    · cases h1
    · exact .inl h1
  · exact .inl ha
/-- an owned list becomes data -/
theorem Rel.freeze {i : Nat} {xs : List PyData} (r : Rel K vs0 P E σ H fps) (h : own? i E = some xs) : ∃ (ad : Addr) (vs : List V), σ[i]? = some (some (.ref ad)) ∧ Rel K vs0 (upd P ad (.lst vs)) (E.set i (.dat (.list xs))) σ H (clr fps i []) ∧
    Step (In fps) P H (In (clr fps i [])) (upd P ad (.lst vs)) H ∧ Dq K (upd P ad (.lst vs)) (.ref ad) (.list xs) := by
  obtain ⟨ad, vs, es, ef, pa, ha, dv⟩ := r.ownAt h
  have s1 : Same P (upd P ad (.lst vs)) := Fw.same_upd pa
  have dq : Dq K (upd P ad (.lst vs)) (.ref ad) (.list xs) := .lst upd_same (dv.mono s1)
  have hi : i < E.length := by
    have := own?_some h
    exact (List.getElem?_eq_some_iff.mp this).1
  refine ⟨ad, vs, es, ⟨fun x u hx => ?_, by rw [List.length_set]; exact r.len, fun j t ht => ?_, fun j hj => ?_, fun j k a hj hk => ?_, fun j ys v hv ht => ?_⟩, ⟨s1, fun a o h1 _ => h1, fun a o hx => ?_, fun a ha' => ?_, fun a o h1 => ⟨o, h1⟩⟩, dq⟩
  · by_cases e : x = ad
    · subst e
      rw [upd_same] at hx
      cases hx
      exact ha
    · rw [upd_ne e] at hx
      exact r.sub x u hx
  · by_cases e : i = j
    · subst e
      rw [List.getElem?_set_self hi] at ht
      cases ht
      exact ⟨_, es, by unfold clr; rw [if_pos rfl]; exact .dat dq⟩
    · rw [List.getElem?_set_ne e] at ht
      obtain ⟨ov, h1, h2⟩ := r.sl j t ht
      refine ⟨ov, h1, ?_⟩
      unfold clr
      rw [if_neg (Ne.symm e)]
      refine h2.mono s1 fun a ha' => ⟨rfl, ?_⟩
      have : a ≠ ad := fun z => e (r.dj i j ad (by rw [ef]; exact List.mem_singleton.mpr rfl) (z ▸ ha'))
      rw [upd_ne this]
      exact (h2.foot ha').1
  · rw [List.length_set] at hj
    unfold clr
    rw [if_neg (by omega)]
    exact r.out j hj
  · unfold clr at hj hk
    split at hj
    · cases hj
    · split at hk
      · cases hk
      · exact r.dj j k a hj hk
  · by_cases e : i = j
    · subst e
      rw [List.getElem?_set_self hi] at ht
      cases ht
    · rw [List.getElem?_set_ne e] at ht
      exact r.par j ys v hv ht
  · by_cases e : a = ad
    · subst e
      exact .inr (.inr ⟨i, by rw [ef]; exact List.mem_singleton.mpr rfl⟩)
    · rw [upd_ne e] at hx
      exact .inl ⟨o, hx⟩
  · rcases in_clr ha' with h1 | h1
    · cases h1
    · exact .inl h1
end
section
variable {X : Cx} {m m1 m2 m3 p p1 p2 p3 : Bool} {e a b c tg : Expr} {es : List Expr} {pos px apos : Pos} {f fa fb fc : SE PyData} {fs fs2 : SE (List PyData)} {x : Str}
theorem px_any {i : Nat} (h : PE X e (tVar i)) : PX X true true e (rdA i) := pe_imp h fun σ H Q => by
  rintro ⟨vs0, P, E, fps, d, E', r, hf, q⟩
  unfold rdA at hf
  split at hf
  · rename_i d' e1
    cases hf
    obtain ⟨ov, e2, s⟩ := r.sl i _ e1
    generalize hfp : fps i = fp at s
    cases s with
    | dat dv => exact ⟨_, e2, q P H fps _ r (.refl _ _ _) (fun h => nomatch h) dv⟩
  · rename_i xs e1
    cases hf
    have e2 : own? i E = some xs := by unfold own?; rw [e1]
    obtain ⟨ad, vs, es, r1, s1, dq⟩ := r.freeze e2
    exact ⟨_, es, q _ H _ _ r1 s1 (fun h => nomatch h) dq⟩
  · cases hf
end
end Fw
namespace Fw
open PySem PySem.Spec L2
open PyProof.Rows hiding St
inductive Fl where
  | nx | bk | ct
  | rt (s : Sl)
abbrev SS := En → Option (Fl × En)
/-- what is wanted behind a statement that ends so -/
def Con (K : PySem.W.Frag) (vs0 : List V) (D : Ends) (F : Addr → Prop) (P H : Hp) : Fl → En → Prop
  | .nx, E' => ∀ (P' H' : Hp) (fps' : Nat → List Addr) (σ' : L2.St), Rel K vs0 P' E' σ' H' fps' → Step F P H (In fps') P' H' → D.nx σ' H'
  | .bk, E' => ∀ (P' H' : Hp) (fps' : Nat → List Addr) (σ' : L2.St), Rel K vs0 P' E' σ' H' fps' → Step F P H (In fps') P' H' → D.bk σ' H'
  | .ct, E' => ∀ (P' H' : Hp) (fps' : Nat → List Addr) (σ' : L2.St), Rel K vs0 P' E' σ' H' fps' → Step F P H (In fps') P' H' → D.ct σ' H'
  | .rt s, E' => ∀ (P' H' : Hp) (fps' : Nat → List Addr) (σ' : L2.St) (v : V) (fr : List Addr), Rel K vs0 P' E' σ' H' fps' → Step F P H (fun a => In fps' a ∨ a ∈ fr) P' H' → SlR K P' H' s (some v) fr → (∀ a ∈ fr, ¬ In fps' a) → D.rt v H'
theorem Con.on {K : PySem.W.Frag} {vs0 : List V} {D : Ends} {F F1 : Addr → Prop} {P H P1 H1 : Hp} {fl : Fl} {E' : En} (c : Con K vs0 D F P H fl E') (s : Step F P H F1 P1 H1) : Con K vs0 D F1 P1 H1 fl E' := by
  cases fl with
  | nx => exact fun P' H' fps' σ' r st => c P' H' fps' σ' r (s.trans st)
  | bk => exact fun P' H' fps' σ' r st => c P' H' fps' σ' r (s.trans st)
  | ct => exact fun P' H' fps' σ' r st => c P' H' fps' σ' r (s.trans st)
  | rt s' => exact fun P' H' fps' σ' v fr r st q1 q2 => c P' H' fps' σ' v fr r (s.trans st) q1 q2
/-- n: the parameters' number -/
def tS (K : PySem.W.Frag) (n : Nat) (f : SS) : TS := fun D σ H => ∃ (vs0 : List V) (P : Hp) (E : En) (fps : Nat → List Addr) (fl : Fl) (E' : En), vs0.length = n ∧ Rel K vs0 P E σ H fps ∧ f E = some (fl, E') ∧ Con K vs0 D (In fps) P H fl E'
def PXS1 (X : Cx) (n : Nat) (st : Stmt) (f : SS) : Prop := PS X st (tS X.K n f)
def PXS (X : Cx) (n : Nat) (st : List Stmt) (f : SS) : Prop := PSs X st (tS X.K n f)
def seqS (f g : SS) : SS := fun E => match f E with
  | some (.nx, E') => g E'
  | r => r
def nxt : SS := fun E => some (.nx, E)
section
variable {X : Cx} {n : Nat} {m m1 m2 m3 p p1 p2 p3 : Bool} {st : Stmt} {sts sts2 : List Stmt} {e a b c tg : Expr} {es : List Expr} {pos px apos : Pos} {f fa fb fc : SE PyData} {fs fs2 : SE (List PyData)} {x : Str} {g h : SS}
theorem pxs_nil : PXS X n [] nxt := pss_imp pss_nil fun D σ H => by
  rintro ⟨vs0, P, E, fps, fl, E', hn, r, hf, q⟩
  cases hf
  exact q P H fps σ r (.refl _ _ _)
theorem pxs_one (h1 : PXS1 X n st g) : PXS X n [st] g := pss_one h1
theorem pxs_cons (h1 : PXS1 X n st g) (h2 : PXS X n sts h) : PXS X n (st :: sts) (seqS g h) := pss_imp (pss_cons h1 h2) fun D σ H => by
  rintro ⟨vs0, P, E, fps, fl, E', hn, r, hf, q⟩
  unfold seqS at hf
  split at hf
  · rename_i E1 e1
    exact ⟨vs0, P, E, fps, .nx, E1, hn, r, e1, fun P1 H1 fps1 σ1 r1 s1 => ⟨vs0, P1, E1, fps1, fl, E', hn, r1, hf, q.on s1⟩⟩
  · rename_i hne
    refine ⟨vs0, P, E, fps, fl, E', hn, r, hf, ?_⟩
    cases fl with
    | nx => exact absurd hf (hne E')
    | bk => exact q
    | ct => exact q
    | rt s => exact q
theorem pxs_pass : PXS1 X n (.Pass pos) nxt := ps_imp ps_pass fun D σ H => by
  rintro ⟨vs0, P, E, fps, fl, E', hn, r, hf, q⟩
  cases hf
  exact q P H fps σ r (.refl _ _ _)
def brkS : SS := fun E => some (.bk, E)
def cntS : SS := fun E => some (.ct, E)
theorem pxs_break : PXS1 X n (.Break pos) brkS := ps_imp ps_break fun D σ H => by
  rintro ⟨vs0, P, E, fps, fl, E', hn, r, hf, q⟩
  cases hf
  exact q P H fps σ r (.refl _ _ _)
theorem pxs_cont : PXS1 X n (.Continue pos) cntS := ps_imp ps_continue fun D σ H => by
  rintro ⟨vs0, P, E, fps, fl, E', hn, r, hf, q⟩
  cases hf
  exact q P H fps σ r (.refl _ _ _)
/-- an expression dropped -/
def drpS (fa : SE PyData) : SS := fun E => match fa E with
  | some (_, E') => some (.nx, E')
  | none => none
theorem pxs_drop (h1 : PX X m p e fa) (hs : swapsWith e none pos.line X.env = pure false := by rfl) : PXS1 X n (.Expr e pos) (drpS fa) := ps_imp (ps_expr h1 hs) fun D σ H => by
  rintro ⟨vs0, P, E, fps, fl, E', hn, r, hf, q⟩
  unfold drpS at hf
  split at hf
  · rename_i d E1 e1
    cases hf
    exact ⟨vs0, P, E, fps, d, _, r, e1, fun P1 H1 fps1 v r1 s1 _ _ => q P1 H1 fps1 σ r1 s1⟩
  · cases hf
/-- x = data -/
def asg (i : Nat) (fa : SE PyData) : SS := fun E => match fa E with
  | some (d, E') => some (.nx, E'.set i (.dat d))
  | none => none
theorem pxs_asg {i : Nat} {pos' : Pos} (hN : X.N.Nodup) (hi : X.N[i]? = some x) (hx : Loc X.env.scope x) (h1 : PX X m true e fa) (hs : swapsWith e (some (.Name x pos')) pos.line X.env = pure false := by rfl) (hf : X.fn x = true ∨ X.env.scope.names.lookup x = some .local := by first | exact .inl rfl | exact .inr rfl | assumption) :
    PXS1 X n (.Assign [.Name x pos'] e pos) (asg i fa) := ps_imp (ps_set hN hi hx h1 hs hf) fun D σ H => by
  rintro ⟨vs0, P, E, fps, fl, E', hn, r, hf, q⟩
  unfold asg at hf
  split at hf
  · rename_i d E1 e1
    cases hf
    refine ⟨vs0, P, E, fps, d, E1, r, e1, fun P1 H1 fps1 v r1 s1 _ dv => ?_⟩
    obtain ⟨fps2, r2, s2⟩ := r1.putDat (i := i) dv
    exact q P1 H1 fps2 _ r2 (s1.trans s2)
  · cases hf
/-- x = a new list that x owns -/
def asgL (i : Nat) (fs : SE (List PyData)) : SS := fun E => match fs E with
  | some (ds, E') => some (.nx, E'.set i (.own ds))
  | none => none
theorem pxs_asgL {i : Nat} {pos' : Pos} (hi' : n ≤ i) (hN : X.N.Nodup) (hi : X.N[i]? = some x) (hx : Loc X.env.scope x) (h1 : PL X m e fs) (hs : swapsWith e (some (.Name x pos')) pos.line X.env = pure false := by rfl) (hf : X.fn x = true ∨ X.env.scope.names.lookup x = some .local := by first | exact .inl rfl | exact .inr rfl | assumption) :
    PXS1 X n (.Assign [.Name x pos'] e pos) (asgL i fs) := ps_imp (ps_set hN hi hx h1 hs hf) fun D σ H => by
  rintro ⟨vs0, P, E, fps, fl, E', hn, r, hf, q⟩
  unfold asgL at hf
  split at hf
  · rename_i ds E1 e1
    cases hf
    refine ⟨vs0, P, E, fps, ds, E1, r, e1, fun P1 H1 fps1 ad vs r1 s1 _ ha pa nf hv dv => ?_⟩
    have r2 := r1.put (i := i) (s := .own ds) (ov := some (.ref ad)) (l := [ad]) (.own pa hv dv) (fun y hy j _ hj => by
      cases List.mem_singleton.mp hy
      exact nf ⟨j, hj⟩) (fun xs v hv' _ => by
        have := (List.getElem?_eq_some_iff.mp hv').1
        omega)
    refine q P1 H1 _ _ r2 ⟨s1.pp, s1.keep, s1.fresh, fun y hy => ?_, s1.live⟩
    split at hy
    · rcases in_clr hy with h2 | h2
      · cases List.mem_singleton.mp h2
        exact .inr ha
      · exact s1.foot y h2
    · exact s1.foot y hy
  · cases hf
/-- targets -/
def tXG (K : PySem.W.Frag) (ts : List Nat) (b : PyData → En → Option En) : TG := fun v σ H Q => ∃ (vs0 : List V) (P : Hp) (E : En) (fps : Nat → List Addr) (d : PyData) (E' : En), Rel K vs0 P E σ H fps ∧ Dq K P v d ∧ b d E = some E' ∧
  ∀ (fps' : Nat → List Addr) (σ' : L2.St), Rel K vs0 P E' σ' H fps' → Step (In fps) P H (In fps') P H → σ'.length = σ.length → (∀ k, k ∉ ts → σ'[k]? = σ[k]?) → Q σ' H
def PXG (X : Cx) (ts : List Nat) (tg : Expr) (b : PyData → En → Option En) : Prop := PG X tg (tXG X.K ts b)
theorem pg_imp {X : Cx} {tg : Expr} {t u : TG} (h : PG X tg t) (i : ∀ v σ H Q, u v σ H Q → t v σ H Q) : PG X tg u := ⟨fun pins s σ H v w Q I r q => h.run pins s σ H v w Q I r (i v σ H Q q)⟩
def toN (i : Nat) : PyData → En → Option En := fun d E => some (E.set i (.dat d))
theorem pxg_name {i : Nat} (hN : X.N.Nodup) (hi : X.N[i]? = some x) (hx : Loc X.env.scope x) (hf : X.fn x = true ∨ X.env.scope.names.lookup x = some .local := by first | exact .inl rfl | exact .inr rfl | assumption) : PXG X [i] (.Name x pos) (toN i) := pg_imp (pg_name hN hi hx hf) fun v σ H Q => by
  rintro ⟨vs0, P, E, fps, d, E', r, dv, hb, q⟩
  cases hb
  obtain ⟨fps2, r2, s2⟩ := r.putDat (i := i) dv
  exact q fps2 _ r2 s2 (List.length_set ..) fun k hk => List.getElem?_set_ne (fun z => hk (by rw [z]; exact List.mem_singleton.mpr rfl))
/-- several plain names -/
inductive PXGs (X : Cx) : List Expr → List Nat → TGs → Prop where
  | nil : PXGs X [] [] gNil
  | cons {es : List Expr} {is : List Nat} {t : TGs} {x : Str} {i : Nat} {pos : Pos} (h : PXGs X es is t) : PXGs X (.Name x pos :: es) (i :: is) (gCons (gName i) t)
def toNs : List Nat → List PyData → En → Option En
  | [], [], E => some E
  | i :: is, d :: ds, E => toNs is ds (E.set i (.dat d))
  | _, _, _ => none
def gNs : List Nat → TGs
  | [] => gNil
  | i :: is => gCons (gName i) (gNs is)
theorem gNs_run {K : PySem.W.Frag} {vs0 : List V} {P H : Hp} : ∀ (is : List Nat) (ds : List PyData) (vs : List V) (E E' : En) (σ : L2.St) (fps : Nat → List Addr) (Q : L2.St → Hp → Prop), Rel K vs0 P E σ H fps → DqAll K P vs ds → toNs is ds E = some E' →
    (∀ (fps' : Nat → List Addr) (σ' : L2.St), Rel K vs0 P E' σ' H fps' → Step (In fps) P H (In fps') P H → σ'.length = σ.length → (∀ k, k ∉ is → σ'[k]? = σ[k]?) → Q σ' H) → gNs is vs σ H Q
  | [], [], _, E, E', σ, fps, Q, r, .nil, h, q => by
    cases h
    exact ⟨rfl, q fps σ r (.refl _ _ _) rfl fun _ _ => rfl⟩
  | [], _ :: _, _, _, _, _, _, _, _, _, h, _ => by cases h
  | _ :: _, [], _, _, _, _, _, _, _, _, h, _ => by cases h
  | i :: is, d :: ds, _, E, E', σ, fps, Q, r, .cons (v := v) (vs := vs) dv dr, h, q => by
    obtain ⟨fps2, r2, s2⟩ := r.putDat (i := i) dv
    refine ⟨v, vs, rfl, gNs_run is ds vs _ E' _ fps2 Q r2 dr h fun fps' σ' r' s' hl hk => q fps' σ' r' (s2.trans s') (hl.trans (List.length_set ..)) fun k hk' => ?_⟩
    rw [List.mem_cons, not_or] at hk'
    rw [hk k hk'.2, List.getElem?_set_ne (fun z => hk'.1 z.symm)]
def toT (is : List Nat) : PyData → En → Option En := fun d E => match d with
  | .tuple ds => if ds.length = is.length then toNs is ds E else none
  | _ => none
theorem pxg_tup {is : List Nat} {k : Nat} {l : Nat} (hc : X.calm = true) (h : PGs X es (gNs is)) (hl : l = is.length) (hn : (assignEach es X.env).length = l := by rfl) (hst : (assignEach es X.env).findIdx? (·.1) = none := by rfl) : PXG X is (.Tuple es k pos) (toT is) := pg_imp (pg_tup hc h hn hst) fun v σ H Q => by
  rintro ⟨vs0, P, E, fps, d, E', r, dv, hb, q⟩
  unfold toT at hb
  split at hb
  · split at hb
    · rename_i hl2
      cases dv with
      | @tup ad vs ds ha hv => exact ⟨ad, vs, rfl, seqT r.sub ha, by rw [hv.length, hl2, hl], gNs_run is _ vs E E' σ fps Q r hv hb q⟩
    · cases hb
  · cases hb
/-- targets = data -/
def asgG (b : PyData → En → Option En) (fa : SE PyData) : SS := fun E => match fa E with
  | some (d, E') => match b d E' with
    | some E2 => some (.nx, E2)
    | none => none
  | none => none
theorem pxs_asgG {ts : List Nat} {bb : PyData → En → Option En} (h1 : PX X m true e fa) (hg : PXG X ts tg bb) (hs : swapsWithSole [tg] e pos.line X.env = pure false := by rfl) (hw : swappedStores [tg] e X.env = pure none := by rfl)
    (h2 : (assignEach [tg] X.env).map (·.2) = [assign tg X.env] := by rfl) : PXS1 X n (.Assign [tg] e pos) (asgG bb fa) := ps_imp (ps_asg h1 hg hs hw h2) fun D σ H => by
  rintro ⟨vs0, P, E, fps, fl, E', hn, r, hf, q⟩
  unfold asgG at hf
  split at hf
  · rename_i d E1 e1
    split at hf
    · rename_i E2 e2
      cases hf
      exact ⟨vs0, P, E, fps, d, E1, r, e1, fun P1 H1 fps1 v r1 s1 _ dv => ⟨vs0, P1, E1, fps1, d, _, r1, dv, e2, fun fps2 σ2 r2 s2 _ _ => q P1 H1 fps2 σ2 r2 (s1.trans s2)⟩⟩
    · cases hf
  · cases hf
/-- x += e, ints -/
def augS (i : Nat) (fn : Int → Int → Int) (fa : SE PyData) : SS := fun E => match E[i]? with
  | some (.dat (.int k)) => match fa E with
    | some (.int j, E') => some (.nx, E'.set i (.dat (.int (fn k j))))
    | _ => none
  | _ => none
theorem pxs_aug {i : Nat} {op : Operator} {fn : Int → Int → Int} {pos' : Pos} (ho : PIp X op (ipI fn)) (hN : X.N.Nodup) (hi : X.N[i]? = some x) (hx : Loc X.env.scope x) (h1 : PX X m p e fa) (hf : X.fn x = true ∨ X.env.scope.names.lookup x = some .local := by first | exact .inl rfl | exact .inr rfl | assumption) :
    PXS1 X n (.AugAssign (.Name x pos') op e pos) (augS i fn fa) := ps_imp (ps_aug hN hi hx h1 ho hf) fun D σ H => by
  rintro ⟨vs0, P, E, fps, fl, E', hn, r, hf, q⟩
  unfold augS at hf
  split at hf
  · rename_i k e0
    split at hf
    · rename_i j E1 e1
      cases hf
      obtain ⟨ov, e2, s⟩ := r.sl i _ e0
      generalize hfp : fps i = fp at s
      cases s with
      | dat dk =>
        rw [dq_int dk] at e2
        refine ⟨.int k, e2, vs0, P, E, fps, _, E1, r, e1, fun P1 H1 fps1 v r1 s1 _ dv => ⟨k, j, rfl, dq_int dv, ?_⟩⟩
        obtain ⟨fps2, r2, s2⟩ := r1.putDat (i := i) (.int (fn k j))
        exact q P1 H1 fps2 _ r2 (s1.trans s2)
    · cases hf
  · cases hf
/-- l[i] = e -/
theorem Rel.write {K : PySem.W.Frag} {vs0 : List V} {P H : Hp} {E : En} {σ : L2.St} {fps : Nat → List Addr} (r : Rel K vs0 P E σ H fps) {i : Nat} {xs : List PyData} (h : own? i E = some xs) {ad : Addr} (es : σ[i]? = some (some (.ref ad))) {ws : List V} {ys : List PyData} (dw : DqAll K P ws ys) :
    Rel K vs0 P (E.set i (.own ys)) σ (upd H ad (.lst ws)) fps ∧ Step (In fps) P H (In fps) P (upd H ad (.lst ws)) := by
  obtain ⟨ad2, vs, es2, ef, pa, ha, dv⟩ := r.ownAt h
  rw [es] at es2
  cases es2
  have hi : i < E.length := (List.getElem?_eq_some_iff.mp (own?_some h)).1
  refine ⟨⟨fun x u hx => ?_, by rw [List.length_set]; exact r.len, fun j t ht => ?_, fun j hj => by rw [List.length_set] at hj; exact r.out j hj, r.dj, fun j zs v hv ht => ?_⟩, Same.refl P, fun a o h1 nf => ?_, .same, fun a ha' => .inl ha', fun a o h1 => ?_⟩
  · have : x ≠ ad := fun z => by rw [z, pa] at hx; cases hx
    rw [upd_ne this]
    exact r.sub x u hx
  · by_cases e : i = j
    · subst e
      rw [List.getElem?_set_self hi] at ht
      cases ht
      exact ⟨_, es, by rw [ef]; exact .own pa upd_same dw⟩
    · rw [List.getElem?_set_ne e] at ht
      obtain ⟨ov, h1, h2⟩ := r.sl j t ht
      refine ⟨ov, h1, h2.mono (Same.refl P) fun y hy => ⟨?_, (h2.foot hy).1⟩⟩
      have : y ≠ ad := fun z => e (r.dj i j ad (by rw [ef]; exact List.mem_singleton.mpr rfl) (z ▸ hy))
      rw [upd_ne this]
  · by_cases e : i = j
    · subst e
      exact r.par i xs v hv (own?_some h)
    · rw [List.getElem?_set_ne e] at ht
      exact r.par j zs v hv ht
  · have : a ≠ ad := fun z => nf ⟨i, by rw [ef, z]; exact List.mem_singleton.mpr rfl⟩
    rw [upd_ne this]
    exact h1
  · by_cases e : a = ad
    · subst e
      exact ⟨_, upd_same⟩
    · rw [upd_ne e]
      exact ⟨o, h1⟩
def setO (i : Nat) (fa fi : SE PyData) : SS := fun E => match fa E with
  | some (d, E1) => match own? i E1 with
    | some _ => match fi E1 with
      | some (.int k, E2) => match own? i E2 with
        | some xs => match ixN xs.length k with
          | some j => some (.nx, E2.set i (.own (xs.set j d)))
          | none => none
        | none => none
      | _ => none
    | none => none
  | none => none
theorem pxs_setO {i : Nat} (h1 : PX X m1 true e fa) (ho : PE X a (tVar i)) (hi : PX X m2 p2 b fb) (hst : ∀ v, assign (.Subscript a b px) X.env v = (do
      let ov ← holding [v] (eval a X.env)
      let iv ← holding [v, ov] (eval b X.env)
      standAt px
      holding [v, ov, iv] (setItem ov iv v)
      release [v, ov, iv] []) := by intro _; rfl) (hs : swapsWithSole [.Subscript a b px] e pos.line X.env = pure false := by rfl) (hw : swappedStores [.Subscript a b px] e X.env = pure none := by rfl)
    (h2 : (assignEach [.Subscript a b px] X.env).map (·.2) = [assign (.Subscript a b px) X.env] := by rfl) : PXS1 X n (.Assign [.Subscript a b px] e pos) (setO i fa fb) := ps_imp (ps_asg h1 (pg_sub ho hi set_list hst) hs hw h2) fun D σ H => by
  rintro ⟨vs0, P, E, fps, fl, E', hn, r, hf, q⟩
  unfold setO at hf
  split at hf
  · rename_i d E1 e1
    split at hf
    · rename_i xs0 e0
      split at hf
      · rename_i k E2 e2
        split at hf
        · rename_i xs e3
          split at hf
          · rename_i j e4
            cases hf
            refine ⟨vs0, P, E, fps, d, E1, r, e1, fun P1 H1 fps1 v r1 s1 _ dv => ?_⟩
            obtain ⟨ad, vs1, es1, -, -, -, -⟩ := r1.ownAt e0
            refine ⟨_, es1, vs0, P1, E1, fps1, _, E2, r1, e2, fun P2 H2 fps2 w r2 s2 _ dw => ?_⟩
            obtain ⟨ad2, vs, es, ef, pa, ha, dx⟩ := r2.ownAt e3
            rw [es1] at es
            cases es
            refine ⟨ad, vs, k, j, rfl, dq_int dw, ha, by rw [dx.length]; exact e4, ?_⟩
            obtain ⟨r3, s3⟩ := r2.write e3 es1 (dx.set (dv.mono s2.pp) j)
            exact q P2 _ fps2 σ r3 ((s1.trans s2).trans s3)
          · cases hf
        · cases hf
      · cases hf
    · cases hf
  · cases hf
/-- l.append(e) -/
def appO (i : Nat) (fa : SE PyData) : SS := fun E => match own? i E with
  | some _ => match fa E with
    | some (d, E1) => match own? i E1 with
      | some xs => if xs.length < sizeLine then some (.nx, E1.set i (.own (xs ++ [d]))) else none
      | none => none
    | none => none
  | none => none
theorem pxs_appO {i : Nat} (ho : PE X a (tVar i)) (h1 : PX X m true b fa) (hs : swapsWith (.Call (.Attribute a "append" apos) [b] [] px) none pos.line X.env = pure false := by rfl)
    (hb : attributeBase a "append" X.env (eval a X.env) = eval a X.env := by rfl)
    (h3 : ((((backTo px (starEach [b] X.env)).all fun x => !x.fst) && (backToKw px (keywordEach [] X.env)).all fun x => x.fst.isSome) && decide (([b] : List Expr).length + ([] : List Keyword).length + (if ([] : List Keyword).isEmpty = true then 0 else 1) < 30)) = true := by rfl)
    (hline : (apos.endLine == px.line) = true := by rfl) (he : starEach [b] X.env = (false, eval b X.env) :: starEach [] X.env := by rfl) (hpl : (backTo px (starEach [] X.env)).any (·.1) = false := by rfl) :
    PXS1 X n (.Expr (.Call (.Attribute a "append" apos) [b] [] px) pos) (appO i fa) := ps_imp (ps_expr (pe_bm PySem.F.plainAttrs_list PySem.F.slot_list_append PySem.F.type_list_append mt_append ho (pa_cons h1 pa_nil he) hb h3 hline he hpl) hs) fun D σ H => by
  rintro ⟨vs0, P, E, fps, fl, E', hn, r, hf, q⟩
  unfold appO at hf
  split at hf
  · rename_i xs0 e0
    split at hf
    · rename_i d E1 e1
      split at hf
      · rename_i xs e2
        split at hf
        · rename_i hl
          cases hf
          obtain ⟨ad, vs1, es1, -, -, ha1, -⟩ := r.ownAt e0
          refine ⟨_, es1, .inl ⟨rfl, vs1, SqL.of ha1⟩, vs0, P, E, fps, d, E1, r, e1, fun P1 H1 fps1 v r1 s1 _ dv => ?_⟩
          obtain ⟨ad2, vs, es, ef, pa, ha, dx⟩ := r1.ownAt e2
          rw [es1] at es
          cases es
          refine ⟨ad, vs, v, rfl, rfl, ha, by rw [dx.length]; exact hl, ?_⟩
          obtain ⟨r3, s3⟩ := r1.write e2 es1 (dx.append (.one dv))
          exact q P1 _ fps1 σ r3 (s1.trans s3)
        · cases hf
      · cases hf
    · cases hf
  · cases hf
/-- if -/
def ifS (t : SE Bool) (g h : SS) : SS := fun E => match t E with
  | some (true, E') => g E'
  | some (false, E') => h E'
  | none => none
theorem pxs_if {t : SE Bool} (hc : PXT X m c t) (ha : PXS X n sts g) (hb : PXS X n sts2 h) : PXS1 X n (.If c sts sts2 pos) (ifS t g h) := ps_imp (ps_if hc ha hb) fun D σ H => by
  rintro ⟨vs0, P, E, fps, fl, E', hn, r, hf, q⟩
  unfold ifS at hf
  split at hf
  · rename_i E1 e1
    refine ⟨vs0, P, E, fps, true, E1, r, e1, fun P1 H1 fps1 r1 s1 _ => ?_⟩
    show tS X.K n g D σ H1
    exact ⟨vs0, P1, E1, fps1, fl, E', hn, r1, hf, q.on s1⟩
  · rename_i E1 e1
    refine ⟨vs0, P, E, fps, false, E1, r, e1, fun P1 H1 fps1 r1 s1 _ => ?_⟩
    show tS X.K n h D σ H1
    exact ⟨vs0, P1, E1, fps1, fl, E', hn, r1, hf, q.on s1⟩
  · cases hf
/-- return -/
def retD (fa : SE PyData) : SS := fun E => match fa E with
  | some (d, E') => some (.rt (.dat d), E')
  | none => none
theorem pxs_ret (h1 : PX X m true e fa) : PXS1 X n (.Return (some e) pos) (retD fa) := ps_imp (ps_ret h1) fun D σ H => by
  rintro ⟨vs0, P, E, fps, fl, E', hn, r, hf, q⟩
  unfold retD at hf
  split at hf
  · rename_i d E1 e1
    cases hf
    exact ⟨vs0, P, E, fps, d, _, r, e1, fun P1 H1 fps1 v r1 s1 _ dv => q P1 H1 fps1 σ v [] r1 ⟨s1.pp, s1.keep, s1.fresh, (fun a ha => ha.elim (s1.foot a) (fun z => nomatch z)), s1.live⟩ (.dat dv) (fun a ha => nomatch ha)⟩
  · cases hf
def retL (fs : SE (List PyData)) : SS := fun E => match fs E with
  | some (ds, E') => some (.rt (.own ds), E')
  | none => none
theorem pxs_retL (h1 : PL X m e fs) : PXS1 X n (.Return (some e) pos) (retL fs) := ps_imp (ps_ret h1) fun D σ H => by
  rintro ⟨vs0, P, E, fps, fl, E', hn, r, hf, q⟩
  unfold retL at hf
  split at hf
  · rename_i d E1 e1
    cases hf
    exact ⟨vs0, P, E, fps, d, _, r, e1, fun P1 H1 fps1 ad vs r1 s1 _ ha pa nf hv dv => q P1 H1 fps1 σ (.ref ad) [ad] r1 ⟨s1.pp, s1.keep, s1.fresh, (fun y hy => hy.elim (s1.foot y) (fun z => .inr (List.mem_singleton.mp z ▸ ha))), s1.live⟩ (.own pa hv dv) (fun y hy => List.mem_singleton.mp hy ▸ nf)⟩
  · cases hf
def retN : SS := fun E => some (.rt (.dat .none), E)
theorem pxs_retN : PXS1 X n (.Return none pos) retN := ps_imp ps_retN fun D σ H => by
  rintro ⟨vs0, P, E, fps, fl, E', hn, r, hf, q⟩
  cases hf
  exact q P H fps σ .non [] r ⟨Same.refl P, fun _ _ h _ => h, .same, (fun a ha => ha.elim .inl (fun z => nomatch z)), fun a o h1 => ⟨o, h1⟩⟩ (.dat .non) (fun a ha => nomatch ha)
end
end Fw
namespace Fw
open PySem PySem.Spec L2
open PyProof.Rows hiding St
theorem meets_extT (l : Addr) (xs ys : Array Value) (n k : Nat) (b : Addr) (dd : Option Addr) (sl : Array (Option Value)) (h0 : ¬(!xs.isEmpty && Builtin.List.listTooLong (xs.size + ys.size)) = true) (h1 : xs.size ≤ sizeLine) (h2 : xs.size + ys.size ≤ sizeLine + 1) :
    Meets (Builtin.«list.extend» ⟨[.ref l, .ref b], []⟩) (fun _ R s => s.heap.get? l = some { cls := .type "list", data := .seq xs n } ∧ s.heap.get? b = some { cls := .type "tuple", dict := dd, data := .seq ys k, slots := sl } ∧ R (.ok (.ret Value.none)) { s with heap := s.heap.update l (Obj.mapSeq fun x => x ++ ys) }) :=
  .of_wp fun prog w A R s h => by
    obtain ⟨hp, g, d, tk, os⟩ := s
    obtain ⟨hl, hb, h⟩ := h
    have f1 := AutoSeq1.sub_tuple_list
    have f2 := AutoSeq1.sub_list_tuple
    have f3 := AutoSeq1.sub_tuple_tuple
    have f4 := AutoSeq1.sub_list_list
    have f5 := AutoSeq1.idx_int
    have hz : (xs ++ ys).size ≤ sizeLine + 1 := by rw [Array.size_append]; exact h2
    wp_walk using (wpAny_updateSeq hl rfl (hz := h1) (_hz' := hz)), AutoSeq1.wpAny_loadPart' hl, AutoSeq1.wpAny_loadPart' hb
    exact ⟨_, rfl, h⟩
/-- l.extend(t), t a list or a tuple that is read -/
def rExtA (K : PySem.W.Frag) : V → List V → Hp → VK → Prop := fun x vs H Q => rExtend x vs H Q ∨ ∃ l b xs zs, x = .ref l ∧ vs = [.ref b] ∧ H l = some (.lst xs) ∧ SqT K H b zs ∧ xs.length + zs.length ≤ sizeLine ∧ Q .non (upd H l (.lst (xs ++ zs)))
theorem mt_extA {X : Cx} : MtR X "list.extend" (rExtA X.K) := by
  intro pins s σ H x vs v us Q I rx rv h
  rcases h with h | ⟨l, b, xs, zs, rfl, rfl, hH, hB, hz, q⟩
  · exact mt_extend pins s σ H x vs v us Q I rx rv h
  · cases rx
    obtain ⟨u, rfl, ru⟩ := rv.one
    cases ru
    obtain ⟨z, its, n, r, hl, e⟩ := I.lstM hH
    obtain ⟨its2, r2, ⟨⟨cls, dd, data, sl⟩, ho, hc, k, hd⟩, hl2⟩ := I.tuple hB
    simp only at hc hd
    subst hc hd
    have e2 := r2.length
    have hsz : its.toArray.size + its2.toArray.size ≤ sizeLine := by rw [List.size_toArray, List.size_toArray]; omega
    refine call_meets F.slot_list_extend ⟨_, e, rfl⟩ F.entry_list_extend (F.args_list_extend_2 _ _)
      (meets_extT l its.toArray its2.toArray n k b dd sl (by rw [notLongL hsz, Bool.and_false]; exact Bool.false_ne_true) (by rw [List.size_toArray]; omega) (by omega)) ⟨e, ho, ?_⟩
    exact ⟨.non, _, I.lset (its' := its ++ its2) hH e (by simp) (r.append r2) (by rw [List.length_append]; omega), rfl, q⟩

section
variable {X : Cx} {n : Nat} {m m1 m2 m3 p p1 p2 p3 : Bool} {st : Stmt} {sts sts2 : List Stmt} {e a b c tg : Expr} {es : List Expr} {pos px apos : Pos} {f fa fb fc : SE PyData} {fs fs2 : SE (List PyData)} {x : Str} {g h : SS}
def extO (i : Nat) (fa : SE PyData) : SS := fun E => match own? i E with
  | some _ => match fa E with
    | some (d, E1) => match own? i E1, gList d with
      | some xs, some ys => if xs.length + ys.length ≤ sizeLine then some (.nx, E1.set i (.own (xs ++ ys))) else none
      | _, _ => none
    | none => none
  | none => none
theorem pxs_extO {i : Nat} (ho : PE X a (tVar i)) (h1 : PX X m true b fa) (hs : swapsWith (.Call (.Attribute a "extend" apos) [b] [] px) none pos.line X.env = pure false := by rfl)
    (hb : attributeBase a "extend" X.env (eval a X.env) = eval a X.env := by rfl)
    (h3 : ((((backTo px (starEach [b] X.env)).all fun x => !x.fst) && (backToKw px (keywordEach [] X.env)).all fun x => x.fst.isSome) && decide (([b] : List Expr).length + ([] : List Keyword).length + (if ([] : List Keyword).isEmpty = true then 0 else 1) < 30)) = true := by rfl)
    (hline : (apos.endLine == px.line) = true := by rfl) (he : starEach [b] X.env = (false, eval b X.env) :: starEach [] X.env := by rfl) (hpl : (backTo px (starEach [] X.env)).any (·.1) = false := by rfl) :
    PXS1 X n (.Expr (.Call (.Attribute a "extend" apos) [b] [] px) pos) (extO i fa) := ps_imp (ps_expr (pe_bm PySem.F.plainAttrs_list PySem.F.slot_list_extend PySem.F.type_list_extend mt_extA ho (pa_cons h1 pa_nil he) hb h3 hline he hpl) hs) fun D σ H => by
  rintro ⟨vs0, P, E, fps, fl, E', hn, r, hf, q⟩
  unfold extO at hf
  split at hf
  · rename_i xs0 e0
    split at hf
    · rename_i d E1 e1
      split at hf
      · rename_i xs ys e2 e3
        split at hf
        · rename_i hl
          cases hf
          obtain ⟨ad, vs1, es1, -, -, ha1, -⟩ := r.ownAt e0
          refine ⟨_, es1, .inl ⟨rfl, vs1, SqL.of ha1⟩, vs0, P, E, fps, d, E1, r, e1, fun P1 H1 fps1 v r1 s1 _ dv => ?_⟩
          obtain ⟨ad2, vs, es, ef, pa, ha, dx⟩ := r1.ownAt e2
          rw [es1] at es
          cases es
          unfold gList at e3
          split at e3
          · cases e3
            cases dv with
            | @lst ad3 ws _ hw dw =>
              refine .inl ⟨ad, ad3, vs, ws, rfl, rfl, ha, r1.sub _ _ hw, by rw [dx.length, dw.length]; exact hl, ?_⟩
              obtain ⟨r3, s3⟩ := r1.write e2 es1 (dx.append dw)
              exact q P1 _ fps1 σ r3 (s1.trans s3)
          · cases e3
            cases dv with
            | @tup ad3 ws _ hw dw =>
              refine .inr ⟨ad, ad3, vs, ws, rfl, rfl, ha, seqT r1.sub hw, by rw [dx.length, dw.length]; exact hl, ?_⟩
              obtain ⟨r3, s3⟩ := r1.write e2 es1 (dx.append dw)
              exact q P1 _ fps1 σ r3 (s1.trans s3)
          · cases e3
        · cases hf
      · cases hf
    · cases hf
  · cases hf
theorem setq {α : Type} {l : List α} {i : Nat} {x : α} (h : l[i]? = some x) : l.set i x = l := by
  obtain ⟨h1, h2⟩ := List.getElem?_eq_some_iff.mp h
  rw [← h2]
  exact List.set_getElem_self h1
/-- return of an owned list by its name -/
def retO (i : Nat) : SS := fun E => match own? i E with
  | some xs => some (.rt (.own xs), E.set i .un)
  | none => none
theorem pxs_retO {i : Nat} (h1 : PE X e (tVar i)) : PXS1 X n (.Return (some e) pos) (retO i) := ps_imp (ps_ret h1) fun D σ H => by
  rintro ⟨vs0, P, E, fps, fl, E', hn, r, hf, q⟩
  unfold retO at hf
  split at hf
  · rename_i xs e1
    cases hf
    obtain ⟨ad, vs, es, ef, pa, ha, dx⟩ := r.ownAt e1
    have hi : i < E.length := (List.getElem?_eq_some_iff.mp (own?_some e1)).1
    have r2 := r.put (i := i) (s := .un) (ov := some (.ref ad)) (l := []) .un (fun a ha => nomatch ha) (fun xs v' _ e => nomatch e)
    rw [if_pos hi, setq es] at r2
    refine ⟨_, es, q P H _ σ (.ref ad) [ad] r2 ⟨Same.refl P, fun _ _ h _ => h, .same, (fun y hy => .inl ?_), fun a o h1 => ⟨o, h1⟩⟩ (.own pa ha dx) fun y hy hy2 => ?_⟩
    · rcases hy with hy | hy
      · rcases in_clr hy with h2 | h2
        · cases h2
        · exact h2
      · exact ⟨i, by rw [ef]; exact hy⟩
    · cases List.mem_singleton.mp hy
      obtain ⟨j, hj⟩ := hy2
      unfold clr at hj
      split at hj
      · cases hj
      · rename_i hne
        exact hne (r.dj j i ad hj (by rw [ef]; exact List.mem_singleton.mpr rfl))
  · cases hf
/-- while -/
def whN (t : SE Bool) (g : SS) : Nat → SS
  | 0, _ => none
  | k + 1, E => match t E with
    | some (false, E1) => some (.nx, E1)
    | some (true, E1) => match g E1 with
      | some (.nx, E2) => whN t g k E2
      | some (.ct, E2) => whN t g k E2
      | some (.bk, E2) => some (.nx, E2)
      | r => r
    | none => none
def fuelC : Nat := 1099511627776
def whS (t : SE Bool) (g : SS) : SS := whN t g fuelC
theorem pxs_while {t : SE Bool} (hp : PassesOwn (model X.prog X.w) X.A X.env X.xe) (hc : PXT X m c t) (hb : PXS X n sts g) : PXS1 X n (.While c sts [] pos) (whS t g) := ps_imp (ps_while hp hc hb) fun D σ H => by
  rintro ⟨vs0, P, E, fps, fl, E', hn, r, hf, q⟩
  refine ⟨fun k σ1 H1 => ∃ P1 E1 fps1, Rel X.K vs0 P1 E1 σ1 H1 fps1 ∧ Step (In fps) P H (In fps1) P1 H1 ∧ whN t g k E1 = some (fl, E'), ⟨fuelC, P, E, fps, r, .refl _ _ _, hf⟩, ?_⟩
  rintro k σ1 H1 ⟨P1, E1, fps1, r1, s1, h1⟩
  cases k with
  | zero => cases h1
  | succ k =>
    unfold whN at h1
    split at h1
    · rename_i E2 e2
      cases h1
      refine ⟨vs0, P1, E1, fps1, false, _, r1, e2, fun P2 H2 fps2 r2 s2 _ => ?_⟩
      show D.nx σ1 H2
      exact q P2 H2 fps2 σ1 r2 (s1.trans s2)
    · rename_i E2 e2
      refine ⟨vs0, P1, E1, fps1, true, E2, r1, e2, fun P2 H2 fps2 r2 s2 _ => ?_⟩
      show ∃ N : L2.St → Hp → Prop, _
      refine ⟨fun σ3 H3 => ∃ m', m' < k + 1 ∧ ∃ P3 E3 fps3, Rel X.K vs0 P3 E3 σ3 H3 fps3 ∧ Step (In fps) P H (In fps3) P3 H3 ∧ whN t g m' E3 = some (fl, E'), fun _ _ z => z, ?_⟩
      have st2 := s1.trans s2
      split at h1
      · rename_i E3 e3
        exact ⟨vs0, P2, E2, fps2, .nx, E3, hn, r2, e3, fun P3 H3 fps3 σ3 r3 s3 => ⟨k, Nat.lt_succ_self k, P3, E3, fps3, r3, st2.trans s3, h1⟩⟩
      · rename_i E3 e3
        exact ⟨vs0, P2, E2, fps2, .ct, E3, hn, r2, e3, fun P3 H3 fps3 σ3 r3 s3 => ⟨k, Nat.lt_succ_self k, P3, E3, fps3, r3, st2.trans s3, h1⟩⟩
      · rename_i E3 e3
        cases h1
        exact ⟨vs0, P2, E2, fps2, .bk, _, hn, r2, e3, fun P3 H3 fps3 σ3 r3 s3 => q P3 H3 fps3 σ3 r3 (st2.trans s3)⟩
      · rename_i n1 n2 n3
        refine ⟨vs0, P2, E2, fps2, fl, E', hn, r2, h1, ?_⟩
        cases fl with
        | nx => exact absurd h1 (n1 E')
        | ct => exact absurd h1 (n2 E')
        | bk => exact absurd h1 (n3 E')
        | rt s => exact q.on st2
    · cases h1
/-- for -/
def forL (bb : PyData → En → Option En) (g : SS) : List PyData → SS
  | [], E => some (.nx, E)
  | d :: ds, E => match bb d E with
    | some E1 => match g E1 with
      | some (.nx, E2) => forL bb g ds E2
      | some (.ct, E2) => forL bb g ds E2
      | some (.bk, E2) => some (.nx, E2)
      | r => r
    | none => none
def forS (it : SE (List PyData)) (bb : PyData → En → Option En) (g : SS) : SS := fun E => match it E with
  | some (ds, E1) => forL bb g ds E1
  | none => none
theorem pxs_for {ts : List Nat} {bb : PyData → En → Option En} (hp : PassesOwn (model X.prog X.w) X.A X.env X.xe) (hc : X.calm = true) (hi : PXI X m tg e fs) (hg : PXG X ts tg bb) (hb : PXS X n sts g) (hs : ∀ x, foldedSetIterable e X.env x = pure x := by intro _; rfl) :
    PXS1 X n (.For tg e sts [] pos) (forS fs bb g) := ps_imp (ps_for hp hc hi hg hb hs) fun D σ H => by
  rintro ⟨vs0, P, E, fps, fl, E', hn, r, hf, q⟩
  unfold forS at hf
  split at hf
  · rename_i ds E1 e1
    refine ⟨vs0, P, E, fps, ds, E1, r, e1, fun P1 H1 fps1 J G r1 s1 _ sn g1 => ?_⟩
    refine ⟨fun i k σ2 H2 => k = ds.length - i ∧ i ≤ ds.length ∧ ∃ P2 E2 fps2, Rel X.K vs0 P2 E2 σ2 H2 fps2 ∧ Step (In fps) P H (In fps2) P2 H2 ∧ G P2 ∧ forL bb g (ds.drop i) E2 = some (fl, E'), ⟨_, rfl, Nat.zero_le _, P1, E1, fps1, r1, s1, g1, hf⟩, ?_⟩
    rintro i k σ2 H2 ⟨rfl, hi2, P2, E2, fps2, r2, s2, g2, h2⟩
    by_cases hlt : i < ds.length
    · have ed : ds.drop i = ds[i] :: ds.drop (i + 1) := List.drop_eq_getElem_cons hlt
      rw [ed] at h2
      unfold forL at h2
      split at h2
      · rename_i E3 e3
        refine .inr ⟨sn.go i P2 H2 hlt g2 r2.sub, fun σ4 H4 => ∃ P4 E4 fps4, Rel X.K vs0 P4 E4 σ4 H4 fps4 ∧ Step (In fps) P H (In fps4) P4 H4 ∧ G P4 ∧ forL bb g (ds.drop (i + 1)) E4 = some (fl, E'), ?_, fun y H3 hy => ?_⟩
        · rintro σ4 H4 ⟨P4, E4, fps4, r4, s4, g4, h4⟩
          exact ⟨ds.length - (i + 1), by omega, rfl, hlt, P4, E4, fps4, r4, s4, g4, h4⟩
        · obtain ⟨P3, p1, p2, p3, p4, dv⟩ := sn.yld i P2 H2 y H3 ds[i] g2 r2.sub (List.getElem?_eq_getElem hlt) hy
          have r3 := r2.alloc p1 p2 p3 p4
          have s3 := s2.trans (Step.alloc (F := In fps2) p1 p3 p4)
          have g3 := sn.mono _ _ p1 g2
          refine ⟨vs0, P3, E2, fps2, ds[i], E3, r3, dv, e3, fun fps5 σ5 r5 s5 _ _ => ?_⟩
          have s6 := s3.trans s5
          split at h2
          · rename_i E7 e7
            exact ⟨vs0, P3, E3, fps5, .nx, E7, hn, r5, e7, fun P7 H7 fps7 σ7 r7 s7 => ⟨P7, E7, fps7, r7, s6.trans s7, sn.mono _ _ s7.pp g3, h2⟩⟩
          · rename_i E7 e7
            exact ⟨vs0, P3, E3, fps5, .ct, E7, hn, r5, e7, fun P7 H7 fps7 σ7 r7 s7 => ⟨P7, E7, fps7, r7, s6.trans s7, sn.mono _ _ s7.pp g3, h2⟩⟩
          · rename_i E7 e7
            cases h2
            exact ⟨vs0, P3, E3, fps5, .bk, _, hn, r5, e7, fun P7 H7 fps7 σ7 r7 s7 => q P7 H7 fps7 σ7 r7 (s6.trans s7)⟩
          · rename_i n1 n2 n3
            refine ⟨vs0, P3, E3, fps5, fl, E', hn, r5, h2, ?_⟩
            cases fl with
            | nx => exact absurd h2 (n1 E')
            | ct => exact absurd h2 (n2 E')
            | bk => exact absurd h2 (n3 E')
            | rt s => exact q.on s6
      · cases h2
    · have e0 : i = ds.length := by omega
      subst e0
      rw [List.drop_length] at h2
      cases h2
      exact .inl ⟨sn.stop P2 H2 g2 r2.sub, q P2 H2 fps2 σ2 r2 s2⟩
  · cases hf
def wipE : List Nat → En → Option En
  | [], E => some E
  | v :: vs, E => match wipE vs E with
    | some E1 => match E1[v]? with
      | some (.own _) => none
      | _ => some (E1.set v .un)
    | none => none
def bakE : List Nat → En → En → En
  | [], _, E1 => E1
  | v :: vs, E, E1 => match E[v]? with
    | some s => (bakE vs E E1).set v s
    | none => bakE vs E E1
/-- the loop of a comprehension; E: the slots ahead of it, whose own names' are put back behind each turn -/
def lcL (vs : List Nat) (bb : PyData → En → Option En) (t : SE Bool) (fe : SE PyData) : List PyData → SE (List PyData)
  | [], E => some ([], E)
  | d :: ds, E => match wipE vs E with
    | some E0 => match bb d E0 with
      | some E1 => match t E1 with
        | some (true, E2) => match fe E2 with
          | some (y, E3) => match lcL vs bb t fe ds (bakE vs E E3) with
            | some (ys, E4) => some (y :: ys, E4)
            | none => none
          | none => none
        | some (false, E2) => lcL vs bb t fe ds (bakE vs E E2)
        | none => none
      | none => none
    | none => none
def lcS (fs : SE (List PyData)) (vs : List Nat) (bb : PyData → En → Option En) (t : SE Bool) (fe : SE PyData) : SE (List PyData) := fun E => match fs E with
  | some (ds, E1) => if ds.length < sizeLine then lcL vs bb t fe ds E1 else none
  | none => none
end
section
variable {K : PySem.W.Frag} {vs0 : List V} {P P' : Hp} {E E' : En} {σ σ' : L2.St} {H H' : Hp} {fps fps' : Nat → List Addr}
theorem wipe_ok : ∀ {vs : List Nat} {E1 : En}, Rel K vs0 P E σ H fps → wipE vs E = some E1 → Rel K vs0 P E1 (wipe σ vs) H fps ∧ (∀ k, k ∉ vs → E1[k]? = E[k]?) ∧ E1.length = E.length ∧ ∀ k ∈ vs, ∀ xs, E[k]? ≠ some (.own xs)
  | [], _, r, h => by
    cases h
    exact ⟨r, fun _ _ => rfl, rfl, fun k hk => nomatch hk⟩
  | v :: vs, E1, r, h => by
    unfold wipE at h
    split at h
    · rename_i E2 e2
      obtain ⟨r2, k2, l2, o2⟩ := wipe_ok r e2
      split at h
      · cases h
      · rename_i hno
        cases h
        have r3 := r2.put (i := v) (s := .un) (ov := none) (l := []) .un (fun a ha => nomatch ha) (fun xs v' _ e => nomatch e)
        refine ⟨?_, fun k hk => ?_, by rw [List.length_set]; exact l2, fun k hk xs => ?_⟩
        · -- no footprint stands at v
          have : fps v = [] := by
            by_cases hv : v < E2.length
            · obtain ⟨ov, _, s⟩ := r2.sl v _ (List.getElem?_eq_getElem hv)
              generalize hfp : fps v = fp at s
              cases hs : E2[v] with
              | own xs => exact absurd (show E2[v]? = some (.own xs) by rw [List.getElem?_eq_getElem hv, hs]) (hno xs)
              | un => rw [hs] at s; cases s; rfl
              | dat d => rw [hs] at s; cases s; rfl
              | scr d => rw [hs] at s; cases s; rfl
            · exact r2.out v (by omega)
          have e1 : (if v < E2.length then clr fps v [] else fps) = fps := by
            split
            · funext j
              unfold clr
              split
              · rename_i ej
                rw [ej, this]
              · rfl
            · rfl
          rw [e1] at r3
          exact r3
        · rw [List.mem_cons, not_or] at hk
          rw [List.getElem?_set_ne (Ne.symm hk.1)]
          exact k2 k hk.2
        · rcases List.mem_cons.mp hk with rfl | hk
          · intro z
            by_cases hv : k ∈ vs
            · exact o2 k hv xs z
            · exact hno xs ((k2 k hv).trans z)
          · exact o2 k hk xs
    · cases h
theorem bak_get : ∀ {vs : List Nat} {E E3 : En} {k : Nat}, E3.length = E.length → (bakE vs E E3).length = E.length ∧ (k ∉ vs → (bakE vs E E3)[k]? = E3[k]?) ∧ (k ∈ vs → (bakE vs E E3)[k]? = E[k]?)
  | [], E, E3, k, hl => ⟨hl, fun _ => rfl, fun h => nomatch h⟩
  | v :: vs, E, E3, k, hl => by
    obtain ⟨h1, h2, h3⟩ := bak_get (vs := vs) (k := k) hl
    unfold bakE
    cases e : E[v]? with
    | none =>
      dsimp only
      refine ⟨h1, fun hk => h2 fun z => hk (List.mem_cons_of_mem _ z), fun hk => ?_⟩
      by_cases hv : k ∈ vs
      · exact h3 hv
      · rcases List.mem_cons.mp hk with rfl | hk
        · rw [e]
          have := List.getElem?_eq_none_iff.mp e
          exact List.getElem?_eq_none_iff.mpr (by omega)
        · exact absurd hk hv
    | some s =>
      dsimp only
      refine ⟨by rw [List.length_set]; exact h1, fun hk => ?_, fun hk => ?_⟩
      · rw [List.mem_cons, not_or] at hk
        rw [List.getElem?_set_ne (Ne.symm hk.1)]
        exact h2 hk.2
      · by_cases hv : v = k
        · subst hv
          have := (List.getElem?_eq_some_iff.mp e).1
          rw [List.getElem?_set_self (by omega), e]
        · rw [List.getElem?_set_ne hv]
          rcases List.mem_cons.mp hk with rfl | hk
          · exact absurd rfl hv
          · exact h3 hk
theorem wipe_get {σ : L2.St} : ∀ {vs : List Nat} {k : Nat}, k ∉ vs → (wipe σ vs)[k]? = σ[k]?
  | [], _, _ => rfl
  | v :: vs, k, h => by
    rw [List.mem_cons, not_or] at h
    unfold wipe
    rw [List.getElem?_set_ne (Ne.symm h.1)]
    exact wipe_get h.2
theorem wipe_in {σ : L2.St} : ∀ {vs : List Nat} {k : Nat}, k ∈ vs → k < σ.length → (wipe σ vs)[k]? = some none
  | v :: vs, k, h, hl => by
    unfold wipe
    by_cases hv : v = k
    · subst hv
      rw [List.getElem?_set_self (by rw [wipe_length]; exact hl)]
    · rw [List.getElem?_set_ne hv]
      rcases List.mem_cons.mp h with rfl | h
      · exact absurd rfl hv
      · exact wipe_in h hl
theorem wipe_eq {σ σ' : L2.St} {vs : List Nat} (hl : σ'.length = σ.length) (h : ∀ k, k ∉ vs → σ'[k]? = σ[k]?) : wipe σ' vs = wipe σ vs := by
  apply List.ext_getElem?
  intro k
  by_cases hk : k ∈ vs
  · by_cases hlk : k < σ.length
    · rw [wipe_in hk hlk, wipe_in hk (by omega)]
    · rw [List.getElem?_eq_none (by rw [wipe_length]; omega), List.getElem?_eq_none (by rw [wipe_length]; omega)]
  · rw [wipe_get hk, wipe_get hk, h k hk]
/-- behind a turn the own names' slots stand as ahead of the comprehension -/
theorem bak_ok {vs : List Nat} {E3 : En} {P3 H3 : Hp} {fps3 : Nat → List Addr} {σ3 : L2.St} (r : Rel K vs0 P E σ H fps) (r3 : Rel K vs0 P3 E3 σ3 H3 fps3) (pp : Same P P3) (hno : ∀ k ∈ vs, ∀ xs, E[k]? ≠ some (.own xs)) (hl : σ3.length = σ.length) (hk : ∀ k, k ∉ vs → σ3[k]? = σ[k]?) :
    ∃ fps4, Rel K vs0 P3 (bakE vs E E3) σ H3 fps4 ∧ ∀ a, In fps4 a → In fps3 a := by
  have hlE : E3.length = E.length := by rw [r3.len, r.len, hl]
  refine ⟨fun j => if j ∈ vs then [] else fps3 j, ⟨r3.sub, ?_, fun j s hs => ?_, fun j hj => ?_, fun j k a hj hk => ?_, fun j xs v hv hs => ?_⟩, fun a ⟨j, hj⟩ => ?_⟩
  · rw [(bak_get (vs := vs) (k := 0) hlE).1, r.len]
  · obtain ⟨_, g2, g3⟩ := bak_get (vs := vs) (k := j) hlE
    by_cases hj : j ∈ vs
    · rw [if_pos hj]
      rw [g3 hj] at hs
      obtain ⟨ov, h1, h2⟩ := r.sl j s hs
      refine ⟨ov, h1, ?_⟩
      generalize hfp : fps j = fp at h2
      cases h2 with
      | un => exact .un
      | dat d => exact .dat (d.mono pp)
      | own _ _ _ => exact absurd hs (hno j hj _)
      | scr q => exact .scr (pp.seq q)
    · rw [if_neg hj]
      rw [g2 hj] at hs
      obtain ⟨ov, h1, h2⟩ := r3.sl j s hs
      exact ⟨ov, by rw [← hk j hj]; exact h1, h2⟩
  · have := (bak_get (vs := vs) (k := 0) hlE).1
    split
    · rfl
    · exact r3.out j (by omega)
  · split at hj
    · cases hj
    · split at hk
      · cases hk
      · exact r3.dj j k a hj hk
  · obtain ⟨_, g2, g3⟩ := bak_get (vs := vs) (k := j) hlE
    by_cases hj : j ∈ vs
    · rw [g3 hj] at hs
      exact absurd hs (hno j hj xs)
    · rw [g2 hj] at hs
      rw [← hk j hj]
      exact r3.par j xs v hv hs
  · dsimp only at hj
    split at hj
    · cases hj
    · exact ⟨j, hj⟩
end
end Fw
namespace Fw
open PySem PySem.Spec L2
open PyProof.Rows hiding St
section
variable {K : PySem.W.Frag} {vs0 : List V} {P P' : Hp} {E E' : En} {σ σ' : L2.St} {H H' : Hp} {fps fps' : Nat → List Addr} {F F' : Addr → Prop}
theorem Step.poke {D : Addr} {o : HO} (s : Step F P H F' P' H') (h : H D = none) : Step F P H F' P' (upd H' D o) :=
  ⟨s.pp, fun a u ha nf => by
    have : a ≠ D := ne_of_none ha h
    rw [upd_ne this]
    exact s.keep a u ha nf, s.fresh, s.foot, fun a u ha => by
    have : a ≠ D := ne_of_none ha h
    rw [upd_ne this]
    exact s.live a u ha⟩
theorem Rel.poke {D : Addr} {o : HO} (r : Rel K vs0 P E σ H fps) (h : P D = none) (nf : ¬ In fps D) : Rel K vs0 P E σ (upd H D o) fps :=
  ⟨fun a u ha => by
    have : a ≠ D := ne_of_none ha h
    rw [upd_ne this]
    exact r.sub a u ha, r.len, fun i s hs => by
    obtain ⟨ov, h1, h2⟩ := r.sl i s hs
    refine ⟨ov, h1, h2.mono (Same.refl P) fun a ha => ⟨?_, (h2.foot ha).1⟩⟩
    have : a ≠ D := fun z => nf ⟨i, z ▸ ha⟩
    rw [upd_ne this], r.out, r.dj, r.par⟩
theorem Step.keepD {D : Addr} {o : HO} (s : Step F P H F' P' H') (h : H D = some o) (nf : ¬ F D) : H' D = some o ∧ ¬ F' D := ⟨s.keep D o h nf, fun z => by
  rcases s.foot D z with z | z
  · exact nf z
  · rw [h] at z; cases z⟩
theorem Step.noneD {D : Addr} {o : HO} (s : Step F P H F' P' H') (h : H D = some o) (nf : ¬ F D) (hp : P D = none) : P' D = none := by
  cases e : P' D with
  | none => rfl
  | some u =>
    rcases s.fresh D u e with ⟨w, z⟩ | z | z
    · rw [hp] at z; cases z
    · rw [h] at z; cases z
    · exact absurd z nf
end
section
variable {X : Cx} {n : Nat} {m m1 m2 m3 p p1 p2 p3 : Bool} {elt tg iter : Expr} {ifs : List Expr} {pos px apos : Pos} {fe : SE PyData} {fs : SE (List PyData)} {scope : Scope}
theorem lc_imp {K : PySem.W.Frag} {vs ts : List Nat} {bb : PyData → En → Option En} {t : SE Bool} {σ : L2.St} {H : Hp} {Q : VK} (hts : ∀ k ∈ ts, k ∈ vs) : tXL K true (lcS fs vs bb t fe) σ H Q → tLc (tXI K m fs) (tXG K ts bb) (tXT K m2 t) (tX K m1 true fe) vs σ H Q := by
  rintro ⟨vs0, P, E, fps, zs, E', r, hf, q⟩
  unfold lcS at hf
  split at hf
  · rename_i ds E1 e1
    split at hf
    · rename_i hlen
      refine ⟨vs0, P, E, fps, ds, E1, r, e1, fun P1 H1 fps1 J G r1 s1 _ sn g1 D hD => ?_⟩
      have hHD : H D = none := s1.free hD
      refine ⟨fun i k H2 => k = ds.length - i ∧ i ≤ ds.length ∧ ∃ P2 E2 fps2 acc zs1 zs2, Rel K vs0 P2 E2 σ H2 fps2 ∧ Step (In fps) P H (In fps2) P2 H2 ∧ G P2 ∧ H2 D = some (.lst acc) ∧ P2 D = none ∧ ¬ In fps2 D ∧ DqAll K P2 acc zs1 ∧ acc.length ≤ i ∧ lcL vs bb t fe (ds.drop i) E2 = some (zs2, E') ∧ zs = zs1 ++ zs2, ?_, ?_⟩
      · refine ⟨_, rfl, Nat.zero_le _, P1, E1, fps1, [], [], zs, r1.newList hD, s1.poke hHD, g1, upd_same, sub_none r1.sub hD, r1.notIn hD, .nil, Nat.zero_le _, hf, rfl⟩
      · rintro i k H2 ⟨rfl, hi2, P2, E2, fps2, acc, zs1, zs2, r2, s2, g2, hD2, pD2, nD2, dacc, lacc, h2, ez⟩
        by_cases hlt : i < ds.length
        · have ed : ds.drop i = ds[i] :: ds.drop (i + 1) := List.drop_eq_getElem_cons hlt
          rw [ed] at h2
          unfold lcL at h2
          split at h2
          · rename_i E0 e0
            split at h2
            · rename_i Ea ea
              refine .inr ⟨sn.go i P2 H2 hlt g2 r2.sub, fun H4 => ∃ P4 E4 fps4 acc4 ys1 ys2, Rel K vs0 P4 E4 σ H4 fps4 ∧ Step (In fps) P H (In fps4) P4 H4 ∧ G P4 ∧ H4 D = some (.lst acc4) ∧ P4 D = none ∧ ¬ In fps4 D ∧ DqAll K P4 acc4 ys1 ∧ acc4.length ≤ i + 1 ∧ lcL vs bb t fe (ds.drop (i + 1)) E4 = some (ys2, E') ∧ zs = ys1 ++ ys2, ?_, fun y H3 hy => ?_⟩
              · rintro H4 ⟨P4, E4, fps4, acc4, ys1, ys2, w⟩
                exact ⟨ds.length - (i + 1), by omega, rfl, hlt, P4, E4, fps4, acc4, ys1, ys2, w⟩
              · obtain ⟨P3, p1, p2, p3, p4, dv⟩ := sn.yld i P2 H2 y H3 ds[i] g2 r2.sub (List.getElem?_eq_getElem hlt) hy
                have r3 := r2.alloc p1 p2 p3 p4
                have s3 := s2.trans (Step.alloc (F := In fps2) p1 p3 p4)
                have g3 := sn.mono _ _ p1 g2
                have hD3 := p3 _ _ hD2
                have pD3 : P3 D = none := (Step.alloc (F := In fps2) p1 p3 p4).noneD hD2 nD2 pD2
                obtain ⟨rw, kw, lw, ow⟩ := wipe_ok r3 e0
                refine ⟨vs0, P3, E0, fps2, ds[i], Ea, rw, dv, ea, fun fps5 σ5 r5 s5 hl5 hk5 => ?_⟩
                have hl : σ5.length = σ.length := by rw [hl5, wipe_length]
                have hk : ∀ k, k ∉ vs → σ5[k]? = σ[k]? := fun k hkv => by rw [hk5 k (fun z => hkv (hts k z)), wipe_get hkv]
                refine ⟨wipe_eq hl hk, ?_⟩
                obtain ⟨-, nD5⟩ := s5.keepD hD3 nD2
                split at h2
                · rename_i Eb eb
                  split at h2
                  · rename_i z Ec ec
                    split at h2
                    · rename_i ys E4 e4
                      cases h2
                      refine ⟨vs0, P3, Ea, fps5, true, Eb, r5, eb, fun P6 H6 fps6 r6 s6 _ => ?_⟩
                      show tX K m1 true fe σ5 H6 _
                      refine ⟨vs0, P6, Eb, fps6, z, Ec, r6, ec, fun P7 H7 fps7 v r7 s7 _ dz => ?_⟩
                      obtain ⟨hD6, nD6⟩ := s6.keepD hD3 nD5
                      obtain ⟨hD7, nD7⟩ := s7.keepD hD6 nD6
                      have pD6 := s6.noneD hD3 nD5 pD3
                      have pD7 := s7.noneD hD6 nD6 pD6
                      have pp : Same P3 P7 := s6.pp.trans s7.pp
                      obtain ⟨fps8, r8, i8⟩ := bak_ok r3 r7 pp ow hl hk
                      refine ⟨acc, hD7, by omega, P7, _, fps8, acc ++ [v], zs1 ++ [z], ys, r8.poke pD7 (fun w => nD7 (i8 D w)), ?_, sn.mono _ _ pp g3, upd_same, pD7, (fun w => nD7 (i8 D w)), (dacc.mono (p1.trans pp)).append (.one dz), by rw [List.length_append, List.length_singleton]; omega, e4, by rw [ez]; simp⟩
                      have s8 := ((s3.trans s5).trans s6).trans s7
                      exact Step.poke ⟨s8.pp, s8.keep, s8.fresh, fun a ha => s8.foot a (i8 a ha), s8.live⟩ hHD
                    · cases h2
                  · cases h2
                · rename_i Eb eb
                  refine ⟨vs0, P3, Ea, fps5, false, Eb, r5, eb, fun P6 H6 fps6 r6 s6 _ => ?_⟩
                  obtain ⟨hD6, nD6⟩ := s6.keepD hD3 nD5
                  have pD6 := s6.noneD hD3 nD5 pD3
                  obtain ⟨fps8, r8, i8⟩ := bak_ok r3 r6 s6.pp ow hl hk
                  have s8 := (s3.trans s5).trans s6
                  exact ⟨P6, _, fps8, acc, zs1, zs2, r8, ⟨s8.pp, s8.keep, s8.fresh, fun a ha => s8.foot a (i8 a ha), s8.live⟩, sn.mono _ _ s6.pp g3, hD6, pD6, (fun w => nD6 (i8 D w)), dacc.mono (p1.trans s6.pp), by omega, h2, ez⟩
                · cases h2
            · cases h2
          · cases h2
        · have e0 : i = ds.length := by omega
          subst e0
          rw [List.drop_length] at h2
          cases h2
          rw [List.append_nil] at ez
          subst ez
          exact .inl ⟨sn.stop P2 H2 g2 r2.sub, q P2 H2 fps2 D acc r2 s2 (fun z => nomatch z) hHD pD2 nD2 hD2 dacc⟩
    · cases hf
  · cases hf
theorem pl_lc {own : List (Str × Nat)} {ts : List Nat} {bb : PyData → En → Option En} {t : SE Bool} (hc : X.calm = true) (hN : X.N.Nodup) (ok : BlkOk X.N X.env.scope scope own) (hi : PXI X m tg iter fs)
    (hg : ∀ (s : Shared) (H : Hp) (C : Addr) (cl : List (Str × Addr)) (fp : List Addr), PXG (X.blk s H scope (compEnvC scope cl C X.env) fp) ts tg bb)
    (ht : ∀ (s : Shared) (H : Hp) (C : Addr) (cl : List (Str × Addr)) (fp : List Addr), PTs (X.blk s H scope (compEnvC scope cl C X.env) fp) ifs (tXT X.K m2 t))
    (he : ∀ (s : Shared) (H : Hp) (C : Addr) (cl : List (Str × Addr)) (fp : List Addr), PX (X.blk s H scope (compEnvC scope cl C X.env) fp) m1 true elt fe)
    (hts : ∀ k ∈ ts, k ∈ own.map (·.2)) (hs : ∀ x, foldedSetIterable iter X.env x = pure x := by intro _; rfl) :
    PL X true (.ListComp elt [⟨tg, iter, ifs, 0⟩] scope pos) (lcS fs (own.map (·.2)) bb t fe) := pe_imp (pe_lc (g := tXG X.K ts bb) (tt := tXT X.K m2 t) (te := tX X.K m1 true fe) hc hN hi ok hg ht he hs) fun σ H Q => lc_imp hts
def yesS : SE Bool := ret true
theorem pts_nil' : PTs X [] (tXT X.K false yesS) := ⟨fun pins s σ H Q I hq => by
  obtain ⟨vs0, P, E, fps, b, E', r, hf, q⟩ := hq
  obtain ⟨rfl, rfl⟩ := ret_some hf
  exact pts_nil.run pins s σ H Q I (q P H fps r (.refl _ _ _) fun _ => Same.refl H)⟩
theorem pts_one' {c : Expr} {t : SE Bool} (h : PXT X m c t) : PTs X [c] (tXT X.K m t) := pts_one h

abbrev Fn := List Sl → Option (Sl × List Sl)
def collect : List Sl → En → Option (List Sl)
  | [], _ => some []
  | .own _ :: as, .own xs :: E => (collect as E).map (.own xs :: ·)
  | .own _ :: _, _ => none
  | _ :: as, _ :: E => (collect as E).map (.un :: ·)
  | _ :: _, [] => none
def runF (n N : Nat) (body : SS) : Fn := fun as => if as.length = n then match body (as ++ List.replicate (N - n) .un) with
    | some (.rt s, E') => match collect as E' with
      | some outs => some (s, outs)
      | none => none
    | some (.nx, E') => match collect as E' with
      | some outs => some (.dat .none, outs)
      | none => none
    | _ => none
  else none
def spF (K : PySem.W.Frag) (n : Nat) (g : Fn) : Sp := fun vs H Q _ => vs.length = n ∧ ∃ (P : Hp) (as : List Sl) (fps : Nat → List Addr) (r : Sl) (outs : List Sl), Rel K vs P as (vs.map some) H fps ∧ g as = some (r, outs) ∧
  ∀ (P' H' : Hp) (fps' : Nat → List Addr) (v : V) (fr : List Addr), Rel K vs P' outs (vs.map some) H' fps' → Step (In fps) P H (fun a => In fps' a ∨ a ∈ fr) P' H' → SlR K P' H' r (some v) fr → (∀ a ∈ fr, ¬ In fps' a) → Q v H'
theorem collect_len : ∀ {as : List Sl} {E : En} {outs : List Sl}, collect as E = some outs → outs.length = as.length
  | [], _, _, h => by cases h; rfl
  | a :: as, [], _, h => by cases a <;> cases h
  | a :: as, e :: E, outs, h => by
    cases a <;> cases e <;> first
      | (cases h; done)
      | (simp only [collect, Option.map_eq_some_iff] at h
         obtain ⟨o, h1, rfl⟩ := h
         simp [collect_len h1])
theorem collect_get : ∀ {as : List Sl} {E : En} {outs : List Sl} {i : Nat} {s : Sl}, collect as E = some outs → outs[i]? = some s → s = .un ∨ ∃ xs, s = .own xs ∧ E[i]? = some (.own xs) ∧ ∃ ys, as[i]? = some (.own ys)
  | [], _, _, i, s, h, hs => by cases h; simp at hs
  | a :: as, [], _, _, _, h, _ => by cases a <;> cases h
  | a :: as, e :: E, outs, i, s, h, hs => by
    cases a <;> cases e <;> first
      | (cases h; done)
      | (simp only [collect, Option.map_eq_some_iff] at h
         obtain ⟨o, h1, rfl⟩ := h
         cases i with
         | zero =>
           simp only [List.getElem?_cons_zero, Option.some.injEq] at hs
           subst hs
           first
             | exact .inl rfl
             | exact .inr ⟨_, rfl, rfl, _, rfl⟩
         | succ i =>
           simp only [List.getElem?_cons_succ] at hs
           rcases collect_get h1 hs with h2 | ⟨xs, h2, h3, ys, h4⟩
           · exact .inl h2
           · exact .inr ⟨xs, h2, by simpa using h3, ys, by simpa using h4⟩)
theorem rel_outs {K : PySem.W.Frag} {vs : List V} {P H : Hp} {as outs : List Sl} {E : En} {σ : L2.St} {fps : Nat → List Addr} (r : Rel K vs P E σ H fps) (h : collect as E = some outs) (hl : as.length = vs.length) :
    ∃ fps', Rel K vs P outs (vs.map some) H fps' ∧ ∀ a, In fps' a → In fps a := by
  refine ⟨fun i => match outs[i]? with
    | some (.own _) => fps i
    | _ => [], ⟨r.sub, by rw [collect_len h, hl, List.length_map], fun i s hs => ?_, fun i hi => ?_, fun i j a hi hj => ?_, fun i xs v hv hs => by rw [List.getElem?_map, hv]; rfl⟩, fun a ⟨i, hi⟩ => ?_⟩
  · have hi : i < vs.length := by
      have := (List.getElem?_eq_some_iff.mp hs).1
      rw [collect_len h, hl] at this
      exact this
    refine ⟨some vs[i], by rw [List.getElem?_map, List.getElem?_eq_getElem hi]; rfl, ?_⟩
    rcases collect_get h hs with rfl | ⟨xs, rfl, he, _⟩
    · rw [hs]
      exact .un
    · rw [hs]
      obtain ⟨ov, h1, h2⟩ := r.sl i _ he
      have h3 := r.par i xs vs[i] (List.getElem?_eq_getElem hi) he
      rw [h1] at h3
      cases h3
      exact h2
  · rw [List.getElem?_eq_none hi]
  · split at hi
    · split at hj
      · exact r.dj i j a hi hj
      · cases hj
    · cases hi
  · dsimp only at hi
    split at hi
    · exact ⟨i, hi⟩
    · cases hi
theorem rel_start {K : PySem.W.Frag} {vs : List V} {P H : Hp} {as : List Sl} {fps : Nat → List Addr} {N : List Str} (r : Rel K vs P as (vs.map some) H fps) : Rel K vs P (as ++ List.replicate (N.length - vs.length) .un) (L2.start N vs) H fps := by
  have hl : as.length = vs.length := by rw [r.len, List.length_map]
  unfold L2.start
  refine ⟨r.sub, by simp [hl], fun i s hs => ?_, fun i hi => ?_, r.dj, fun i xs v hv hs => ?_⟩
  · by_cases hi : i < as.length
    · rw [List.getElem?_append_left hi] at hs
      obtain ⟨ov, h1, h2⟩ := r.sl i s hs
      exact ⟨ov, by rw [List.getElem?_append_left (by simp; omega)]; exact h1, h2⟩
    · rw [List.getElem?_append_right (by omega)] at hs
      have hs2 := List.getElem?_eq_some_iff.mp hs
      obtain ⟨h1, h2⟩ := hs2
      rw [List.getElem_replicate] at h2
      rw [List.length_replicate] at h1
      subst h2
      rw [r.out i (by omega)]
      refine ⟨none, ?_, .un⟩
      rw [List.getElem?_append_right (by simp; omega), List.getElem?_replicate, if_pos (by simp; omega)]
  · rw [List.length_append] at hi
    exact r.out i (by omega)
  · have hi : i < vs.length := (List.getElem?_eq_some_iff.mp hv).1
    rw [List.getElem?_append_left (by simp; omega), List.getElem?_map, hv]
    rfl
theorem fn_ok {P : Program} {w : World} {K : PySem.W.Frag} {mg : Str → Option Value} {base : Heap} {x qual : Str} {st : Stmt} {f : Addr} {fd : FuncData} {N ps : List Str} {k : Nat} {body : SS} (F : Fun K x qual st f fd) (S : FnScope N ps (defScope st))
    (hb : ∀ (cdv : Value) (A : Around) (outer : List Env) (s : Shared) (H : Hp) (E : XK), Room k (A.deeper (envOfC qual (defScope st) s.heap.objs.size f cdv)) → PXS (cxOf CX0 P w K mg base N qual (defScope st) f cdv A outer s H E).nox ps.length (defBody st) body) :
    FnOk P w K mg base CX0 (k + 1) f fd ps (spF K ps.length (runF ps.length N.length body)) := by
  refine F.ok S (fun vs H Q E h => h.1) (fun cdv A outer s H vs Q E hr h => ?_)
  obtain ⟨hl, P0, as, fps, r, outs, rel, hg, q⟩ := h
  refine ⟨_, hb cdv A outer s H E hr, ?_⟩
  have hla : as.length = ps.length := by rw [rel.len, List.length_map, hl]
  unfold runF at hg
  rw [if_pos hla] at hg
  have rs := rel_start (N := N) rel
  rw [hl] at rs
  split at hg
  · rename_i sr E' e1
    split at hg
    · rename_i outs' e2
      cases hg
      refine ⟨vs, P0, _, fps, .rt r, E', hl, rs, e1, fun P' H' fps' σ' v fr r' s' q1 q2 => ?_⟩
      obtain ⟨fps2, r2, i2⟩ := rel_outs r' e2 (hla.trans hl.symm)
      refine q P' H' fps2 v fr r2 ⟨s'.pp, s'.keep, s'.fresh, fun a ha => s'.foot a (ha.elim (fun z => .inl (i2 a z)) .inr), s'.live⟩ q1 fun a ha z => q2 a ha (i2 a z)
    · cases hg
  · rename_i E' e1
    split at hg
    · rename_i outs' e2
      cases hg
      refine ⟨vs, P0, _, fps, .nx, E', hl, rs, e1, fun P' H' fps' σ' r' s' => ?_⟩
      obtain ⟨fps2, r2, i2⟩ := rel_outs r' e2 (hla.trans hl.symm)
      exact q P' H' fps2 .non [] r2 ⟨s'.pp, s'.keep, s'.fresh, (fun a ha => ha.elim (fun z => s'.foot a (i2 a z)) (fun z => nomatch z)), s'.live⟩ (.dat .non) (fun a ha => nomatch ha)
    · cases hg
  · cases hg

structure Cl (P : Program) (w : World) (K : PySem.W.Frag) (mg : Str → Option Value) (base : Heap) (k : Nat) (x : Str) (n : Nat) (g : Fn) : Prop where
  ex : ∃ (f : Addr) (fd : FuncData) (ps : List Str), FnOk P w K mg base CX0 k f fd ps (spF K n g) ∧ mg x = some (.ref f) ∧ PySem.W.keepIn K (.ref f) = true ∧ Binds K fd ps []
theorem rel_data {K : PySem.W.Frag} {P H : Hp} {vs : List V} {ds : List PyData} (s : Same P H) (d : DqAll K P vs ds) : Rel K vs P (ds.map .dat) (vs.map some) H (fun _ => []) := by
  refine ⟨s, by rw [List.length_map, List.length_map, d.length], fun i t ht => ?_, fun _ _ => rfl, (fun _ _ _ h => nomatch h), fun i xs v _ h => ?_⟩
  · rw [List.getElem?_map] at ht
    cases e : ds[i]? with
    | none => rw [e] at ht; cases ht
    | some d0 =>
      rw [e] at ht
      cases ht
      obtain ⟨v, h1, h2⟩ := d.get e
      exact ⟨some v, by rw [List.getElem?_map, h1]; rfl, .dat h2⟩
  · rw [List.getElem?_map] at h
    cases e : ds[i]? with
    | none => rw [e] at h; cases h
    | some d0 => rw [e] at h; cases h
def callD (g : Fn) (ds : List PyData) : Option PyData := match g (ds.map .dat) with
  | some (.dat d, _) => some d
  | some (.own xs, _) => some (.list xs)
  | _ => none
def callV (g : Fn) (ds : List PyData) : Option (List PyData) := match g (ds.map .dat) with
  | some (.own xs, _) => some xs
  | _ => none
theorem no_in : ∀ a, ¬ In (fun _ => []) a := fun a ⟨_, h⟩ => nomatch h
theorem va_call {K : PySem.W.Frag} {g : Fn} {E0 : XK} {n : Nat} (hn : ∀ as r, g as = some r → as.length = n) : VAA K (fun vs H Q => spF K n g (vs ++ []) H Q E0) (callD g) := by
  intro P H xs ds z Q su dx hg q
  have e0 : xs ++ [] = xs := List.append_nil xs
  show spF K n g (xs ++ []) H Q E0
  rw [e0]
  unfold callD at hg
  split at hg
  · rename_i d outs e1
    cases hg
    have := hn _ _ e1
    rw [List.length_map] at this
    refine ⟨by rw [dx.length]; exact this, P, _, _, _, outs, rel_data su dx, e1, fun P' H' fps' v fr r' s' sr _ => ?_⟩
    cases sr with
    | dat dv => exact q P' H' v s'.pp r'.sub (fun a o ha => s'.keep a o ha (no_in a)) (fun a o ha => (s'.fresh a o ha).imp id (fun z => z.elim .inl (fun w => absurd w (no_in a)))) dv
  · rename_i ys outs e1
    cases hg
    have := hn _ _ e1
    rw [List.length_map] at this
    refine ⟨by rw [dx.length]; exact this, P, _, _, _, outs, rel_data su dx, e1, fun P' H' fps' v fr r' s' sr _ => ?_⟩
    cases sr with
    | @own ad vs _ pa ha dv =>
      refine AfterL.of q P' H' ad vs s'.pp r'.sub (fun a o ha => s'.keep a o ha (no_in a)) (fun a o ha => (s'.fresh a o ha).imp id (fun z => z.elim .inl (fun w => absurd w (no_in a)))) ?_ pa ha dv
      rcases s'.foot ad (.inr (List.mem_singleton.mpr rfl)) with z | z
      · exact absurd z (no_in ad)
      · exact z
  · cases hg
theorem vl_call {K : PySem.W.Frag} {g : Fn} {E0 : XK} {n : Nat} (hn : ∀ as r, g as = some r → as.length = n) : VLA K (fun vs H Q => spF K n g (vs ++ []) H Q E0) (callV g) := by
  intro P H xs ds z Q su dx hg q
  have e0 : xs ++ [] = xs := List.append_nil xs
  show spF K n g (xs ++ []) H Q E0
  rw [e0]
  unfold callV at hg
  split at hg
  · rename_i ys outs e1
    cases hg
    have := hn _ _ e1
    rw [List.length_map] at this
    refine ⟨by rw [dx.length]; exact this, P, _, _, _, outs, rel_data su dx, e1, fun P' H' fps' v fr r' s' sr _ => ?_⟩
    cases sr with
    | @own ad vs _ pa ha dv =>
      refine q P' H' ad vs s'.pp r'.sub (fun a o ha => s'.keep a o ha (no_in a)) (fun a o ha => (s'.fresh a o ha).imp id (fun z => z.elim .inl (fun w => absurd w (no_in a)))) ?_ pa ha dv
      rcases s'.foot ad (.inr (List.mem_singleton.mpr rfl)) with z | z
      · exact absurd z (no_in ad)
      · exact z
  · cases hg
theorem run_len {n N : Nat} {body : SS} {as : List Sl} {r : Sl × List Sl} (h : runF n N body as = some r) : as.length = n := by
  unfold runF at h
  split at h
  · assumption
  · cases h
variable {k j : Nat} {x : Str} {e a b : Expr} {es : List Expr} {g : Fn}
theorem px_call (c : Cl X.prog X.w X.K X.mg X.base k x n g) (hn : ∀ as r, g as = some r → as.length = n) (hr : Room j X.A) (hk : k ≤ j) (hg : Gl X x) (ha : PXA X m (e :: es) fs) (hdb : (x == ("__debug__" : Str)) = false := by decide)
    (he : starEach (e :: es) X.env = (false, eval e X.env) :: starEach es X.env := by rfl) (hpl : (backTo pos (starEach es X.env)).any (·.1) = false := by rfl) : PX X m true (.Call (.Name x px) (e :: es) [] pos) (mny fs (callD g)) := by
  obtain ⟨f, fd, ps, F, h1, h2, h3⟩ := c.ex
  exact px_args (r := fun vs H Q => spF X.K n g (vs ++ []) H Q E0) (pe_call F (hr.mono hk) hg h1 h2 h3 .nil pass0 ha hdb he hpl) (va_call hn)
theorem pl_call (c : Cl X.prog X.w X.K X.mg X.base k x n g) (hn : ∀ as r, g as = some r → as.length = n) (hr : Room j X.A) (hk : k ≤ j) (hg : Gl X x) (ha : PXA X m (e :: es) fs) (hdb : (x == ("__debug__" : Str)) = false := by decide)
    (he : starEach (e :: es) X.env = (false, eval e X.env) :: starEach es X.env := by rfl) (hpl : (backTo pos (starEach es X.env)).any (·.1) = false := by rfl) : PL X m (.Call (.Name x px) (e :: es) [] pos) (mny fs (callV g)) := by
  obtain ⟨f, fd, ps, F, h1, h2, h3⟩ := c.ex
  exact pl_args (r := fun vs H Q => spF X.K n g (vs ++ []) H Q E0) (pe_call F (hr.mono hk) hg h1 h2 h3 .nil pass0 ha hdb he hpl) (vl_call hn)
theorem px_call0 (c : Cl X.prog X.w X.K X.mg X.base k x n g) (hn : ∀ as r, g as = some r → as.length = n) (hr : Room j X.A) (hk : k ≤ j) (hg : Gl X x) (hdb : (x == ("__debug__" : Str)) = false := by decide) : PX X false true (.Call (.Name x px) [] [] pos) (mny sNil (callD g)) := by
  obtain ⟨f, fd, ps, F, h1, h2, h3⟩ := c.ex
  refine px_args (m := false) (r := fun vs H Q => spF X.K n g (vs ++ []) H Q E0) (pe_imp (pe_call0 F (hr.mono hk) hg h1 h2 h3 .nil pass0 hdb) fun σ H Q hq => ?_) (va_call hn)
  obtain ⟨vs0, P, E, fps, ds, E', rel, hh, q⟩ := hq
  obtain ⟨rfl, rfl⟩ := ret_some hh
  exact q P H fps [] rel (.refl _ _ _) (fun _ => Same.refl H) .nil
/-- the first argument is an owned list by its name, which the callee may change -/
def callM (i : Nat) (g : Fn) (fs : SE (List PyData)) : SE Sl := fun E => match own? i E with
  | some _ => match fs E with
    | some (ds, E1) => match own? i E1 with
      | some xs => match g (.own xs :: ds.map .dat) with
        | some (r, .own ys :: _) => some (r, E1.set i (.own ys))
        | _ => none
      | none => none
    | none => none
  | none => none
def asD (f : SE Sl) : SE PyData := fun E => match f E with
  | some (.dat d, E') => some (d, E')
  | some (.own xs, E') => some (.list xs, E')
  | _ => none
def asL (f : SE Sl) : SE (List PyData) := fun E => match f E with
  | some (.own xs, E') => some (xs, E')
  | _ => none
theorem callM_some {i : Nat} {E E' : En} {r : Sl} (h : callM i g fs E = some (r, E')) : ∃ xs0 ds E1 xs ys os, own? i E = some xs0 ∧ fs E = some (ds, E1) ∧ own? i E1 = some xs ∧ g (.own xs :: ds.map .dat) = some (r, .own ys :: os) ∧ E' = E1.set i (.own ys) := by
  unfold callM at h
  split at h
  · rename_i xs0 e0
    split at h
    · rename_i ds E1 e1
      split at h
      · rename_i xs e2
        split at h
        · rename_i r' ys os e3
          cases h
          exact ⟨xs0, ds, E1, xs, ys, os, e0, e1, e2, e3, rfl⟩
        · cases h
      · cases h
    · cases h
  · cases h
/-- behind the arguments: the callee's slots, and what is left behind it -/
theorem callM_core {K : PySem.W.Frag} {vs0 : List V} {P H P1 H1 : Hp} {E1 : En} {σ : L2.St} {fps fps1 : Nat → List Addr} {i : Nat} {xs ys : List PyData} {ds : List PyData} {ws : List V} {ad : Addr} {r : Sl} {os : List Sl} {Q : VK} {E0 : XK}
    (r1 : Rel K vs0 P1 E1 σ H1 fps1) (s1 : Step (In fps) P H (In fps1) P1 H1) (eo : own? i E1 = some xs) (es : σ[i]? = some (some (.ref ad))) (dw : DqAll K P1 ws ds) (hn : ∀ as r, g as = some r → as.length = n) (hg : g (.own xs :: ds.map .dat) = some (r, .own ys :: os))
    (q : ∀ (P' H' : Hp) (fps' : Nat → List Addr) (v : V) (fr : List Addr), Rel K vs0 P' (E1.set i (.own ys)) σ H' fps' → Step (In fps) P H (fun a => In fps' a ∨ a ∈ fr) P' H' → SlR K P' H' r (some v) fr → (∀ a ∈ fr, ¬ In fps' a) → (∀ a ∈ fr, H a = none) → Q v H') :
    spF K n g ((.ref ad :: ws) ++ []) H1 Q E0 := by
  rw [List.append_nil]
  have hl := hn _ _ hg
  rw [List.length_cons, List.length_map] at hl
  obtain ⟨ad2, vs, es2, ef, pa, ha, dx⟩ := r1.ownAt eo
  rw [es] at es2
  cases es2
  have hi : i < E1.length := (List.getElem?_eq_some_iff.mp (own?_some eo)).1
  have rd := rel_data r1.sub dw
  have rc : Rel K (.ref ad :: ws) P1 (.own xs :: ds.map .dat) ((V.ref ad :: ws).map some) H1 (fun j => if j = 0 then [ad] else []) := by
    refine ⟨r1.sub, by simp [dw.length], fun j s hs => ?_, fun j hj => ?_, fun j k a hj hk => ?_, fun j zs v hv hs => by rw [List.getElem?_map, hv]; rfl⟩
    · cases j with
      | zero =>
        cases hs
        exact ⟨some (.ref ad), rfl, .own pa ha dx⟩
      | succ j =>
        rw [List.getElem?_cons_succ] at hs
        obtain ⟨ov, h1, h2⟩ := rd.sl j s hs
        exact ⟨ov, by rw [List.map_cons, List.getElem?_cons_succ]; exact h1, by rw [if_neg (Nat.succ_ne_zero j)]; exact h2⟩
    · cases j with
      | zero => simp at hj
      | succ j => exact if_neg (Nat.succ_ne_zero j)
    · split at hj
      · split at hk
        · rename_i e1 e2
          exact e1.trans e2.symm
        · cases hk
      · cases hj
  refine ⟨by rw [List.length_cons, dw.length]; exact hl, P1, _, _, r, _, rc, hg, fun P' H' fpc v fr r' s' sr nf => ?_⟩
  -- the callee may change ad alone
  have inc : ∀ a, In (fun j => if j = 0 then [ad] else []) a → a = ad := fun a ⟨j, hj⟩ => by
    dsimp only at hj
    split at hj
    · exact List.mem_singleton.mp hj
    · cases hj
  have inC : In (fun j => if j = 0 then [ad] else []) ad := ⟨0, by simp⟩
  obtain ⟨ov, h1, h2⟩ := r'.sl 0 (.own ys) rfl
  rw [List.map_cons, List.getElem?_cons_zero] at h1
  cases h1
  generalize hfp : fpc 0 = fp0 at h2
  cases h2 with
  | @own _ vs' _ pa' ha' dy =>
    have inAd : In fps1 ad := ⟨i, by rw [ef]; exact List.mem_singleton.mpr rfl⟩
    have frO : ∀ a ∈ fr, H1 a = none := fun a hfr => by
      rcases s'.foot a (.inr hfr) with z | z
      · have : a = ad := inc a z
        subst this
        exact absurd ⟨0, by rw [hfp]; exact List.mem_singleton.mpr rfl⟩ (nf a hfr)
      · exact z
    have rE : Rel K vs0 P' (E1.set i (.own ys)) σ H' fps1 := by
      refine ⟨r'.sub, by rw [List.length_set]; exact r1.len, fun j s hs => ?_, fun j hj => by rw [List.length_set] at hj; exact r1.out j hj, r1.dj, fun j zs v' hv hs => ?_⟩
      · by_cases e : i = j
        · subst e
          rw [List.getElem?_set_self hi] at hs
          cases hs
          exact ⟨_, es, by rw [ef]; exact .own pa' ha' dy⟩
        · rw [List.getElem?_set_ne e] at hs
          obtain ⟨ov, g1, g2⟩ := r1.sl j s hs
          refine ⟨ov, g1, g2.mono s'.pp fun a hj => ?_⟩
          have hne : a ≠ ad := fun z => e (r1.dj i j ad (by rw [ef]; exact List.mem_singleton.mpr rfl) (z ▸ hj))
          obtain ⟨pn, o, ho⟩ := g2.foot hj
          have nin : ¬ In (fun j => if j = 0 then [ad] else []) a := fun z => hne (inc a z)
          refine ⟨(s'.keep a o ho nin).trans ho.symm, ?_⟩
          exact s'.noneD ho nin pn
      · by_cases e : i = j
        · subst e
          exact r1.par i xs v' hv (own?_some eo)
        · rw [List.getElem?_set_ne e] at hs
          exact r1.par j zs v' hv hs
    have sE : Step (In fps1) P1 H1 (fun a => In fps1 a ∨ a ∈ fr) P' H' := ⟨s'.pp, fun a o h1 nin => s'.keep a o h1 fun z => nin (inc a z ▸ inAd), fun a o ha2 => (s'.fresh a o ha2).imp id (fun z => z.imp id fun w => inc a w ▸ inAd), fun a ha2 => ha2.elim .inl fun z => .inr (frO a z), s'.live⟩
    refine q P' H' fps1 v fr rE (s1.trans sE) sr (fun a hfr z => ?_) fun a hfr => ?_
    · obtain ⟨_, o, ho⟩ := r1.foot z
      rw [frO a hfr] at ho
      cases ho
    · exact s1.free (frO a hfr)
theorem px_callM {i : Nat} (c : Cl X.prog X.w X.K X.mg X.base k x n g) (hn : ∀ as r, g as = some r → as.length = n) (hr : Room j X.A) (hk : k ≤ j) (hg : Gl X x) (h0 : PE X e (tVar i)) (ha : PXA X m es fs) (hdb : (x == ("__debug__" : Str)) = false := by decide)
    (he : starEach (e :: es) X.env = (false, eval e X.env) :: starEach es X.env := by rfl) (hpl : (backTo pos (starEach es X.env)).any (·.1) = false := by rfl) : PX X true true (.Call (.Name x px) (e :: es) [] pos) (asD (callM i g fs)) := by
  obtain ⟨f, fd, ps, F, h1, h2, h3⟩ := c.ex
  refine pe_imp (pe_call F (hr.mono hk) hg h1 h2 h3 .nil pass0 (pa_cons h0 ha he) hdb he hpl) fun σ H Q => ?_
  rintro ⟨vs0, P, E, fps, d, E', rel, hh, q⟩
  unfold asD at hh
  split at hh
  · rename_i d' E2 e2
    cases hh
    obtain ⟨xs0, ds, E1, xs, ys, os, g0, g1, g2, g3, rfl⟩ := callM_some e2
    obtain ⟨ad, _, es, _, _, _, _⟩ := rel.ownAt g0
    refine ⟨_, es, vs0, P, E, fps, ds, E1, rel, g1, fun P1 H1 fps1 ws r1 s1 _ dw => ?_⟩
    refine callM_core r1 s1 g2 es dw hn g3 fun P' H' fps' v fr r' s' sr nf fo => ?_
    cases sr with
    | dat dv => exact q P' H' fps' v r' ⟨s'.pp, s'.keep, s'.fresh, fun a ha => s'.foot a (.inl ha), s'.live⟩ (fun z => nomatch z) dv
  · rename_i xs' E2 e2
    cases hh
    obtain ⟨xs0, ds, E1, xs, ys, os, g0, g1, g2, g3, rfl⟩ := callM_some e2
    obtain ⟨ad, _, es, _, _, _, _⟩ := rel.ownAt g0
    refine ⟨_, es, vs0, P, E, fps, ds, E1, rel, g1, fun P1 H1 fps1 ws r1 s1 _ dw => ?_⟩
    refine callM_core r1 s1 g2 es dw hn g3 fun P' H' fps' v fr r' s' sr nf fo => ?_
    cases sr with
    | @own al vs _ pa ha dv =>
      have hal := List.mem_singleton.mpr (rfl : al = al)
      have t1 : Same P' (upd P' al (.lst vs)) := Fw.same_upd pa
      refine q (upd P' al (.lst vs)) H' fps' (.ref al) ⟨fun x o hx => ?_, r'.len, fun i s hs => ?_, r'.out, r'.dj, r'.par⟩ ⟨s'.pp.trans t1, s'.keep, fun x o hx => ?_, fun a ha => s'.foot a (.inl ha), s'.live⟩ (fun z => nomatch z) (.lst upd_same (dv.mono t1))
      · by_cases e1 : x = al
        · subst e1
          rw [upd_same] at hx
          cases hx
          exact ha
        · rw [upd_ne e1] at hx
          exact r'.sub x o hx
      · obtain ⟨ov, k1, k2⟩ := r'.sl i s hs
        refine ⟨ov, k1, k2.mono t1 fun y hy => ⟨rfl, ?_⟩⟩
        have hne : y ≠ al := fun z => nf al hal (z ▸ ⟨i, hy⟩)
        rw [upd_ne hne]
        exact (k2.foot hy).1
      · by_cases e1 : x = al
        · subst e1
          exact .inr (.inl (fo x hal))
        · rw [upd_ne e1] at hx
          exact s'.fresh x o hx
  · cases hh
theorem pl_callM {i : Nat} (c : Cl X.prog X.w X.K X.mg X.base k x n g) (hn : ∀ as r, g as = some r → as.length = n) (hr : Room j X.A) (hk : k ≤ j) (hg : Gl X x) (h0 : PE X e (tVar i)) (ha : PXA X m es fs) (hdb : (x == ("__debug__" : Str)) = false := by decide)
    (he : starEach (e :: es) X.env = (false, eval e X.env) :: starEach es X.env := by rfl) (hpl : (backTo pos (starEach es X.env)).any (·.1) = false := by rfl) : PL X true (.Call (.Name x px) (e :: es) [] pos) (asL (callM i g fs)) := by
  obtain ⟨f, fd, ps, F, h1, h2, h3⟩ := c.ex
  refine pe_imp (pe_call F (hr.mono hk) hg h1 h2 h3 .nil pass0 (pa_cons h0 ha he) hdb he hpl) fun σ H Q => ?_
  rintro ⟨vs0, P, E, fps, d, E', rel, hh, q⟩
  unfold asL at hh
  split at hh
  · rename_i xs' E2 e2
    cases hh
    obtain ⟨xs0, ds, E1, xs, ys, os, g0, g1, g2, g3, rfl⟩ := callM_some e2
    obtain ⟨ad, _, es, _, _, _, _⟩ := rel.ownAt g0
    refine ⟨_, es, vs0, P, E, fps, ds, E1, rel, g1, fun P1 H1 fps1 ws r1 s1 _ dw => ?_⟩
    refine callM_core r1 s1 g2 es dw hn g3 fun P' H' fps' v fr r' s' sr nf fo => ?_
    cases sr with
    | @own al vs _ pa ha dv =>
      have hal := List.mem_singleton.mpr (rfl : al = al)
      exact q P' H' fps' al vs r' ⟨s'.pp, s'.keep, s'.fresh, fun a ha => s'.foot a (.inl ha), s'.live⟩ (fun z => nomatch z) (fo al hal) pa (nf al hal) ha dv
  · cases hh
/-- f(script) that hands back a new list -/
def callS (i : Nat) (g : Fn) : SE (List PyData) := fun E => match E[i]? with
  | some (.scr ns) => match g [.scr ns] with
    | some (.own xs, _) => some (xs, E)
    | _ => none
  | _ => none
theorem pl_callS {i : Nat} (c : Cl X.prog X.w X.K X.mg X.base k x 1 g) (hr : Room j X.A) (hk : k ≤ j) (hg : Gl X x) (h0 : PE X e (tVar i)) (hdb : (x == ("__debug__" : Str)) = false := by decide)
    (he : starEach [e] X.env = (false, eval e X.env) :: starEach [] X.env := by rfl) (hpl : (backTo pos (starEach [] X.env)).any (·.1) = false := by rfl) : PL X false (.Call (.Name x px) [e] [] pos) (callS i g) := by
  obtain ⟨f, fd, ps, F, h1, h2, h3⟩ := c.ex
  refine pe_imp (pe_call F (hr.mono hk) hg h1 h2 h3 .nil pass0 (pa_cons h0 pa_nil he) hdb he hpl) fun σ H Q => ?_
  rintro ⟨vs0, P, E, fps, d, E', rel, hh, q⟩
  unfold callS at hh
  split at hh
  · rename_i ns e1
    split at hh
    · rename_i xs os e2
      cases hh
      obtain ⟨ov, e3, s⟩ := rel.sl i _ e1
      generalize hfp : fps i = fp at s
      cases s with
      | @scr ad _ hs =>
        refine ⟨_, e3, rfl, P, _, fun _ => [], _, os, ⟨rel.sub, rfl, fun i s hs' => ?_, fun _ _ => rfl, (fun _ _ _ h => nomatch h), fun i xs v _ h => ?_⟩, e2, fun P' H' fps' v fr r' s' sr _ => ?_⟩
        · cases i with
          | zero => cases hs'; exact ⟨_, rfl, .scr hs⟩
          | succ i => simp at hs'
        · cases i with
          | zero => cases h
          | succ i => simp at h
        · cases sr with
          | @own al vs _ pa ha dv =>
            have fr1 : Fresh NoF P H P' := fun a o ha => (s'.fresh a o ha).imp id (fun z => z.elim .inl (fun w => absurd w (no_in a)))
            have sm : Same H H' := fun a o ha => s'.keep a o ha (no_in a)
            have hfree : H al = none := by
              rcases s'.foot al (.inr (List.mem_singleton.mpr rfl)) with z | z
              · exact absurd z (no_in al)
              · exact z
            have r2 := rel.alloc s'.pp r'.sub sm fr1
            exact q P' H' fps al vs r2 (.alloc s'.pp sm fr1) (fun _ => sm) hfree pa (fun z => by
              obtain ⟨_, o, ho⟩ := rel.foot z
              rw [hfree] at ho
              cases ho) ha dv
    · cases hh
  · cases hh
end
end Fw
namespace Fw
open PySem PySem.Spec L2
open PyProof.Rows hiding St
section
variable {X : Cx} {n : Nat} {m m1 m2 m3 p p1 p2 p3 : Bool} {elt tg iter : Expr} {ifs : List Expr} {pos px apos spos : Pos} {fe : SE PyData} {fs : SE (List PyData)} {scope : Scope} {x : Str}
/-- a constant of the module -/
def Cn (K : PySem.W.Frag) (mg : Str → Option Value) (x : Str) (d : PyData) : Prop := ∃ v, (∃ u, mg x = some u ∧ RelV v u) ∧ Kn K v d
theorem px_gc {d : PyData} (hg : Gl X x) (h : Cn X.K X.mg x d) (hd : (x == ("__debug__" : Str)) = false := by decide) : PX X false true (.Name x pos) (ret d) := by
  obtain ⟨v, ⟨u, h1, h2⟩, h3⟩ := h
  exact px_kn (pe_glob hg h1 h2 hd) h3
theorem asgL_core {K : PySem.W.Frag} {i : Nat} {te : TE} {D : Ends} {σ : L2.St} {H : Hp} (hi' : n ≤ i) (im : ∀ σ H Q, tXL K m fs σ H Q → te σ H Q) (h : tS K n (asgL i fs) D σ H) : tAsg te (gName i) D σ H := by
  obtain ⟨vs0, P, E, fps, fl, E', hn, r, hf, q⟩ := h
  unfold asgL at hf
  split at hf
  · rename_i ds E1 e1
    cases hf
    refine im _ _ _ ⟨vs0, P, E, fps, ds, E1, r, e1, fun P1 H1 fps1 ad vs r1 s1 _ ha pa nf hv dv => ?_⟩
    have r2 := r1.put (i := i) (s := .own ds) (ov := some (.ref ad)) (l := [ad]) (.own pa hv dv) (fun y hy j _ hj => by
      cases List.mem_singleton.mp hy
      exact nf ⟨j, hj⟩) (fun xs v hv' _ => by
        have := (List.getElem?_eq_some_iff.mp hv').1
        omega)
    refine q P1 H1 _ _ r2 ⟨s1.pp, s1.keep, s1.fresh, fun y hy => ?_, s1.live⟩
    split at hy
    · rcases in_clr hy with h2 | h2
      · cases List.mem_singleton.mp h2
        exact .inr ha
      · exact s1.foot y h2
    · exact s1.foot y hy
  · cases hf
theorem asg_core {K : PySem.W.Frag} {i : Nat} {te : TE} {fa : SE PyData} {D : Ends} {σ : L2.St} {H : Hp} (im : ∀ σ H Q, tX K m true fa σ H Q → te σ H Q) (h : tS K n (asg i fa) D σ H) : tAsg te (gName i) D σ H := by
  obtain ⟨vs0, P, E, fps, fl, E', hn, r, hf, q⟩ := h
  unfold asg at hf
  split at hf
  · rename_i d E1 e1
    cases hf
    refine im _ _ _ ⟨vs0, P, E, fps, d, E1, r, e1, fun P1 H1 fps1 v r1 s1 _ dv => ?_⟩
    obtain ⟨fps2, r2, s2⟩ := r1.putDat (i := i) dv
    exact q P1 H1 fps2 _ r2 (s1.trans s2)
  · cases hf
theorem px_core {K : PySem.W.Frag} {fs : SE (List PyData)} {te : TE} (im : ∀ σ H Q, tXL K m fs σ H Q → te σ H Q) : ∀ σ H Q, tX K m true (bnd fs fun ds => ret (.list ds)) σ H Q → te σ H Q := fun σ H Q => by
  rintro ⟨vs0, P, E, fps, d, E', r, hf, q⟩
  obtain ⟨ds, E1, h1, h2⟩ := bnd_some hf
  obtain ⟨rfl, rfl⟩ := ret_some h2
  refine im _ _ _ ⟨vs0, P, E, fps, ds, _, r, h1, fun P' H' fps' ad vs r' st sm ha pa nf hv dv => ?_⟩
  have s1 : Same P' (upd P' ad (.lst vs)) := Fw.same_upd pa
  refine q (upd P' ad (.lst vs)) H' fps' (.ref ad) ⟨fun x o hx => ?_, r'.len, fun i s hs => ?_, r'.out, r'.dj, r'.par⟩ ⟨st.pp.trans s1, st.keep, fun x o hx => ?_, st.foot, st.live⟩ sm (.lst upd_same (dv.mono s1))
  · by_cases e1 : x = ad
    · subst e1
      rw [upd_same] at hx
      cases hx
      exact hv
    · rw [upd_ne e1] at hx
      exact r'.sub x o hx
  · obtain ⟨ov, e1, q1⟩ := r'.sl i s hs
    refine ⟨ov, e1, q1.mono s1 fun y hy => ⟨rfl, ?_⟩⟩
    have hne : y ≠ ad := fun z => nf (z ▸ ⟨i, hy⟩)
    rw [upd_ne hne]
    exact (q1.foot hy).1
  · by_cases e1 : x = ad
    · subst e1
      exact .inr (.inl ha)
    · rw [upd_ne e1] at hx
      exact st.fresh x o hx
theorem pxs_lcL {i : Nat} {py : Pos} {own : List (Str × Nat)} {ts : List Nat} {bb : PyData → En → Option En} {t : SE Bool} (hi' : n ≤ i) (hc : X.calm = true) (hN : X.N.Nodup) (hy : X.N[i]? = some x) (hyl : X.env.scope.names.lookup x = some .local)
    (hsw : swapsWith (.ListComp elt [⟨tg, iter, ifs, 0⟩] scope pos) (some (.Name x py)) spos.line X.env = pure true)
    (ok : BlkOk X.N X.env.scope scope own) (hi : PXI X m tg iter fs)
    (hg : ∀ (s : Shared) (H : Hp) (C : Addr) (cl : List (Str × Addr)) (fp : List Addr), PXG (X.blk s H scope (compEnvC scope cl C X.env) fp) ts tg bb)
    (ht : ∀ (s : Shared) (H : Hp) (C : Addr) (cl : List (Str × Addr)) (fp : List Addr), PTs (X.blk s H scope (compEnvC scope cl C X.env) fp) ifs (tXT X.K m2 t))
    (he : ∀ (s : Shared) (H : Hp) (C : Addr) (cl : List (Str × Addr)) (fp : List Addr), PX (X.blk s H scope (compEnvC scope cl C X.env) fp) m1 true elt fe)
    (hts : ∀ k ∈ ts, k ∈ own.map (·.2)) (hs : ∀ x, foldedSetIterable iter X.env x = pure x := by intro _; rfl) :
    PXS1 X n (.Assign [.Name x py] (.ListComp elt [⟨tg, iter, ifs, 0⟩] scope pos) spos) (asgL i (lcS fs (own.map (·.2)) bb t fe)) :=
  ps_imp (ps_setLc (g := tXG X.K ts bb) (tt := tXT X.K m2 t) (te := tX X.K m1 true fe) hc hN hy hyl hsw hi ok hg ht he hs) fun D σ H h => asgL_core hi' (fun _ _ _ => lc_imp hts) h
theorem pxs_lcD {i : Nat} {py : Pos} {own : List (Str × Nat)} {ts : List Nat} {bb : PyData → En → Option En} {t : SE Bool} (hc : X.calm = true) (hN : X.N.Nodup) (hy : X.N[i]? = some x) (hyl : X.env.scope.names.lookup x = some .local)
    (hsw : swapsWith (.ListComp elt [⟨tg, iter, ifs, 0⟩] scope pos) (some (.Name x py)) spos.line X.env = pure true)
    (ok : BlkOk X.N X.env.scope scope own) (hi : PXI X m tg iter fs)
    (hg : ∀ (s : Shared) (H : Hp) (C : Addr) (cl : List (Str × Addr)) (fp : List Addr), PXG (X.blk s H scope (compEnvC scope cl C X.env) fp) ts tg bb)
    (ht : ∀ (s : Shared) (H : Hp) (C : Addr) (cl : List (Str × Addr)) (fp : List Addr), PTs (X.blk s H scope (compEnvC scope cl C X.env) fp) ifs (tXT X.K m2 t))
    (he : ∀ (s : Shared) (H : Hp) (C : Addr) (cl : List (Str × Addr)) (fp : List Addr), PX (X.blk s H scope (compEnvC scope cl C X.env) fp) m1 true elt fe)
    (hts : ∀ k ∈ ts, k ∈ own.map (·.2)) (hs : ∀ x, foldedSetIterable iter X.env x = pure x := by intro _; rfl) :
    PXS1 X n (.Assign [.Name x py] (.ListComp elt [⟨tg, iter, ifs, 0⟩] scope pos) spos) (asg i (bnd (lcS fs (own.map (·.2)) bb t fe) fun ds => ret (.list ds))) :=
  ps_imp (ps_setLc (g := tXG X.K ts bb) (tt := tXT X.K m2 t) (te := tX X.K m1 true fe) hc hN hy hyl hsw hi ok hg ht he hs) fun D σ H h => asg_core (px_core fun _ _ _ => lc_imp hts) h
end

structure Fx (K : PySem.W.Frag) (mg : Str → Option Value) (x : Str) (st : Stmt) (ps : List Str) : Prop where
  ex : ∃ (f : Addr) (fd : FuncData), Fun K x x st f fd ∧ mg x = some (.ref f) ∧ Binds K fd ps []
theorem Fx.cl {P : Program} {w : World} {K : PySem.W.Frag} {mg : Str → Option Value} {base : Heap} {x : Str} {st : Stmt} {ps : List Str} {k n : Nat} {g : Fn} (h : Fx K mg x st ps)
    (ok : ∀ (f : Addr) (fd : FuncData), Fun K x x st f fd → FnOk P w K mg base CX0 k f fd ps (spF K n g)) : Cl P w K mg base k x n g := by
  obtain ⟨f, fd, F, h1, h2⟩ := h.ex
  exact ⟨f, fd, ps, ok f fd F, h1, F.kp, h2⟩
theorem Fx.of {K : PySem.W.Frag} {mg : Str → Option Value} {h : Heap} {x : Str} {st : Stmt} {ps : List Str} {f : Addr} {oc : Value} {od an : Option Addr} {osl : Array (Option Value)} {kV doc pm cdv ct : Value} (X : K.In h) (G : h.Ns mainGlobals mg) (a : PySem.W.nsIn K mainGlobals x = some (some (.ref f)))
    (l : K.lookup f = some ⟨oc, od, .func (PySem.W.fnOf x x (defArgs st) (defBody st) (defScope st) .none kV doc pm an cdv ct), osl⟩) (c : PySem.W.codeIn K cdv x = true) (k : PySem.W.keepIn K (.ref f) = true)
    (hb : ∀ (kV doc pm : Value) (an : Option Addr) (cdv ct : Value) (us : List Value), us.length = ps.length → bindArgs (PySem.W.fnOf x x (defArgs st) (defBody st) (defScope st) .none kV doc pm an cdv ct) ⟨us, []⟩ = pure (ps.zip us)) : Fx K mg x st ps :=
  ⟨f, _, fun_mk l c k, PySem.W.mg_of X G a, (fun_mk l c k).binds hb⟩
/-- the law's def at its own address -/
theorem law_of {P : Program} {w : World} {K : PySem.W.Frag} {mg : Str → Option Value} {h : Heap} {st : Stmt} {fa f : Addr} {L : Nat} {g : Fn} {oc : Value} {od an : Option Addr} {osl : Array (Option Value)} {kV doc pm cdv ct : Value} (X : K.In h) (G : h.Ns mainGlobals mg) (hfa : mg "law" = some (.ref fa)) (a : PySem.W.nsIn K mainGlobals "law" = some (some (.ref f)))
    (l : K.lookup f = some ⟨oc, od, .func (PySem.W.fnOf "law" "law" (defArgs st) (defBody st) (defScope st) .none kV doc pm an cdv ct), osl⟩) (c : PySem.W.codeIn K cdv "law" = true) (k : PySem.W.keepIn K (.ref f) = true)
    (hb : ∀ (s : Shared) (v : Value), BindsTo s (PySem.W.fnOf "law" "law" (defArgs st) (defBody st) (defScope st) .none kV doc pm an cdv ct) ⟨[v], []⟩ [("script", v)])
    (ok : ∀ (base : Heap) (f : Addr) (fd : FuncData), Fun K "law" "law" st f fd → FnOk P w K mg base CX0 L f fd ["script"] (spF K 1 g)) :
    ∃ fd : FuncData, (∀ (s : Shared) (v : Value), BindsTo s fd ⟨[v], []⟩ [("script", v)]) ∧ ∀ base : Heap, K.In base → base.Ns mainGlobals mg → FnOk P w K mg base CX0 L fa fd ["script"] (spF K 1 g) := by
  have e := hfa.symm.trans (PySem.W.mg_of X G a)
  cases e
  exact ⟨_, hb, fun base _ _ => ok base _ _ (fun_mk l c k)⟩
/-- from the mathematics to the promise at the script -/
theorem sp_law {K : PySem.W.Frag} {H : Hp} {a : Addr} {ns : List Int} {g : Fn} {E : XK} (hS : SqL K H a (ns.map V.int)) (hg : ∃ outs, g [.scr ns] = some (.dat (.bool true), outs)) : spF K 1 g [.ref a] H (fun v _ => v = V.bl true) E := by
  obtain ⟨outs, hg⟩ := hg
  refine ⟨rfl, H, [.scr ns], fun _ => [], _, outs, ⟨Same.refl H, rfl, fun i s hs => ?_, fun _ _ => rfl, (fun _ _ _ h => nomatch h), fun i xs v _ h => ?_⟩, hg, fun P' H' fps' v fr r' s' sr _ => ?_⟩
  · cases i with
    | zero => cases hs; exact ⟨_, rfl, .scr hS⟩
    | succ i => simp at hs
  · cases i with
    | zero => cases h
    | succ i => simp at h
  · cases sr with
    | dat d => exact dq_bl d
theorem Cn.int {K : PySem.W.Frag} {mg : Str → Option Value} {h : Heap} {x : Str} {i : Int} {t : Tok} (X : K.In h) (G : h.Ns mainGlobals mg) (a : PySem.W.nsIn K mainGlobals x = some (some (.int i t))) : Cn K mg x (.int i) := ⟨.int i, ⟨_, PySem.W.mg_of X G a, ⟨t, rfl⟩⟩, fun _ => .int i⟩
theorem Cn.str {K : PySem.W.Frag} {mg : Str → Option Value} {h : Heap} {x : Str} {i : Str} {t : Tok} (X : K.In h) (G : h.Ns mainGlobals mg) (a : PySem.W.nsIn K mainGlobals x = some (some (.str i t))) : Cn K mg x (.str i) := ⟨.str i, ⟨_, PySem.W.mg_of X G a, ⟨t, rfl⟩⟩, fun _ => .str i⟩
/-- what a written value stands for, flat -/
def flatOf : Value → Option (V × PyData)
  | .int i _ => some (.int i, .int i)
  | .str x _ => some (.str x, .str x)
  | .bool b => some (.bl b, .bool b)
  | .none => some (.non, .none)
  | _ => none
def flatsOf : List Value → Option (List V × List PyData)
  | [] => some ([], [])
  | u :: us => match flatOf u, flatsOf us with
    | some (v, d), some (vs, ds) => some (v :: vs, d :: ds)
    | _, _ => none
theorem flat_rel {u : Value} {v : V} {d : PyData} (h : flatOf u = some (v, d)) : RelV v u ∧ ∀ K P, Dq K P v d := by
  unfold flatOf at h
  split at h <;> cases h
  · exact ⟨⟨_, rfl⟩, fun _ _ => .int _⟩
  · exact ⟨⟨_, rfl⟩, fun _ _ => .str _⟩
  · exact ⟨rfl, fun _ _ => .bl _⟩
  · exact ⟨rfl, fun _ _ => .non⟩
theorem flats_rel : ∀ {us : List Value} {vs : List V} {ds : List PyData}, flatsOf us = some (vs, ds) → Vals vs us ∧ ∀ K P, DqAll K P vs ds
  | [], _, _, h => by cases h; exact ⟨.nil, fun _ _ => .nil⟩
  | u :: us, _, _, h => by
    unfold flatsOf at h
    split at h
    · rename_i v d vs ds h1 h2
      cases h
      obtain ⟨a1, a2⟩ := flat_rel h1
      obtain ⟨b1, b2⟩ := flats_rel h2
      exact ⟨.cons a1 b1, fun K P => .cons (a2 K P) (b2 K P)⟩
    · cases h
theorem Cn.tup {K : PySem.W.Frag} {mg : Str → Option Value} {h : Heap} {x : Str} {c : Addr} {dd : Option Addr} {its : Array Value} {n : Nat} {sl : Array (Option Value)} {vs : List V} {ds : List PyData} (X : K.In h) (G : h.Ns mainGlobals mg) (a : PySem.W.nsIn K mainGlobals x = some (some (.ref c)))
    (l : K.lookup c = some ⟨.type "tuple", dd, .seq its n, sl⟩) (e : flatsOf its.toList = some (vs, ds)) (hz : its.size ≤ sizeLine) : Cn K mg x (.tuple ds) := by
  obtain ⟨h1, h2⟩ := flats_rel e
  exact ⟨.ref c, ⟨_, PySem.W.mg_of X G a, rfl⟩, fun P => .tup (.inr ⟨_, its, n, l, rfl, rfl, hz, h1⟩) (h2 K P)⟩
end Fw
namespace Fw
open PySem PySem.Spec L2
open PyProof.Rows hiding St
theorem boot_len : bootBuiltins "len" = some (.builtin "len") := by decide +kernel
theorem boot_abs : bootBuiltins "abs" = some (.builtin "abs") := by decide +kernel
theorem boot_ord : bootBuiltins "ord" = some (.builtin "ord") := by decide +kernel
theorem boot_sum : bootBuiltins "sum" = some (.builtin "sum") := by decide +kernel
theorem boot_all : bootBuiltins "all" = some (.builtin "all") := by decide +kernel
theorem boot_any : bootBuiltins "any" = some (.builtin "any") := by decide +kernel
theorem boot_min : bootBuiltins "min" = some (.builtin "min") := by decide +kernel
theorem boot_max : bootBuiltins "max" = some (.builtin "max") := by decide +kernel
theorem boot_divmod : bootBuiltins "divmod" = some (.builtin "divmod") := by decide +kernel
theorem boot_int : bootBuiltins "int" = some (.type "int") := by decide +kernel
theorem boot_str : bootBuiltins "str" = some (.type "str") := by decide +kernel
theorem boot_bool : bootBuiltins "bool" = some (.type "bool") := by decide +kernel
theorem boot_tuple : bootBuiltins "tuple" = some (.type "tuple") := by decide +kernel
theorem boot_list : bootBuiltins "list" = some (.type "list") := by decide +kernel
end Fw
namespace Fw
open PySem PySem.Spec L2
open PyProof.Rows hiding St
open Builtin Float
def specText (base grp : Nat) (up : Bool) (f : Builtin.Float.FormatSpec) (a : Int) : Str :=
  intField' f (decide (a < 0)) [] ((Nat.toDigits base a.natAbs).map fun c => (if up then c.toUpper else c).toNat) [] grp
theorem ff_hex {prog : Program} {w : World} {A : Around} {E : Value → Shared → Prop} {s : Shared} {a : Int} {t : Tok} {spec : Str} {f : Builtin.Float.FormatSpec} {Q : Value → Shared → Prop}
    (hp : parseFormatSpec spec.cps.toList "int" 62 = .ok f) (hne : (spec.length == 0) = false)
    (hasc : ((spec.cps.toList.drop 1).any (· ≥ 128) || (spec.cps.getD 0 0 ≥ 128 && !([60, 62, 61, 94] : List Nat).contains (spec.cps.getD 1 0))) = false)
    (hty : f.type.getD (if spec.cps.back? == some 0 then 0 else 100) = 88) (hpr : f.precision = none) (hz : f.noNeg0 = false) (hal : f.alt = false) (hgr : f.grouping = none) (hsg : f.sign = none) (hw : f.width.getD 0 ≤ 100000)
    (hlen : (specText 16 4 true f a).length ≤ sizeLine) (hsz : spec.length ≤ sizeLine)
    (h : Q (.str (specText 16 4 true f a) (s.toks + 1)) { s with toks := s.toks + 1 + 1 }) :
    wpAny (model prog w) A (formatField (.int a t) spec) Q E s := by
  show wpAny _ _ (holding [.int a t] (pyFormat (.int a t) spec)) Q E s
  refine wpAny_holding ?_
  unfold pyFormat
  refine wpAny_bind (wpAny_mkStr ?_ hsz)
  refine wpAny_bind (m := callSpecial? (.int a t) (Str.ofString "__format__") [.str spec s.toks]) (wpAny_callSpecial?_slot (name := Str.ofString "__format__") (typeIs_int _ a t) PySem.F.slot_int_format ?_)
  refine wpAny_call (codeAny_call_builtin PySem.F.slot_int_format.plain PySem.F.entry_int_format (PySem.F.slot_int_format.check _ _ _ _ _ _ _ _ (typeIs_int _ a t) (PySem.F.args_int_format_2 _ _) ?_))
  unfold Builtin.«int.__format__»
  simp only [selfAndOne, noKeywords, Builtin.Int.intOfSelf, asInt?, asStr?, List.isEmpty_nil, if_true, pure_bind, bind_pure, bind_assoc, hne, hasc, Bool.false_eq_true, if_false,
    show (Value.str spec s.toks == Value.none) = false from rfl]
  refine wpAny_bind (wpAny_typeNameOf (T := "str") (typeIs_str _ _ _) (by decide) fun _ => ?_)
  refine wpAny_bind (wpAny_typeNameOfCut_int ?_)
  simp only [hp, hty]
  rw [if_pos (by decide)]
  show wpAny _ _ (if _ then _ else _) _ _ _
  rw [if_neg (by simp [hpr])]
  show wpAny _ _ (if _ then _ else _) _ _ _
  rw [if_neg (by simp [hz])]
  show wpAny _ _ (if _ then _ else _) _ _ _
  rw [if_neg (by decide)]
  show wpAny _ _ (if _ then _ else _) _ _ _
  have hw' : ¬ (f.width.getD 0 > 100000) := by omega
  rw [if_neg (by simpa using hw')]
  show wpAny _ _ (if _ then _ else _) _ _ _
  rw [if_neg (by simpa using hw')]
  show wpAny _ _ (retStr _) _ _ _
  unfold retStr
  refine wpAny_bind (wpAny_mkStr (wpAny_pure ?_) ?hs2)
  case hs2 =>
    simp only [hal, Bool.false_eq_true, if_false, show ((16 : Nat) == 10) = false by decide, show ((88 : Nat) == 88) = true by decide, if_true]
    conv => lhs; arg 1; whnf
    simp only [specText, intField', hgr, hsg, hal, Bool.false_eq_true, if_false, if_true] at hlen ⊢
    exact hlen
  dsimp only
  refine wpAny_bind (wpAny_isInstance (typeIs_str _ _ _) isSubtype_str_str (wpAny_pure ?_))
  simp only [hal, Bool.false_eq_true, if_false, show ((16 : Nat) == 10) = false by decide, show ((88 : Nat) == 88) = true by decide, if_true]
  conv => arg 1; arg 1; whnf
  simp only [specText, intField', hgr, hsg, hal, Bool.false_eq_true, if_false, if_true] at h ⊢
  exact h
theorem ff_hexl {prog : Program} {w : World} {A : Around} {E : Value → Shared → Prop} {s : Shared} {a : Int} {t : Tok} {spec : Str} {f : Builtin.Float.FormatSpec} {Q : Value → Shared → Prop}
    (hp : parseFormatSpec spec.cps.toList "int" 62 = .ok f) (hne : (spec.length == 0) = false)
    (hasc : ((spec.cps.toList.drop 1).any (· ≥ 128) || (spec.cps.getD 0 0 ≥ 128 && !([60, 62, 61, 94] : List Nat).contains (spec.cps.getD 1 0))) = false)
    (hty : f.type.getD (if spec.cps.back? == some 0 then 0 else 100) = 120) (hpr : f.precision = none) (hz : f.noNeg0 = false) (hal : f.alt = false) (hgr : f.grouping = none) (hsg : f.sign = none) (hw : f.width.getD 0 ≤ 100000)
    (hlen : (specText 16 4 false f a).length ≤ sizeLine) (hsz : spec.length ≤ sizeLine)
    (h : Q (.str (specText 16 4 false f a) (s.toks + 1)) { s with toks := s.toks + 1 + 1 }) :
    wpAny (model prog w) A (formatField (.int a t) spec) Q E s := by
  show wpAny _ _ (holding [.int a t] (pyFormat (.int a t) spec)) Q E s
  refine wpAny_holding ?_
  unfold pyFormat
  refine wpAny_bind (wpAny_mkStr ?_ hsz)
  refine wpAny_bind (m := callSpecial? (.int a t) (Str.ofString "__format__") [.str spec s.toks]) (wpAny_callSpecial?_slot (name := Str.ofString "__format__") (typeIs_int _ a t) PySem.F.slot_int_format ?_)
  refine wpAny_call (codeAny_call_builtin PySem.F.slot_int_format.plain PySem.F.entry_int_format (PySem.F.slot_int_format.check _ _ _ _ _ _ _ _ (typeIs_int _ a t) (PySem.F.args_int_format_2 _ _) ?_))
  unfold Builtin.«int.__format__»
  simp only [selfAndOne, noKeywords, Builtin.Int.intOfSelf, asInt?, asStr?, List.isEmpty_nil, if_true, pure_bind, bind_pure, bind_assoc, hne, hasc, Bool.false_eq_true, if_false,
    show (Value.str spec s.toks == Value.none) = false from rfl]
  refine wpAny_bind (wpAny_typeNameOf (T := "str") (typeIs_str _ _ _) (by decide) fun _ => ?_)
  refine wpAny_bind (wpAny_typeNameOfCut_int ?_)
  simp only [hp, hty]
  rw [if_pos (by decide)]
  show wpAny _ _ (if _ then _ else _) _ _ _
  rw [if_neg (by simp [hpr])]
  show wpAny _ _ (if _ then _ else _) _ _ _
  rw [if_neg (by simp [hz])]
  show wpAny _ _ (if _ then _ else _) _ _ _
  rw [if_neg (by decide)]
  show wpAny _ _ (if _ then _ else _) _ _ _
  have hw' : ¬ (f.width.getD 0 > 100000) := by omega
  rw [if_neg (by simpa using hw')]
  show wpAny _ _ (if _ then _ else _) _ _ _
  rw [if_neg (by simpa using hw')]
  show wpAny _ _ (retStr _) _ _ _
  unfold retStr
  refine wpAny_bind (wpAny_mkStr (wpAny_pure ?_) ?hs2)
  case hs2 =>
    simp only [hal, Bool.false_eq_true, if_false, show ((16 : Nat) == 10) = false by decide, show ((120 : Nat) == 88) = false by decide, if_true]
    conv => lhs; arg 1; whnf
    simp only [specText, intField', hgr, hsg, hal, Bool.false_eq_true, if_false, if_true] at hlen ⊢
    exact hlen
  dsimp only
  refine wpAny_bind (wpAny_isInstance (typeIs_str _ _ _) isSubtype_str_str (wpAny_pure ?_))
  simp only [hal, Bool.false_eq_true, if_false, show ((16 : Nat) == 10) = false by decide, show ((120 : Nat) == 88) = false by decide, if_true]
  conv => arg 1; arg 1; whnf
  simp only [specText, intField', hgr, hsg, hal, Bool.false_eq_true, if_false, if_true] at h ⊢
  exact h
theorem ff_dec {prog : Program} {w : World} {A : Around} {E : Value → Shared → Prop} {s : Shared} {a : Int} {t : Tok} {spec : Str} {f : Builtin.Float.FormatSpec} {Q : Value → Shared → Prop}
    (hp : parseFormatSpec spec.cps.toList "int" 62 = .ok f) (hne : (spec.length == 0) = false)
    (hasc : ((spec.cps.toList.drop 1).any (· ≥ 128) || (spec.cps.getD 0 0 ≥ 128 && !([60, 62, 61, 94] : List Nat).contains (spec.cps.getD 1 0))) = false)
    (hty : f.type.getD (if spec.cps.back? == some 0 then 0 else 100) = 100) (hpr : f.precision = none) (hz : f.noNeg0 = false) (hal : f.alt = false) (hgr : f.grouping = none) (hsg : f.sign = none) (hw : f.width.getD 0 ≤ 100000)
    (hd : a.natAbs.log2 < 1920) (hlen : (specText 10 3 false f a).length ≤ sizeLine) (hsz : spec.length ≤ sizeLine)
    (h : Q (.str (specText 10 3 false f a) (s.toks + 1)) { s with toks := s.toks + 1 + 1 }) :
    wpAny (model prog w) A (formatField (.int a t) spec) Q E s := by
  show wpAny _ _ (holding [.int a t] (pyFormat (.int a t) spec)) Q E s
  refine wpAny_holding ?_
  unfold pyFormat
  refine wpAny_bind (wpAny_mkStr ?_ hsz)
  refine wpAny_bind (m := callSpecial? (.int a t) (Str.ofString "__format__") [.str spec s.toks]) (wpAny_callSpecial?_slot (name := Str.ofString "__format__") (typeIs_int _ a t) PySem.F.slot_int_format ?_)
  refine wpAny_call (codeAny_call_builtin PySem.F.slot_int_format.plain PySem.F.entry_int_format (PySem.F.slot_int_format.check _ _ _ _ _ _ _ _ (typeIs_int _ a t) (PySem.F.args_int_format_2 _ _) ?_))
  unfold Builtin.«int.__format__»
  simp only [selfAndOne, noKeywords, Builtin.Int.intOfSelf, asInt?, asStr?, List.isEmpty_nil, if_true, pure_bind, bind_pure, bind_assoc, hne, hasc, Bool.false_eq_true, if_false,
    show (Value.str spec s.toks == Value.none) = false from rfl]
  refine wpAny_bind (wpAny_typeNameOf (T := "str") (typeIs_str _ _ _) (by decide) fun _ => ?_)
  refine wpAny_bind (wpAny_typeNameOfCut_int ?_)
  simp only [hp, hty]
  rw [if_pos (by decide)]
  show wpAny _ _ (if _ then _ else _) _ _ _
  rw [if_neg (by simp [hpr])]
  show wpAny _ _ (if _ then _ else _) _ _ _
  rw [if_neg (by simp [hz])]
  show wpAny _ _ (if _ then _ else _) _ _ _
  rw [if_neg (by decide)]
  have hw' : ¬ (f.width.getD 0 > 100000) := by omega
  show wpAny _ _ (do let r ← Builtin.overDigitLimit? a; _) _ _ _
  rw [PySem.overDigitLimit_small hd]
  refine wpAny_bind (wpAny_pure ?_)
  show wpAny _ _ (if _ then _ else _) _ _ _
  rw [if_neg (by simpa using hw')]
  show wpAny _ _ (retStr _) _ _ _
  unfold retStr
  refine wpAny_bind (wpAny_mkStr (wpAny_pure ?_) ?hs2)
  case hs2 =>
    simp only [hal, Bool.false_eq_true, if_false, show ((10 : Nat) == 10) = true by decide, show ((100 : Nat) == 88) = false by decide, if_true]
    conv => lhs; arg 1; whnf
    simp only [specText, intField', hgr, hsg, hal, Bool.false_eq_true, if_false, if_true] at hlen ⊢
    exact hlen
  dsimp only
  refine wpAny_bind (wpAny_isInstance (typeIs_str _ _ _) isSubtype_str_str (wpAny_pure ?_))
  simp only [hal, Bool.false_eq_true, if_false, show ((10 : Nat) == 10) = true by decide, show ((100 : Nat) == 88) = false by decide, if_true]
  conv => arg 1; arg 1; whnf
  simp only [specText, intField', hgr, hsg, hal, Bool.false_eq_true, if_false, if_true] at h ⊢
  exact h

def specOk (sp : Str) (f : Builtin.Float.FormatSpec) : Bool :=
  !(sp.length == 0) && !((sp.cps.toList.drop 1).any (· ≥ 128) || (sp.cps.getD 0 0 ≥ 128 && !([60, 62, 61, 94] : List Nat).contains (sp.cps.getD 1 0))) &&
  f.precision.isNone && !f.noNeg0 && !f.alt && f.grouping.isNone && f.sign.isNone && decide (f.width.getD 0 ≤ 100000) && decide (sp.length ≤ sizeLine)
def specTy (sp : Str) (f : Builtin.Float.FormatSpec) : Nat := f.type.getD (if sp.cps.back? == some 0 then 0 else 100)
def specOf (sp : Str) (f : Builtin.Float.FormatSpec) (i : Int) : Option Str :=
  if specTy sp f = 88 then some (specText 16 4 true f i) else if specTy sp f = 120 then some (specText 16 4 false f i) else if specTy sp f = 100 ∧ i.natAbs.log2 < 1920 then some (specText 10 3 false f i) else none
/-- f"{x:sp}", x an int -/
def gSpec (sp : Str) : PyData → Option PyData
  | .int i => match parseFormatSpec sp.cps.toList "int" 62 with
    | .ok f => if specOk sp f = true then match specOf sp f i with
      | some t => if t.length ≤ sizeLine then some (.str t) else none
      | none => none
      else none
    | .error _ => none
  | _ => none
section
variable {X : Cx} {m m2 p p2 : Bool} {a spec : Expr} {pos : Pos} {fa : SE PyData} {sp : Str}
def rSpec (sp : Str) : V → Hp → VK → Prop := fun x H Q => ∃ (i : Int) (t : Str), x = .int i ∧ gSpec sp (.int i) = some (.str t) ∧ Q (.str t) H
theorem pe_spec {te ts : TE} (he : PE X a te) (hs : PE X spec ts) : PE X (.FormattedValue a (-1) (some spec) pos) (fun σ H Q => te σ H fun x H1 => ts σ H1 fun y H2 => y = .str sp ∧ rSpec sp x H2 Q) := by
  refine ⟨fun pins s σ H Q I h => ?_⟩
  refine wpAny_FormattedValue_spec (thn (he.run pins s σ H _ I h) fun v s1 hv => ?_)
  obtain ⟨x, H1, I1, r1, q⟩ := hv
  refine thn (hs.run pins s1 σ H1 _ I1 q) fun v2 s2 hv2 => ?_
  obtain ⟨y, H2, I2, r2, rfl, i, t, rfl, hg, q⟩ := hv2
  obtain ⟨k1, rfl⟩ := r1
  obtain ⟨k2, rfl⟩ := r2
  refine ⟨sp, k2, rfl, ?_⟩
  unfold gSpec at hg
  cases hp : parseFormatSpec sp.cps.toList "int" 62 with
  | error _ => simp only [hp] at hg; cases hg
  | ok f =>
    simp only [hp] at hg
    by_cases hok : specOk sp f = true
    · rw [if_pos hok] at hg
      unfold specOk at hok
      simp only [Bool.and_eq_true, Bool.not_eq_true', decide_eq_true_eq] at hok
      obtain ⟨⟨⟨⟨⟨⟨⟨⟨hne, hasc⟩, hpr⟩, hz⟩, hal⟩, hgr⟩, hsg⟩, hw⟩, hsz⟩ := hok
      replace hpr := Option.isNone_iff_eq_none.mp hpr
      replace hgr := Option.isNone_iff_eq_none.mp hgr
      replace hsg := Option.isNone_iff_eq_none.mp hsg
      cases ho : specOf sp f i with
      | none => rw [ho] at hg; cases hg
      | some t2 =>
        simp only [ho] at hg
        by_cases hl : t2.length ≤ sizeLine
        · rw [if_pos hl] at hg
          cases hg
          unfold specOf at ho
          by_cases h1 : specTy sp f = 88
          · rw [if_pos h1] at ho
            cases ho
            exact ff_hex hp hne hasc h1 hpr hz hal hgr hsg hw hl hsz ⟨.str _, H2, I2.tok _, ⟨_, rfl⟩, q⟩
          · rw [if_neg h1] at ho
            by_cases h2 : specTy sp f = 120
            · rw [if_pos h2] at ho
              cases ho
              exact ff_hexl hp hne hasc h2 hpr hz hal hgr hsg hw hl hsz ⟨.str _, H2, I2.tok _, ⟨_, rfl⟩, q⟩
            · rw [if_neg h2] at ho
              by_cases h3 : specTy sp f = 100 ∧ i.natAbs.log2 < 1920
              · rw [if_pos h3] at ho
                cases ho
                exact ff_dec hp hne hasc h3.1 hpr hz hal hgr hsg hw h3.2 hl hsz ⟨.str _, H2, I2.tok _, ⟨_, rfl⟩, q⟩
              · rw [if_neg h3] at ho
                cases ho
        · rw [if_neg hl] at hg
          cases hg
    · rw [if_neg hok] at hg
      cases hg
theorem gSpec_str {d z : PyData} (h : gSpec sp d = some z) : ∃ i t, d = .int i ∧ z = .str t := by
  cases d with
  | int i =>
    unfold gSpec at h
    cases hp : parseFormatSpec sp.cps.toList "int" 62 with
    | error _ => simp only [hp] at h; cases h
    | ok f =>
      simp only [hp] at h
      by_cases hok : specOk sp f = true
      · rw [if_pos hok] at h
        cases ho : specOf sp f i with
        | none => rw [ho] at h; cases h
        | some t2 =>
          simp only [ho] at h
          by_cases hl : t2.length ≤ sizeLine
          · rw [if_pos hl] at h
            cases h
            exact ⟨_, _, rfl, rfl⟩
          · rw [if_neg hl] at h
            cases h
      · rw [if_neg hok] at h
        cases h
  | _ => unfold gSpec at h; cases h
theorem px_spec (ha : PX X m p a fa) (hs : PX X m2 p2 spec (ret (.str sp))) : PX X (m || m2) true (.FormattedValue a (-1) (some spec) pos) (una fa (gSpec sp)) := pe_imp (pe_spec (sp := sp) ha hs) fun σ H Q => by
  rintro ⟨vs0, P, E, fps, d, E', rel, hh, q⟩
  obtain ⟨d1, E1, h1, hh⟩ := bnd_some hh
  obtain ⟨h3, rfl⟩ := lft_some hh
  refine ⟨vs0, P, E, fps, d1, _, rel, h1, fun P1 H1 fps1 x r1 s1 m1' dx => ?_⟩
  refine ⟨vs0, P1, E', fps1, .str sp, E', r1, rfl, fun P2 H2 fps2 y r2 s2 m2' dy => ⟨by cases p2 <;> exact dq_str dy, ?_⟩⟩
  obtain ⟨i, t, rfl, rfl⟩ := gSpec_str h3
  have ex : x = .int i := by cases p <;> exact dq_int dx
  refine ⟨i, t, ex, h3, q P2 H2 fps2 (.str t) r2 (s1.trans s2) (fun hm => ?_) (.str t)⟩
  rw [Bool.or_eq_false_iff] at hm
  exact (m1' hm.1).trans (m2' hm.2)
end
end Fw
namespace Fw
open PySem PySem.Spec L2
open PyProof.Rows hiding St
theorem DqAll.dropLast {K : PySem.W.Frag} {H : Hp} {vs : List V} {ds : List PyData} (h : DqAll K H vs ds) : DqAll K H vs.dropLast ds.dropLast := by
  rw [List.dropLast_eq_take, List.dropLast_eq_take, h.length]
  exact h.take _
section
variable {X : Cx} {n : Nat} {m m1 m2 m3 p p1 p2 p3 : Bool} {a b : Expr} {pos px apos : Pos}
/-- l.pop() as a statement -/
def popO (i : Nat) : SS := fun E => match own? i E with
  | some xs => if xs.length = 0 then none else some (.nx, E.set i (.own xs.dropLast))
  | none => none
theorem ok_popO {i : Nat} {E : En} {Q : Fl → En → Prop} {xs : List PyData} (h : own? i E = some xs) (h0 : 0 < xs.length) (q : Q .nx (E.set i (.own xs.dropLast))) : ∃ a E1, popO i E = some (a, E1) ∧ Q a E1 := by
  unfold popO
  rw [h]
  exact ⟨_, _, if_neg (by omega), q⟩
theorem pxs_popO {i : Nat} (ho : PE X a (tVar i)) (hs : swapsWith (.Call (.Attribute a "pop" apos) [] [] px) none pos.line X.env = pure false := by rfl)
    (hb : attributeBase a "pop" X.env (eval a X.env) = eval a X.env := by rfl) (hline : (apos.endLine == px.line) = true := by rfl) :
    PXS1 X n (.Expr (.Call (.Attribute a "pop" apos) [] [] px) pos) (popO i) := ps_imp (ps_expr (pe_bm0 PySem.F.plainAttrs_list PySem.F.slot_list_pop PySem.F.type_list_pop mt_pop ho hb hline) hs) fun D σ H => by
  rintro ⟨vs0, P, E, fps, fl, E', hn, r, hf, q⟩
  unfold popO at hf
  cases e0 : own? i E with
  | none => rw [e0] at hf; cases hf
  | some xs =>
    rw [e0] at hf
    by_cases h0 : xs.length = 0
    · simp only [h0, if_true] at hf
      cases hf
    · simp only [h0, if_false] at hf
      cases hf
      obtain ⟨ad, vs, es, ef, pa, ha, dx⟩ := r.ownAt e0
      have hl := dx.length
      have hne : vs.length - 1 < vs.length := by omega
      obtain ⟨r3, s3⟩ := r.write e0 es dx.dropLast
      exact ⟨.ref ad, es, .inl ⟨rfl, vs, SqL.of ha⟩, ad, vs, vs[vs.length - 1], rfl, rfl, ha, List.getElem?_eq_getElem hne, q P _ fps σ r3 s3⟩
def gDivmod : List PyData → Option PyData
  | [.int i, .int j] => if 0 < j ∧ j < 1073741824 then some (.tuple [.int (i / j), .int (i % j)]) else none
  | _ => none
theorem va_divmod {K : PySem.W.Frag} : VAA K (fun xs H Q => ∃ i j, xs = [.int i, .int j] ∧ CDiv i j ∧ ∀ p, H p = none → Q (.ref p) (upd H p (.tup [.int (i / j), .int (i % j)]))) gDivmod := by
  intro P H xs ds z Q su dx hg q
  unfold gDivmod at hg
  split at hg
  · rename_i i j
    by_cases hc : 0 < j ∧ j < 1073741824
    · rw [if_pos hc] at hg
      cases hg
      cases dx with
      | cons h1 r1 =>
        cases r1 with
        | cons h2 r2 =>
          cases r2
          rw [dq_int h1, dq_int h2]
          exact ⟨_, _, rfl, hc, fun p hp => q.new su hp (.tup (SqT.of upd_same) (.cons (.int _) (.cons (.int _) .nil)))⟩
    · rw [if_neg hc] at hg
      cases hg
  · cases hg
theorem gDivmod_ii {i j : Int} : gDivmod [.int i, .int j] = if 0 < j ∧ j < 1073741824 then some (.tuple [.int (i / j), .int (i % j)]) else none := rfl
end
end Fw
namespace Fw
open PySem PySem.Spec L2
open PyProof.Rows hiding St
section
variable {prog : Program} {w : World} {A : Around} {E : Value → Shared → Prop} {s : Shared}
/-- the next item of a tuple's iterator, as an inner call asks for it -/
theorem draw_tup_item {it t : Addr} {i : Nat} {items : Array Value} {x : Value} {Q : Value → Shared → Prop} (hit : s.heap.IsTupleIter it t i) (ht : s.heap.IsTuple t items) (hx : items[i]? = some x)
    (q : ∀ h', h'.IsTupleIter it t (i + 1) → Heap.SameBut it s.heap h' → Q x { s with heap := h' }) : wpAny (model prog w) A (Builtin.SmallTypes.nextOf (.ref it)) Q E s := by
  obtain ⟨o, ho, hc, hd⟩ := id hit
  obtain ⟨ot, hot, _, nt, hdt⟩ := ht
  unfold Builtin.SmallTypes.nextOf
  refine wpAny_bind (wpAny_callSpecial?_slot (name := Str.ofString "__next__") hit.typeIs F.slot_tuple_iterator_next (wpAny_call_entry F.slot_tuple_iterator_next hit.typeIs F.entry_tuple_iterator_next ?_ (F.args_tuple_iterator_next_1 _)))
  show wpAny _ _ (field (.ref it) 0 >>= _) _ _ s
  refine wpAny_bind (wpAny_field ho hd (x := .ref t) rfl ?_)
  show wpAny _ _ (if (Value.ref t == Value.none) = true then _ else _) _ _ s
  rw [if_neg (show ¬ ((Value.ref t == Value.none) = true) from Bool.false_ne_true)]
  show wpAny _ _ (field (.ref it) 1 >>= _) _ _ s
  refine wpAny_bind (wpAny_field ho hd (x := .int i 0) rfl ?_)
  show wpAny _ _ (seqItems? (.ref t) >>= _) _ _ s
  refine wpAny_bind (wpAny_seqItems hot hdt ?_)
  simp only [Int.toNat_natCast, hx]
  refine wpAny_bind (wpAny_setField ho hd (by simp) (wpAny_pure ⟨x, rfl, wpAny_pure (q _ ?_ (Heap.SameBut.update ..))⟩))
  refine ⟨_, Heap.get?_update_self _ ho (Obj.isFreed_of_fields (Obj.data_mapFields hd _)), (Obj.cls_mapFields ..).trans hc, ?_⟩
  rw [Obj.data_mapFields hd]
  simp [rawInt]
theorem draw_tup_end {it t : Addr} {i : Nat} {items : Array Value} {Q : Value → Shared → Prop} (hh : A.handled = none) (hit : s.heap.IsTupleIter it t i) (ht : s.heap.IsTuple t items) (hx : items[i]? = none)
    (q : ∀ h' e, Heap.ExtBut it s.heap h' → (∃ o, h'.get? e = some o ∧ o.cls = .type "StopIteration") → E (.ref e) { s with heap := h' }) : wpAny (model prog w) A (Builtin.SmallTypes.nextOf (.ref it)) Q E s := by
  obtain ⟨o, ho, hc, hd⟩ := id hit
  obtain ⟨ot, hot, _, nt, hdt⟩ := ht
  unfold Builtin.SmallTypes.nextOf
  refine wpAny_bind (wpAny_callSpecial?_slot (name := Str.ofString "__next__") hit.typeIs F.slot_tuple_iterator_next (wpAny_call_entry F.slot_tuple_iterator_next hit.typeIs F.entry_tuple_iterator_next ?_ (F.args_tuple_iterator_next_1 _)))
  show wpAny _ _ (field (.ref it) 0 >>= _) _ _ s
  refine wpAny_bind (wpAny_field ho hd (x := .ref t) rfl ?_)
  show wpAny _ _ (if (Value.ref t == Value.none) = true then _ else _) _ _ s
  rw [if_neg (show ¬ ((Value.ref t == Value.none) = true) from Bool.false_ne_true)]
  show wpAny _ _ (field (.ref it) 1 >>= _) _ _ s
  refine wpAny_bind (wpAny_field ho hd (x := .int i 0) rfl ?_)
  show wpAny _ _ (seqItems? (.ref t) >>= _) _ _ s
  refine wpAny_bind (wpAny_seqItems hot hdt ?_)
  simp only [Int.toNat_natCast, hx]
  refine wpAny_bind (wpAny_rule (wpAny_bind (wpAny_setField ho hd (by simp) ?_)))
  show wpAny _ _ (newExc (.type "StopIteration") [] >>= _) _ _ _
  refine wpAny_bind ?_
  simp only [newExc, newTuple]
  refine wpAny_bind (wpAny_newObj_type ?_ (by size_fits))
  refine wpAny_bind (m := firstArgMember _ _) (wpAny_of_eq (a := Value.none) (by first | rfl | (simp only [firstArgMember]; rfl)) ?_)
  refine wpAny_newObj_type ?_ (by size_fits)
  simp only [raiseNew]
  refine wpAny_bind (wpAny_handled ?_)
  first | rw [show A.in1.handled = none from hh] | rw [hh]
  refine wpAny_bind (wpAny_pure (wpAny_throw ?_))
  exact q _ _ (((Heap.SameBut.update ..).extBut.push _).push _) ⟨_, Heap.get?_push_size _ rfl, rfl⟩
theorem draws_tup (hh : A.handled = none) (it t : Addr) (hne : t ≠ it) (items : Array Value) : Draws prog w A it [it, t] items.size (fun i v => items[i]? = some v) (fun i h => h.IsTupleIter it t i ∧ h.IsTuple t items) where
  live := fun _ _ st => let ⟨o, ho, _⟩ := st.1; ⟨o, ho⟩
  frame := fun _ _ _ st hk => ⟨st.1.at fun o e => hk it (by simp) o e, let ⟨o, ho, r⟩ := st.2; ⟨o, hk t (by simp) o ho, r⟩⟩
  item := fun i s Q E hi st hQ => by
    refine draw_tup_item st.1 st.2 (x := items[i]) (by simp [hi]) fun h' hit' hs' => ?_
    exact hQ _ h' s.toks (by simp [hi]) ⟨hit', st.2.extBut hs'.extBut hne⟩ hs'
  done := fun s Q E st hE => draw_tup_end hh st.1 st.2 (by simp) hE
theorem meets_enumT (t : Addr) (items : Array Value) (n : Nat) (dct : Option Addr) (sl : Array (Option Value)) :
    Meets (Builtin.«enumerate.__new__» ⟨[.type "enumerate", .ref t], []⟩) (fun _ R s => s.heap.get? t = some { cls := .type "tuple", dict := dct, data := .seq items n, slots := sl } ∧
      R (.ok (.ret (.ref (s.heap.push { cls := .type "tuple_iterator", data := .fields #[.ref t, .int 0 0] }).objs.size)))
        { s with heap := (s.heap.push { cls := .type "tuple_iterator", data := .fields #[.ref t, .int 0 0] }).push { cls := .type "enumerate", data := .fields #[.none, .bool false, .ref s.heap.objs.size, rawInt 0, .none, .none] } }) :=
  .of_wp fun prog w A R s h => by
    obtain ⟨hp, g, d, tk, os⟩ := s
    obtain ⟨hl, h⟩ := h
    have hsub := sub_enumerate
    have hT : Heap.IsTuple (Shared.heap ⟨hp, g, d, tk, os⟩) t items := ⟨_, hl, rfl, n, rfl⟩
    wp_walk using AutoSeq1.wpAny_loadPart' hl
    refine wpAny_stack_any fun st => wpAny_pure ?_
    split
    · rename_i c _ _ _ _ _
      cases (c == Value.type "enumerate")
      · wp_walk using AutoSeq1.wpAny_loadPart' hl, wpAny_pyIter_tuple hT
        exact ⟨_, rfl, h⟩
      · wp_walk using AutoSeq1.wpAny_loadPart' hl, wpAny_pyIter_tuple hT
        exact ⟨_, rfl, h⟩
    · wp_walk using AutoSeq1.wpAny_loadPart' hl, wpAny_pyIter_tuple hT
      exact ⟨_, rfl, h⟩
theorem call_enumT {t : Addr} {items : Array Value} {Q : Value → Shared → Prop} (hT : s.heap.IsTuple t items)
    (h : ∀ h', IsEnum h' (s.heap.objs.size + 1) s.heap.objs.size 0 .none → h'.IsTupleIter s.heap.objs.size t 0 → h'.objs.size = s.heap.objs.size + 2 → (∀ b o, s.heap.get? b = some o → h'.get? b = some o) → Q (.ref (s.heap.objs.size + 1)) { s with heap := h' }) :
    wpAny (model prog w) A (call (.type "enumerate") [.ref t]) Q E s := by
  obtain ⟨⟨c, dct, dt, sl⟩, hl, hc, n, hd⟩ := hT
  replace hc : c = .type "tuple" := hc
  replace hd : dt = .seq items n := hd
  subst hc hd
  refine callType_new F.called_enumerate (by decide) (F.typeCall_enumerate_1 _) (F.newCall_enumerate_1 _) (fun obj => F.args_object_init_2 obj _) F.entry_enumerate_new (meets_enumT t items n dct sl) ⟨hl, ?_⟩
  have hz : (s.heap.push { cls := .type "tuple_iterator", data := .fields #[.ref t, .int 0 0] }).objs.size = s.heap.objs.size + 1 := Heap.size_push ..
  show _ ∧ _
  rw [hz]
  have he : IsEnum ((s.heap.push { cls := .type "tuple_iterator", data := .fields #[.ref t, .int 0 0] }).push { cls := .type "enumerate", data := .fields #[.none, .bool false, .ref s.heap.objs.size, rawInt 0, .none, .none] }) (s.heap.objs.size + 1) s.heap.objs.size 0 .none := by
    have := Heap.get?_push_size (s.heap.push { cls := .type "tuple_iterator", data := .fields #[.ref t, .int 0 0] }) (o := { cls := .type "enumerate", data := .fields #[.none, .bool false, .ref s.heap.objs.size, rawInt 0, .none, .none] }) rfl
    rw [hz] at this
    exact this
  refine ⟨⟨_, he, rfl⟩, h _ he ⟨_, Heap.get?_push_of_some _ (Heap.get?_push_size _ rfl), rfl, rfl⟩ (by rw [Heap.size_push, hz]) fun b o x => Heap.get?_push_of_some _ (Heap.get?_push_of_some _ x)⟩
end

/-- a tuple's items as they stand at each turn, each in a new pair behind its number -/
def Itet (K : PySem.W.Frag) (a : Addr) : It :=
  ⟨fun i H => ∃ (xs : List V) (x : V), SqT K H a xs ∧ xs[i]? = some x, fun i H v H' => ∃ T x, v = .ref T ∧ H T = none ∧ H' = upd H T (.tup [.int (i : Nat), x]) ∧ ∀ xs, SqT K H a xs → xs[i]? = some x, fun i H => ∃ xs : List V, SqT K H a xs ∧ xs.length = i⟩
theorem turn_enumT {P : Program} {w : World} {K : PySem.W.Frag} {elts : List Expr} {kk : Nat} {tpos : Pos} (a e it : Addr) (ha : a ≠ it) (hae : a ≠ e) :
    Turn P w K (.Tuple elts kk tpos) (Itet K a) [e, it] e (fun i h => (∃ old, IsEnum h e it ((i : Nat) : Int) old) ∧ h.IsTupleIter it a i ∧ e ≠ it) where
  mem := by simp
  obj := fun i h st b hb => by
    obtain ⟨⟨old, he⟩, ⟨o, ho, hc, hd⟩, _⟩ := st
    have hb' : b = e ∨ b = it := by simpa using hb
    rcases hb' with rfl | rfl
    · exact ⟨_, he, fun v z => nomatch z⟩
    · exact ⟨o, ho, fun v z => by rw [hd] at z; cases z⟩
  keep := fun i h h' st k => by
    obtain ⟨⟨old, he⟩, hi, hne⟩ := st
    exact ⟨⟨old, k e (by simp) _ he⟩, hi.at fun o z => k it (by simp) o z, hne⟩
  item := by
    intro X hP hw hK hc i pins s σ H E I hf st hg
    subst hP hw hK
    obtain ⟨⟨old, he⟩, hit, hne⟩ := st
    obtain ⟨xs, x, hq, hx⟩ := hg
    obtain ⟨its, rv, p, hz⟩ := I.tuple hq
    obtain ⟨u, hu, ru⟩ := rv.get hx
    have hi : i < its.toArray.size := by
      have := (List.getElem?_eq_some_iff.mp hu).1
      simpa using this
    have hel : e < s.heap.objs.size := Heap.lt_size he
    have hil : it < s.heap.objs.size := by
      obtain ⟨_, z, _⟩ := hit
      exact Heap.lt_size z
    have D := draws_tup (prog := X.prog) (w := X.w) (A := X.A.in1) (I.ok.hd hc) it a ha its.toArray
    refine wpAny_pyNext_enum_itemD D he ⟨hit, p⟩ hi hne (by simp [hne, Ne.symm hae]) fun y h' tk hP ho hs' hT hsz hk => ?_
    obtain ⟨hit', _⟩ := hs'
    have ey : y = u := by
      have h1 : its[i]? = some y := by simpa using hP
      rw [hu] at h1
      exact (Option.some.inj h1).symm
    subst ey
    refine ⟨_, rfl, wpAny_letOwnedTupleGo_enum (s := { s with heap := h', toks := tk + 1 }) ho fun h'' he' sb => ?_⟩
    have hT2 : h''.get? s.heap.objs.size = some { cls := .type "tuple", data := .seq #[.int i tk, y] } := (sb.2 _ (Nat.ne_of_gt hel)).trans hT
    have new : ObjOk X.prog X.w (upd H s.heap.objs.size (.tup [.int (i : Nat), x])) h'' s.heap.objs.size (.tup [.int (i : Nat), x]) :=
      ⟨by show 2 ≤ sizeLine; decide, [.int i tk, y], .cons ⟨_, rfl⟩ (.cons ru .nil), ⟨_, hT2, rfl, _, rfl⟩⟩
    have I1 : Inv X pins σ (upd H s.heap.objs.size (.tup [.int (i : Nat), x])) { s with heap := h'', toks := tk + 1 } :=
      I.turnedNew (ch := [e, it]) (fun b ob hb z => (sb.2 b (fun zz => hb (by simp [zz]))).trans (hk b ob (fun zz => hb (by simp [zz])) (fun zz => hb (by simp [zz])) z)) hf (Nat.le_refl _) new
    refine ⟨.ref s.heap.objs.size, _, I1, rfl, ⟨_, x, rfl, I.hok.fresh (Nat.le_refl _), rfl, fun ys hy => by rw [I.tuple_inj hy hq]; exact hx⟩, ⟨⟨y, ?_⟩, hit'.at fun o z => (sb.2 it (Ne.symm hne)).trans z, hne⟩, fun b hb => ?_⟩
    · have e1 : ((i + 1 : Nat) : Int) = (i : Int) + 1 := by omega
      rw [e1]
      exact he'
    · have hb2 : b = e ∨ b = it := by simpa using hb
      have hb' : b < s.heap.objs.size := by
        rcases hb2 with z | z
        · rw [z]; exact hel
        · rw [z]; exact hil
      rw [upd_ne (Nat.ne_of_lt hb')]
      exact (hf b hb).1
  done := by
    intro X hP hw hK hc i pins s σ H E I hf st hg
    subst hP hw hK
    obtain ⟨⟨old, he⟩, hit, hne⟩ := st
    obtain ⟨xs, hq, hx⟩ := hg
    obtain ⟨its, rv, p, hz⟩ := I.tuple hq
    obtain ⟨f0, f1, f2, f3, f4, f5⟩ := hf it (by simp)
    have hl := rv.length
    have D := draws_tup (prog := X.prog) (w := X.w) (A := X.A.in1) (I.ok.hd hc) it a ha its.toArray
    have hn : its.toArray.size = i := by rw [List.size_toArray]; omega
    exact wpAny_pyNext_enum_endD D he (by rw [hn]; exact ⟨hit, p⟩) fun h' eb => ⟨rfl, I.turned (t' := s.toks) (fun b o hb z => eb b o hb z) f0 f1 f3 f4 f5⟩
  self := fun A i s Q E st h => by
    obtain ⟨⟨_, he⟩, _⟩ := st
    exact wpAny_pyIter_enum he h
/-- a text's signs, each in a new pair behind its number -/
def Ites (x : Str) : It :=
  ⟨fun i _ => i < x.cps.size, fun i H v H' => ∃ T c, v = .ref T ∧ H T = none ∧ H' = upd H T (.tup [.int (i : Nat), .str ⟨#[c]⟩]) ∧ x.cps[i]? = some c, fun i _ => x.cps.size = i⟩
theorem turn_enumS {P : Program} {w : World} {K : PySem.W.Frag} {elts : List Expr} {kk : Nat} {tpos : Pos} (x : Str) (t : Tok) (ty : String) (hty : ty = "str_ascii_iterator" ∨ ty = "str_iterator") (e it : Addr) :
    Turn P w K (.Tuple elts kk tpos) (Ites x) [e, it] e (fun i h => (∃ old, IsEnum h e it ((i : Nat) : Int) old) ∧ h.IsStrIter it ty x t i ∧ e ≠ it) where
  mem := by simp
  obj := fun i h st b hb => by
    obtain ⟨⟨old, he⟩, ⟨o, ho, hc, hd⟩, _⟩ := st
    have hb' : b = e ∨ b = it := by simpa using hb
    rcases hb' with rfl | rfl
    · exact ⟨_, he, fun v z => nomatch z⟩
    · exact ⟨o, ho, fun v z => by rw [hd] at z; cases z⟩
  keep := fun i h h' st k => by
    obtain ⟨⟨old, he⟩, ⟨o, ho, r⟩, hne⟩ := st
    exact ⟨⟨old, k e (by simp) _ he⟩, ⟨o, k it (by simp) o ho, r⟩, hne⟩
  item := by
    intro X hP hw hK hc i pins s σ H E I hf st hg
    subst hP hw hK
    obtain ⟨⟨old, he⟩, hit, hne⟩ := st
    have hel : e < s.heap.objs.size := Heap.lt_size he
    have hil : it < s.heap.objs.size := by
      obtain ⟨_, z, _⟩ := hit
      exact Heap.lt_size z
    have D : Draws X.prog X.w X.A.in1 it [it] x.cps.size (fun i v => ∃ c u, x.cps[i]? = some c ∧ v = .str ⟨#[c]⟩ u) (fun i h => h.IsStrIter it ty x t i) := by
      rcases hty with rfl | rfl
      · exact Draws.strAscii (A := X.A.in1) (I.ok.hd hc) it x t
      · exact Draws.strWide (A := X.A.in1) (I.ok.hd hc) it x t
    refine wpAny_pyNext_enum_itemD D he hit hg hne (by simp [hne]) fun y h' tk hP ho hs' hT hsz hk => ?_
    obtain ⟨c, u, hcx, rfl⟩ := hP
    obtain ⟨oi, hoi, ri⟩ := id hs'
    refine ⟨_, rfl, wpAny_letOwnedTupleGo_enum (s := { s with heap := h', toks := tk + 1 }) ho fun h'' he' sb => ?_⟩
    have hT2 : h''.get? s.heap.objs.size = some { cls := .type "tuple", data := .seq #[.int i tk, .str ⟨#[c]⟩ u] } := (sb.2 _ (Nat.ne_of_gt hel)).trans hT
    have new : ObjOk X.prog X.w (upd H s.heap.objs.size (.tup [.int (i : Nat), .str ⟨#[c]⟩])) h'' s.heap.objs.size (.tup [.int (i : Nat), .str ⟨#[c]⟩]) :=
      ⟨by show 2 ≤ sizeLine; decide, [.int i tk, .str ⟨#[c]⟩ u], .cons ⟨_, rfl⟩ (.cons ⟨_, rfl⟩ .nil), ⟨_, hT2, rfl, _, rfl⟩⟩
    have I1 : Inv X pins σ (upd H s.heap.objs.size (.tup [.int (i : Nat), .str ⟨#[c]⟩])) { s with heap := h'', toks := tk + 1 } :=
      I.turnedNew (ch := [e, it]) (fun b ob hb z => (sb.2 b (fun zz => hb (by simp [zz]))).trans (hk b ob (fun zz => hb (by simp [zz])) (fun zz => hb (by simp [zz])) z)) hf (Nat.le_refl _) new
    refine ⟨.ref s.heap.objs.size, _, I1, rfl, ⟨_, c, rfl, I.hok.fresh (Nat.le_refl _), rfl, hcx⟩, ⟨⟨.str ⟨#[c]⟩ u, ?_⟩, ⟨oi, (sb.2 it (Ne.symm hne)).trans hoi, ri⟩, hne⟩, fun b hb => ?_⟩
    · have e1 : ((i + 1 : Nat) : Int) = (i : Int) + 1 := by omega
      rw [e1]
      exact he'
    · have hb2 : b = e ∨ b = it := by simpa using hb
      have hb' : b < s.heap.objs.size := by
        rcases hb2 with z | z
        · rw [z]; exact hel
        · rw [z]; exact hil
      rw [upd_ne (Nat.ne_of_lt hb')]
      exact (hf b hb).1
  done := by
    intro X hP hw hK hc i pins s σ H E I hf st hg
    subst hP hw hK
    obtain ⟨⟨old, he⟩, hit, hne⟩ := st
    obtain ⟨f0, f1, f2, f3, f4, f5⟩ := hf it (by simp)
    have D : Draws X.prog X.w X.A.in1 it [it] x.cps.size (fun i v => ∃ c u, x.cps[i]? = some c ∧ v = .str ⟨#[c]⟩ u) (fun i h => h.IsStrIter it ty x t i) := by
      rcases hty with rfl | rfl
      · exact Draws.strAscii (A := X.A.in1) (I.ok.hd hc) it x t
      · exact Draws.strWide (A := X.A.in1) (I.ok.hd hc) it x t
    have hg : x.cps.size = i := hg
    exact wpAny_pyNext_enum_endD D he (by rw [hg]; exact hit) fun h' eb => ⟨rfl, I.turned (t' := s.toks) (fun b o hb z => eb b o hb z) f0 f1 f3 f4 f5⟩
  self := fun A i s Q E st h => by
    obtain ⟨⟨_, he⟩, _⟩ := st
    exact wpAny_pyIter_enum he h
/-- enumerate over a tuple or a text -/
def iEnumX (K : PySem.W.Frag) (ta : TA) : TI := fun σ H R => ta σ H fun vs H1 => (∃ a xs, vs = [.ref a] ∧ SqT K H1 a xs ∧ R (Itet K a) H1) ∨ ∃ x, vs = [.str x] ∧ R (Ites x) H1
theorem pi_enumX {X : Cx} {e : Expr} {ta : TA} {p pos tpos : Pos} {elts : List Expr} {kk : Nat} (hg : Gl X "enumerate") (hm : X.mg "enumerate" = none) (ha : PA X [e] ta) (hs : starEach [e] X.env = [(false, eval e X.env)] := by rfl) :
    PI X (.Tuple elts kk tpos) (.Call (.Name "enumerate" p) [e] [] pos) (iEnumX X.K ta) := by
  refine ⟨fun pins s σ H R I h => ?_⟩
  refine Call_ (ld_blt I hg hm boot_enumerate (PyProof.Rows.callWith_type1 (thn (ha.run pos pins s σ H _ I h) fun us s1 ⟨vs, H1, I1, r1, q1⟩ => ?_) hs rfl))
  rcases q1 with ⟨a, xs, ex, hq, q⟩ | ⟨x, ex, q⟩
  · subst ex
    cases r1 with
    | cons r rr =>
      cases rr
      cases r
      obtain ⟨its, rv, p', hz⟩ := I1.tuple hq
      have hlt : a < s1.heap.objs.size := by
        obtain ⟨o, ho, _⟩ := p'
        exact Heap.lt_size ho
      refine call_enumT p' fun h' he hit hsz hk => wpAny_pyIter_enum he ?_
      have I2 : Inv X pins σ H1 { s1 with heap := h' } := I1.kept (t' := s1.toks) hk
      refine ⟨s1.heap.objs.size + 1, [s1.heap.objs.size + 1, s1.heap.objs.size], _, _, H1, rfl, I2, turn_enumT a (s1.heap.objs.size + 1) s1.heap.objs.size (Nat.ne_of_lt hlt) (Nat.ne_of_lt (Nat.lt_succ_of_lt hlt)), ⟨⟨.none, he⟩, hit, Nat.succ_ne_self _⟩, fun b hb => ?_, q⟩
      have hb2 : b = s1.heap.objs.size + 1 ∨ b = s1.heap.objs.size := by simpa using hb
      have hle : s1.heap.objs.size ≤ b := by
        rcases hb2 with z | z
        · rw [z]; exact Nat.le_add_right _ _
        · rw [z]; exact Nat.le_refl _
      exact I1.fpOk hle (I1.hok.fresh hle)
  · subst ex
    cases r1 with
    | cons r rr =>
      cases rr
      obtain ⟨t, rfl⟩ := r
      refine call_enumerate_str fun h' he hit hsz hk => wpAny_pyIter_enum he ?_
      have I2 : Inv X pins σ H1 { s1 with heap := h' } := I1.kept (t' := s1.toks) hk
      refine ⟨s1.heap.objs.size + 1, [s1.heap.objs.size + 1, s1.heap.objs.size], _, _, H1, rfl, I2, turn_enumS x t (strIterType x) (by unfold strIterType; split <;> simp) (s1.heap.objs.size + 1) s1.heap.objs.size, ⟨⟨.none, he⟩, hit, Nat.succ_ne_self _⟩, fun b hb => ?_, q⟩
      have hb2 : b = s1.heap.objs.size + 1 ∨ b = s1.heap.objs.size := by simpa using hb
      have hle : s1.heap.objs.size ≤ b := by
        rcases hb2 with z | z
        · rw [z]; exact Nat.le_add_right _ _
        · rw [z]; exact Nat.le_refl _
      exact I1.fpOk hle (I1.hok.fresh hle)
/-- enumerate's pairs -/
def pairs : Nat → List PyData → List PyData
  | _, [] => []
  | k, d :: ds => .tuple [.int (k : Nat), d] :: pairs (k + 1) ds
theorem pairs_get : ∀ (ds : List PyData) (k i : Nat), (pairs k ds)[i]? = (ds[i]?).map fun d => .tuple [.int ((k + i : Nat)), d]
  | [], k, i => rfl
  | d :: ds, k, 0 => rfl
  | d :: ds, k, i + 1 => by
    rw [pairs, List.getElem?_cons_succ, pairs_get ds (k + 1) i, List.getElem?_cons_succ, show k + 1 + i = k + (i + 1) by omega]
theorem pairs_len : ∀ (ds : List PyData) (k : Nat), (pairs k ds).length = ds.length
  | [], _ => rfl
  | _ :: ds, k => by rw [pairs, List.length_cons, List.length_cons, pairs_len ds (k + 1)]
theorem snap_enumT {K : PySem.W.Frag} {a : Addr} {vs : List V} {ds : List PyData} : Snap K (Itet K a) (fun P => SqT K P a vs ∧ DqAll K P vs ds) (pairs 0 ds) where
  mono := fun P P' s h => ⟨seqT s h.1, h.2.mono s⟩
  go := fun i P H hi h s => by
    rw [pairs_len] at hi
    exact ⟨vs, vs[i]'(by rw [h.2.length]; exact hi), seqT s h.1, by simp⟩
  yld := fun i P H y H' d h s hd hy => by
    obtain ⟨T, x, rfl, hT, rfl, hx⟩ := hy
    rw [pairs_get] at hd
    cases e : ds[i]? with
    | none => rw [e] at hd; cases hd
    | some d0 =>
      rw [e] at hd
      cases hd
      obtain ⟨v, h1, h2⟩ := h.2.get e
      have h3 := hx vs (seqT s h.1)
      rw [h1] at h3
      rw [Option.some.inj h3] at h2
      have pT := sub_none s hT
      refine ⟨upd P T (.tup [.int (i : Nat), x]), Fw.same_upd pT, fun b o hb => ?_, Fw.same_upd hT, fun b o hb => ?_, ?_⟩
      · by_cases hbT : b = T
        · subst hbT
          rw [upd_same] at hb ⊢
          exact hb
        · rw [upd_ne hbT] at hb ⊢
          exact s _ _ hb
      · by_cases hbT : b = T
        · subst hbT
          exact .inr (.inl hT)
        · rw [upd_ne hbT] at hb
          exact .inl ⟨_, hb⟩
      · rw [Nat.zero_add]
        exact .tup (SqT.of upd_same) (.cons (.int _) (.cons (h2.mono (Fw.same_upd pT)) .nil))
  stop := fun P H h s => ⟨vs, seqT s h.1, by rw [h.2.length, pairs_len]⟩
theorem snap_enumS {K : PySem.W.Frag} {z : Str} : Snap K (Ites z) (fun _ => True) (pairs 0 (signs z)) where
  mono := fun _ _ _ _ => trivial
  go := fun i P H hi _ _ => by
    rw [pairs_len] at hi
    show i < z.cps.size
    simpa [signs] using hi
  yld := fun i P H y H' d _ s hd hy => by
    obtain ⟨T, c, rfl, hT, rfl, hx⟩ := hy
    rw [pairs_get] at hd
    unfold signs at hd
    rw [List.getElem?_map, Array.getElem?_toList, hx] at hd
    cases hd
    have pT := sub_none s hT
    refine ⟨upd P T (.tup [.int (i : Nat), .str ⟨#[c]⟩]), Fw.same_upd pT, fun b o hb => ?_, Fw.same_upd hT, fun b o hb => ?_, ?_⟩
    · by_cases hbT : b = T
      · subst hbT
        rw [upd_same] at hb ⊢
        exact hb
      · rw [upd_ne hbT] at hb ⊢
        exact s _ _ hb
    · by_cases hbT : b = T
      · subst hbT
        exact .inr (.inl hT)
      · rw [upd_ne hbT] at hb
        exact .inl ⟨_, hb⟩
    · rw [Nat.zero_add]
      exact .tup (SqT.of upd_same) (.cons (.int _) (.cons (.str _) .nil))
  stop := fun P H _ _ => by
    show z.cps.size = _
    rw [pairs_len]
    simp [signs]
/-- enumerate(data) -/
def sEnum (fa : SE PyData) : SE (List PyData) := bnd fa fun d => match d with
  | .tuple ys => ret (pairs 0 ys)
  | .str z => ret (pairs 0 (signs z))
  | _ => fun _ => none
section
variable {X : Cx} {m p : Bool} {a : Expr} {px pos tpos : Pos} {fa : SE PyData} {elts : List Expr} {kk : Nat}
theorem pxi_enum (hg : Gl X "enumerate") (hm : X.mg "enumerate" = none) (h : PX X m true a fa) (hs : starEach [a] X.env = [(false, eval a X.env)] := by rfl) : PXI X m (.Tuple elts kk tpos) (.Call (.Name "enumerate" px) [a] [] pos) (sEnum fa) :=
  pi_imp (pi_enumX hg hm (pa_cons h pa_nil hs) hs) fun σ H R => by
  rintro ⟨vs0, P, E, fps, ds, E', rel, hh, q⟩
  obtain ⟨d, E1, h1, hh⟩ := bnd_some hh
  split at hh
  · rename_i ys
    obtain ⟨rfl, rfl⟩ := ret_some hh
    refine ⟨vs0, P, E, fps, _, _, rel, h1, fun P1 H1 fps1 v r1 s1 m1' dv => ?_⟩
    cases dv with
    | @tup ad vs _ hx hv => exact .inl ⟨ad, vs, rfl, seqT r1.sub hx, q P1 H1 fps1 _ _ r1 s1 m1' snap_enumT ⟨hx, hv⟩⟩
  · rename_i z
    obtain ⟨rfl, rfl⟩ := ret_some hh
    refine ⟨vs0, P, E, fps, _, _, rel, h1, fun P1 H1 fps1 v r1 s1 m1' dv => ?_⟩
    exact .inr ⟨z, by rw [dq_str dv], q P1 H1 fps1 _ _ r1 s1 m1' snap_enumS trivial⟩
  · cases hh
end
end Fw
namespace Fw
open PySem PySem.Spec L2

/-- m answers, and what it answers fulfils Q -/
def Ok {α : Type} (m : Option (α × En)) (Q : α → En → Prop) : Prop := ∃ a E, m = some (a, E) ∧ Q a E
def OkV {α : Type} (m : Option α) (Q : α → Prop) : Prop := ∃ a, m = some a ∧ Q a
theorem Ok.imp {α : Type} {m : Option (α × En)} {Q R : α → En → Prop} (h : Ok m Q) (i : ∀ a E, Q a E → R a E) : Ok m R := by
  obtain ⟨a, E, h1, h2⟩ := h
  exact ⟨a, E, h1, i a E h2⟩
theorem ok_congr {α : Type} {m m' : Option (α × En)} {Q : α → En → Prop} (h : m = m') : Ok m Q = Ok m' Q := by rw [h]
theorem okV_congr {α : Type} {m m' : Option α} {Q : α → Prop} (h : m = m') : OkV m Q = OkV m' Q := by rw [h]
theorem ok_some {α : Type} {a : α} {E : En} {Q : α → En → Prop} : Ok (some (a, E)) Q = Q a E := by
  apply propext
  constructor
  · rintro ⟨_, _, h, q⟩
    cases h
    exact q
  · exact fun h => ⟨a, E, rfl, h⟩
theorem ok_none {α : Type} {Q : α → En → Prop} : Ok (none : Option (α × En)) Q = False := by
  apply propext
  constructor
  · rintro ⟨_, _, h, q⟩
    cases h
  · exact False.elim
theorem okV_some {α : Type} {a : α} {Q : α → Prop} : OkV (some a) Q = Q a := by
  apply propext
  constructor
  · rintro ⟨_, h, q⟩
    cases h
    exact q
  · exact fun h => ⟨a, rfl, h⟩
theorem okV_none {α : Type} {Q : α → Prop} : OkV (none : Option α) Q = False := by
  apply propext
  constructor
  · rintro ⟨_, h, q⟩
    cases h
  · exact False.elim
theorem okV_if {α : Type} {c : Prop} [Decidable c] {a : Option α} {Q : α → Prop} : OkV (if c then a else none) Q = (c ∧ OkV a Q) := by
  by_cases h : c
  · rw [if_pos h]
    exact propext ⟨fun x => ⟨h, x⟩, fun x => x.2⟩
  · rw [if_neg h, okV_none]
    exact propext ⟨False.elim, fun x => h x.1⟩
theorem ok_if {α : Type} {c : Prop} [Decidable c] {a b : Option (α × En)} {Q : α → En → Prop} : Ok (if c then a else b) Q = if c then Ok a Q else Ok b Q := by
  by_cases h : c
  · rw [if_pos h, if_pos h]
  · rw [if_neg h, if_neg h]
theorem ok_ret {α : Type} {a : α} {E : En} {Q : α → En → Prop} : Ok (ret a E) Q = Q a E := ok_some
theorem ok_bnd {α β : Type} {f : SE α} {k : α → SE β} {E : En} {Q : β → En → Prop} : Ok (bnd f k E) Q = Ok (f E) fun a E1 => Ok (k a E1) Q := by
  unfold bnd
  cases h : f E with
  | none => rw [ok_none, ok_none]
  | some r => rw [ok_some]
theorem ok_lft {α : Type} {o : Option α} {E : En} {Q : α → En → Prop} : Ok (lft o E) Q = OkV o fun a => Q a E := by
  unfold lft
  cases o with
  | none => exact ok_none.trans okV_none.symm
  | some a => rw [okV_some]; exact ok_some
theorem ok_bin {fa fb : SE PyData} {g : PyData → PyData → Option PyData} {E : En} {Q : PyData → En → Prop} : Ok (bin fa fb g E) Q = Ok (fa E) fun d E1 => Ok (fb E1) fun e E2 => OkV (g d e) fun a => Q a E2 := by
  unfold bin
  simp only [ok_bnd, ok_lft]
theorem ok_una {fa : SE PyData} {g : PyData → Option PyData} {E : En} {Q : PyData → En → Prop} : Ok (una fa g E) Q = Ok (fa E) fun d E1 => OkV (g d) fun a => Q a E1 := by
  unfold una
  simp only [ok_bnd, ok_lft]
theorem ok_binL {fa fb : SE PyData} {g : PyData → PyData → Option (List PyData)} {E : En} {Q : List PyData → En → Prop} : Ok (binL fa fb g E) Q = Ok (fa E) fun d E1 => Ok (fb E1) fun e E2 => OkV (g d e) fun a => Q a E2 := by
  unfold binL
  simp only [ok_bnd, ok_lft]
theorem ok_unaL {fa : SE PyData} {g : PyData → Option (List PyData)} {E : En} {Q : List PyData → En → Prop} : Ok (unaL fa g E) Q = Ok (fa E) fun d E1 => OkV (g d) fun a => Q a E1 := by
  unfold unaL
  simp only [ok_bnd, ok_lft]
theorem ok_mny {α β : Type} {fs : SE α} {g : α → Option β} {E : En} {Q : β → En → Prop} : Ok (mny fs g E) Q = Ok (fs E) fun d E1 => OkV (g d) fun a => Q a E1 := by
  unfold mny
  simp only [ok_bnd, ok_lft]
theorem ok_rdD {i : Nat} {E : En} {Q : PyData → En → Prop} : Ok (rdD i E) Q = match E[i]? with
    | some (.dat d) => Q d E
    | _ => False := by
  unfold rdD
  cases E[i]? with
  | none => exact ok_none
  | some s => cases s <;> first | exact ok_some | exact ok_none
theorem ok_rdO {i : Nat} {E : En} {Q : PyData → En → Prop} : Ok (rdO i E) Q = match E[i]? with
    | some (.own d) => Q (.list d) E
    | _ => False := by
  unfold rdO
  cases E[i]? with
  | none => exact ok_none
  | some s => cases s <;> first | exact ok_some | exact ok_none
theorem ok_rdA {i : Nat} {E : En} {Q : PyData → En → Prop} : Ok (rdA i E) Q = match E[i]? with
    | some (.dat d) => Q d E
    | some (.own d) => Q (.list d) (E.set i (.dat (.list d)))
    | _ => False := by
  unfold rdA
  cases E[i]? with
  | none => exact ok_none
  | some s => cases s <;> first | exact ok_some | exact ok_none
theorem ok_toB {f : SE PyData} {E : En} {Q : Bool → En → Prop} : Ok (toB f E) Q = Ok (f E) fun d E1 => match d with
    | .bool b => Q b E1
    | _ => False := by
  unfold toB
  rw [ok_bnd]
  congr 1
  funext d E1
  cases d <;> first | exact ok_some | exact ok_none
theorem ok_sAnd {a b : SE Bool} {E : En} {Q : Bool → En → Prop} : Ok (sAnd a b E) Q = Ok (a E) fun x E1 => if x then Ok (b E1) Q else Q false E1 := by
  unfold sAnd
  rw [ok_bnd]
  congr 1
  funext x E1
  cases x
  · exact ok_some
  · rfl
theorem ok_sOr {a b : SE Bool} {E : En} {Q : Bool → En → Prop} : Ok (sOr a b E) Q = Ok (a E) fun x E1 => if x then Q true E1 else Ok (b E1) Q := by
  unfold sOr
  rw [ok_bnd]
  congr 1
  funext x E1
  cases x
  · rfl
  · exact ok_some
theorem ok_sNot {a : SE Bool} {E : En} {Q : Bool → En → Prop} : Ok (sNot a E) Q = Ok (a E) fun x E1 => Q (!x) E1 := by
  unfold sNot
  rw [ok_bnd]
  congr 1
  funext x E1
  exact ok_some
theorem ok_vAnd {a b : SE PyData} {E : En} {Q : PyData → En → Prop} : Ok (vAnd a b E) Q = Ok (toB a E) fun x E1 => if x then Ok (b E1) Q else Q (.bool false) E1 := by
  unfold vAnd
  rw [ok_bnd]
  congr 1
  funext x E1
  cases x
  · exact ok_some
  · rfl
theorem ok_vOr {a b : SE PyData} {E : En} {Q : PyData → En → Prop} : Ok (vOr a b E) Q = Ok (toB a E) fun x E1 => if x then Q (.bool true) E1 else Ok (b E1) Q := by
  unfold vOr
  rw [ok_bnd]
  congr 1
  funext x E1
  cases x
  · rfl
  · exact ok_some
theorem ok_sIf {t : SE Bool} {a b : SE PyData} {E : En} {Q : PyData → En → Prop} : Ok (sIf t a b E) Q = Ok (t E) fun x E1 => if x then Ok (a E1) Q else Ok (b E1) Q := by
  unfold sIf
  rw [ok_bnd]
  congr 1
  funext x E1
  cases x <;> rfl
theorem ok_chn {a b c : SE PyData} {g1 g2 : PyData → PyData → Option PyData} {E : En} {Q : PyData → En → Prop} : Ok (chn a b c g1 g2 E) Q = Ok (a E) fun d E1 => Ok (b E1) fun e E2 => OkV (g1 d e) fun k => match k with
    | .bool true => Ok (c E2) fun w E3 => OkV (g2 e w) fun z => Q z E3
    | .bool false => Q (.bool false) E2
    | _ => False := by
  unfold chn
  rw [ok_bnd]
  congr 1
  funext d E1
  rw [ok_bnd]
  congr 1
  funext e E2
  rw [ok_bnd, ok_toB, ok_lft]
  congr 1
  funext k
  cases k with
  | bool x =>
    cases x
    · exact ok_some
    · show Ok (bnd c _ E2) Q = _
      rw [ok_bnd]
      congr 1
      funext w E3
      exact ok_lft
  | _ => rfl
theorem ok_sNil {E : En} {Q : List PyData → En → Prop} : Ok (sNil E) Q = Q [] E := ok_some
theorem ok_sCons {a : SE PyData} {fs : SE (List PyData)} {E : En} {Q : List PyData → En → Prop} : Ok (sCons a fs E) Q = Ok (a E) fun d E1 => Ok (fs E1) fun ds E2 => Q (d :: ds) E2 := by
  unfold sCons
  simp only [ok_bnd, ok_ret]
theorem ok_dTup {fs : SE (List PyData)} {E : En} {Q : PyData → En → Prop} : Ok (dTup fs E) Q = Ok (fs E) fun ds E1 => ds.length ≤ sizeLine ∧ Q (.tuple ds) E1 := by
  unfold dTup
  rw [ok_bnd]
  congr 1
  funext ds E1
  by_cases h : ds.length ≤ sizeLine
  · rw [if_pos h, ok_ret]
    exact propext ⟨fun x => ⟨h, x⟩, fun x => x.2⟩
  · rw [if_neg h, ok_none]
    exact propext ⟨False.elim, fun x => h x.1⟩
theorem ok_dLst {fs : SE (List PyData)} {E : En} {Q : List PyData → En → Prop} : Ok (dLst fs E) Q = Ok (fs E) fun ds E1 => ds.length ≤ sizeLine ∧ Q ds E1 := by
  unfold dLst
  rw [ok_bnd]
  congr 1
  funext ds E1
  by_cases h : ds.length ≤ sizeLine
  · rw [if_pos h, ok_ret]
    exact propext ⟨fun x => ⟨h, x⟩, fun x => x.2⟩
  · rw [if_neg h, ok_none]
    exact propext ⟨False.elim, fun x => h x.1⟩
theorem ok_m0S {a : SE PyData} {g : Str → Option PyData} {E : En} {Q : PyData → En → Prop} : Ok (m0S a g E) Q = Ok (a E) fun d E1 => match d with
    | .str s => OkV (g s) fun z => Q z E1
    | _ => False := by
  unfold m0S
  rw [ok_bnd]
  congr 1
  funext d E1
  cases d <;> first | exact ok_lft | exact ok_none
theorem ok_m1S {a b : SE PyData} {g : Str → PyData → Option PyData} {E : En} {Q : PyData → En → Prop} : Ok (m1S a b g E) Q = Ok (a E) fun d E1 => match d with
    | .str s => Ok (b E1) fun e E2 => OkV (g s e) fun z => Q z E2
    | _ => False := by
  unfold m1S
  rw [ok_bnd]
  congr 1
  funext d E1
  cases d <;> first
    | exact ok_none
    | (show Ok (bnd b _ E1) Q = _
       rw [ok_bnd]
       congr 1
       funext w E3
       exact ok_lft)
theorem ok_m1L {a b : SE PyData} {g : Str → PyData → Option (List PyData)} {E : En} {Q : List PyData → En → Prop} : Ok (m1L a b g E) Q = Ok (a E) fun d E1 => match d with
    | .str s => Ok (b E1) fun e E2 => OkV (g s e) fun z => Q z E2
    | _ => False := by
  unfold m1L
  rw [ok_bnd]
  congr 1
  funext d E1
  cases d <;> first
    | exact ok_none
    | (show Ok (bnd b _ E1) Q = _
       rw [ok_bnd]
       congr 1
       funext w E3
       exact ok_lft)
theorem ok_ixO {i : Nat} {fb : SE PyData} {E : En} {Q : PyData → En → Prop} : Ok (ixO i fb E) Q = ((own? i E).isSome = true ∧ Ok (fb E) fun e E1 => OkV (own? i E1) fun xs => OkV (gIx (.list xs) e) fun z => Q z E1) := by
  unfold ixO
  cases h : own? i E with
  | none =>
    rw [ok_none]
    exact propext ⟨False.elim, fun x => nomatch x.1⟩
  | some xs =>
    show Ok (bnd fb _ E) Q = _
    rw [ok_bnd]
    refine propext ⟨fun x => ⟨rfl, x.imp fun a E1 y => ?_⟩, fun x => x.2.imp fun a E1 y => ?_⟩
    · cases e : own? i E1 with
      | none => rw [e] at y; exact absurd y (by rw [ok_none]; exact id)
      | some b =>
        rw [e] at y
        exact ⟨b, rfl, (Eq.mp ok_lft y)⟩
    · obtain ⟨b, e, y⟩ := y
      rw [e]
      exact Eq.mpr ok_lft y
theorem ok_sPart {f : SE PyData} {E : En} {Q : Option Int → En → Prop} : Ok (sPart f E) Q = Ok (f E) fun d E1 => match d with
    | .int i => Q (some i) E1
    | _ => False := by
  unfold sPart
  rw [ok_bnd]
  congr 1
  funext d E1
  cases d <;> first | exact ok_some | exact ok_none
theorem ok_sSl {f : SE PyData} {fl fh : SE (Option Int)} {E : En} {Q : PyData → En → Prop} : Ok (sSl f fl fh E) Q = Ok (f E) fun d E1 => Ok (fl E1) fun lo E2 => Ok (fh E2) fun hi E3 => OkV (gSl d lo hi) fun z => Q z E3 := by
  unfold sSl
  simp only [ok_bnd, ok_lft]
theorem ok_tupO {i : Nat} {E : En} {Q : PyData → En → Prop} : Ok (tupO i E) Q = OkV (own? i E) fun xs => Q (.tuple xs) E := by
  unfold tupO
  cases own? i E with
  | none => exact ok_none.trans okV_none.symm
  | some xs => rw [okV_some]; exact ok_some
theorem ok_sItems {a : SE PyData} {E : En} {Q : List PyData → En → Prop} : Ok (sItems a E) Q = Ok (a E) fun d E1 => OkV (itemsOf d) fun ds => Q ds E1 := by
  unfold sItems
  simp only [ok_bnd, ok_lft]
theorem ok_sScr {i : Nat} {E : En} {Q : List PyData → En → Prop} : Ok (sScr i E) Q = match E[i]? with
    | some (.scr ns) => Q (ns.map .int) E
    | _ => False := by
  unfold sScr
  cases E[i]? with
  | none => exact ok_none
  | some s => cases s <;> first | exact ok_some | exact ok_none
theorem ok_sEnum {a : SE PyData} {E : En} {Q : List PyData → En → Prop} : Ok (sEnum a E) Q = Ok (a E) fun d E1 => match d with
    | .tuple ys => Q (pairs 0 ys) E1
    | .str z => Q (pairs 0 (signs z)) E1
    | _ => False := by
  unfold sEnum
  rw [ok_bnd]
  congr 1
  funext d E1
  cases d <;> first | exact ok_some | exact ok_none
theorem ok_sRng1 {a : SE PyData} {E : En} {Q : List PyData → En → Prop} : Ok (sRng1 a E) Q = Ok (a E) fun d E1 => match d with
    | .int j => (-(2 ^ 62) ≤ j ∧ j < 2 ^ 62) ∧ Q (rngL 0 j.toNat) E1
    | _ => False := by
  unfold sRng1
  rw [ok_bnd]
  congr 1
  funext d E1
  cases d with
  | int j =>
    show Ok ((if -(2 ^ 62) ≤ j ∧ j < 2 ^ 62 then ret (rngL 0 j.toNat) else fun _ => none) E1) Q = ((-(2 ^ 62) ≤ j ∧ j < 2 ^ 62) ∧ Q (rngL 0 j.toNat) E1)
    by_cases h : -(2 ^ 62) ≤ j ∧ j < 2 ^ 62
    · rw [if_pos h, ok_ret]
      exact propext ⟨fun x => ⟨h, x⟩, fun x => x.2⟩
    · rw [if_neg h, ok_none]
      exact propext ⟨False.elim, fun x => h x.1⟩
  | _ => exact ok_none
theorem ok_sRng2 {a b : SE PyData} {E : En} {Q : List PyData → En → Prop} : Ok (sRng2 a b E) Q = Ok (a E) fun d E1 => Ok (b E1) fun e E2 => match d, e with
    | .int i, .int j => (-(2 ^ 62) ≤ i ∧ i < 2 ^ 62 ∧ -(2 ^ 62) ≤ j ∧ j < 2 ^ 62) ∧ Q (rngL i (j - i).toNat) E2
    | _, _ => False := by
  unfold sRng2
  rw [ok_bnd]
  congr 1
  funext d E1
  rw [ok_bnd]
  congr 1
  funext e E2
  cases d with
  | int i =>
    cases e with
    | int j =>
      show Ok ((if -(2 ^ 62) ≤ i ∧ i < 2 ^ 62 ∧ -(2 ^ 62) ≤ j ∧ j < 2 ^ 62 then ret (rngL i (j - i).toNat) else fun _ => none) E2) Q = ((-(2 ^ 62) ≤ i ∧ i < 2 ^ 62 ∧ -(2 ^ 62) ≤ j ∧ j < 2 ^ 62) ∧ Q (rngL i (j - i).toNat) E2)
      by_cases h : -(2 ^ 62) ≤ i ∧ i < 2 ^ 62 ∧ -(2 ^ 62) ≤ j ∧ j < 2 ^ 62
      · rw [if_pos h, ok_ret]
        exact propext ⟨fun x => ⟨h, x⟩, fun x => x.2⟩
      · rw [if_neg h, ok_none]
        exact propext ⟨False.elim, fun x => h x.1⟩
    | _ => exact ok_none
  | _ => cases e <;> exact ok_none

theorem ok_seqS {f g : SS} {E : En} {Q : Fl → En → Prop} : Ok (seqS f g E) Q = Ok (f E) fun fl E1 => match fl with
    | .nx => Ok (g E1) Q
    | r => Q r E1 := by
  unfold seqS
  cases h : f E with
  | none => exact ok_none.trans ok_none.symm
  | some r =>
    obtain ⟨fl, E1⟩ := r
    rw [ok_some]
    cases fl <;> first | rfl | exact ok_some
theorem ok_nxt {E : En} {Q : Fl → En → Prop} : Ok (nxt E) Q = Q .nx E := ok_some
theorem ok_brkS {E : En} {Q : Fl → En → Prop} : Ok (brkS E) Q = Q .bk E := ok_some
theorem ok_cntS {E : En} {Q : Fl → En → Prop} : Ok (cntS E) Q = Q .ct E := ok_some
theorem ok_retN {E : En} {Q : Fl → En → Prop} : Ok (retN E) Q = Q (.rt (.dat .none)) E := ok_some
theorem ok_m {α β : Type} {m : Option (α × En)} {k : α → En → Option (β × En)} {Q : β → En → Prop} : Ok (match m with
    | some (a, E1) => k a E1
    | none => none) Q = Ok m fun a E1 => Ok (k a E1) Q := by
  cases m with
  | none => rw [ok_none, ok_none]
  | some r => rw [ok_some]
theorem ok_drpS {a : SE PyData} {E : En} {Q : Fl → En → Prop} : Ok (drpS a E) Q = Ok (a E) fun _ E1 => Q .nx E1 := by
  unfold drpS
  cases a E with
  | none => exact ok_none.trans ok_none.symm
  | some r =>
    obtain ⟨d, E1⟩ := r
    simp only [ok_some]
theorem ok_asg {i : Nat} {a : SE PyData} {E : En} {Q : Fl → En → Prop} : Ok (asg i a E) Q = Ok (a E) fun d E1 => Q .nx (E1.set i (.dat d)) := by
  unfold asg
  cases a E with
  | none => exact ok_none.trans ok_none.symm
  | some r =>
    obtain ⟨d, E1⟩ := r
    simp only [ok_some]
theorem ok_asgL {i : Nat} {a : SE (List PyData)} {E : En} {Q : Fl → En → Prop} : Ok (asgL i a E) Q = Ok (a E) fun d E1 => Q .nx (E1.set i (.own d)) := by
  unfold asgL
  cases a E with
  | none => exact ok_none.trans ok_none.symm
  | some r =>
    obtain ⟨d, E1⟩ := r
    simp only [ok_some]
theorem ok_asgG {b : PyData → En → Option En} {a : SE PyData} {E : En} {Q : Fl → En → Prop} : Ok (asgG b a E) Q = Ok (a E) fun d E1 => OkV (b d E1) fun E2 => Q .nx E2 := by
  unfold asgG
  cases h : a E with
  | none => rw [ok_none, ok_none]
  | some r =>
    obtain ⟨d, E1⟩ := r
    rw [ok_some]
    show Ok (match b d E1 with | some E2 => some (.nx, E2) | none => none) Q = _
    cases b d E1 with
    | none => exact ok_none.trans okV_none.symm
    | some E2 => rw [okV_some, ok_some]
theorem ok_augS {i : Nat} {fn : Int → Int → Int} {a : SE PyData} {E : En} {Q : Fl → En → Prop} : Ok (augS i fn a E) Q = match E[i]? with
    | some (.dat (.int k)) => Ok (a E) fun d E1 => match d with
      | .int j => Q .nx (E1.set i (.dat (.int (fn k j))))
      | _ => False
    | _ => False := by
  unfold augS
  cases E[i]? with
  | none => exact ok_none
  | some s =>
    cases s with
    | dat d =>
      cases d with
      | int k =>
        simp only
        cases a E with
        | none => exact ok_none.trans ok_none.symm
        | some r =>
          obtain ⟨d, E1⟩ := r
          rw [ok_some]
          cases d <;> first | exact ok_some | exact ok_none
      | _ => exact ok_none
    | _ => exact ok_none
theorem ok_ifS {t : SE Bool} {g h : SS} {E : En} {Q : Fl → En → Prop} : Ok (ifS t g h E) Q = Ok (t E) fun x E1 => if x then Ok (g E1) Q else Ok (h E1) Q := by
  unfold ifS
  cases t E with
  | none => rw [ok_none, ok_none]
  | some r =>
    obtain ⟨x, E1⟩ := r
    rw [ok_some]
    cases x <;> rfl
theorem ok_retD {a : SE PyData} {E : En} {Q : Fl → En → Prop} : Ok (retD a E) Q = Ok (a E) fun d E1 => Q (.rt (.dat d)) E1 := by
  unfold retD
  cases a E with
  | none => exact ok_none.trans ok_none.symm
  | some r =>
    obtain ⟨d, E1⟩ := r
    simp only [ok_some]
theorem ok_retL {a : SE (List PyData)} {E : En} {Q : Fl → En → Prop} : Ok (retL a E) Q = Ok (a E) fun d E1 => Q (.rt (.own d)) E1 := by
  unfold retL
  cases a E with
  | none => exact ok_none.trans ok_none.symm
  | some r =>
    obtain ⟨d, E1⟩ := r
    simp only [ok_some]
theorem ok_retO {i : Nat} {E : En} {Q : Fl → En → Prop} : Ok (retO i E) Q = OkV (own? i E) fun xs => Q (.rt (.own xs)) (E.set i .un) := by
  unfold retO
  cases own? i E with
  | none => exact ok_none.trans okV_none.symm
  | some r => simp only [ok_some, okV_some]
theorem ok_appO {i : Nat} {a : SE PyData} {E : En} {Q : Fl → En → Prop} : Ok (appO i a E) Q = ((own? i E).isSome = true ∧ Ok (a E) fun d E1 => OkV (own? i E1) fun xs => xs.length < sizeLine ∧ Q .nx (E1.set i (.own (xs ++ [d])))) := by
  unfold appO
  cases h : own? i E with
  | none =>
    rw [ok_none]
    exact propext ⟨False.elim, fun x => nomatch x.1⟩
  | some xs0 =>
    have hs : (some xs0).isSome = true := rfl
    have e0 : ∀ P : Prop, ((some xs0).isSome = true ∧ P) = P := fun P => propext ⟨fun x => x.2, fun x => ⟨rfl, x⟩⟩
    rw [e0]
    cases h : a E with
    | none => exact ok_none.trans ok_none.symm
    | some r =>
      obtain ⟨d, E1⟩ := r
      rw [ok_some]
      cases h1 : own? i E1 with
      | none => simp only [h1]; exact ok_none.trans okV_none.symm
      | some xs =>
        simp only [h1]
        rw [okV_some]
        by_cases hl : xs.length < sizeLine
        · rw [if_pos hl, ok_some]
          exact propext ⟨fun x => ⟨hl, x⟩, fun x => x.2⟩
        · rw [if_neg hl, ok_none]
          exact propext ⟨False.elim, fun x => hl x.1⟩
theorem ok_setO {i : Nat} {a fi : SE PyData} {E : En} {Q : Fl → En → Prop} : Ok (setO i a fi E) Q = Ok (a E) fun d E1 => (own? i E1).isSome = true ∧ Ok (fi E1) fun k E2 => match k with
    | .int k => OkV (own? i E2) fun xs => OkV (ixN xs.length k) fun j => Q .nx (E2.set i (.own (xs.set j d)))
    | _ => False := by
  unfold setO
  cases h : a E with
  | none => exact ok_none.trans ok_none.symm
  | some r =>
    obtain ⟨d, E1⟩ := r
    simp only [ok_some]
    cases h : own? i E1 with
    | none =>
      simp only [ok_none]
      exact propext ⟨False.elim, fun x => nomatch x.1⟩
    | some xs0 =>
      simp only
      have e0 : ∀ P : Prop, ((some xs0).isSome = true ∧ P) = P := fun P => propext ⟨fun x => x.2, fun x => ⟨rfl, x⟩⟩
      rw [e0]
      cases h : fi E1 with
      | none => exact ok_none.trans ok_none.symm
      | some r =>
        obtain ⟨k, E2⟩ := r
        simp only [ok_some]
        cases k with
        | int k =>
          simp only
          cases own? i E2 with
          | none => exact ok_none.trans okV_none.symm
          | some xs =>
            simp only [okV_some]
            cases ixN xs.length k with
            | none => exact ok_none.trans okV_none.symm
            | some j => simp only [ok_some, okV_some]
        | _ => exact ok_none
theorem ok_extO {i : Nat} {a : SE PyData} {E : En} {Q : Fl → En → Prop} : Ok (extO i a E) Q = ((own? i E).isSome = true ∧ Ok (a E) fun d E1 => OkV (own? i E1) fun xs => OkV (gList d) fun ys => xs.length + ys.length ≤ sizeLine ∧ Q .nx (E1.set i (.own (xs ++ ys)))) := by
  unfold extO
  cases h : own? i E with
  | none =>
    rw [ok_none]
    exact propext ⟨False.elim, fun x => nomatch x.1⟩
  | some xs0 =>
    have e0 : ∀ P : Prop, ((some xs0).isSome = true ∧ P) = P := fun P => propext ⟨fun x => x.2, fun x => ⟨rfl, x⟩⟩
    rw [e0]
    cases h : a E with
    | none => exact ok_none.trans ok_none.symm
    | some r =>
      obtain ⟨d, E1⟩ := r
      rw [ok_some]
      cases h1 : own? i E1 with
      | none =>
        rw [okV_none]
        show Ok (match own? i E1, gList d with | some xs, some ys => _ | _, _ => none) Q = _
        rw [h1]
        exact ok_none
      | some xs =>
        rw [okV_some]
        show Ok (match own? i E1, gList d with | some xs, some ys => _ | _, _ => none) Q = _
        rw [h1]
        cases h2 : gList d with
        | none => exact ok_none.trans okV_none.symm
        | some ys =>
          rw [okV_some]
          show Ok (if xs.length + ys.length ≤ sizeLine then some (Fl.nx, E1.set i (.own (xs ++ ys))) else none) Q = _
          by_cases hl : xs.length + ys.length ≤ sizeLine
          · rw [if_pos hl, ok_some]
            exact propext ⟨fun x => ⟨hl, x⟩, fun x => x.2⟩
          · rw [if_neg hl, ok_none]
            exact propext ⟨False.elim, fun x => hl x.1⟩
theorem ok_popS {i : Nat} {E : En} {Q : Fl → En → Prop} : Ok (popO i E) Q = OkV (own? i E) fun xs => xs.length ≠ 0 ∧ Q .nx (E.set i (.own xs.dropLast)) := by
  unfold popO
  cases own? i E with
  | none => exact ok_none.trans okV_none.symm
  | some xs =>
    simp only [okV_some]
    by_cases h : xs.length = 0
    · rw [if_pos h, ok_none]
      exact propext ⟨False.elim, fun x => x.1 h⟩
    · rw [if_neg h, ok_some]
      exact propext ⟨fun x => ⟨h, x⟩, fun x => x.2⟩
theorem ok_forS {it : SE (List PyData)} {bb : PyData → En → Option En} {g : SS} {E : En} {Q : Fl → En → Prop} : Ok (forS it bb g E) Q = Ok (it E) fun ds E1 => Ok (forL bb g ds E1) Q := by
  unfold forS
  cases it E with
  | none => exact ok_none.trans ok_none.symm
  | some r =>
    obtain ⟨d, E1⟩ := r
    simp only [ok_some]
theorem ok_forL_nil {bb : PyData → En → Option En} {g : SS} {E : En} {Q : Fl → En → Prop} : Ok (forL bb g [] E) Q = Q .nx E := ok_some
theorem ok_forL_cons {bb : PyData → En → Option En} {g : SS} {d : PyData} {ds : List PyData} {E : En} {Q : Fl → En → Prop} : Ok (forL bb g (d :: ds) E) Q = OkV (bb d E) fun E1 => Ok (g E1) fun fl E2 => match fl with
    | .nx => Ok (forL bb g ds E2) Q
    | .ct => Ok (forL bb g ds E2) Q
    | .bk => Q .nx E2
    | .rt s => Q (.rt s) E2 := by
  show Ok (match bb d E with | some E1 => _ | none => none) Q = _
  cases h : bb d E with
  | none => exact ok_none.trans okV_none.symm
  | some E1 =>
    rw [okV_some]
    show Ok (match g E1 with | some (.nx, E2) => forL bb g ds E2 | some (.ct, E2) => forL bb g ds E2 | some (.bk, E2) => some (.nx, E2) | r => r) Q = _
    cases h : g E1 with
    | none => exact ok_none.trans ok_none.symm
    | some r =>
      obtain ⟨fl, E2⟩ := r
      rw [ok_some]
      cases fl <;> first | rfl | exact ok_some
theorem ok_lcS {fs : SE (List PyData)} {vs : List Nat} {bb : PyData → En → Option En} {t : SE Bool} {fe : SE PyData} {E : En} {Q : List PyData → En → Prop} : Ok (lcS fs vs bb t fe E) Q = Ok (fs E) fun ds E1 => ds.length < sizeLine ∧ Ok (lcL vs bb t fe ds E1) Q := by
  unfold lcS
  cases h : fs E with
  | none => exact ok_none.trans ok_none.symm
  | some r =>
    obtain ⟨ds, E1⟩ := r
    rw [ok_some]
    show Ok (if ds.length < sizeLine then lcL vs bb t fe ds E1 else none) Q = _
    by_cases hl : ds.length < sizeLine
    · rw [if_pos hl]
      exact propext ⟨fun x => ⟨hl, x⟩, fun x => x.2⟩
    · rw [if_neg hl, ok_none]
      exact propext ⟨False.elim, fun x => hl x.1⟩
theorem ok_yesS {E : En} {Q : Bool → En → Prop} : Ok (yesS E) Q = Q true E := ok_some
theorem ok_lcL_nil {vs : List Nat} {bb : PyData → En → Option En} {t : SE Bool} {fe : SE PyData} {E : En} {Q : List PyData → En → Prop} : Ok (lcL vs bb t fe [] E) Q = Q [] E := ok_some
theorem ok_lcL_cons {vs : List Nat} {bb : PyData → En → Option En} {t : SE Bool} {fe : SE PyData} {d : PyData} {ds : List PyData} {E : En} {Q : List PyData → En → Prop} : Ok (lcL vs bb t fe (d :: ds) E) Q = OkV (wipE vs E) fun E0 => OkV (bb d E0) fun E1 => Ok (t E1) fun x E2 =>
    if x then Ok (fe E2) fun y E3 => Ok (lcL vs bb t fe ds (bakE vs E E3)) fun ys E4 => Q (y :: ys) E4 else Ok (lcL vs bb t fe ds (bakE vs E E2)) Q := by
  show Ok (match wipE vs E with | some E0 => _ | none => none) Q = _
  cases h : wipE vs E with
  | none => exact ok_none.trans okV_none.symm
  | some E0 =>
    rw [okV_some]
    show Ok (match bb d E0 with | some E1 => _ | none => none) Q = _
    cases h : bb d E0 with
    | none => exact ok_none.trans okV_none.symm
    | some E1 =>
      rw [okV_some]
      show Ok (match t E1 with | some (true, E2) => _ | some (false, E2) => _ | none => none) Q = _
      cases h : t E1 with
      | none => exact ok_none.trans ok_none.symm
      | some r =>
        obtain ⟨x, E2⟩ := r
        rw [ok_some]
        cases x with
        | false => rfl
        | true =>
          cases h : fe E2 with
          | none => simp only [h]; exact ok_none.trans ok_none.symm
          | some r =>
            obtain ⟨y, E3⟩ := r
            simp only [h, ok_some, if_pos]
            cases lcL vs bb t fe ds (bakE vs E E3) with
            | none => exact ok_none.trans ok_none.symm
            | some r =>
              obtain ⟨ys, E4⟩ := r
              simp only [ok_some]
theorem okV_callD {g : Fn} {ds : List PyData} {Q : PyData → Prop} : OkV (callD g ds) Q = Ok (g (ds.map .dat)) fun s _ => match s with
    | .dat d => Q d
    | .own xs => Q (.list xs)
    | _ => False := by
  unfold callD
  cases g (ds.map .dat) with
  | none => exact okV_none.trans ok_none.symm
  | some r =>
    obtain ⟨s, E⟩ := r
    rw [ok_some]
    cases s <;> first | exact okV_some | exact okV_none
theorem okV_callV {g : Fn} {ds : List PyData} {Q : List PyData → Prop} : OkV (callV g ds) Q = Ok (g (ds.map .dat)) fun s _ => match s with
    | .own xs => Q xs
    | _ => False := by
  unfold callV
  cases g (ds.map .dat) with
  | none => exact okV_none.trans ok_none.symm
  | some r =>
    obtain ⟨s, E⟩ := r
    rw [ok_some]
    cases s <;> first | exact okV_some | exact okV_none
theorem ok_callM {i : Nat} {g : Fn} {fs : SE (List PyData)} {E : En} {Q : Sl → En → Prop} : Ok (callM i g fs E) Q = ((own? i E).isSome = true ∧ Ok (fs E) fun ds E1 => OkV (own? i E1) fun xs => Ok (g (.own xs :: ds.map .dat)) fun r outs => match outs with
    | .own ys :: _ => Q r (E1.set i (.own ys))
    | _ => False) := by
  unfold callM
  cases h : own? i E with
  | none =>
    rw [ok_none]
    exact propext ⟨False.elim, fun x => nomatch x.1⟩
  | some xs0 =>
    have e0 : ∀ P : Prop, ((some xs0).isSome = true ∧ P) = P := fun P => propext ⟨fun x => x.2, fun x => ⟨rfl, x⟩⟩
    rw [e0]
    cases h : fs E with
    | none => exact ok_none.trans ok_none.symm
    | some r =>
      obtain ⟨ds, E1⟩ := r
      rw [ok_some]
      cases h1 : own? i E1 with
      | none => simp only [h1]; exact ok_none.trans okV_none.symm
      | some xs =>
        simp only [h1, okV_some]
        cases h : g (.own xs :: ds.map .dat) with
        | none => exact ok_none.trans ok_none.symm
        | some r =>
          obtain ⟨r, outs⟩ := r
          simp only [ok_some]
          cases outs with
          | nil => exact ok_none
          | cons o os => cases o <;> first | exact ok_some | exact ok_none
theorem ok_asD {f : SE Sl} {E : En} {Q : PyData → En → Prop} : Ok (asD f E) Q = Ok (f E) fun s E1 => match s with
    | .dat d => Q d E1
    | .own xs => Q (.list xs) E1
    | _ => False := by
  unfold asD
  cases f E with
  | none => exact ok_none.trans ok_none.symm
  | some r =>
    obtain ⟨s, E⟩ := r
    rw [ok_some]
    cases s <;> first | exact ok_some | exact ok_none
theorem ok_asL {f : SE Sl} {E : En} {Q : List PyData → En → Prop} : Ok (asL f E) Q = Ok (f E) fun s E1 => match s with
    | .own xs => Q xs E1
    | _ => False := by
  unfold asL
  cases f E with
  | none => exact ok_none.trans ok_none.symm
  | some r =>
    obtain ⟨s, E⟩ := r
    rw [ok_some]
    cases s <;> first | exact ok_some | exact ok_none
theorem ok_callS {i : Nat} {g : Fn} {E : En} {Q : List PyData → En → Prop} : Ok (callS i g E) Q = match E[i]? with
    | some (.scr ns) => Ok (g [.scr ns]) fun s _ => match s with
      | .own xs => Q xs E
      | _ => False
    | _ => False := by
  unfold callS
  cases E[i]? with
  | none => exact ok_none
  | some s =>
    cases s with
    | scr ns =>
      simp only
      cases g [.scr ns] with
      | none => exact ok_none.trans ok_none.symm
      | some r =>
        obtain ⟨s, E⟩ := r
        rw [ok_some]
        cases s <;> first | exact ok_some | exact ok_none
    | _ => exact ok_none
theorem ok_runF {n N : Nat} {body : SS} {as : List Sl} {Q : Sl → En → Prop} : Ok (runF n N body as) Q = (as.length = n ∧ Ok (body (as ++ List.replicate (N - n) .un)) fun fl E => match fl with
    | .rt s => OkV (collect as E) fun outs => Q s outs
    | .nx => OkV (collect as E) fun outs => Q (.dat .none) outs
    | _ => False) := by
  unfold runF
  by_cases hl : as.length = n
  · rw [if_pos hl]
    have e0 : ∀ P : Prop, (as.length = n ∧ P) = P := fun P => propext ⟨fun x => x.2, fun x => ⟨hl, x⟩⟩
    rw [e0]
    cases h : body (as ++ List.replicate (N - n) .un) with
    | none => exact ok_none.trans ok_none.symm
    | some r =>
      obtain ⟨fl, E⟩ := r
      rw [ok_some]
      cases fl with
      | rt s =>
        cases h : collect as E with
        | none => simp only [h]; exact ok_none.trans okV_none.symm
        | some o => simp only [h, ok_some, okV_some]
      | nx =>
        cases h : collect as E with
        | none => simp only [h]; exact ok_none.trans okV_none.symm
        | some o => simp only [h, ok_some, okV_some]
      | _ => exact ok_none
  · rw [if_neg hl, ok_none]
    exact propext ⟨False.elim, fun x => hl x.1⟩
end Fw
namespace Fw
open PySem PySem.Spec L2
theorem gAdd_ii {i j : Int} : gAdd (.int i) (.int j) = some (.int (i + j)) := rfl
theorem gAdd_ss {i j : Str} : gAdd (.str i) (.str j) = if i.length + j.length ≤ sizeLine then some (.str (i ++ j)) else none := rfl
theorem gAdd_tt {i j : List PyData} : gAdd (.tuple i) (.tuple j) = if i.length + j.length ≤ sizeLine then some (.tuple (i ++ j)) else none := rfl
theorem gSub_ii {i j : Int} : gSub (.int i) (.int j) = some (.int (i - j)) := rfl
theorem gMul_ii {i j : Int} : gMul (.int i) (.int j) = if cMul i j = true then some (.int (i * j)) else none := rfl
theorem cMul_r {i j : Int} (h1 : -(2 ^ 64) < j) (h2 : j < 2 ^ 64) : cMul i j = true := by
  unfold cMul
  rw [Bool.or_eq_true]
  exact .inr (decide_eq_true ⟨h1, h2⟩)
theorem cMul_l {i j : Int} (h1 : -(2 ^ 64) < i) (h2 : i < 2 ^ 64) : cMul i j = true := by
  unfold cMul
  rw [Bool.or_eq_true]
  exact .inl (decide_eq_true ⟨h1, h2⟩)
theorem gDiv_ii {i j : Int} : gDiv (.int i) (.int j) = if 0 < j ∧ j < 18446744073709551616 then some (.int (i / j)) else none := by
  show (if decide (0 < j ∧ j < 18446744073709551616) = true then _ else _) = _
  simp only [decide_eq_true_eq]
theorem gMod_ii {i j : Int} : gMod (.int i) (.int j) = if 0 < j then some (.int (i % j)) else none := by
  show (if decide (0 < j) = true then _ else _) = _
  simp only [decide_eq_true_eq]
theorem gNeg_i {i : Int} : gNeg (.int i) = some (.int (-i)) := rfl
theorem gLt_ii {i j : Int} : gLt (.int i) (.int j) = some (.bool (decide (i < j))) := rfl
theorem gGt_ii {i j : Int} : gGt (.int i) (.int j) = some (.bool (decide (j < i))) := rfl
theorem gGe_ii {i j : Int} : gGe (.int i) (.int j) = some (.bool (decide (j ≤ i))) := rfl
theorem gLe_ii {i j : Int} : gLe (.int i) (.int j) = some (.bool (decide (i ≤ j))) := rfl
theorem eqv_ii {i j : Int} : PyData.eqv (.int i) (.int j) = decide (i = j) := by
  unfold PyData.eqv
  rfl
theorem eqv_ss {i j : Str} : PyData.eqv (.str i) (.str j) = decide (i = j) := by
  unfold PyData.eqv
  rfl
theorem eqv_bb {i j : Bool} : PyData.eqv (.bool i) (.bool j) = (i == j) := by
  unfold PyData.eqv
  rfl
theorem eqv_nn : PyData.eqv .none .none = true := by unfold PyData.eqv; rfl
theorem eqv_ni {i : Int} : PyData.eqv .none (.int i) = false := by unfold PyData.eqv; rfl
theorem eqv_in {i : Int} : PyData.eqv (.int i) .none = false := by unfold PyData.eqv; rfl
theorem eqv_ns {i : Str} : PyData.eqv .none (.str i) = false := by unfold PyData.eqv; rfl
theorem eqv_sn {i : Str} : PyData.eqv (.str i) .none = false := by unfold PyData.eqv; rfl
theorem eqv_nb {i : Bool} : PyData.eqv .none (.bool i) = false := by unfold PyData.eqv; rfl
theorem eqv_bn {i : Bool} : PyData.eqv (.bool i) .none = false := by unfold PyData.eqv; rfl
theorem eqv_is {i : Int} {s : Str} : PyData.eqv (.int i) (.str s) = false := by unfold PyData.eqv; rfl
theorem eqv_si {i : Int} {s : Str} : PyData.eqv (.str s) (.int i) = false := by unfold PyData.eqv; rfl
theorem eqv_nt {xs : List PyData} : PyData.eqv .none (.tuple xs) = false := by unfold PyData.eqv; rfl
theorem eqv_tn {xs : List PyData} : PyData.eqv (.tuple xs) .none = false := by unfold PyData.eqv; rfl
theorem eqv_nl {xs : List PyData} : PyData.eqv .none (.list xs) = false := by unfold PyData.eqv; rfl
theorem eqv_ln {xs : List PyData} : PyData.eqv (.list xs) .none = false := by unfold PyData.eqv; rfl
theorem eqv_tt {xs ys : List PyData} : PyData.eqv (.tuple xs) (.tuple ys) = PyData.eqvAll xs ys := by rw [PyData.eqv]
theorem eqv_ll {xs ys : List PyData} : PyData.eqv (.list xs) (.list ys) = PyData.eqvAll xs ys := by rw [PyData.eqv]
theorem eqvA_nn : PyData.eqvAll [] [] = true := by rw [PyData.eqvAll]
theorem eqvA_cc {x y : PyData} {xs ys : List PyData} : PyData.eqvAll (x :: xs) (y :: ys) = (PyData.eqv x y && PyData.eqvAll xs ys) := by rw [PyData.eqvAll]
theorem eqvA_nc {y : PyData} {ys : List PyData} : PyData.eqvAll [] (y :: ys) = false := by rw [PyData.eqvAll]
theorem eqvA_cn {y : PyData} {ys : List PyData} : PyData.eqvAll (y :: ys) [] = false := by rw [PyData.eqvAll]
theorem gEq_ii {i j : Int} : gEq (.int i) (.int j) = some (.bool (decide (i = j))) := by rw [← eqv_ii]; rfl
theorem gEq_ss {i j : Str} : gEq (.str i) (.str j) = some (.bool (decide (i = j))) := by rw [← eqv_ss]; rfl
theorem gEq_bb {i j : Bool} : gEq (.bool i) (.bool j) = some (.bool (i == j)) := by rw [← eqv_bb]; rfl
theorem gEq_nn : gEq .none .none = some (.bool true) := by rw [← eqv_nn]; rfl
theorem gEq_in {i : Int} : gEq (.int i) .none = some (.bool false) := by rw [← eqv_in]; rfl
theorem gEq_ni {i : Int} : gEq .none (.int i) = some (.bool false) := by rw [← eqv_ni]; rfl
theorem gEq_sn {i : Str} : gEq (.str i) .none = some (.bool false) := by rw [← eqv_sn]; rfl
theorem gEq_ns {i : Str} : gEq .none (.str i) = some (.bool false) := by rw [← eqv_ns]; rfl
theorem gEq_si {i : Str} {j : Int} : gEq (.str i) (.int j) = some (.bool false) := by rw [← @eqv_si j i]; rfl
theorem gEq_is {i : Str} {j : Int} : gEq (.int j) (.str i) = some (.bool false) := by rw [← @eqv_is j i]; rfl
theorem gEq_tt {xs ys : List PyData} : gEq (.tuple xs) (.tuple ys) = if (SeqAt.shaped (.tuple xs) && SeqAt.shaped (.tuple ys)) = true then some (.bool (PyData.eqvAll xs ys)) else none := by rw [← eqv_tt]; rfl
theorem gEq_ll {xs ys : List PyData} : gEq (.list xs) (.list ys) = if (SeqAt.shaped (.list xs) && SeqAt.shaped (.list ys)) = true then some (.bool (PyData.eqvAll xs ys)) else none := by rw [← eqv_ll]; rfl
theorem gNe_ii {i j : Int} : gNe (.int i) (.int j) = some (.bool (!decide (i = j))) := by rw [← eqv_ii]; rfl
theorem gNe_ss {i j : Str} : gNe (.str i) (.str j) = some (.bool (!decide (i = j))) := by rw [← eqv_ss]; rfl
theorem gNe_bb {i j : Bool} : gNe (.bool i) (.bool j) = some (.bool (!(i == j))) := by rw [← eqv_bb]; rfl
theorem gNe_nn : gNe .none .none = some (.bool false) := by
  show some (PyData.bool (!PyData.eqv .none .none)) = _
  rw [eqv_nn]; rfl
theorem gNe_tt {xs ys : List PyData} : gNe (.tuple xs) (.tuple ys) = if (SeqAt.shaped (.tuple xs) && SeqAt.shaped (.tuple ys)) = true then some (.bool (!PyData.eqvAll xs ys)) else none := by rw [← eqv_tt]; rfl
theorem gNe_ll {xs ys : List PyData} : gNe (.list xs) (.list ys) = if (SeqAt.shaped (.list xs) && SeqAt.shaped (.list ys)) = true then some (.bool (!PyData.eqvAll xs ys)) else none := by rw [← eqv_ll]; rfl
theorem gNot_b {b : Bool} : gNot (.bool b) = some (.bool (!b)) := rfl
theorem gIsN_n : gIsN .none = some (.bool true) := rfl
theorem gIsN_i {i : Int} : gIsN (.int i) = some (.bool false) := rfl
theorem gIsN_b {i : Bool} : gIsN (.bool i) = some (.bool false) := rfl
theorem gIsN_s {i : Str} : gIsN (.str i) = some (.bool false) := rfl
theorem gIsN_t {i : List PyData} : gIsN (.tuple i) = some (.bool false) := rfl
theorem gIsN_l {i : List PyData} : gIsN (.list i) = some (.bool false) := rfl
theorem gNotN_n : gNotN .none = some (.bool false) := rfl
theorem gNotN_i {i : Int} : gNotN (.int i) = some (.bool true) := rfl
theorem gNotN_b {i : Bool} : gNotN (.bool i) = some (.bool true) := rfl
theorem gNotN_s {i : Str} : gNotN (.str i) = some (.bool true) := rfl
theorem gNotN_t {i : List PyData} : gNotN (.tuple i) = some (.bool true) := rfl
theorem gNotN_l {i : List PyData} : gNotN (.list i) = some (.bool true) := rfl
theorem gIx_l {ys : List PyData} {i : Int} : gIx (.list ys) (.int i) = atI ys i := rfl
theorem gIx_t {ys : List PyData} {i : Int} : gIx (.tuple ys) (.int i) = atI ys i := rfl
theorem gIx_s {z : Str} {i : Int} : gIx (.str z) (.int i) = if z.length ≤ sizeLine then (atI z.cps.toList i).map fun c => .str ⟨#[c]⟩ else none := rfl
theorem ixN_nat {n k : Nat} : ixN n (k : Int) = if k < n then some k else none := by
  unfold ixN
  rw [if_pos (by omega)]
  by_cases h : k < n
  · rw [if_pos (by omega), if_pos h]; simp
  · rw [if_neg (by omega), if_neg h]
theorem ixN_lit {n k : Nat} : ixN n (no_index (OfNat.ofNat k : Int)) = if k < n then some k else none := ixN_nat
theorem atI_nat {α : Type} {ys : List α} {n : Nat} : atI ys (n : Int) = ys[n]? := by
  unfold atI
  rw [ixN_nat]
  by_cases h : n < ys.length
  · rw [if_pos h]; rfl
  · rw [if_neg h]; simp; omega
theorem atI_lit {α : Type} {ys : List α} {n : Nat} : atI ys (no_index (OfNat.ofNat n : Int)) = ys[n]? := atI_nat
theorem atI_m1 {α : Type} {ys : List α} : atI ys (-1) = ys.getLast? := by
  unfold atI ixN
  rw [if_neg (by omega), List.getLast?_eq_getElem?]
  by_cases h : ys = []
  · subst h; rfl
  · have : 0 < ys.length := List.length_pos_iff.mpr h
    rw [if_pos (by omega)]
    show ys[((-1 : Int) + ys.length).toNat]? = _
    congr 1
    omega
theorem gLen_s {z : Str} : gLen (.str z) = if z.length ≤ sizeLine then some (.int z.length) else none := rfl
theorem gLen_l {z : List PyData} : gLen (.list z) = some (.int z.length) := rfl
theorem gLen_t {z : List PyData} : gLen (.tuple z) = some (.int z.length) := rfl
theorem gAbs_i {i : Int} : gAbs (.int i) = some (.int (if i < 0 then -i else i)) := rfl
theorem gInt_i {i : Int} : gInt (.int i) = some (.int i) := rfl
theorem gInt_b {i : Bool} : gInt (.bool i) = some (.int (if i then 1 else 0)) := rfl
theorem gInt_s {z : Str} : gInt (.str z) = if z.length ≤ 640 then (PySem.intText? z).map .int else none := rfl
theorem gOrd_s {z : Str} : gOrd (.str z) = if z.length = 1 then some (.int (z.cps.getD 0 0 : Nat)) else none := rfl
theorem gOrd_sign {c : Nat} : gOrd (.str ⟨#[c]⟩) = some (.int c) := rfl
theorem gStr_i {i : Int} : gStr (.int i) = if i.natAbs.log2 < 1920 then some (.str (toString i)) else none := rfl
theorem gStr_s {z : Str} : gStr (.str z) = some (.str z) := rfl
theorem gTuple_l {ys : List PyData} : gTuple (.list ys) = some (.tuple ys) := rfl
theorem gTuple_t {ys : List PyData} : gTuple (.tuple ys) = some (.tuple ys) := rfl
theorem gStrip_s {s t : Str} : gStrip s (.str t) = if s.length ≤ sizeLine then some (.str (Txt.stripChars s t)) else none := rfl
theorem gLstrip_s {s t : Str} : gLstrip s (.str t) = if s.length ≤ sizeLine then some (.str (Txt.lstripChars s t)) else none := rfl
theorem gSplit_s {s t : Str} : gSplit s (.str t) = if (t.length == 0) = false ∧ s.length + 2 ≤ sizeLine then some ((Txt.split s t).map .str) else none := rfl
theorem gPartition_s {s t : Str} : gPartition s (.str t) = if (t.length == 0) = false ∧ s.length ≤ sizeLine then some (.tuple [.str (Txt.partition s t).1, .str (Txt.partition s t).2.1, .str (Txt.partition s t).2.2]) else none := rfl
theorem strsOf_map (zs : List Str) : strsOf (zs.map .str) = some zs := by
  induction zs with
  | nil => rfl
  | cons z zs ih =>
    rw [List.map_cons, strsOf, ih]
    rfl
theorem gJoin_m {s : Str} {zs : List Str} : gJoin s (.list (zs.map .str)) = if (zs.map (·.length)).sum + zs.length * s.length ≤ 16777216 then some (.str (Txt.join s zs)) else none := by
  show (match strsOf (zs.map .str) with | some zs => _ | none => none) = _
  rw [strsOf_map]
theorem gCat_ll {xs ys : List PyData} : gCat (.list xs) (.list ys) = if xs.length + ys.length ≤ sizeLine then some (xs ++ ys) else none := rfl
theorem gSl_s {z : Str} {lo hi : Option Int} : gSl (.str z) lo hi = if z.length ≤ sizeLine then some (.str (cutS z lo hi)) else none := rfl
theorem gSl_t {z : List PyData} {lo hi : Option Int} : gSl (.tuple z) lo hi = some (.tuple (cutL z lo hi)) := rfl
theorem gSl_l {z : List PyData} {lo hi : Option Int} : gSl (.list z) lo hi = some (.list (cutL z lo hi)) := rfl
theorem itemsOf_l {z : List PyData} : itemsOf (.list z) = some z := rfl
theorem itemsOf_t {z : List PyData} : itemsOf (.tuple z) = some z := rfl
theorem itemsOf_s {z : Str} : itemsOf (.str z) = some (signs z) := rfl
theorem flat_map_str {zs : List Str} : (zs.map PyData.str).all flatD = true := by simp [flatD, Function.comp_def]
theorem flat_map_int {zs : List Int} : (zs.map PyData.int).all flatD = true := by simp [flatD, Function.comp_def]
theorem gIn_lf {d : PyData} {ys : List PyData} (h1 : flatD d = true) (h2 : ys.all flatD = true) : gIn d (.list ys) = some (.bool (ys.any fun y => PyData.eqv y d)) := by
  unfold gIn gInB
  cases d <;> first | (simp only [h1, h2, Bool.and_self, if_true]; rfl) | cases h1
theorem gIn_tf {d : PyData} {ys : List PyData} (h1 : flatD d = true) (h2 : ys.all flatD = true) : gIn d (.tuple ys) = some (.bool (ys.any fun y => PyData.eqv y d)) := by
  unfold gIn gInB
  cases d <;> first | (simp only [h1, h2, Bool.and_self, if_true]; rfl) | cases h1
theorem gNin_lf {d : PyData} {ys : List PyData} (h1 : flatD d = true) (h2 : ys.all flatD = true) : gNin d (.list ys) = some (.bool (!ys.any fun y => PyData.eqv y d)) := by
  unfold gNin gInB
  cases d <;> first | (simp only [h1, h2, Bool.and_self, if_true]; rfl) | cases h1
theorem gNin_tf {d : PyData} {ys : List PyData} (h1 : flatD d = true) (h2 : ys.all flatD = true) : gNin d (.tuple ys) = some (.bool (!ys.any fun y => PyData.eqv y d)) := by
  unfold gNin gInB
  cases d <;> first | (simp only [h1, h2, Bool.and_self, if_true]; rfl) | cases h1
theorem gIn_ld {d : PyData} {ys : List PyData} (h1 : flatD d = false) (h2 : SeqAt.shaped d = true) (h3 : SeqAt.shaped (.list ys) = true) : gIn d (.list ys) = some (.bool (ys.any fun y => PyData.eqv y d)) := by
  unfold gIn gInB
  cases d <;> simp only [h1, h2, h3, Bool.and_self, if_true, Bool.false_and, if_false, Bool.false_eq_true] <;> rfl
theorem gNin_ld {d : PyData} {ys : List PyData} (h1 : flatD d = false) (h2 : SeqAt.shaped d = true) (h3 : SeqAt.shaped (.list ys) = true) : gNin d (.list ys) = some (.bool (!ys.any fun y => PyData.eqv y d)) := by
  unfold gNin gInB
  cases d <;> simp only [h1, h2, h3, Bool.and_self, if_true, Bool.false_and, if_false, Bool.false_eq_true] <;> rfl
theorem gIn_td {d : PyData} {ys : List PyData} (h1 : flatD d = false) (h2 : SeqAt.shaped d = true) (h3 : SeqAt.shaped (.tuple ys) = true) : gIn d (.tuple ys) = some (.bool (ys.any fun y => PyData.eqv y d)) := by
  unfold gIn gInB
  cases d <;> simp only [h1, h2, h3, Bool.and_self, if_true, Bool.false_and, if_false, Bool.false_eq_true] <;> rfl
theorem cast_lit {n : Nat} : ((no_index (OfNat.ofNat n) : Nat) : Int) = OfNat.ofNat n := rfl
theorem ofString_inj {a b : String} : (Str.ofString a = Str.ofString b) = (a = b) := by
  apply propext
  constructor
  · intro h
    rw [Str.ofString_eq_toList, Str.ofString_eq_toList] at h
    have h2 : a.toList.map Char.toNat = b.toList.map Char.toNat := by
      have := congrArg Str.cps h
      simpa using this
    have h3 : a.toList = b.toList := by
      refine (List.map_inj_right ?_).mp h2
      intro x y e
      exact Char.toNat_inj.mp e
    exact String.toList_inj.mp h3
  · rintro rfl
    rfl
end Fw
namespace Fw
open PySem PySem.Spec L2
def YD_take : SS := (seqS (ifS (toB (bin (ixO 0 (ret (.int 2))) (ret (.int 0)) gEq)) (seqS (setO 0 (bin (ixO 0 (ret (.int 1))) (ret (.int 1)) gAdd) (ret (.int 1)))
  (seqS (ifS (toB (bin (ixO 0 (ret (.int 1))) (una (ixO 0 (ret (.int 0))) gLen) gLt)) (setO 0 (bin (ixO 0 (ret (.int 0))) (ixO 0 (ret (.int 1))) gIx) (ret (.int 2))) nxt)
  (ifS (toB (bin (ixO 0 (ret (.int 2))) (ret (.int 0)) gEq)) (seqS (setO 0 (bin (una (bin (bin (ixO 0 (ret (.int 3))) (ret (.int 48271)) gMul) (ret (.int 11)) gAdd) gInt) (ret (.int 2147483647)) gMod) (ret (.int 3)))
  (setO 0 (ixO 0 (ret (.int 3))) (ret (.int 2)))) nxt))) nxt)
  (seqS (asg 2 (bin (una (ixO 0 (ret (.int 2))) gInt) (rdD 1) gMod))
  (seqS (setO 0 (bin (ixO 0 (ret (.int 2))) (rdD 1) gDiv) (ret (.int 2)))
  (retD (rdD 2)))))
def S_take : Fn := runF 2 3 YD_take
theorem ix4_0 {a b c d : PyData} : gIx (.list [a, b, c, d]) (.int 0) = some a := rfl
theorem ix4_1 {a b c d : PyData} : gIx (.list [a, b, c, d]) (.int 1) = some b := rfl
theorem ix4_2 {a b c d : PyData} : gIx (.list [a, b, c, d]) (.int 2) = some c := rfl
theorem ix4_3 {a b c d : PyData} : gIx (.list [a, b, c, d]) (.int 3) = some d := rfl
theorem ixN_0 {n : Nat} : ixN (n + 1) 0 = some 0 := by unfold ixN; rw [if_pos (by omega), if_pos (by omega)]; rfl
theorem ixN4_1 : ixN 4 1 = some 1 := rfl
theorem ixN4_2 : ixN 4 2 = some 2 := rfl
theorem ixN4_3 : ixN 4 3 = some 3 := rfl
def drw (cs : List Int) (i c s : Int) : List PyData := [.list (cs.map .int), .int i, .int c, .int s]
def DrawOk (d : List PyData) : Prop := ∃ (cs : List Int) (i c s : Int), d = drw cs i c s ∧ (∀ x ∈ cs, 0 ≤ x) ∧ -1 ≤ i ∧ 0 ≤ c
theorem atI_ints {cs : List Int} {i : Int} (h0 : 0 ≤ i) (h1 : i < cs.length) : ∃ x ∈ cs, atI (cs.map PyData.int) i = some (.int x) := by
  have hn : i.toNat < cs.length := by omega
  refine ⟨cs[i.toNat], List.getElem_mem hn, ?_⟩
  unfold atI ixN
  rw [List.length_map, if_pos h0, if_pos h1]
  simp [hn]
def YD_tail : SS := (seqS (asg 2 (bin (una (ixO 0 (ret (.int 2))) gInt) (rdD 1) gMod))
  (seqS (setO 0 (bin (ixO 0 (ret (.int 2))) (rdD 1) gDiv) (ret (.int 2)))
  (retD (rdD 2))))
theorem take_tail {cs : List Int} {i c s m : Int} {Q : Fl → En → Prop} (hm : 0 < m) (hm2 : m < 18446744073709551616) (q : Q (.rt (.dat (.int (c % m)))) [.own (drw cs i (c / m) s), .dat (.int m), .dat (.int (c % m))]) :
    Ok (YD_tail [.own (drw cs i c s), .dat (.int m), .un]) Q := by
  unfold drw at q ⊢
  simp only [YD_tail, ok_some, ok_none, okV_some, okV_none, ↓okV_if, ↓ok_if, ↓ok_ret, ↓ok_bnd, ↓ok_lft, ↓ok_bin, ↓ok_una, ↓ok_binL, ↓ok_unaL, ↓ok_mny, ↓ok_rdD, ↓ok_rdO, ↓ok_rdA, ↓ok_toB, ↓ok_sAnd, ↓ok_sOr, ↓ok_sNot, ↓ok_vAnd, ↓ok_vOr, ↓ok_sIf, ↓ok_chn, ↓ok_sNil, ↓ok_sCons, ↓ok_dTup, ↓ok_dLst, ↓ok_m0S, ↓ok_m1S, ↓ok_m1L, ↓ok_ixO, ↓ok_sPart, ↓ok_sSl, ↓ok_tupO, ↓ok_sItems, ↓ok_sScr, ↓ok_sEnum, ↓ok_sRng1, ↓ok_sRng2, ↓ok_seqS, ↓ok_nxt, ↓ok_brkS, ↓ok_cntS, ↓ok_retN, ↓ok_drpS, ↓ok_asg, ↓ok_asgL, ↓ok_asgG, ↓ok_augS, ↓ok_ifS, ↓ok_retD, ↓ok_retL, ↓ok_retO, ↓ok_appO, ↓ok_setO, ↓ok_extO, ↓ok_popS, ↓ok_forS, ↓ok_forL_nil, ↓ok_lcS, ↓ok_lcL_nil, ↓okV_callD, ↓okV_callV, ↓ok_callM, ↓ok_asD, ↓ok_asL, ↓ok_callS, ↓ok_runF, own?, toN, toT, toNs, wipE, bakE, Fw.collect, ok_yesS, List.getElem?_cons_zero, List.getElem?_cons_succ, List.set_cons_zero, List.set_cons_succ, List.map_cons, List.map_nil, List.length_cons, List.length_nil, List.cons_append, List.nil_append, List.replicate_succ, List.replicate_zero, Nat.reduceAdd, Nat.reduceSub, Nat.reduceLeDiff, Nat.reduceLT, Nat.reduceEqDiff, Int.reduceLT, Int.reduceLE, Int.reduceNeg, Int.reducePow, Int.reduceEq, Option.isSome_some, Option.map_some, Option.map_none, true_and, and_true, if_true, if_false, ite_true, ite_false, Bool.false_eq_true, reduceIte, reduceCtorEq, ix4_0, ix4_1, ix4_2, ix4_3, gInt, gMod, gDiv, gI, ixN4_2]
  simp only [hm, hm2, and_self, decide_true, if_true, okV_some, true_and]
  exact q

theorem take_body {d : List PyData} (hd : DrawOk d) {m : Int} {Q : Fl → En → Prop} (hm : 0 < m) (hm2 : m < 18446744073709551616) (q : ∀ r d', 0 ≤ r → r < m → DrawOk d' → Q (.rt (.dat (.int r))) [.own d', .dat (.int m), .dat (.int r)]) :
    Ok (YD_take [.own d, .dat (.int m), .un]) Q := by
  obtain ⟨cs, i, c, s, rfl, hcs, hi, hc⟩ := hd
  have tl : ∀ i' c' s', -1 ≤ i' → 0 ≤ c' → Ok (YD_tail [.own (drw cs i' c' s'), .dat (.int m), .un]) Q := fun i' c' s' h1 h2 =>
    take_tail hm hm2 (q _ _ (Int.emod_nonneg _ (by omega)) (Int.emod_lt_of_pos _ hm) ⟨cs, i', c' / m, s', rfl, hcs, h1, Int.ediv_nonneg h2 (by omega)⟩)
  show Ok (seqS _ YD_tail _) Q
  rw [ok_seqS]
  by_cases h0 : c = 0
  · subst h0
    unfold drw at tl ⊢
    simp only [ok_some, ok_none, okV_some, okV_none, ↓okV_if, ↓ok_if, ↓ok_ret, ↓ok_bnd, ↓ok_lft, ↓ok_bin, ↓ok_una, ↓ok_binL, ↓ok_unaL, ↓ok_mny, ↓ok_rdD, ↓ok_rdO, ↓ok_rdA, ↓ok_toB, ↓ok_sAnd, ↓ok_sOr, ↓ok_sNot, ↓ok_vAnd, ↓ok_vOr, ↓ok_sIf, ↓ok_chn, ↓ok_sNil, ↓ok_sCons, ↓ok_dTup, ↓ok_dLst, ↓ok_m0S, ↓ok_m1S, ↓ok_m1L, ↓ok_ixO, ↓ok_sPart, ↓ok_sSl, ↓ok_tupO, ↓ok_sItems, ↓ok_sScr, ↓ok_sEnum, ↓ok_sRng1, ↓ok_sRng2, ↓ok_seqS, ↓ok_nxt, ↓ok_brkS, ↓ok_cntS, ↓ok_retN, ↓ok_drpS, ↓ok_asg, ↓ok_asgL, ↓ok_asgG, ↓ok_augS, ↓ok_ifS, ↓ok_retD, ↓ok_retL, ↓ok_retO, ↓ok_appO, ↓ok_setO, ↓ok_extO, ↓ok_popS, ↓ok_forS, ↓ok_forL_nil, ↓ok_lcS, ↓ok_lcL_nil, ↓okV_callD, ↓okV_callV, ↓ok_callM, ↓ok_asD, ↓ok_asL, ↓ok_callS, ↓ok_runF, own?, toN, toT, toNs, wipE, bakE, Fw.collect, ok_yesS, List.getElem?_cons_zero, List.getElem?_cons_succ, List.set_cons_zero, List.set_cons_succ, List.map_cons, List.map_nil, List.length_cons, List.length_nil, List.cons_append, List.nil_append, List.replicate_succ, List.replicate_zero, Nat.reduceAdd, Nat.reduceSub, Nat.reduceLeDiff, Nat.reduceLT, Nat.reduceEqDiff, Int.reduceLT, Int.reduceLE, Int.reduceNeg, Int.reducePow, Int.reduceEq, Option.isSome_some, Option.map_some, Option.map_none, true_and, and_true, if_true, if_false, ite_true, ite_false, Bool.false_eq_true, reduceIte, reduceCtorEq, gAdd_ii, gAdd_ss, gAdd_tt, gSub_ii, gMul_ii, gDiv_ii, gMod_ii, gNeg_i, gLt_ii, gGt_ii, gGe_ii, gLe_ii, eqv_ii, eqv_ss, eqv_bb, eqv_nn, eqv_ni, eqv_in, eqv_ns, eqv_sn, eqv_nb, eqv_bn, eqv_is, eqv_si, eqv_nt, eqv_tn, eqv_nl, eqv_ln, eqv_tt, eqv_ll, eqvA_nn, eqvA_cc, eqvA_nc, eqvA_cn, gEq_ii, gEq_ss, gEq_bb, gEq_nn, gEq_in, gEq_ni, gEq_sn, gEq_ns, gEq_si, gEq_is, gNe_ii, gNe_ss, gNe_bb, gNe_nn, gNot_b, gIsN_n, gIsN_i, gIsN_b, gIsN_s, gIsN_t, gIsN_l, gNotN_n, gNotN_i, gNotN_b, gNotN_s, gNotN_t, gNotN_l, gIx_l, gIx_t, gIx_s, gLen_s, gLen_l, gLen_t, gAbs_i, gInt_i, gInt_b, gInt_s, gOrd_sign, gDivmod_ii, gStr_i, gStr_s, gTuple_l, gTuple_t, gStrip_s, gLstrip_s, gSplit_s, gPartition_s, gJoin_m, gCat_ll, gSl_s, gSl_t, gSl_l, itemsOf_l, itemsOf_t, itemsOf_s, ofString_inj, cMul_r, cMul_l, ixN_lit, atI_lit, atI_m1, cast_lit, String.reduceEq, decide_true, decide_false, Int.reduceSub, Int.reduceAdd, Int.reduceMul, Int.reduceToNat, decide_true, List.length_map]
    by_cases hl : i + 1 < (cs.length : Int)
    · obtain ⟨x, hx, e⟩ := atI_ints (cs := cs) (i := i + 1) (by omega) hl
      have hx0 := hcs x hx
      simp only [hl, decide_true, ok_some, ok_none, okV_some, okV_none, ↓okV_if, ↓ok_if, ↓ok_ret, ↓ok_bnd, ↓ok_lft, ↓ok_bin, ↓ok_una, ↓ok_binL, ↓ok_unaL, ↓ok_mny, ↓ok_rdD, ↓ok_rdO, ↓ok_rdA, ↓ok_toB, ↓ok_sAnd, ↓ok_sOr, ↓ok_sNot, ↓ok_vAnd, ↓ok_vOr, ↓ok_sIf, ↓ok_chn, ↓ok_sNil, ↓ok_sCons, ↓ok_dTup, ↓ok_dLst, ↓ok_m0S, ↓ok_m1S, ↓ok_m1L, ↓ok_ixO, ↓ok_sPart, ↓ok_sSl, ↓ok_tupO, ↓ok_sItems, ↓ok_sScr, ↓ok_sEnum, ↓ok_sRng1, ↓ok_sRng2, ↓ok_seqS, ↓ok_nxt, ↓ok_brkS, ↓ok_cntS, ↓ok_retN, ↓ok_drpS, ↓ok_asg, ↓ok_asgL, ↓ok_asgG, ↓ok_augS, ↓ok_ifS, ↓ok_retD, ↓ok_retL, ↓ok_retO, ↓ok_appO, ↓ok_setO, ↓ok_extO, ↓ok_popS, ↓ok_forS, ↓ok_forL_nil, ↓ok_lcS, ↓ok_lcL_nil, ↓okV_callD, ↓okV_callV, ↓ok_callM, ↓ok_asD, ↓ok_asL, ↓ok_callS, ↓ok_runF, own?, toN, toT, toNs, wipE, bakE, Fw.collect, ok_yesS, List.getElem?_cons_zero, List.getElem?_cons_succ, List.set_cons_zero, List.set_cons_succ, List.map_cons, List.map_nil, List.length_cons, List.length_nil, List.cons_append, List.nil_append, List.replicate_succ, List.replicate_zero, Nat.reduceAdd, Nat.reduceSub, Nat.reduceLeDiff, Nat.reduceLT, Nat.reduceEqDiff, Int.reduceLT, Int.reduceLE, Int.reduceNeg, Int.reducePow, Int.reduceEq, Option.isSome_some, Option.map_some, Option.map_none, true_and, and_true, if_true, if_false, ite_true, ite_false, Bool.false_eq_true, reduceIte, reduceCtorEq, gAdd_ii, gAdd_ss, gAdd_tt, gSub_ii, gMul_ii, gDiv_ii, gMod_ii, gNeg_i, gLt_ii, gGt_ii, gGe_ii, gLe_ii, eqv_ii, eqv_ss, eqv_bb, eqv_nn, eqv_ni, eqv_in, eqv_ns, eqv_sn, eqv_nb, eqv_bn, eqv_is, eqv_si, eqv_nt, eqv_tn, eqv_nl, eqv_ln, eqv_tt, eqv_ll, eqvA_nn, eqvA_cc, eqvA_nc, eqvA_cn, gEq_ii, gEq_ss, gEq_bb, gEq_nn, gEq_in, gEq_ni, gEq_sn, gEq_ns, gEq_si, gEq_is, gNe_ii, gNe_ss, gNe_bb, gNe_nn, gNot_b, gIsN_n, gIsN_i, gIsN_b, gIsN_s, gIsN_t, gIsN_l, gNotN_n, gNotN_i, gNotN_b, gNotN_s, gNotN_t, gNotN_l, gIx_l, gIx_t, gIx_s, gLen_s, gLen_l, gLen_t, gAbs_i, gInt_i, gInt_b, gInt_s, gOrd_sign, gDivmod_ii, gStr_i, gStr_s, gTuple_l, gTuple_t, gStrip_s, gLstrip_s, gSplit_s, gPartition_s, gJoin_m, gCat_ll, gSl_s, gSl_t, gSl_l, itemsOf_l, itemsOf_t, itemsOf_s, ofString_inj, cMul_r, cMul_l, ixN_lit, atI_lit, atI_m1, cast_lit, String.reduceEq, decide_true, decide_false, Int.reduceSub, Int.reduceAdd, Int.reduceMul, Int.reduceToNat, e]
      by_cases h1 : x = 0
      · subst h1
        simp only [decide_true, ok_some, ok_none, okV_some, okV_none, ↓okV_if, ↓ok_if, ↓ok_ret, ↓ok_bnd, ↓ok_lft, ↓ok_bin, ↓ok_una, ↓ok_binL, ↓ok_unaL, ↓ok_mny, ↓ok_rdD, ↓ok_rdO, ↓ok_rdA, ↓ok_toB, ↓ok_sAnd, ↓ok_sOr, ↓ok_sNot, ↓ok_vAnd, ↓ok_vOr, ↓ok_sIf, ↓ok_chn, ↓ok_sNil, ↓ok_sCons, ↓ok_dTup, ↓ok_dLst, ↓ok_m0S, ↓ok_m1S, ↓ok_m1L, ↓ok_ixO, ↓ok_sPart, ↓ok_sSl, ↓ok_tupO, ↓ok_sItems, ↓ok_sScr, ↓ok_sEnum, ↓ok_sRng1, ↓ok_sRng2, ↓ok_seqS, ↓ok_nxt, ↓ok_brkS, ↓ok_cntS, ↓ok_retN, ↓ok_drpS, ↓ok_asg, ↓ok_asgL, ↓ok_asgG, ↓ok_augS, ↓ok_ifS, ↓ok_retD, ↓ok_retL, ↓ok_retO, ↓ok_appO, ↓ok_setO, ↓ok_extO, ↓ok_popS, ↓ok_forS, ↓ok_forL_nil, ↓ok_lcS, ↓ok_lcL_nil, ↓okV_callD, ↓okV_callV, ↓ok_callM, ↓ok_asD, ↓ok_asL, ↓ok_callS, ↓ok_runF, own?, toN, toT, toNs, wipE, bakE, Fw.collect, ok_yesS, List.getElem?_cons_zero, List.getElem?_cons_succ, List.set_cons_zero, List.set_cons_succ, List.map_cons, List.map_nil, List.length_cons, List.length_nil, List.cons_append, List.nil_append, List.replicate_succ, List.replicate_zero, Nat.reduceAdd, Nat.reduceSub, Nat.reduceLeDiff, Nat.reduceLT, Nat.reduceEqDiff, Int.reduceLT, Int.reduceLE, Int.reduceNeg, Int.reducePow, Int.reduceEq, Option.isSome_some, Option.map_some, Option.map_none, true_and, and_true, if_true, if_false, ite_true, ite_false, Bool.false_eq_true, reduceIte, reduceCtorEq, gAdd_ii, gAdd_ss, gAdd_tt, gSub_ii, gMul_ii, gDiv_ii, gMod_ii, gNeg_i, gLt_ii, gGt_ii, gGe_ii, gLe_ii, eqv_ii, eqv_ss, eqv_bb, eqv_nn, eqv_ni, eqv_in, eqv_ns, eqv_sn, eqv_nb, eqv_bn, eqv_is, eqv_si, eqv_nt, eqv_tn, eqv_nl, eqv_ln, eqv_tt, eqv_ll, eqvA_nn, eqvA_cc, eqvA_nc, eqvA_cn, gEq_ii, gEq_ss, gEq_bb, gEq_nn, gEq_in, gEq_ni, gEq_sn, gEq_ns, gEq_si, gEq_is, gNe_ii, gNe_ss, gNe_bb, gNe_nn, gNot_b, gIsN_n, gIsN_i, gIsN_b, gIsN_s, gIsN_t, gIsN_l, gNotN_n, gNotN_i, gNotN_b, gNotN_s, gNotN_t, gNotN_l, gIx_l, gIx_t, gIx_s, gLen_s, gLen_l, gLen_t, gAbs_i, gInt_i, gInt_b, gInt_s, gOrd_sign, gDivmod_ii, gStr_i, gStr_s, gTuple_l, gTuple_t, gStrip_s, gLstrip_s, gSplit_s, gPartition_s, gJoin_m, gCat_ll, gSl_s, gSl_t, gSl_l, itemsOf_l, itemsOf_t, itemsOf_s, ofString_inj, cMul_r, cMul_l, ixN_lit, atI_lit, atI_m1, cast_lit, String.reduceEq, decide_true, decide_false, Int.reduceSub, Int.reduceAdd, Int.reduceMul, Int.reduceToNat]
        exact tl _ _ _ (by omega) (Int.emod_nonneg _ (by omega))
      · simp only [h1, decide_false, ok_some, ok_none, okV_some, okV_none, ↓okV_if, ↓ok_if, ↓ok_ret, ↓ok_bnd, ↓ok_lft, ↓ok_bin, ↓ok_una, ↓ok_binL, ↓ok_unaL, ↓ok_mny, ↓ok_rdD, ↓ok_rdO, ↓ok_rdA, ↓ok_toB, ↓ok_sAnd, ↓ok_sOr, ↓ok_sNot, ↓ok_vAnd, ↓ok_vOr, ↓ok_sIf, ↓ok_chn, ↓ok_sNil, ↓ok_sCons, ↓ok_dTup, ↓ok_dLst, ↓ok_m0S, ↓ok_m1S, ↓ok_m1L, ↓ok_ixO, ↓ok_sPart, ↓ok_sSl, ↓ok_tupO, ↓ok_sItems, ↓ok_sScr, ↓ok_sEnum, ↓ok_sRng1, ↓ok_sRng2, ↓ok_seqS, ↓ok_nxt, ↓ok_brkS, ↓ok_cntS, ↓ok_retN, ↓ok_drpS, ↓ok_asg, ↓ok_asgL, ↓ok_asgG, ↓ok_augS, ↓ok_ifS, ↓ok_retD, ↓ok_retL, ↓ok_retO, ↓ok_appO, ↓ok_setO, ↓ok_extO, ↓ok_popS, ↓ok_forS, ↓ok_forL_nil, ↓ok_lcS, ↓ok_lcL_nil, ↓okV_callD, ↓okV_callV, ↓ok_callM, ↓ok_asD, ↓ok_asL, ↓ok_callS, ↓ok_runF, own?, toN, toT, toNs, wipE, bakE, Fw.collect, ok_yesS, List.getElem?_cons_zero, List.getElem?_cons_succ, List.set_cons_zero, List.set_cons_succ, List.map_cons, List.map_nil, List.length_cons, List.length_nil, List.cons_append, List.nil_append, List.replicate_succ, List.replicate_zero, Nat.reduceAdd, Nat.reduceSub, Nat.reduceLeDiff, Nat.reduceLT, Nat.reduceEqDiff, Int.reduceLT, Int.reduceLE, Int.reduceNeg, Int.reducePow, Int.reduceEq, Option.isSome_some, Option.map_some, Option.map_none, true_and, and_true, if_true, if_false, ite_true, ite_false, Bool.false_eq_true, reduceIte, reduceCtorEq, gAdd_ii, gAdd_ss, gAdd_tt, gSub_ii, gMul_ii, gDiv_ii, gMod_ii, gNeg_i, gLt_ii, gGt_ii, gGe_ii, gLe_ii, eqv_ii, eqv_ss, eqv_bb, eqv_nn, eqv_ni, eqv_in, eqv_ns, eqv_sn, eqv_nb, eqv_bn, eqv_is, eqv_si, eqv_nt, eqv_tn, eqv_nl, eqv_ln, eqv_tt, eqv_ll, eqvA_nn, eqvA_cc, eqvA_nc, eqvA_cn, gEq_ii, gEq_ss, gEq_bb, gEq_nn, gEq_in, gEq_ni, gEq_sn, gEq_ns, gEq_si, gEq_is, gNe_ii, gNe_ss, gNe_bb, gNe_nn, gNot_b, gIsN_n, gIsN_i, gIsN_b, gIsN_s, gIsN_t, gIsN_l, gNotN_n, gNotN_i, gNotN_b, gNotN_s, gNotN_t, gNotN_l, gIx_l, gIx_t, gIx_s, gLen_s, gLen_l, gLen_t, gAbs_i, gInt_i, gInt_b, gInt_s, gOrd_sign, gDivmod_ii, gStr_i, gStr_s, gTuple_l, gTuple_t, gStrip_s, gLstrip_s, gSplit_s, gPartition_s, gJoin_m, gCat_ll, gSl_s, gSl_t, gSl_l, itemsOf_l, itemsOf_t, itemsOf_s, ofString_inj, cMul_r, cMul_l, ixN_lit, atI_lit, atI_m1, cast_lit, String.reduceEq, decide_true, decide_false, Int.reduceSub, Int.reduceAdd, Int.reduceMul, Int.reduceToNat]
        exact tl _ _ _ (by omega) hx0
    · simp only [hl, decide_false, decide_true, ok_some, ok_none, okV_some, okV_none, ↓okV_if, ↓ok_if, ↓ok_ret, ↓ok_bnd, ↓ok_lft, ↓ok_bin, ↓ok_una, ↓ok_binL, ↓ok_unaL, ↓ok_mny, ↓ok_rdD, ↓ok_rdO, ↓ok_rdA, ↓ok_toB, ↓ok_sAnd, ↓ok_sOr, ↓ok_sNot, ↓ok_vAnd, ↓ok_vOr, ↓ok_sIf, ↓ok_chn, ↓ok_sNil, ↓ok_sCons, ↓ok_dTup, ↓ok_dLst, ↓ok_m0S, ↓ok_m1S, ↓ok_m1L, ↓ok_ixO, ↓ok_sPart, ↓ok_sSl, ↓ok_tupO, ↓ok_sItems, ↓ok_sScr, ↓ok_sEnum, ↓ok_sRng1, ↓ok_sRng2, ↓ok_seqS, ↓ok_nxt, ↓ok_brkS, ↓ok_cntS, ↓ok_retN, ↓ok_drpS, ↓ok_asg, ↓ok_asgL, ↓ok_asgG, ↓ok_augS, ↓ok_ifS, ↓ok_retD, ↓ok_retL, ↓ok_retO, ↓ok_appO, ↓ok_setO, ↓ok_extO, ↓ok_popS, ↓ok_forS, ↓ok_forL_nil, ↓ok_lcS, ↓ok_lcL_nil, ↓okV_callD, ↓okV_callV, ↓ok_callM, ↓ok_asD, ↓ok_asL, ↓ok_callS, ↓ok_runF, own?, toN, toT, toNs, wipE, bakE, Fw.collect, ok_yesS, List.getElem?_cons_zero, List.getElem?_cons_succ, List.set_cons_zero, List.set_cons_succ, List.map_cons, List.map_nil, List.length_cons, List.length_nil, List.cons_append, List.nil_append, List.replicate_succ, List.replicate_zero, Nat.reduceAdd, Nat.reduceSub, Nat.reduceLeDiff, Nat.reduceLT, Nat.reduceEqDiff, Int.reduceLT, Int.reduceLE, Int.reduceNeg, Int.reducePow, Int.reduceEq, Option.isSome_some, Option.map_some, Option.map_none, true_and, and_true, if_true, if_false, ite_true, ite_false, Bool.false_eq_true, reduceIte, reduceCtorEq, gAdd_ii, gAdd_ss, gAdd_tt, gSub_ii, gMul_ii, gDiv_ii, gMod_ii, gNeg_i, gLt_ii, gGt_ii, gGe_ii, gLe_ii, eqv_ii, eqv_ss, eqv_bb, eqv_nn, eqv_ni, eqv_in, eqv_ns, eqv_sn, eqv_nb, eqv_bn, eqv_is, eqv_si, eqv_nt, eqv_tn, eqv_nl, eqv_ln, eqv_tt, eqv_ll, eqvA_nn, eqvA_cc, eqvA_nc, eqvA_cn, gEq_ii, gEq_ss, gEq_bb, gEq_nn, gEq_in, gEq_ni, gEq_sn, gEq_ns, gEq_si, gEq_is, gNe_ii, gNe_ss, gNe_bb, gNe_nn, gNot_b, gIsN_n, gIsN_i, gIsN_b, gIsN_s, gIsN_t, gIsN_l, gNotN_n, gNotN_i, gNotN_b, gNotN_s, gNotN_t, gNotN_l, gIx_l, gIx_t, gIx_s, gLen_s, gLen_l, gLen_t, gAbs_i, gInt_i, gInt_b, gInt_s, gOrd_sign, gDivmod_ii, gStr_i, gStr_s, gTuple_l, gTuple_t, gStrip_s, gLstrip_s, gSplit_s, gPartition_s, gJoin_m, gCat_ll, gSl_s, gSl_t, gSl_l, itemsOf_l, itemsOf_t, itemsOf_s, ofString_inj, cMul_r, cMul_l, ixN_lit, atI_lit, atI_m1, cast_lit, String.reduceEq, decide_true, decide_false, Int.reduceSub, Int.reduceAdd, Int.reduceMul, Int.reduceToNat]
      exact tl _ _ _ (by omega) (Int.emod_nonneg _ (by omega))
  · unfold drw at tl ⊢
    simp only [h0, decide_false, ok_some, ok_none, okV_some, okV_none, ↓okV_if, ↓ok_if, ↓ok_ret, ↓ok_bnd, ↓ok_lft, ↓ok_bin, ↓ok_una, ↓ok_binL, ↓ok_unaL, ↓ok_mny, ↓ok_rdD, ↓ok_rdO, ↓ok_rdA, ↓ok_toB, ↓ok_sAnd, ↓ok_sOr, ↓ok_sNot, ↓ok_vAnd, ↓ok_vOr, ↓ok_sIf, ↓ok_chn, ↓ok_sNil, ↓ok_sCons, ↓ok_dTup, ↓ok_dLst, ↓ok_m0S, ↓ok_m1S, ↓ok_m1L, ↓ok_ixO, ↓ok_sPart, ↓ok_sSl, ↓ok_tupO, ↓ok_sItems, ↓ok_sScr, ↓ok_sEnum, ↓ok_sRng1, ↓ok_sRng2, ↓ok_seqS, ↓ok_nxt, ↓ok_brkS, ↓ok_cntS, ↓ok_retN, ↓ok_drpS, ↓ok_asg, ↓ok_asgL, ↓ok_asgG, ↓ok_augS, ↓ok_ifS, ↓ok_retD, ↓ok_retL, ↓ok_retO, ↓ok_appO, ↓ok_setO, ↓ok_extO, ↓ok_popS, ↓ok_forS, ↓ok_forL_nil, ↓ok_lcS, ↓ok_lcL_nil, ↓okV_callD, ↓okV_callV, ↓ok_callM, ↓ok_asD, ↓ok_asL, ↓ok_callS, ↓ok_runF, own?, toN, toT, toNs, wipE, bakE, Fw.collect, ok_yesS, List.getElem?_cons_zero, List.getElem?_cons_succ, List.set_cons_zero, List.set_cons_succ, List.map_cons, List.map_nil, List.length_cons, List.length_nil, List.cons_append, List.nil_append, List.replicate_succ, List.replicate_zero, Nat.reduceAdd, Nat.reduceSub, Nat.reduceLeDiff, Nat.reduceLT, Nat.reduceEqDiff, Int.reduceLT, Int.reduceLE, Int.reduceNeg, Int.reducePow, Int.reduceEq, Option.isSome_some, Option.map_some, Option.map_none, true_and, and_true, if_true, if_false, ite_true, ite_false, Bool.false_eq_true, reduceIte, reduceCtorEq, gAdd_ii, gAdd_ss, gAdd_tt, gSub_ii, gMul_ii, gDiv_ii, gMod_ii, gNeg_i, gLt_ii, gGt_ii, gGe_ii, gLe_ii, eqv_ii, eqv_ss, eqv_bb, eqv_nn, eqv_ni, eqv_in, eqv_ns, eqv_sn, eqv_nb, eqv_bn, eqv_is, eqv_si, eqv_nt, eqv_tn, eqv_nl, eqv_ln, eqv_tt, eqv_ll, eqvA_nn, eqvA_cc, eqvA_nc, eqvA_cn, gEq_ii, gEq_ss, gEq_bb, gEq_nn, gEq_in, gEq_ni, gEq_sn, gEq_ns, gEq_si, gEq_is, gNe_ii, gNe_ss, gNe_bb, gNe_nn, gNot_b, gIsN_n, gIsN_i, gIsN_b, gIsN_s, gIsN_t, gIsN_l, gNotN_n, gNotN_i, gNotN_b, gNotN_s, gNotN_t, gNotN_l, gIx_l, gIx_t, gIx_s, gLen_s, gLen_l, gLen_t, gAbs_i, gInt_i, gInt_b, gInt_s, gOrd_sign, gDivmod_ii, gStr_i, gStr_s, gTuple_l, gTuple_t, gStrip_s, gLstrip_s, gSplit_s, gPartition_s, gJoin_m, gCat_ll, gSl_s, gSl_t, gSl_l, itemsOf_l, itemsOf_t, itemsOf_s, ofString_inj, cMul_r, cMul_l, ixN_lit, atI_lit, atI_m1, cast_lit, String.reduceEq, decide_true, decide_false, Int.reduceSub, Int.reduceAdd, Int.reduceMul, Int.reduceToNat]
    exact tl i c s hi hc
theorem take_ok {d : List PyData} (hd : DrawOk d) {m : Int} {Q : Sl → En → Prop} (hm : 0 < m) (hm2 : m < 18446744073709551616) (q : ∀ r d', 0 ≤ r → r < m → DrawOk d' → Q (.dat (.int r)) [.own d', .un]) :
    Ok (S_take [.own d, .dat (.int m)]) Q := by
  unfold S_take
  rw [ok_runF]
  refine ⟨rfl, take_body hd hm hm2 fun r d' h1 h2 h3 => ?_⟩
  simp only [own?, toN, toT, toNs, wipE, bakE, Fw.collect, ok_yesS, List.getElem?_cons_zero, List.getElem?_cons_succ, List.set_cons_zero, List.set_cons_succ, List.map_cons, List.map_nil, List.length_cons, List.length_nil, List.cons_append, List.nil_append, List.replicate_succ, List.replicate_zero, Nat.reduceAdd, Nat.reduceSub, Nat.reduceLeDiff, Nat.reduceLT, Nat.reduceEqDiff, Int.reduceLT, Int.reduceLE, Int.reduceNeg, Int.reducePow, Int.reduceEq, Option.isSome_some, Option.map_some, Option.map_none, true_and, and_true, if_true, if_false, ite_true, ite_false, Bool.false_eq_true, reduceIte, reduceCtorEq, ok_some, ok_none, okV_some, okV_none, ↓okV_if, ↓ok_if, ↓ok_ret, ↓ok_bnd, ↓ok_lft, ↓ok_bin, ↓ok_una, ↓ok_binL, ↓ok_unaL, ↓ok_mny, ↓ok_rdD, ↓ok_rdO, ↓ok_rdA, ↓ok_toB, ↓ok_sAnd, ↓ok_sOr, ↓ok_sNot, ↓ok_vAnd, ↓ok_vOr, ↓ok_sIf, ↓ok_chn, ↓ok_sNil, ↓ok_sCons, ↓ok_dTup, ↓ok_dLst, ↓ok_m0S, ↓ok_m1S, ↓ok_m1L, ↓ok_ixO, ↓ok_sPart, ↓ok_sSl, ↓ok_tupO, ↓ok_sItems, ↓ok_sScr, ↓ok_sEnum, ↓ok_sRng1, ↓ok_sRng2, ↓ok_seqS, ↓ok_nxt, ↓ok_brkS, ↓ok_cntS, ↓ok_retN, ↓ok_drpS, ↓ok_asg, ↓ok_asgL, ↓ok_asgG, ↓ok_augS, ↓ok_ifS, ↓ok_retD, ↓ok_retL, ↓ok_retO, ↓ok_appO, ↓ok_setO, ↓ok_extO, ↓ok_popS, ↓ok_forS, ↓ok_forL_nil, ↓ok_lcS, ↓ok_lcL_nil, ↓okV_callD, ↓okV_callV, ↓ok_callM, ↓ok_asD, ↓ok_asL, ↓ok_callS, ↓ok_runF, collect]
  exact q r d' h1 h2 h3
def LD_draw : SS := (asg 1 (bin (una (bin (bin (bin (rdD 1) (ret (.int 48271)) gMul) (bin (una (una (rdD 2) gInt) gAbs) (ret (.int 65521)) gMod) gAdd) (ret (.int 1)) gAdd) gInt) (ret (.int 2147483647)) gMod))
def CD_draw : SE PyData := (una (una (rdD 2) gInt) gAbs)
def YD_draw : SS := (seqS (asg 1 (ret (.int 7)))
  (seqS (forS (sScr 0) (toN 2) LD_draw)
  (retL (dLst (sCons (bnd (lcS (sScr 0) [2] (toN 2) yesS CD_draw) fun ds => ret (.list ds)) (sCons (una (ret (.int 1)) gNeg) (sCons (ret (.int 0)) (sCons (rdD 1) sNil))))))))
def S_draw : Fn := runF 1 3 YD_draw
theorem draw_for {Q : Fl → En → Prop} {all : List Int} : ∀ {ns : List Int} {s : Int} {x : Sl}, (∀ ys, x ≠ .own ys) → (∀ s x, (∀ ys, x ≠ .own ys) → Q .nx [.scr all, .dat (.int s), x]) → Ok (forL (toN 2) LD_draw (ns.map .int) [.scr all, .dat (.int s), x]) Q
  | [], s, x, hx, q => by
    rw [List.map_nil, ok_forL_nil]
    exact q _ _ hx
  | n :: ns, s, x, hx, q => by
    rw [List.map_cons, ok_forL_cons]
    simp only [LD_draw, ok_some, ok_none, okV_some, okV_none, ↓okV_if, ↓ok_if, ↓ok_ret, ↓ok_bnd, ↓ok_lft, ↓ok_bin, ↓ok_una, ↓ok_binL, ↓ok_unaL, ↓ok_mny, ↓ok_rdD, ↓ok_rdO, ↓ok_rdA, ↓ok_toB, ↓ok_sAnd, ↓ok_sOr, ↓ok_sNot, ↓ok_vAnd, ↓ok_vOr, ↓ok_sIf, ↓ok_chn, ↓ok_sNil, ↓ok_sCons, ↓ok_dTup, ↓ok_dLst, ↓ok_m0S, ↓ok_m1S, ↓ok_m1L, ↓ok_ixO, ↓ok_sPart, ↓ok_sSl, ↓ok_tupO, ↓ok_sItems, ↓ok_sScr, ↓ok_sEnum, ↓ok_sRng1, ↓ok_sRng2, ↓ok_seqS, ↓ok_nxt, ↓ok_brkS, ↓ok_cntS, ↓ok_retN, ↓ok_drpS, ↓ok_asg, ↓ok_asgL, ↓ok_asgG, ↓ok_augS, ↓ok_ifS, ↓ok_retD, ↓ok_retL, ↓ok_retO, ↓ok_appO, ↓ok_setO, ↓ok_extO, ↓ok_popS, ↓ok_forS, ↓ok_forL_nil, ↓ok_lcS, ↓ok_lcL_nil, ↓okV_callD, ↓okV_callV, ↓ok_callM, ↓ok_asD, ↓ok_asL, ↓ok_callS, ↓ok_runF, own?, toN, toT, toNs, wipE, bakE, Fw.collect, ok_yesS, List.getElem?_cons_zero, List.getElem?_cons_succ, List.set_cons_zero, List.set_cons_succ, List.map_cons, List.map_nil, List.length_cons, List.length_nil, List.cons_append, List.nil_append, List.replicate_succ, List.replicate_zero, Nat.reduceAdd, Nat.reduceSub, Nat.reduceLeDiff, Nat.reduceLT, Nat.reduceEqDiff, Int.reduceLT, Int.reduceLE, Int.reduceNeg, Int.reducePow, Int.reduceEq, Option.isSome_some, Option.map_some, Option.map_none, true_and, and_true, if_true, if_false, ite_true, ite_false, Bool.false_eq_true, reduceIte, reduceCtorEq, gAdd_ii, gAdd_ss, gAdd_tt, gSub_ii, gMul_ii, gDiv_ii, gMod_ii, gNeg_i, gLt_ii, gGt_ii, gGe_ii, gLe_ii, eqv_ii, eqv_ss, eqv_bb, eqv_nn, eqv_ni, eqv_in, eqv_ns, eqv_sn, eqv_nb, eqv_bn, eqv_is, eqv_si, eqv_nt, eqv_tn, eqv_nl, eqv_ln, eqv_tt, eqv_ll, eqvA_nn, eqvA_cc, eqvA_nc, eqvA_cn, gEq_ii, gEq_ss, gEq_bb, gEq_nn, gEq_in, gEq_ni, gEq_sn, gEq_ns, gEq_si, gEq_is, gNe_ii, gNe_ss, gNe_bb, gNe_nn, gNot_b, gIsN_n, gIsN_i, gIsN_b, gIsN_s, gIsN_t, gIsN_l, gNotN_n, gNotN_i, gNotN_b, gNotN_s, gNotN_t, gNotN_l, gIx_l, gIx_t, gIx_s, gLen_s, gLen_l, gLen_t, gAbs_i, gInt_i, gInt_b, gInt_s, gOrd_sign, gDivmod_ii, gStr_i, gStr_s, gTuple_l, gTuple_t, gStrip_s, gLstrip_s, gSplit_s, gPartition_s, gJoin_m, gCat_ll, gSl_s, gSl_t, gSl_l, itemsOf_l, itemsOf_t, itemsOf_s, ofString_inj, cMul_r, cMul_l, ixN_lit, atI_lit, atI_m1, cast_lit, String.reduceEq, decide_true, decide_false, Int.reduceSub, Int.reduceAdd, Int.reduceMul, Int.reduceToNat]
    exact draw_for (fun _ => nofun) q
theorem draw_comp {Q : List PyData → En → Prop} {all : List Int} {s : Int} {x : Sl} (hx : ∀ ys, x ≠ .own ys) : ∀ {ns : List Int}, Q (ns.map fun n => .int (if n < 0 then -n else n)) [.scr all, .dat (.int s), x] → Ok (lcL [2] (toN 2) yesS CD_draw (ns.map .int) [.scr all, .dat (.int s), x]) Q
  | [], q => by
    rw [List.map_nil, ok_lcL_nil]
    exact q
  | n :: ns, q => by
    have hw : wipE [2] [Sl.scr all, Sl.dat (.int s), x] = some [Sl.scr all, Sl.dat (.int s), .un] := by
      cases x <;> first | rfl | exact absurd rfl (hx _)
    rw [List.map_cons, ok_lcL_cons, hw, okV_some]
    simp only [CD_draw, ok_some, ok_none, okV_some, okV_none, ↓okV_if, ↓ok_if, ↓ok_ret, ↓ok_bnd, ↓ok_lft, ↓ok_bin, ↓ok_una, ↓ok_binL, ↓ok_unaL, ↓ok_mny, ↓ok_rdD, ↓ok_rdO, ↓ok_rdA, ↓ok_toB, ↓ok_sAnd, ↓ok_sOr, ↓ok_sNot, ↓ok_vAnd, ↓ok_vOr, ↓ok_sIf, ↓ok_chn, ↓ok_sNil, ↓ok_sCons, ↓ok_dTup, ↓ok_dLst, ↓ok_m0S, ↓ok_m1S, ↓ok_m1L, ↓ok_ixO, ↓ok_sPart, ↓ok_sSl, ↓ok_tupO, ↓ok_sItems, ↓ok_sScr, ↓ok_sEnum, ↓ok_sRng1, ↓ok_sRng2, ↓ok_seqS, ↓ok_nxt, ↓ok_brkS, ↓ok_cntS, ↓ok_retN, ↓ok_drpS, ↓ok_asg, ↓ok_asgL, ↓ok_asgG, ↓ok_augS, ↓ok_ifS, ↓ok_retD, ↓ok_retL, ↓ok_retO, ↓ok_appO, ↓ok_setO, ↓ok_extO, ↓ok_popS, ↓ok_forS, ↓ok_forL_nil, ↓ok_lcS, ↓ok_lcL_nil, ↓okV_callD, ↓okV_callV, ↓ok_callM, ↓ok_asD, ↓ok_asL, ↓ok_callS, ↓ok_runF, own?, toN, toT, toNs, wipE, bakE, Fw.collect, ok_yesS, List.getElem?_cons_zero, List.getElem?_cons_succ, List.set_cons_zero, List.set_cons_succ, List.map_cons, List.map_nil, List.length_cons, List.length_nil, List.cons_append, List.nil_append, List.replicate_succ, List.replicate_zero, Nat.reduceAdd, Nat.reduceSub, Nat.reduceLeDiff, Nat.reduceLT, Nat.reduceEqDiff, Int.reduceLT, Int.reduceLE, Int.reduceNeg, Int.reducePow, Int.reduceEq, Option.isSome_some, Option.map_some, Option.map_none, true_and, and_true, if_true, if_false, ite_true, ite_false, Bool.false_eq_true, reduceIte, reduceCtorEq, gAdd_ii, gAdd_ss, gAdd_tt, gSub_ii, gMul_ii, gDiv_ii, gMod_ii, gNeg_i, gLt_ii, gGt_ii, gGe_ii, gLe_ii, eqv_ii, eqv_ss, eqv_bb, eqv_nn, eqv_ni, eqv_in, eqv_ns, eqv_sn, eqv_nb, eqv_bn, eqv_is, eqv_si, eqv_nt, eqv_tn, eqv_nl, eqv_ln, eqv_tt, eqv_ll, eqvA_nn, eqvA_cc, eqvA_nc, eqvA_cn, gEq_ii, gEq_ss, gEq_bb, gEq_nn, gEq_in, gEq_ni, gEq_sn, gEq_ns, gEq_si, gEq_is, gNe_ii, gNe_ss, gNe_bb, gNe_nn, gNot_b, gIsN_n, gIsN_i, gIsN_b, gIsN_s, gIsN_t, gIsN_l, gNotN_n, gNotN_i, gNotN_b, gNotN_s, gNotN_t, gNotN_l, gIx_l, gIx_t, gIx_s, gLen_s, gLen_l, gLen_t, gAbs_i, gInt_i, gInt_b, gInt_s, gOrd_sign, gDivmod_ii, gStr_i, gStr_s, gTuple_l, gTuple_t, gStrip_s, gLstrip_s, gSplit_s, gPartition_s, gJoin_m, gCat_ll, gSl_s, gSl_t, gSl_l, itemsOf_l, itemsOf_t, itemsOf_s, ofString_inj, cMul_r, cMul_l, ixN_lit, atI_lit, atI_m1, cast_lit, String.reduceEq, decide_true, decide_false, Int.reduceSub, Int.reduceAdd, Int.reduceMul, Int.reduceToNat, bakE]
    exact draw_comp hx q
theorem draw_ok {ns : List Int} (hn : ns.length ≤ 63) {Q : Sl → En → Prop} (q : ∀ d, DrawOk d → Q (.own d) [.un]) : Ok (S_draw [.scr ns]) Q := by
  unfold S_draw
  rw [ok_runF]
  refine ⟨rfl, ?_⟩
  simp only [YD_draw, ok_some, ok_none, okV_some, okV_none, ↓okV_if, ↓ok_if, ↓ok_ret, ↓ok_bnd, ↓ok_lft, ↓ok_bin, ↓ok_una, ↓ok_binL, ↓ok_unaL, ↓ok_mny, ↓ok_rdD, ↓ok_rdO, ↓ok_rdA, ↓ok_toB, ↓ok_sAnd, ↓ok_sOr, ↓ok_sNot, ↓ok_vAnd, ↓ok_vOr, ↓ok_sIf, ↓ok_chn, ↓ok_sNil, ↓ok_sCons, ↓ok_dTup, ↓ok_dLst, ↓ok_m0S, ↓ok_m1S, ↓ok_m1L, ↓ok_ixO, ↓ok_sPart, ↓ok_sSl, ↓ok_tupO, ↓ok_sItems, ↓ok_sScr, ↓ok_sEnum, ↓ok_sRng1, ↓ok_sRng2, ↓ok_seqS, ↓ok_nxt, ↓ok_brkS, ↓ok_cntS, ↓ok_retN, ↓ok_drpS, ↓ok_asg, ↓ok_asgL, ↓ok_asgG, ↓ok_augS, ↓ok_ifS, ↓ok_retD, ↓ok_retL, ↓ok_retO, ↓ok_appO, ↓ok_setO, ↓ok_extO, ↓ok_popS, ↓ok_forS, ↓ok_forL_nil, ↓ok_lcS, ↓ok_lcL_nil, ↓okV_callD, ↓okV_callV, ↓ok_callM, ↓ok_asD, ↓ok_asL, ↓ok_callS, ↓ok_runF, own?, toN, toT, toNs, wipE, bakE, Fw.collect, ok_yesS, List.getElem?_cons_zero, List.getElem?_cons_succ, List.set_cons_zero, List.set_cons_succ, List.map_cons, List.map_nil, List.length_cons, List.length_nil, List.cons_append, List.nil_append, List.replicate_succ, List.replicate_zero, Nat.reduceAdd, Nat.reduceSub, Nat.reduceLeDiff, Nat.reduceLT, Nat.reduceEqDiff, Int.reduceLT, Int.reduceLE, Int.reduceNeg, Int.reducePow, Int.reduceEq, Option.isSome_some, Option.map_some, Option.map_none, true_and, and_true, if_true, if_false, ite_true, ite_false, Bool.false_eq_true, reduceIte, reduceCtorEq, gAdd_ii, gAdd_ss, gAdd_tt, gSub_ii, gMul_ii, gDiv_ii, gMod_ii, gNeg_i, gLt_ii, gGt_ii, gGe_ii, gLe_ii, eqv_ii, eqv_ss, eqv_bb, eqv_nn, eqv_ni, eqv_in, eqv_ns, eqv_sn, eqv_nb, eqv_bn, eqv_is, eqv_si, eqv_nt, eqv_tn, eqv_nl, eqv_ln, eqv_tt, eqv_ll, eqvA_nn, eqvA_cc, eqvA_nc, eqvA_cn, gEq_ii, gEq_ss, gEq_bb, gEq_nn, gEq_in, gEq_ni, gEq_sn, gEq_ns, gEq_si, gEq_is, gNe_ii, gNe_ss, gNe_bb, gNe_nn, gNot_b, gIsN_n, gIsN_i, gIsN_b, gIsN_s, gIsN_t, gIsN_l, gNotN_n, gNotN_i, gNotN_b, gNotN_s, gNotN_t, gNotN_l, gIx_l, gIx_t, gIx_s, gLen_s, gLen_l, gLen_t, gAbs_i, gInt_i, gInt_b, gInt_s, gOrd_sign, gDivmod_ii, gStr_i, gStr_s, gTuple_l, gTuple_t, gStrip_s, gLstrip_s, gSplit_s, gPartition_s, gJoin_m, gCat_ll, gSl_s, gSl_t, gSl_l, itemsOf_l, itemsOf_t, itemsOf_s, ofString_inj, cMul_r, cMul_l, ixN_lit, atI_lit, atI_m1, cast_lit, String.reduceEq, decide_true, decide_false, Int.reduceSub, Int.reduceAdd, Int.reduceMul, Int.reduceToNat]
  refine draw_for (fun _ => nofun) fun s x hx => ?_
  simp only [ok_some, ok_none, okV_some, okV_none, ↓okV_if, ↓ok_if, ↓ok_ret, ↓ok_bnd, ↓ok_lft, ↓ok_bin, ↓ok_una, ↓ok_binL, ↓ok_unaL, ↓ok_mny, ↓ok_rdD, ↓ok_rdO, ↓ok_rdA, ↓ok_toB, ↓ok_sAnd, ↓ok_sOr, ↓ok_sNot, ↓ok_vAnd, ↓ok_vOr, ↓ok_sIf, ↓ok_chn, ↓ok_sNil, ↓ok_sCons, ↓ok_dTup, ↓ok_dLst, ↓ok_m0S, ↓ok_m1S, ↓ok_m1L, ↓ok_ixO, ↓ok_sPart, ↓ok_sSl, ↓ok_tupO, ↓ok_sItems, ↓ok_sScr, ↓ok_sEnum, ↓ok_sRng1, ↓ok_sRng2, ↓ok_seqS, ↓ok_nxt, ↓ok_brkS, ↓ok_cntS, ↓ok_retN, ↓ok_drpS, ↓ok_asg, ↓ok_asgL, ↓ok_asgG, ↓ok_augS, ↓ok_ifS, ↓ok_retD, ↓ok_retL, ↓ok_retO, ↓ok_appO, ↓ok_setO, ↓ok_extO, ↓ok_popS, ↓ok_forS, ↓ok_forL_nil, ↓ok_lcS, ↓ok_lcL_nil, ↓okV_callD, ↓okV_callV, ↓ok_callM, ↓ok_asD, ↓ok_asL, ↓ok_callS, ↓ok_runF, own?, toN, toT, toNs, wipE, bakE, Fw.collect, ok_yesS, List.getElem?_cons_zero, List.getElem?_cons_succ, List.set_cons_zero, List.set_cons_succ, List.map_cons, List.map_nil, List.length_cons, List.length_nil, List.cons_append, List.nil_append, List.replicate_succ, List.replicate_zero, Nat.reduceAdd, Nat.reduceSub, Nat.reduceLeDiff, Nat.reduceLT, Nat.reduceEqDiff, Int.reduceLT, Int.reduceLE, Int.reduceNeg, Int.reducePow, Int.reduceEq, Option.isSome_some, Option.map_some, Option.map_none, true_and, and_true, if_true, if_false, ite_true, ite_false, Bool.false_eq_true, reduceIte, reduceCtorEq, gAdd_ii, gAdd_ss, gAdd_tt, gSub_ii, gMul_ii, gDiv_ii, gMod_ii, gNeg_i, gLt_ii, gGt_ii, gGe_ii, gLe_ii, eqv_ii, eqv_ss, eqv_bb, eqv_nn, eqv_ni, eqv_in, eqv_ns, eqv_sn, eqv_nb, eqv_bn, eqv_is, eqv_si, eqv_nt, eqv_tn, eqv_nl, eqv_ln, eqv_tt, eqv_ll, eqvA_nn, eqvA_cc, eqvA_nc, eqvA_cn, gEq_ii, gEq_ss, gEq_bb, gEq_nn, gEq_in, gEq_ni, gEq_sn, gEq_ns, gEq_si, gEq_is, gNe_ii, gNe_ss, gNe_bb, gNe_nn, gNot_b, gIsN_n, gIsN_i, gIsN_b, gIsN_s, gIsN_t, gIsN_l, gNotN_n, gNotN_i, gNotN_b, gNotN_s, gNotN_t, gNotN_l, gIx_l, gIx_t, gIx_s, gLen_s, gLen_l, gLen_t, gAbs_i, gInt_i, gInt_b, gInt_s, gOrd_sign, gDivmod_ii, gStr_i, gStr_s, gTuple_l, gTuple_t, gStrip_s, gLstrip_s, gSplit_s, gPartition_s, gJoin_m, gCat_ll, gSl_s, gSl_t, gSl_l, itemsOf_l, itemsOf_t, itemsOf_s, ofString_inj, cMul_r, cMul_l, ixN_lit, atI_lit, atI_m1, cast_lit, String.reduceEq, decide_true, decide_false, Int.reduceSub, Int.reduceAdd, Int.reduceMul, Int.reduceToNat]
  have hz := sizeLine_eq
  refine ⟨by rw [List.length_map]; omega, draw_comp hx ?_⟩
  simp only [ok_some, ok_none, okV_some, okV_none, ↓okV_if, ↓ok_if, ↓ok_ret, ↓ok_bnd, ↓ok_lft, ↓ok_bin, ↓ok_una, ↓ok_binL, ↓ok_unaL, ↓ok_mny, ↓ok_rdD, ↓ok_rdO, ↓ok_rdA, ↓ok_toB, ↓ok_sAnd, ↓ok_sOr, ↓ok_sNot, ↓ok_vAnd, ↓ok_vOr, ↓ok_sIf, ↓ok_chn, ↓ok_sNil, ↓ok_sCons, ↓ok_dTup, ↓ok_dLst, ↓ok_m0S, ↓ok_m1S, ↓ok_m1L, ↓ok_ixO, ↓ok_sPart, ↓ok_sSl, ↓ok_tupO, ↓ok_sItems, ↓ok_sScr, ↓ok_sEnum, ↓ok_sRng1, ↓ok_sRng2, ↓ok_seqS, ↓ok_nxt, ↓ok_brkS, ↓ok_cntS, ↓ok_retN, ↓ok_drpS, ↓ok_asg, ↓ok_asgL, ↓ok_asgG, ↓ok_augS, ↓ok_ifS, ↓ok_retD, ↓ok_retL, ↓ok_retO, ↓ok_appO, ↓ok_setO, ↓ok_extO, ↓ok_popS, ↓ok_forS, ↓ok_forL_nil, ↓ok_lcS, ↓ok_lcL_nil, ↓okV_callD, ↓okV_callV, ↓ok_callM, ↓ok_asD, ↓ok_asL, ↓ok_callS, ↓ok_runF, own?, toN, toT, toNs, wipE, bakE, Fw.collect, ok_yesS, List.getElem?_cons_zero, List.getElem?_cons_succ, List.set_cons_zero, List.set_cons_succ, List.map_cons, List.map_nil, List.length_cons, List.length_nil, List.cons_append, List.nil_append, List.replicate_succ, List.replicate_zero, Nat.reduceAdd, Nat.reduceSub, Nat.reduceLeDiff, Nat.reduceLT, Nat.reduceEqDiff, Int.reduceLT, Int.reduceLE, Int.reduceNeg, Int.reducePow, Int.reduceEq, Option.isSome_some, Option.map_some, Option.map_none, true_and, and_true, if_true, if_false, ite_true, ite_false, Bool.false_eq_true, reduceIte, reduceCtorEq, gAdd_ii, gAdd_ss, gAdd_tt, gSub_ii, gMul_ii, gDiv_ii, gMod_ii, gNeg_i, gLt_ii, gGt_ii, gGe_ii, gLe_ii, eqv_ii, eqv_ss, eqv_bb, eqv_nn, eqv_ni, eqv_in, eqv_ns, eqv_sn, eqv_nb, eqv_bn, eqv_is, eqv_si, eqv_nt, eqv_tn, eqv_nl, eqv_ln, eqv_tt, eqv_ll, eqvA_nn, eqvA_cc, eqvA_nc, eqvA_cn, gEq_ii, gEq_ss, gEq_bb, gEq_nn, gEq_in, gEq_ni, gEq_sn, gEq_ns, gEq_si, gEq_is, gNe_ii, gNe_ss, gNe_bb, gNe_nn, gNot_b, gIsN_n, gIsN_i, gIsN_b, gIsN_s, gIsN_t, gIsN_l, gNotN_n, gNotN_i, gNotN_b, gNotN_s, gNotN_t, gNotN_l, gIx_l, gIx_t, gIx_s, gLen_s, gLen_l, gLen_t, gAbs_i, gInt_i, gInt_b, gInt_s, gOrd_sign, gDivmod_ii, gStr_i, gStr_s, gTuple_l, gTuple_t, gStrip_s, gLstrip_s, gSplit_s, gPartition_s, gJoin_m, gCat_ll, gSl_s, gSl_t, gSl_l, itemsOf_l, itemsOf_t, itemsOf_s, ofString_inj, cMul_r, cMul_l, ixN_lit, atI_lit, atI_m1, cast_lit, String.reduceEq, decide_true, decide_false, Int.reduceSub, Int.reduceAdd, Int.reduceMul, Int.reduceToNat]
  refine ⟨by omega, q _ ⟨ns.map fun n => if n < 0 then -n else n, -1, 0, s, ?_, fun x hx => ?_, by omega, by omega⟩⟩
  · unfold drw
    rw [List.map_map]
    rfl
  · obtain ⟨n, _, rfl⟩ := List.mem_map.mp hx
    split <;> omega
end Fw
namespace Fw
open PySem PySem.Spec L2
theorem Ok.of {α : Type} {m : Option (α × En)} {Q : α → En → Prop} {a : α} {E : En} (h : m = some (a, E)) (q : Q a E) : Ok m Q := ⟨a, E, h, q⟩
theorem OkV.imp {α : Type} {m : Option α} {Q R : α → Prop} (h : OkV m Q) (i : ∀ a, Q a → R a) : OkV m R := by
  obtain ⟨a, h1, h2⟩ := h
  exact ⟨a, h1, i a h2⟩
/-- one turn of a comprehension -/
def turn (vs : List Nat) (bb : PyData → En → Option En) (t : SE Bool) (fe : SE PyData) (E : En) (d : PyData) (Q : Option PyData → En → Prop) : Prop :=
  OkV (wipE vs E) fun E0 => OkV (bb d E0) fun E1 => Ok (t E1) fun b E2 => if b then Ok (fe E2) fun y E3 => Q (some y) (bakE vs E E3) else Q none (bakE vs E E2)
theorem lcL_turn {vs : List Nat} {bb : PyData → En → Option En} {t : SE Bool} {fe : SE PyData} {E : En} {d : PyData} {ds : List PyData} {Q : List PyData → En → Prop} {R : Option PyData → En → Prop} (h : turn vs bb t fe E d R)
    (q1 : ∀ y E', R (some y) E' → Ok (lcL vs bb t fe ds E') fun ys E4 => Q (y :: ys) E4) (q2 : ∀ E', R none E' → Ok (lcL vs bb t fe ds E') Q) : Ok (lcL vs bb t fe (d :: ds) E) Q := by
  rw [ok_lcL_cons]
  refine OkV.imp h fun E0 h => h.imp fun E1 h => h.imp fun b E2 h => ?_
  cases b with
  | true =>
    rw [if_pos rfl] at h ⊢
    exact h.imp fun y E3 h3 => q1 y _ h3
  | false =>
    rw [if_neg Bool.false_ne_true] at h ⊢
    exact q2 _ h
theorem lcL_inv {vs : List Nat} {bb : PyData → En → Option En} {t : SE Bool} {fe : SE PyData} (I : En → Prop) (P : PyData → Prop) : ∀ (ds : List PyData) (E : En) (Q : List PyData → En → Prop), I E →
    (∀ d ∈ ds, ∀ E, I E → turn vs bb t fe E d fun o E' => I E' ∧ ∀ y, o = some y → P y) → (∀ ys E', ys.length ≤ ds.length → (∀ y ∈ ys, P y) → I E' → Q ys E') → Ok (lcL vs bb t fe ds E) Q
  | [], E, Q, i, _, q => by
    rw [ok_lcL_nil]
    exact q [] E (Nat.le_refl _) (fun _ h => nomatch h) i
  | d :: ds, E, Q, i, h, q => by
    refine lcL_turn (h d (List.mem_cons_self ..) E i) (fun y E' r => ?_) (fun E' r => ?_)
    · refine lcL_inv I P ds E' _ r.1 (fun z hz => h z (List.mem_cons_of_mem _ hz)) fun ys E4 hl hp i4 => ?_
      refine q (y :: ys) E4 (by simp only [List.length_cons]; omega) (fun z hz => ?_) i4
      rcases List.mem_cons.mp hz with rfl | hz
      · exact r.2 _ rfl
      · exact hp z hz
    · exact lcL_inv I P ds E' _ r.1 (fun z hz => h z (List.mem_cons_of_mem _ hz)) fun ys E4 hl hp i4 => q ys E4 (by simp only [List.length_cons]; omega) hp i4
/-- a comprehension without a test: an item for each -/
theorem lcL_all {vs : List Nat} {bb : PyData → En → Option En} {t : SE Bool} {fe : SE PyData} (I : En → Prop) (P : PyData → Prop) : ∀ (ds : List PyData) (E : En) (Q : List PyData → En → Prop), I E →
    (∀ d ∈ ds, ∀ E, I E → turn vs bb t fe E d fun o E' => I E' ∧ ∃ y, o = some y ∧ P y) → (∀ ys E', ys.length = ds.length → (∀ y ∈ ys, P y) → I E' → Q ys E') → Ok (lcL vs bb t fe ds E) Q
  | [], E, Q, i, _, q => by
    rw [ok_lcL_nil]
    exact q [] E rfl (fun _ h => nomatch h) i
  | d :: ds, E, Q, i, h, q => by
    refine lcL_turn (h d (List.mem_cons_self ..) E i) (fun y E' r => ?_) (fun E' r => ?_)
    · obtain ⟨i', y', e, py⟩ := r
      cases e
      refine lcL_all I P ds E' _ i' (fun z hz => h z (List.mem_cons_of_mem _ hz)) fun ys E4 hl hp i4 => ?_
      refine q (y :: ys) E4 (by simp only [List.length_cons]; omega) (fun z hz => ?_) i4
      rcases List.mem_cons.mp hz with rfl | hz
      · exact py
      · exact hp z hz
    · obtain ⟨_, _, e, _⟩ := r
      cases e
/-- a comprehension that leaves the slots as they are -/
theorem lcL_map {α : Type} {vs : List Nat} {bb : PyData → En → Option En} {t : SE Bool} {fe : SE PyData} {E : En} (item val : α → PyData) (p : α → Bool) : ∀ (xs : List α) (Q : List PyData → En → Prop),
    (∀ x ∈ xs, turn vs bb t fe E (item x) fun o E' => E' = E ∧ o = if p x then some (val x) else none) → Q ((xs.filter p).map val) E → Ok (lcL vs bb t fe (xs.map item) E) Q
  | [], Q, _, q => by
    rw [List.map_nil, ok_lcL_nil]
    exact q
  | x :: xs, Q, h, q => by
    rw [List.map_cons]
    refine lcL_turn (h x (List.mem_cons_self ..)) (fun y E' r => ?_) (fun E' r => ?_)
    · obtain ⟨rfl, r⟩ := r
      refine lcL_map item val p xs _ (fun z hz => h z (List.mem_cons_of_mem _ hz)) ?_
      by_cases hp : p x = true
      · rw [if_pos hp] at r
        cases r
        rw [List.filter_cons_of_pos hp] at q
        exact q
      · rw [if_neg hp] at r
        cases r
    · obtain ⟨rfl, r⟩ := r
      refine lcL_map item val p xs _ (fun z hz => h z (List.mem_cons_of_mem _ hz)) ?_
      by_cases hp : p x = true
      · rw [if_pos hp] at r
        cases r
      · rw [List.filter_cons_of_neg hp] at q
        exact q
/-- what holds behind a turn of a loop -/
def stp (I : En → Prop) (Q : Fl → En → Prop) (fl : Fl) (E : En) : Prop := match fl with
  | .nx => I E
  | .ct => I E
  | .bk => Q .nx E
  | .rt s => Q (.rt s) E
theorem stp_nx {I : En → Prop} {Q : Fl → En → Prop} {E : En} : stp I Q .nx E = I E := rfl
theorem stp_ct {I : En → Prop} {Q : Fl → En → Prop} {E : En} : stp I Q .ct E = I E := rfl
theorem stp_bk {I : En → Prop} {Q : Fl → En → Prop} {E : En} : stp I Q .bk E = Q .nx E := rfl
theorem stp_rt {I : En → Prop} {Q : Fl → En → Prop} {E : En} {s : Sl} : stp I Q (.rt s) E = Q (.rt s) E := rfl
/-- a loop -/
theorem forL_inv {bb : PyData → En → Option En} {g : SS} (I : Nat → En → Prop) : ∀ (ds : List PyData) (k : Nat) (E : En) (Q : Fl → En → Prop), I k E →
    (∀ i d, ds[i]? = some d → ∀ E, I (k + i) E → OkV (bb d E) fun E1 => Ok (g E1) (stp (I (k + i + 1)) Q)) → (∀ E', I (k + ds.length) E' → Q .nx E') → Ok (forL bb g ds E) Q
  | [], k, E, Q, i, _, q => by
    rw [ok_forL_nil]
    exact q E i
  | d :: ds, k, E, Q, i, h, q => by
    rw [ok_forL_cons]
    have hr : ∀ E2, I (k + 1) E2 → Ok (forL bb g ds E2) Q := fun E2 i2 => by
      refine forL_inv I ds (k + 1) E2 Q i2 (fun j z hz E3 i3 => ?_) (fun E' i' => q E' ?_)
      · have := h (j + 1) z hz E3 (by rw [show k + (j + 1) = k + 1 + j by omega]; exact i3)
        rw [show k + (j + 1) + 1 = k + 1 + j + 1 by omega] at this
        exact this
      · rw [List.length_cons, show k + (ds.length + 1) = k + 1 + ds.length by omega]
        exact i'
    refine (h 0 d rfl E i).imp fun E1 h => h.imp fun fl E2 h => ?_
    cases fl with
    | nx => exact hr E2 h
    | ct => exact hr E2 h
    | bk => exact h
    | rt s => exact h
/-- a loop whose invariant doesn't count -/
theorem forL_inv' {bb : PyData → En → Option En} {g : SS} (I : En → Prop) (ds : List PyData) (E : En) (Q : Fl → En → Prop) (i : I E)
    (h : ∀ d ∈ ds, ∀ E, I E → OkV (bb d E) fun E1 => Ok (g E1) (stp I Q)) (q : ∀ E', I E' → Q .nx E') : Ok (forL bb g ds E) Q :=
  forL_inv (fun _ => I) ds 0 E Q i (fun j d hd E i => h d (List.mem_of_getElem? hd) E i) q
/-- a while loop: the number gets less in each turn -/
theorem whN_inv {t : SE Bool} {g : SS} (I : Nat → En → Prop) {Q : Fl → En → Prop} (h : ∀ k E, I k E → Ok (t E) fun b E1 => if b then Ok (g E1) (stp (fun E2 => ∃ j, j < k ∧ I j E2) Q) else Q .nx E1) :
    ∀ (n k : Nat) (E : En), I k E → k < n → Ok (whN t g n E) Q
  | 0, k, E, _, hk => absurd hk (Nat.not_lt_zero _)
  | n + 1, k, E, i, hk => by
    obtain ⟨b, E1, e1, h1⟩ := h k E i
    cases b with
    | false =>
      rw [if_neg Bool.false_ne_true] at h1
      exact ⟨.nx, E1, by unfold whN; rw [e1], h1⟩
    | true =>
      rw [if_pos rfl] at h1
      obtain ⟨fl, E2, e2, h2⟩ := h1
      cases fl with
      | nx =>
        obtain ⟨j, hj, ij⟩ := h2
        obtain ⟨fl, E3, e3, q⟩ := whN_inv I h n j E2 ij (by omega)
        exact ⟨fl, E3, by unfold whN; rw [e1]; simp only [e2]; exact e3, q⟩
      | ct =>
        obtain ⟨j, hj, ij⟩ := h2
        obtain ⟨fl, E3, e3, q⟩ := whN_inv I h n j E2 ij (by omega)
        exact ⟨fl, E3, by unfold whN; rw [e1]; simp only [e2]; exact e3, q⟩
      | bk => exact ⟨.nx, E2, by unfold whN; rw [e1]; simp only [e2], h2⟩
      | rt s => exact ⟨.rt s, E2, by unfold whN; rw [e1]; simp only [e2], h2⟩
theorem whS_inv {t : SE Bool} {g : SS} (I : Nat → En → Prop) {Q : Fl → En → Prop} (k : Nat) (E : En) (i : I k E) (hk : k < 1099511627776)
    (h : ∀ k E, I k E → Ok (t E) fun b E1 => if b then Ok (g E1) (stp (fun E2 => ∃ j, j < k ∧ I j E2) Q) else Q .nx E1) : Ok (whS t g E) Q := whN_inv I h fuelC k E i hk
theorem forL_any {α : Type} {bb : PyData → En → Option En} {g : SS} (item : α → PyData) (p : α → Bool) (I : En → Prop) (R : Sl) : ∀ (xs : List α) (E : En) (Q : Fl → En → Prop), I E →
    (∀ x ∈ xs, ∀ E, I E → OkV (bb (item x) E) fun E1 => Ok (g E1) fun fl E2 => I E2 ∧ fl = if p x then .rt R else .nx) → (∀ E', I E' → Q (if xs.any p then .rt R else .nx) E') → Ok (forL bb g (xs.map item) E) Q
  | [], E, Q, i, _, q => by
    rw [List.map_nil, ok_forL_nil]
    exact q E i
  | x :: xs, E, Q, i, h, q => by
    rw [List.map_cons, ok_forL_cons]
    refine (h x (List.mem_cons_self ..) E i).imp fun E1 h1 => h1.imp fun fl E2 h2 => ?_
    obtain ⟨i2, rfl⟩ := h2
    cases hp : p x with
    | true =>
      simp only [if_true]
      have := q E2 i2
      rw [List.any_cons, hp, Bool.true_or] at this
      exact this
    | false =>
      simp only [Bool.false_eq_true, if_false]
      refine forL_any item p I R xs E2 Q i2 (fun z hz => h z (List.mem_cons_of_mem _ hz)) fun E' i' => ?_
      have := q E' i'
      rw [List.any_cons, hp, Bool.false_or] at this
      exact this
theorem flat_map_strf {α : Type} {xs : List α} {f : α → Str} : (xs.map fun x => PyData.str (f x)).all flatD = true := by simp [flatD, Function.comp_def]
theorem len_sub (x : Str) (i j : Nat) : (Builtin.Str.strSub x i j).length ≤ x.length := by
  unfold Builtin.Str.strSub Str.length
  rw [Array.size_extract]
  omega
theorem len_stripBy (g : Nat → Bool) (l r : Bool) (x : Str) : (Txt.stripBy g l r x).length ≤ x.length := by
  unfold Txt.stripBy
  split
  · exact Nat.le_refl _
  · exact len_sub _ _ _
theorem len_strip (x y : Str) : (Txt.stripChars x y).length ≤ x.length := len_stripBy _ _ _ _
theorem len_lstrip (x y : Str) : (Txt.lstripChars x y).length ≤ x.length := len_stripBy _ _ _ _
theorem len_split (x y : Str) : ∀ p ∈ Txt.split x y, p.length ≤ x.length := by
  intro p hp
  unfold Txt.split at hp
  split at hp
  · rw [List.mem_singleton.mp hp]; exact Nat.le_refl _
  · split at hp
    · rw [List.mem_singleton.mp hp]; exact Nat.le_refl _
    · unfold Builtin.Str.partsBetween at hp
      obtain ⟨q, _, rfl⟩ := List.mem_map.mp hp
      exact len_sub _ _ _
theorem count_split (x y : Str) : (Txt.split x y).length ≤ x.length + 2 := by
  unfold Txt.split
  split
  · simp
  · split
    · simp
    · rw [length_partsBetween]
      have := StrLaws.occ_length_le_len x y 0 x.length (x.length + 1)
      omega
theorem len_join {zs : List Str} {s : Str} : (Txt.join s zs).length = (zs.map (·.length)).sum + (zs.length - 1) * s.length := size_glued s zs
theorem sum_one {zs : List Str} (h : ∀ z ∈ zs, z.length = 1) : (zs.map (·.length)).sum = zs.length := by
  induction zs with
  | nil => rfl
  | cons z zs ih =>
    rw [List.map_cons, List.sum_cons, ih fun w hw => h w (List.mem_cons_of_mem _ hw), h z (List.mem_cons_self ..), List.length_cons]
    omega
def Sign (d : PyData) : Prop := ∃ c : Nat, d = .str ⟨#[c]⟩
theorem signs_map {ys : List PyData} (h : ∀ y ∈ ys, Sign y) : ∃ zs : List Str, ys = zs.map .str ∧ zs.length = ys.length ∧ ∀ z ∈ zs, z.length = 1 := by
  induction ys with
  | nil => exact ⟨[], rfl, rfl, fun _ h => nomatch h⟩
  | cons y ys ih =>
    obtain ⟨zs, e, hl, h1⟩ := ih fun w hw => h w (List.mem_cons_of_mem _ hw)
    obtain ⟨c, rfl⟩ := h y (List.mem_cons_self ..)
    refine ⟨⟨#[c]⟩ :: zs, by rw [e]; rfl, by simp [hl], fun z hz => ?_⟩
    rcases List.mem_cons.mp hz with rfl | hz
    · rfl
    · exact h1 z hz
theorem strOk_lit (s : String) : PyData.strOk (Str.ofString s) = true := by
  rw [Str.ofString_eq_toList]
  unfold PyData.strOk
  simp only [List.size_toArray, List.all_toArray', List.all_map, List.all_eq_true, Function.comp_def, decide_eq_true_eq]
  intro c _
  have h : c.toNat.isValidChar := c.valid
  unfold Nat.isValidChar at h
  omega
theorem one_sign {s : Str} {n : Nat} (hs : s.length = n) (hn : n ≤ sizeLine) {r : Int} (h0 : 0 ≤ r) (h1 : r < n) : ∃ c : Nat, c ∈ s.cps.toList ∧ gIx (.str s) (.int r) = some (.str ⟨#[c]⟩) := by
  have hr : r.toNat < s.cps.toList.length := by
    have : s.cps.toList.length = s.length := by simp [Str.length]
    omega
  obtain ⟨k, rfl⟩ := Int.eq_ofNat_of_zero_le h0
  have hk : k < s.cps.toList.length := by simpa using hr
  refine ⟨s.cps.toList[k], List.getElem_mem hk, ?_⟩
  rw [gIx_s, if_pos (by omega), Fw.atI_nat, List.getElem?_eq_getElem hk]
  rfl
theorem atI_mem {α : Type} {ys : List α} {r : Int} (h0 : 0 ≤ r) (h1 : r < ys.length) : ∃ y ∈ ys, atI ys r = some y := by
  obtain ⟨k, rfl⟩ := Int.eq_ofNat_of_zero_le h0
  have hk : k < ys.length := by omega
  exact ⟨ys[k], List.getElem_mem hk, by rw [Fw.atI_nat, List.getElem?_eq_getElem hk]⟩
theorem cutL_map {α β : Type} (f : α → β) (xs : List α) (lo hi : Option Int) : cutL (xs.map f) lo hi = (cutL xs lo hi).map f := by
  simp only [cutL, List.length_map, List.map_take, List.map_drop]
theorem cutL_mem {α : Type} {xs : List α} {lo hi : Option Int} {x : α} (h : x ∈ cutL xs lo hi) : x ∈ xs := List.mem_of_mem_drop (List.mem_of_mem_take h)
theorem cutL_len {α : Type} (xs : List α) (lo hi : Option Int) : (cutL xs lo hi).length ≤ xs.length := by
  unfold cutL
  rw [List.length_take, List.length_drop]
  omega
theorem any_map {α : Type} (xs : List α) (f : α → PyData) (p : PyData → Bool) : (xs.map f).any p = xs.any fun x => p (f x) := by
  rw [List.any_map]; rfl
abbrev ii (xs : List Int) : List PyData := xs.map .int
theorem canAll_ints (xs : List Int) : PyData.canLayAll0 (ii xs) = true := by
  induction xs with
  | nil => rfl
  | cons x xs ih =>
    show PyData.canLayAll0 (.int x :: ii xs) = true
    rw [PyData.canLayAll0, ih, PyData.canLay0]
    rfl
theorem depthAll_ints (xs : List Int) : PyData.depthAll (ii xs) = 0 := by
  induction xs with
  | nil => simp [PyData.depthAll]
  | cons x xs ih =>
    show PyData.depthAll (.int x :: ii xs) = 0
    rw [PyData.depthAll, ih]
    simp [PyData.depth]
theorem shaped_ints (xs : List Int) : SeqAt.shaped (.tuple (ii xs)) = true := by
  simp [SeqAt.shaped, PyData.canLay0, PyData.depth, canAll_ints, depthAll_ints]
theorem shaped_lints (xs : List Int) : SeqAt.shaped (.list (ii xs)) = true := by
  simp [SeqAt.shaped, PyData.canLay0, PyData.depth, canAll_ints, depthAll_ints]
theorem eqvAll_ints (xs ys : List Int) : PyData.eqvAll (ii xs) (ii ys) = decide (xs = ys) := by
  induction xs generalizing ys with
  | nil =>
    cases ys with
    | nil => simp [eqvA_nn]
    | cons y ys => simp [eqvA_nc]
  | cons x xs ih =>
    cases ys with
    | nil => simp [eqvA_cn]
    | cons y ys =>
      show PyData.eqvAll (.int x :: ii xs) (.int y :: ii ys) = _
      rw [eqvA_cc, ih, eqv_ii]
      simp [Bool.decide_and]
theorem gEq_ints (xs ys : List Int) : gEq (.tuple (ii xs)) (.tuple (ii ys)) = some (.bool (decide (xs = ys))) := by
  rw [gEq_tt, if_pos (by rw [shaped_ints, shaped_ints]; rfl), eqvAll_ints]
theorem gNe_ints (xs ys : List Int) : gNe (.tuple (ii xs)) (.tuple (ii ys)) = some (.bool (!decide (xs = ys))) := by
  rw [gNe_tt, if_pos (by rw [shaped_ints, shaped_ints]; rfl), eqvAll_ints]
theorem gIn_ints (x : Int) (ys : List Int) : gIn (.int x) (.tuple (ii ys)) = some (.bool (decide (x ∈ ys))) := by
  rw [gIn_tf rfl flat_map_int, any_map]
  simp only [eqv_ii]
  congr 2
  rw [Bool.eq_iff_iff]
  simp
theorem gIn_lints (x : Int) (ys : List Int) : gIn (.int x) (.list (ii ys)) = some (.bool (decide (x ∈ ys))) := by
  rw [gIn_lf rfl flat_map_int, any_map]
  simp only [eqv_ii]
  congr 2
  rw [Bool.eq_iff_iff]
  simp
theorem atI_ii {xs : List Int} {k : Nat} (h : k < xs.length) : atI (ii xs) (k : Int) = some (.int xs[k]) := by
  rw [Fw.atI_nat, List.getElem?_map, List.getElem?_eq_getElem h]
  rfl
theorem isi_tuple {xs : List PyData} : gIsi "tuple" (.tuple xs) = some (.bool true) := rfl
theorem sIx_nat {n d k : Nat} : HT.sIx n d (some (k : Int)) = min k n := by
  unfold HT.sIx
  show (if (k : Int) < 0 then _ else _) = _
  rw [if_neg (by omega)]
  simp
end Fw
namespace Fw
open PySem PySem.Spec L2
open PyProof.Rows hiding St
/-- an expression, where a token is out -/
def PXt (X : Cx) (m p : Bool) (e : Expr) (f : SE PyData) : Prop := PET X e (tX X.K m p f)
section
variable {X : Cx} {m m1 m2 p p1 p2 : Bool} {a b e : Expr} {j k : Nat} {pos p0 apos c0 c1 : Pos} {fa fb f : SE PyData} {y z c : Str}
theorem PX.t (h : PX X m p e f) : PXt X m p e f := CwR.PET.of h
theorem pet_imp {t u : TE} (h : PET X e t) (i : ∀ σ H Q, u σ H Q → t σ H Q) : PET X e u := fun pins s σ H Q h0 I q => h pins s σ H Q h0 I (i σ H Q q)
def rplS (fa : SE PyData) (y z : Str) : SE PyData := bnd fa fun d => match d with
  | .str x => if x.length + (x.length + 1) * z.length ≤ 16777216 then ret (.str (Txt.replace x y z)) else fun _ => none
  | _ => fun _ => none
theorem rpl_core {K : PySem.W.Frag} {σ : L2.St} {H : Hp} {Q : VK} (h : tX K m true (rplS fa y z) σ H Q) : CwR.tReplC (tX K m p fa) y z σ H Q := by
  obtain ⟨vs0, P, E, fps, d, E', rel, hh, q⟩ := h
  obtain ⟨d1, E1, h1, hh⟩ := bnd_some hh
  split at hh
  · rename_i x
    split at hh
    · rename_i hl
      obtain ⟨rfl, rfl⟩ := ret_some hh
      refine ⟨vs0, P, E, fps, _, _, rel, h1, fun P1 H1 fps1 v r1 s1 m1' dv => ⟨x, ?_, hl, q P1 H1 fps1 _ r1 s1 m1' (.str _)⟩⟩
      cases p <;> exact dq_str dv
    · cases hh
  · cases hh
theorem pxt_repl (ho : PXt X m p a fa) (hyz : (y == z) = false := by decide)
    (hst : starEach [.Constant (.str y) j c0, .Constant (.str z) k c1] X.env = [(false, eval (.Constant (.str y) j c0) X.env), (false, eval (.Constant (.str z) k c1) X.env)] := by rfl)
    (hbase : attributeBase a "replace" X.env (eval a X.env) = eval a X.env := by rfl) (hline : (apos.endLine == pos.line) = true := by rfl) :
    PXt X m true (.Call (.Attribute a "replace" apos) [.Constant (.str y) j c0, .Constant (.str z) k c1] [] pos) (rplS fa y z) :=
  pet_imp (CwR.pet_replT ho hyz hst hbase hline) fun σ H Q h => rpl_core h
theorem px_addT (hb : PXt X m2 true b fb) : PX X m2 true (.BinOp (.Constant (.str c) j p0) .Add b pos) (bin (ret (.str c)) fb gAdd) := by
  refine px_op2 (m1 := false) (m2 := m2) (p1 := true) (p2 := true) (r := rAddA X.K) ⟨fun pins s σ H Q I h => ?_⟩ vo_add (.inl rfl)
  obtain ⟨vs0, P, E, fps, d, E', rel, hh, q⟩ := h
  obtain ⟨rfl, rfl⟩ := ret_some hh
  refine wpAny_BinOp (Calls.Constant_str ?_)
  have h1 := q P H fps (.str c) rel (.refl _ _ _) (fun _ => Same.refl H) (.str c)
  exact thn (hb pins { s with toks := s.toks + 1 } σ H _ (by show 1 ≤ s.toks + 1; omega) (I.tok _) h1) fun u s2 ⟨y, H2, I2, r2, q2⟩ => op_addA pins s2 σ H2 (.str c) y _ u Q I2 ⟨_, rfl⟩ r2 q2
theorem ok_rplS {E : En} {Q : PyData → En → Prop} : Ok (rplS fa y z E) Q = Ok (fa E) fun d E1 => match d with
    | .str x => x.length + (x.length + 1) * z.length ≤ 16777216 ∧ Q (.str (Txt.replace x y z)) E1
    | _ => False := by
  unfold rplS
  rw [ok_bnd]
  congr 1
  funext d E1
  cases d with
  | str x =>
    simp only
    by_cases hl : x.length + (x.length + 1) * z.length ≤ 16777216
    · rw [if_pos hl, ok_ret]
      exact propext ⟨fun q => ⟨hl, q⟩, fun q => q.2⟩
    · rw [if_neg hl, ok_none]
      exact propext ⟨False.elim, fun q => hl q.1⟩
  | _ => exact ok_none
theorem rplS_ok {E E1 : En} {x : Str} {Q : PyData → En → Prop} (h : fa E = some (.str x, E1)) (hl : x.length + (x.length + 1) * z.length ≤ 16777216) (q : Q (.str (Txt.replace x y z)) E1) : ∃ a E2, rplS fa y z E = some (a, E2) ∧ Q a E2 := by
  refine ⟨_, E1, ?_, q⟩
  unfold rplS bnd
  rw [h]
  simp only [hl, if_true]
  rfl
end
end Fw
namespace Fw
open PySem PySem.Spec L2
def T (l : List Nat) : Str := ⟨l.toArray⟩
section
variable {a b l w : List Nat} {c : Nat} {i j : Int}
theorem T_toList : (T l).cps.toList = l := rfl
theorem T_of (s : Str) : s = T s.cps.toList := by cases s; rfl
theorem T_len : (T l).length = l.length := by simp [T, Str.length]
theorem T_app : T a ++ T b = T (a ++ b) := by
  show (⟨a.toArray ++ b.toArray⟩ : Str) = ⟨(a ++ b).toArray⟩
  simp
theorem T_inj : (T a = T b) = (a = b) := by
  apply propext
  refine ⟨fun h => ?_, fun h => by rw [h]⟩
  have := congrArg (fun s : Str => s.cps.toList) h
  exact this
theorem T_sign : (⟨#[c]⟩ : Str) = T [c] := rfl
theorem T_empty : Str.empty = T [] := rfl
theorem T_cut {lo hi : Option Int} : cutS (T l) lo hi = T (cutL l lo hi) := by
  unfold cutS cutL T
  simp [Str.length]
theorem T_signs : signs (T l) = l.map fun c => .str (T [c]) := rfl
theorem T_lit (s : String) : Str.ofString s = T (s.toList.map Char.toNat) := by
  rw [Str.ofString_eq_toList]
  rfl
def trimR (w l : List Nat) : List Nat := (l.reverse.dropWhile fun c => decide (c ∈ w)).reverse
def trimL (w l : List Nat) : List Nat := trimR w (l.dropWhile fun c => decide (c ∈ w))
theorem drop_tw (p : Nat → Bool) (l : List Nat) : l.drop (l.takeWhile p).length = l.dropWhile p := by
  induction l with
  | nil => rfl
  | cons x l ih =>
    rw [List.takeWhile_cons, List.dropWhile_cons]
    split
    · rw [List.length_cons, List.drop_succ_cons, ih]
    · rfl
theorem T_strip : Txt.stripChars (T l) (T w) = T (trimL w l) := by
  have e0 : ∀ c, (T w).cps.contains c = decide (c ∈ w) := fun c => by simp [T]
  have e1 : (T w).cps.contains = fun c => decide (c ∈ w) := funext e0
  unfold Txt.stripChars
  rw [e1, PyProof.Rows.stripBy_eq, PyProof.Rows.strSub_mk]
  unfold PySem.stripLo PySem.stripHi
  simp only [if_true, T_toList, T_len]
  rw [drop_tw]
  show T _ = _
  unfold trimL trimR
  congr 1
  generalize hp : (fun c => decide (c ∈ w)) = p
  have h1 : (l.takeWhile p).length + (l.dropWhile p).length = l.length := by
    have := congrArg List.length (List.takeWhile_append_dropWhile (p := p) (l := l))
    rwa [List.length_append] at this
  generalize l.dropWhile p = d at h1 ⊢
  have h2 : (d.reverse.takeWhile p).length + (d.reverse.dropWhile p).length = d.length := by
    have := congrArg List.length (List.takeWhile_append_dropWhile (p := p) (l := d.reverse))
    rwa [List.length_append, List.length_reverse] at this
  have h3 : d = (d.reverse.dropWhile p).reverse ++ (d.reverse.takeWhile p).reverse := by
    rw [← List.reverse_append, List.takeWhile_append_dropWhile, List.reverse_reverse]
  have h4 : l.length - (d.reverse.takeWhile p).length - (l.takeWhile p).length = (d.reverse.dropWhile p).reverse.length := by
    rw [List.length_reverse]; omega
  rw [h4]
  conv => lhs; arg 2; rw [h3]
  rw [List.take_left]
theorem gIn_T : gIn (.str (T [c])) (.str (T l)) = some (.bool (decide (c ∈ l))) := rfl
theorem gNin_T : gNin (.str (T [c])) (.str (T l)) = some (.bool (!decide (c ∈ l))) := rfl
theorem eq_T (s : Str) : ∃ l, s = T l := ⟨_, T_of s⟩
theorem T_join {ls : List (List Nat)} (s : List Nat) : Txt.join (T s) (ls.map T) = T (s.intercalate ls) := by
  rw [T_of (Txt.join _ _), T_inj]
  cases ls with
  | nil => rfl
  | cons p r =>
    show (Builtin.Str.glued (T s) (T p :: r.map T)).cps.toList = _
    rw [PySem.StrLaws.glued_list]
    have h : ∀ r : List (List Nat), PySem.StrLaws.glueL (T s).cps.toList (r.map T) = (r.map fun x => s ++ x).flatten := by
      intro r
      induction r with
      | nil => rfl
      | cons x r ih =>
        show (T s).cps.toList ++ ((T x).cps.toList ++ PySem.StrLaws.glueL _ _) = _
        rw [ih]
        simp [T_toList]
    show p ++ PySem.StrLaws.glueL _ _ = _
    rw [h]
    clear h
    induction r generalizing p with
    | nil => simp [List.intercalate]
    | cons x r ih =>
      have := ih x
      simp only [List.intercalate, List.intersperse_cons₂, List.flatten_cons, List.map_cons] at this ⊢
      rw [← this]
      simp
end
end Fw
namespace Fw
open PySem PySem.Spec L2
open PyProof.Rows hiding St
section
variable {X : Cx} {a : Expr} {px pos : Pos}
/-- tuple(name), whether the list is owned or not -/
def tupA (i : Nat) : SE PyData := fun E => match E[i]? with
  | some (.own xs) => some (.tuple xs, E)
  | some (.dat d) => (gTuple d).map fun z => (z, E)
  | _ => none
theorem px_tupA {i : Nat} (hg : Gl X "tuple") (hm : X.mg "tuple" = none) (ha : PE X a (tVar i)) (he : starEach [a] X.env = (false, eval a X.env) :: starEach [] X.env := by rfl) : PX X false true (.Call (.Name "tuple" px) [a] [] pos) (tupA i) :=
  pe_imp (pe_callTy (T := "tuple") call_tuple_of hg hm (by decide +kernel) (pa_cons ha pa_nil he) (by decide) (by decide) he rfl) fun σ H Q => by
  rintro ⟨vs0, P, E, fps, d, E', rel, hh, q⟩
  unfold tupA at hh
  split at hh
  · rename_i xs e0
    cases hh
    have e1 : own? i E = some xs := by unfold own?; rw [e0]
    obtain ⟨ad, vs, es, -, -, hv, dv⟩ := rel.ownAt e1
    refine ⟨_, es, ad, vs, rfl, .inl ⟨SqL.of hv, fun p0 hp => ?_⟩⟩
    have s1 : Same P (upd P p0 (.tup vs)) := Fw.same_upd (sub_none rel.sub hp)
    exact q (upd P p0 (.tup vs)) (upd H p0 (.tup vs)) fps (.ref p0) (rel.alloc s1 (same_upd2 rel.sub hp) (Fw.same_upd hp) (fresh_upd hp)) (.alloc s1 (Fw.same_upd hp) (fresh_upd hp)) (fun _ => Fw.same_upd hp) (.tup (SqT.of upd_same) (dv.mono s1))
  · rename_i d1 e0
    cases hz : gTuple d1 with
    | none => rw [hz] at hh; cases hh
    | some z =>
      rw [hz] at hh
      cases hh
      obtain ⟨ov, e2, s⟩ := rel.sl i _ e0
      generalize hfp : fps i = fp at s
      cases s with
      | dat dv => exact ⟨_, e2, vu_tuple P H _ d1 _ Q rel.sub dv hz fun P' H' w pp su hh fr dw => q P' H' fps w (rel.alloc pp su hh fr) (.alloc pp hh fr) (fun _ => hh) dw⟩
  · cases hh
theorem ok_tupA {i : Nat} {E : En} {Q : PyData → En → Prop} : Ok (tupA i E) Q = match E[i]? with
    | some (.own xs) => Q (.tuple xs) E
    | some (.dat d) => OkV (gTuple d) fun z => Q z E
    | _ => False := by
  unfold tupA
  cases E[i]? with
  | none => exact ok_none
  | some s =>
    cases s with
    | own xs => exact ok_some
    | dat d =>
      show Ok ((gTuple d).map fun z => (z, E)) Q = OkV (gTuple d) fun z => Q z E
      cases gTuple d with
      | none => exact ok_none.trans okV_none.symm
      | some z => rw [okV_some]; exact ok_some
    | _ => exact ok_none
end
end Fw
namespace FwP
open PySem Builtin Builtin.Str Builtin.Int
theorem gv_ljust2 (x : Str) (i : Int) (c : Nat) (t u v : Tok) (hr : (decide (i < -(2 ^ 63 : Int)) || decide (i ≥ 2 ^ 63)) = false) (hl : tooLong i.toNat = false) :
    Gives (Builtin.«str.ljust» ⟨[.str x t, .int i u, .str ⟨#[c]⟩ v], []⟩) (if i ≤ x.length then .val (.str x t) else .str (Builtin.Str.padded x 0 (i.toNat - x.length) c)) := by
  show Gives (do
    let width ← asSsize s!"str.{"ljust"}" (.int i u)
    let fill ← Builtin.Str.fillChar "ljust" (some (.str ⟨#[c]⟩ v))
    if width ≤ x.length then (do rule s!"str.{"ljust"}.long-enough"; ret (.str x t)) else
    if tooLong width.toNat = true then unsupported s!"str.{"ljust"}:memory" else retStr (Builtin.Str.padded x 0 (width.toNat - x.length) fill)) _
  rw [asSsize_int _ _ _ hr]
  show Gives (if i ≤ x.length then (do rule s!"str.{"ljust"}.long-enough"; ret (.str x t)) else
    if tooLong i.toNat = true then unsupported s!"str.{"ljust"}:memory" else retStr (Builtin.Str.padded x 0 (i.toNat - x.length) c)) _
  rw [hl]
  by_cases h : i ≤ (x.length : Int)
  · rw [if_pos h, if_pos h]; exact .rule (.of_eq rfl)
  · rw [if_neg h, if_neg h]; exact .of_eq rfl
end FwP
namespace Fw
open PySem PySem.Spec L2
open PyProof.Rows hiding St
section
variable {X : Cx} {m m1 m2 p p1 p2 : Bool} {a b e o : Expr} {es : List Expr} {pos apos : Pos} {f fa fb fo : SE PyData} {fs : SE (List PyData)}
def strM (fo : SE PyData) (fs : SE (List PyData)) (g : Str → List PyData → Option PyData) : SE PyData := bnd fo fun d => match d with
  | .str s => bnd fs fun ds => lft (g s ds)
  | _ => fun _ => none
theorem ok_strM {g : Str → List PyData → Option PyData} {E : En} {Q : PyData → En → Prop} : Ok (strM fo fs g E) Q = Ok (fo E) fun d E1 => match d with
    | .str s => Ok (fs E1) fun ds E2 => OkV (g s ds) fun z => Q z E2
    | _ => False := by
  unfold strM
  rw [ok_bnd]
  congr 1
  funext d E1
  cases d with
  | str s => simp only [ok_bnd, ok_lft]
  | _ => exact ok_none
theorem px_strM {name : Str} {id : String} {r : V → List V → Hp → VK → Prop} {g : Str → List PyData → Option PyData} (slot : Slot "str" name id) (hty : typeOf (.builtin id) = pure (.type "method_descriptor")) (hm : MtR X id r)
    (v : ∀ (P H : Hp) (s : Str) (ys : List V) (ds : List PyData) (z : PyData) (Q : VK), Same P H → DqAll X.K P ys ds → g s ds = some z → After X.K P H z Q → r (.str s) ys H Q) (ho : PX X m1 p o fo) (ha : PXA X m2 (e :: es) fs)
    (hbase : attributeBase o name X.env (eval o X.env) = eval o X.env := by rfl)
    (hfew : ((backTo pos (starEach (e :: es) X.env)).all (fun x => !x.1) && (backToKw pos (keywordEach [] X.env)).all (fun x => x.1.isSome)
      && decide ((e :: es).length + ([] : List Keyword).length + (if ([] : List Keyword).isEmpty then 0 else 1) < 30)) = true := by rfl)
    (hline : (apos.endLine == pos.line) = true := by rfl) (hs : starEach (e :: es) X.env = (false, eval e X.env) :: starEach es X.env := by rfl) (hplain : (backTo pos (starEach es X.env)).any (·.1) = false := by rfl) :
    PX X (m1 || m2) true (.Call (.Attribute o name apos) (e :: es) [] pos) (strM fo fs g) :=
  pe_imp (pe_bm PySem.F.plainAttrs_str slot hty hm ho ha hbase hfew hline hs hplain) fun σ H Q => by
  rintro ⟨vs0, P, E, fps, d, E', rel, hh, q⟩
  obtain ⟨d1, E1, h1, hh⟩ := bnd_some hh
  split at hh
  · rename_i s
    obtain ⟨ds, E2, h2, hh⟩ := bnd_some hh
    obtain ⟨h3, rfl⟩ := lft_some hh
    refine ⟨vs0, P, E, fps, _, E1, rel, h1, fun P1 H1 fps1 x r1 s1 m1' dx => ?_⟩
    have ex : x = .str s := by cases p <;> exact dq_str dx
    subst ex
    refine ⟨rfl, vs0, P1, E1, fps1, ds, _, r1, h2, fun P2 H2 fps2 ys r2 s2 m2' dy => ?_⟩
    refine v P2 H2 s ys ds d Q r2.sub dy h3 fun P3 H3 w pp su hh fr dw => ?_
    refine q P3 H3 fps2 w (r2.alloc pp su hh fr) ((s1.trans s2).trans (.alloc pp hh fr)) (fun hm => ?_) dw
    rw [Bool.or_eq_false_iff] at hm
    exact ((m1' hm.1).trans (m2' hm.2)).trans hh
  · cases hh
def padTo (s : Str) (i : Int) (c : Nat) : Str := if i ≤ s.length then s else Builtin.Str.padded s 0 (i.toNat - s.length) c
theorem mt_ljustC : MtR X "str.ljust" (fun x xs H Q => ∃ (a : Str) (i : Int) (c : Nat), x = .str a ∧ xs = [.int i, .str ⟨#[c]⟩] ∧ PadOk i = true ∧ Q (.str (padTo a i c)) H) := by
  intro pins s σ H x xs v us Q I rx rs h
  obtain ⟨a, i, c, rfl, rfl, hp, q⟩ := h
  obtain ⟨t, rfl⟩ := rx
  cases rs with
  | cons r1 rs =>
    cases rs with
    | cons r2 rs =>
      cases rs
      obtain ⟨u, rfl⟩ := r1
      obtain ⟨w, rfl⟩ := r2
      exact call_gives PySem.F.slot_str_ljust (typeIs_str _ _ _) PySem.F.entry_str_ljust (PySem.F.args_str_ljust_3 _ _ _) (FwP.gv_ljust2 a i c t u w (PadOk.parts hp).1 (PadOk.parts hp).2) (post_val_or_made (fits_padR c (PadOk.parts hp).2) fun t' k => ⟨.str (padTo a i c), H, I.tok k, ⟨t', rfl⟩, q⟩)
def gLjust (s : Str) : List PyData → Option PyData
  | [.int i, .str f] => match f.cps.toList with
    | [c] => if PadOk i = true then some (.str (padTo s i c)) else none
    | _ => none
  | _ => none
theorem sgn_of {f : Str} {c : Nat} (h : f.cps.toList = [c]) : f = ⟨#[c]⟩ := by
  cases f with
  | mk cps => exact congrArg Str.mk (Array.toList_inj.mp h)
theorem px_ljust (ho : PX X m1 p o fo) (ha : PXA X m2 (e :: es) fs)
    (hbase : attributeBase o "ljust" X.env (eval o X.env) = eval o X.env := by rfl)
    (hfew : ((backTo pos (starEach (e :: es) X.env)).all (fun x => !x.1) && (backToKw pos (keywordEach [] X.env)).all (fun x => x.1.isSome)
      && decide ((e :: es).length + ([] : List Keyword).length + (if ([] : List Keyword).isEmpty then 0 else 1) < 30)) = true := by rfl)
    (hline : (apos.endLine == pos.line) = true := by rfl) (hs : starEach (e :: es) X.env = (false, eval e X.env) :: starEach es X.env := by rfl) (hplain : (backTo pos (starEach es X.env)).any (·.1) = false := by rfl) :
    PX X (m1 || m2) true (.Call (.Attribute o "ljust" apos) (e :: es) [] pos) (strM fo fs gLjust) :=
  px_strM PySem.F.slot_str_ljust PySem.F.type_str_ljust mt_ljustC (by
    intro P H s ys ds z Q su dy hg q
    unfold gLjust at hg
    split at hg
    · split at hg
      · rename_i c hf
        split at hg
        · rename_i hp
          cases hg
          cases dy with
          | cons h1 r1 =>
            cases r1 with
            | cons h2 r2 =>
              cases r2
              rw [dq_int h1, dq_str h2, sgn_of hf]
              exact ⟨s, _, c, rfl, rfl, hp, q.at su (.str _)⟩
        · cases hg
      · cases hg
    · cases hg) ho ha hbase hfew hline hs hplain
theorem gLjust_T {l : List Nat} {i : Int} {c : Nat} : gLjust (T l) [.int i, .str (T [c])] = if PadOk i = true then some (.str (T (l ++ List.replicate (i.toNat - l.length) c))) else none := by
  show (if PadOk i = true then some (PyData.str (padTo (T l) i c)) else none) = _
  have : padTo (T l) i c = T (l ++ List.replicate (i.toNat - l.length) c) := by
    unfold padTo
    rw [T_len]
    split
    · rename_i h
      have : i.toNat - l.length = 0 := by omega
      rw [this]; simp
    · rw [T_of (Builtin.Str.padded _ _ _ _), T_inj]
      simp [Builtin.Str.padded, T]
  rw [this]
def gFind (s : Str) : List PyData → Option PyData
  | [.str f] => some (.int (Txt.find s f))
  | _ => none
def gStarts (s : Str) : List PyData → Option PyData
  | [.str f] => some (.bool (Txt.startswith s f))
  | _ => none
section
variable (ho : PX X m1 p o fo) (ha : PXA X m2 (e :: es) fs)
    (hfew : ((backTo pos (starEach (e :: es) X.env)).all (fun x => !x.1) && (backToKw pos (keywordEach [] X.env)).all (fun x => x.1.isSome)
      && decide ((e :: es).length + ([] : List Keyword).length + (if ([] : List Keyword).isEmpty then 0 else 1) < 30)) = true := by rfl)
    (hline : (apos.endLine == pos.line) = true := by rfl) (hs : starEach (e :: es) X.env = (false, eval e X.env) :: starEach es X.env := by rfl) (hplain : (backTo pos (starEach es X.env)).any (·.1) = false := by rfl)
include ho ha hfew hline hs hplain
theorem px_find (hbase : attributeBase o "find" X.env (eval o X.env) = eval o X.env := by rfl) : PX X (m1 || m2) true (.Call (.Attribute o "find" apos) (e :: es) [] pos) (strM fo fs gFind) :=
  px_strM PySem.F.slot_str_find PySem.F.type_str_find mt_find (by
    intro P H s ys ds z Q su dy hg q
    unfold gFind at hg
    split at hg
    · cases hg
      cases dy with
      | cons h1 r1 =>
        cases r1
        rw [dq_str h1]
        exact ⟨s, _, rfl, rfl, q.at su (.int _)⟩
    · cases hg) ho ha hbase hfew hline hs hplain
theorem px_starts (hbase : attributeBase o "startswith" X.env (eval o X.env) = eval o X.env := by rfl) : PX X (m1 || m2) true (.Call (.Attribute o "startswith" apos) (e :: es) [] pos) (strM fo fs gStarts) :=
  px_strM PySem.F.slot_str_startswith PySem.F.type_str_startswith mt_startswith (by
    intro P H s ys ds z Q su dy hg q
    unfold gStarts at hg
    split at hg
    · cases hg
      cases dy with
      | cons h1 r1 =>
        cases r1
        rw [dq_str h1]
        exact ⟨s, _, rfl, rfl, q.at su (.bl _)⟩
    · cases hg) ho ha hbase hfew hline hs hplain
end
def cPow (i j : Int) : Bool := decide (0 ≤ j ∧ j ≤ 1000000 ∧ i.natAbs < 2 ^ 64)
def gPow := gI cPow fun i j => .int (i ^ j.toNat)
theorem px_pow (ha : PX X m1 true a fa) (hb : PX X m2 true b fb) : PX X (m1 || m2) true (.BinOp a .Pow b pos) (bin fa fb gPow) := px_op2 (pe_op op_pow ha hb) (vo_I (C := CPow) (fun i j h => show 0 ≤ j ∧ j ≤ 1000000 ∧ i.natAbs < 2 ^ 64 from of_decide_eq_true h) fun _ _ _ => .int _) (.inl rfl)
def cShl (i j : Int) : Bool := decide (0 ≤ j ∧ (Builtin.Int.intBits i : Int) + j ≤ 2 ^ 27)
def gShl := gI cShl fun i j => .int (i * 2 ^ j.toNat)
theorem px_shl (ha : PX X m1 true a fa) (hb : PX X m2 true b fb) : PX X (m1 || m2) true (.BinOp a .LShift b pos) (bin fa fb gShl) := px_op2 (pe_op op_shlW ha hb) (vo_I (C := CShl) (fun i j h => show 0 ≤ j ∧ (Builtin.Int.intBits i : Int) + j ≤ 2 ^ 27 from of_decide_eq_true h) fun _ _ _ => .int _) (.inl rfl)
def gShr := gI (fun _ j => decide (0 ≤ j)) fun i j => .int (i / 2 ^ j.toNat)
theorem px_shr (ha : PX X m1 true a fa) (hb : PX X m2 true b fb) : PX X (m1 || m2) true (.BinOp a .RShift b pos) (bin fa fb gShr) := px_op2 (pe_op op_shr ha hb) (vo_I (C := fun _ j => 0 ≤ j) (fun i j h => of_decide_eq_true h) fun _ _ _ => .int _) (.inl rfl)
def gBand := gI (fun _ _ => true) fun i j => .int (Builtin.bitAnd i j)
def gBor := gI (fun _ _ => true) fun i j => .int (Builtin.bitOr i j)
theorem px_band (ha : PX X m1 true a fa) (hb : PX X m2 true b fb) : PX X (m1 || m2) true (.BinOp a .BitAnd b pos) (bin fa fb gBand) := px_op2 (pe_op op_and ha hb) (vo_I0 fun _ _ _ => .int _) (.inl rfl)
theorem px_bor (ha : PX X m1 true a fa) (hb : PX X m2 true b fb) : PX X (m1 || m2) true (.BinOp a .BitOr b pos) (bin fa fb gBor) := px_op2 (pe_op op_or ha hb) (vo_I0 fun _ _ _ => .int _) (.inl rfl)
end
end Fw
namespace Fw
open PySem PySem.Spec L2
open PyProof.Rows hiding St
section
variable {X : Cx} {m m1 m2 p p1 p2 : Bool} {a b e o : Expr} {es : List Expr} {pos px apos : Pos} {f fa fb fo : SE PyData} {fs : SE (List PyData)} {x : Str}
theorem mt_tidx : MtR X "tuple.index" (fun x xs H Q => ∃ (q0 : Addr) (ys : List V) (z y : V) (j : Nat), x = .ref q0 ∧ xs = [z] ∧ SqT X.K H q0 ys ∧ ys.all flatV = true ∧ flatV z = true ∧ ys[j]? = some y ∧ eqV y z = true ∧
    (∀ (k : Nat) (w : V), k < j → ys[k]? = some w → eqV w z = false) ∧ Q (.int (j : Nat)) H) := by
  intro pins s σ H x xs v us Q I rx rs h
  obtain ⟨q0, ys, z, y, j, rfl, rfl, hq, hf, hz, hy, hyz, hno, q⟩ := h
  cases rx
  cases rs with
  | cons rz rs =>
    rename_i uz uzs
    cases rs
    obtain ⟨its, r, ⟨⟨c1, d1, dt, s1⟩, hob, hcl, n, hdt⟩, hlen⟩ := I.tuple hq
    replace hcl : c1 = .type "tuple" := hcl
    replace hdt : dt = .seq its.toArray n := hdt
    subst hcl hdt
    have hsz : its.toArray.size = ys.length := by
      rw [List.size_toArray]
      exact r.length.symm
    have item : ∀ (k : Nat) (hk : k < its.toArray.size) (w : V), ys[k]? = some w → eqU z its.toArray[k] = eqV w z := fun k hk w hw => by
      obtain ⟨u, hu, ru⟩ := r.get hw
      have e1 := (List.getElem?_eq_some_iff.mp hu).2
      have e2 : its.toArray[k] = u := by rw [← e1]; simp
      rw [e2]
      exact eqU_of ru (List.all_eq_true.mp hf w (List.mem_of_getElem? hw))
    have hjy := (List.getElem?_eq_some_iff.mp hy).1
    have hj : j < its.toArray.size := by omega
    refine call_meets PySem.F.slot_tuple_index ⟨_, hob, rfl⟩ PySem.F.entry_tuple_index (PySem.F.args_tuple_index_2 _ _) (TI.tuple_indexAt q0 its.toArray n d1 s1 uz (eqU z) j hj ?_ ?_) ?_
    · rw [item j hj y hy]
      exact hyz
    · intro k hk hkj
      have hk2 : k < ys.length := by omega
      rw [item k hk ys[k] (List.getElem?_eq_getElem hk2)]
      exact hno k _ hkj (List.getElem?_eq_getElem hk2)
    · exact ⟨hob, fun w hw => mem_eqAt rz hz r hf w (by simpa using hw), ⟨.int (j : Nat), H, I.tok _, ⟨_, rfl⟩, q⟩⟩
/-- a constant tuple whose object is known -/
def CnT (K : PySem.W.Frag) (mg : Str → Option Value) (x : Str) (ds : List PyData) : Prop := ∃ q0 : Addr, (∃ u, mg x = some u ∧ RelV (.ref q0) u) ∧ Kn K (.ref q0) (.tuple ds) ∧ ∃ o, K.lookup q0 = some o ∧ o.cls = .type "tuple" ∧ o.dict = none
theorem CnT.of {K : PySem.W.Frag} {mg : Str → Option Value} {h : Heap} {x : Str} {c : Addr} {its : Array Value} {n : Nat} {sl : Array (Option Value)} {vs : List V} {ds : List PyData} (X : K.In h) (G : h.Ns mainGlobals mg) (a : PySem.W.nsIn K mainGlobals x = some (some (.ref c)))
    (l : K.lookup c = some ⟨.type "tuple", none, .seq its n, sl⟩) (e : flatsOf its.toList = some (vs, ds)) (hz : its.size ≤ sizeLine) : CnT K mg x ds := by
  obtain ⟨h1, h2⟩ := flats_rel e
  exact ⟨c, ⟨_, PySem.W.mg_of X G a, rfl⟩, fun P => .tup (.inr ⟨_, its, n, l, rfl, rfl, hz, h1⟩) (h2 K P), _, l, rfl, rfl⟩
theorem relRef (a : Addr) : RelV (.ref a) (.ref a) := rfl
theorem Kn.flat {K : PySem.W.Frag} {c : Addr} {dd : Option Addr} {its : Array Value} {n : Nat} {sl : Array (Option Value)} {vs : List V} {ds : List PyData} (l : K.lookup c = some ⟨.type "tuple", dd, .seq its n, sl⟩) (e : flatsOf its.toList = some (vs, ds)) (hz : its.size ≤ sizeLine) : Kn K (.ref c) (.tuple ds) := by
  obtain ⟨h1, h2⟩ := flats_rel e
  exact fun P => .tup (.inr ⟨_, its, n, l, rfl, rfl, hz, h1⟩) (h2 K P)
theorem Kn.node {K : PySem.W.Frag} {c : Addr} {dd : Option Addr} {its : Array Value} {n : Nat} {sl : Array (Option Value)} {vs : List V} {ds : List PyData} (l : K.lookup c = some ⟨.type "tuple", dd, .seq its n, sl⟩) (r : Vals vs its.toList) (hz : its.size ≤ sizeLine) (k : ∀ P, DqAll K P vs ds) : Kn K (.ref c) (.tuple ds) :=
  fun P => .tup (.inr ⟨_, its, n, l, rfl, rfl, hz, r⟩) (k P)
theorem Cn.of {K : PySem.W.Frag} {mg : Str → Option Value} {h : Heap} {x : Str} {c : Addr} {d : PyData} (X : K.In h) (G : h.Ns mainGlobals mg) (a : PySem.W.nsIn K mainGlobals x = some (some (.ref c))) (k : Kn K (.ref c) d) : Cn K mg x d := ⟨.ref c, ⟨_, PySem.W.mg_of X G a, rfl⟩, k⟩
def gTidx (ds : List PyData) (e : PyData) : Option PyData := if flatD e && ds.all flatD then (ds.findIdx? fun y => PyData.eqv y e).map fun (j : Nat) => .int (j : Nat) else none
theorem idx_of {α : Type} {ds : List α} {q : α → Bool} {j : Nat} (h : ds.findIdx? q = some j) : ∃ z, ds[j]? = some z ∧ q z = true ∧ ∀ (k : Nat) (w : α), k < j → ds[k]? = some w → q w = false := by
  rw [List.findIdx?_eq_some_iff_getElem] at h
  obtain ⟨hj, h1, h2⟩ := h
  refine ⟨ds[j], List.getElem?_eq_getElem hj, h1, fun k w hk hw => ?_⟩
  have := h2 k hk
  obtain ⟨hk2, e⟩ := List.getElem?_eq_some_iff.mp hw
  rw [← e]
  simpa using this
theorem px_tidx {ds : List PyData} (hgl : Gl X x) (hc : CnT X.K X.mg x ds) (hb : PX X m true b fb) (hd : (x == ("__debug__" : Str)) = false := by decide)
    (hbase : attributeBase (.Name x px) "index" X.env (eval (.Name x px) X.env) = eval (.Name x px) X.env := by rfl)
    (hfew : ((backTo pos (starEach [b] X.env)).all (fun x => !x.1) && (backToKw pos (keywordEach [] X.env)).all (fun x => x.1.isSome)
      && decide ([b].length + ([] : List Keyword).length + (if ([] : List Keyword).isEmpty then 0 else 1) < 30)) = true := by rfl)
    (hline : (apos.endLine == pos.line) = true := by rfl) (hs : starEach [b] X.env = (false, eval b X.env) :: starEach [] X.env := by rfl) (hplain : (backTo pos (starEach [] X.env)).any (·.1) = false := by rfl) :
    PX X m true (.Call (.Attribute (.Name x px) "index" apos) [b] [] pos) (una fb (gTidx ds)) := by
  obtain ⟨q0, ⟨u, hu, ru⟩, hk, o0, hl, hcl, hdn⟩ := hc
  refine pe_imp (pe_bm PySem.F.plainAttrs_tuple PySem.F.slot_tuple_index PySem.F.type_tuple_index mt_tidx (pe_glob hgl hu ru hd) (pa_cons hb pa_nil hs) hbase hfew hline hs hplain) fun σ H Q => ?_
  rintro ⟨vs0, P, E, fps, d, E', rel, hh, q⟩
  obtain ⟨d1, E1, h1, hh⟩ := bnd_some hh
  obtain ⟨h2, rfl⟩ := lft_some hh
  refine ⟨.inr (.inl ⟨rfl, o0, hl, hcl, hdn⟩), vs0, P, E, fps, d1, _, rel, h1, fun P1 H1 fps1 y r1 s1 m1' dy => ?_⟩
  unfold gTidx at h2
  split at h2
  · rename_i hfl
    rw [Bool.and_eq_true] at hfl
    cases hj : ds.findIdx? (fun y => PyData.eqv y d1) with
    | none => rw [hj] at h2; cases h2
    | some j =>
      rw [hj] at h2
      cases h2
      obtain ⟨z, hz, hzj, hno⟩ := idx_of hj
      have dk := hk P1
      cases dk with
      | @tup _ vs _ hseq hv =>
        have hvf : vs.all flatV = true := by rw [all_flat hv]; exact hfl.2
        obtain ⟨w, hw, dw⟩ := hv.get hz
        have e1 : ∀ {w' : V} {z' : PyData}, Dq X.K P1 w' z' → flatD z' = true → eqV w' y = PyData.eqv z' d1 := fun a b => eqV_of a dy b hfl.1
        refine ⟨q0, vs, y, w, j, rfl, rfl, seqT r1.sub hseq, hvf, by rw [flat_of dy]; exact hfl.1, hw, ?_, fun k w' hk' hw' => ?_, ?_⟩
        · rw [e1 dw (List.all_eq_true.mp hfl.2 z (List.mem_of_getElem? hz))]
          exact hzj
        · obtain ⟨z', hz', dw'⟩ := hv.getV hw'
          rw [e1 dw' (List.all_eq_true.mp hfl.2 z' (List.mem_of_getElem? hz'))]
          exact hno k z' hk' hz'
        · exact q P1 H1 fps1 _ r1 s1 m1' (.int _)
  · cases h2
def gLidx (d e : PyData) : Option PyData := match d with
  | .list ys => if SeqAt.shaped (.list ys) && SeqAt.shaped e then (ys.findIdx? fun y => PyData.eqv y e).map fun (j : Nat) => .int (j : Nat) else none
  | _ => none
theorem px_lidx {k : Nat} (hr : Room k X.A) (ho : PX X m1 true o fo) (hb : PX X m2 true b fb)
    (hbase : attributeBase o "index" X.env (eval o X.env) = eval o X.env := by rfl)
    (hfew : ((backTo pos (starEach [b] X.env)).all (fun x => !x.1) && (backToKw pos (keywordEach [] X.env)).all (fun x => x.1.isSome)
      && decide ([b].length + ([] : List Keyword).length + (if ([] : List Keyword).isEmpty then 0 else 1) < 30)) = true := by rfl)
    (hline : (apos.endLine == pos.line) = true := by rfl) (hs : starEach [b] X.env = (false, eval b X.env) :: starEach [] X.env := by rfl) (hplain : (backTo pos (starEach [] X.env)).any (·.1) = false := by rfl) :
    PX X (m1 || m2) true (.Call (.Attribute o "index" apos) [b] [] pos) (bin fo fb gLidx) := by
  refine pe_imp (pe_bm PySem.F.plainAttrs_list PySem.F.slot_list_index PySem.F.type_list_index (mt_indexD (Room.u65 hr)) ho (pa_cons hb pa_nil hs) hbase hfew hline hs hplain) fun σ H Q => ?_
  rintro ⟨vs0, P, E, fps, d, E', rel, hh, q⟩
  obtain ⟨d1, E1, h1, hh⟩ := bnd_some hh
  obtain ⟨d2, E2, h2, hh⟩ := bnd_some hh
  obtain ⟨h3, rfl⟩ := lft_some hh
  unfold gLidx at h3
  split at h3
  · rename_i ys hh2
    split at h3
    · rename_i hsh
      rw [Bool.and_eq_true] at hsh
      cases hj : ys.findIdx? (fun y => PyData.eqv y d2) with
      | none => rw [hj] at h3; cases h3
      | some j =>
        rw [hj] at h3
        cases h3
        obtain ⟨z, hz, hzj, hno⟩ := idx_of hj
        refine ⟨vs0, P, E, fps, _, E1, rel, h1, fun P1 H1 fps1 x r1 s1 m1' dx => ?_⟩
        have dx' : Dq X.K P1 x (.list ys) := dx
        cases dx with
        | @lst ad vs _ hx hv =>
          refine ⟨.inl ⟨rfl, vs, SqL.of (r1.sub _ _ hx)⟩, vs0, P1, E1, fps1, d2, _, r1, h2, fun P2 H2 fps2 y r2 s2 m2' dy => ?_⟩
          refine ⟨ad, y, d2, ys, j, z, rfl, rfl, (Dq.mono (s2.pp.trans r2.sub) dx').dp, (Dq.mono r2.sub dy).dp, hsh.1, hsh.2, hz, hzj, hno, ?_⟩
          refine q P2 H2 fps2 _ r2 (s1.trans s2) (fun hm => ?_) (.int _)
          rw [Bool.or_eq_false_iff] at hm
          exact (m1' hm.1).trans (m2' hm.2)
    · cases h3
  · cases h3
def gRep : PyData → PyData → Option (List PyData)
  | .list xs, .int k => if 0 ≤ k ∧ k < 2 ^ 40 ∧ xs.length * k.toNat ≤ sizeLine then some (List.replicate k.toNat xs).flatten else none
  | _, _ => none
theorem DqAll.rep {K : PySem.W.Frag} {H : Hp} {vs : List V} {ds : List PyData} (h : DqAll K H vs ds) : ∀ n : Nat, DqAll K H (List.replicate n vs).flatten (List.replicate n ds).flatten
  | 0 => .nil
  | n + 1 => by
    rw [List.replicate_succ, List.replicate_succ, List.flatten_cons, List.flatten_cons]
    exact h.append (DqAll.rep h n)
theorem pl_rep (ha : PX X m1 true a fa) (hb : PX X m2 true b fb) : PL X (m1 || m2) (.BinOp a .Mult b pos) (binL fa fb gRep) := pl_op2 (pe_op op_rep ha hb) (by
  intro P H x y d e zs Q su dx dy hg q
  unfold gRep at hg
  split at hg
  · split at hg
    · rename_i xs k hl
      cases dx with
      | @lst l vs _ hx hv =>
        cases hg
        have l1 := hv.length
        rw [dq_int dy]
        exact ⟨_, k, vs, rfl, rfl, su _ _ hx, by omega, by omega, by rw [l1]; exact hl.2.2, fun p0 hp => q.new su hp (hv.rep _)⟩
    · cases hg
  · cases hg) (.inl rfl)
end
end Fw
namespace Fw
open PySem PySem.Spec L2
open PyProof.Rows hiding St
section
variable {X : Cx} {m m1 m2 m3 m4 p p1 p2 : Bool} {a b c d e : Expr} {pos : Pos} {fa fb fc fd : SE PyData}
theorem vo_lt {K : PySem.W.Frag} : VO K p1 p2 (rI0 fun i j => .bl (decide (i < j))) gLt := vo_I0 fun _ _ _ => .bl _
/-- x op y op z op u -/
def tChain3 (r1 r2 r3 : R2) (ta tb tc td : TE) : TE := fun σ H Q => ta σ H fun x H1 => tb σ H1 fun y H2 => r1 x y H2 fun z H3 => ∃ k, z = .bl k ∧
  (if k = true then tc σ H3 fun w H4 => r2 y w H4 fun z2 H5 => ∃ k2, z2 = .bl k2 ∧ (if k2 = true then td σ H5 fun u H6 => r3 w u H6 Q else Q (.bl false) H5) else Q (.bl false) H3)
theorem pe_chain3 {op op' op'' : CmpOp} {r1 r2 r3 : R2} {ta tb tc td : TE} (ho : OpR X (compareOp op) r1) (ho' : OpR X (compareOp op') r2) (ho'' : OpR X (compareOp op'') r3) (ha : PE X a ta) (hb : PE X b tb) (hc : PE X c tc) (hd : PE X d td)
    (hm : lastMarks [op, op', op''] [b, c, d] = false := by with_unfolding_all rfl) : PE X (.Compare a [op, op', op''] [b, c, d] pos) (tChain3 r1 r2 r3 ta tb tc td) := by
  refine ⟨fun pins s σ H Q I h => ?_⟩
  refine Compare_chain (thn (ha.run pins s σ H _ I h) fun v s1 ⟨x, H1, I1, q0, q1⟩ => chain_link (thn (hb.run pins s1 σ H1 _ I1 q1) fun u s2 ⟨y, H2, I2, q02, q2⟩ =>
    thn (ho pins s2 σ H2 x y v u _ I2 q0 q02 q2) fun d0 s3 ⟨z, H3, I3, q03, k, e, q3⟩ => ?_)) hm
  subst e
  cases q03
  refine wpAny_truthy_bool ?_
  cases k with
  | false => exact ite_ff ⟨.bl false, H3, I3, rfl, q3⟩
  | true =>
    refine ite_tt (chain_link (thn (hc.run pins s3 σ H3 _ I3 q3) fun w s4 ⟨z', H4, I4, q04, q4⟩ => thn (ho' pins s4 σ H4 y z' u w _ I4 q02 q04 q4) fun d5 s5 ⟨z2, H5, I5, q05, k2, e2, q5⟩ => ?_))
    subst e2
    cases q05
    refine wpAny_truthy_bool ?_
    cases k2 with
    | false => exact ite_ff ⟨.bl false, H5, I5, rfl, q5⟩
    | true => exact ite_tt (chain_last (thn (hd.run pins s5 σ H5 _ I5 q5) fun w' s6 ⟨z6, H6, I6, q06, q6⟩ => ho'' pins s6 σ H6 z' z6 w w' Q I6 q04 q06 q6))
def chn3 (fa fb fc fd : SE PyData) (g1 g2 g3 : PyData → PyData → Option PyData) : SE PyData := bnd fa fun d => bnd fb fun e => bnd (toB (lft (g1 d e))) fun k => if k then
  (bnd fc fun w => bnd (toB (lft (g2 e w))) fun k2 => if k2 then bnd fd fun u => lft (g3 w u) else ret (.bool false)) else ret (.bool false)
theorem chn3_core {K : PySem.W.Frag} {r1 r2 r3 : R2} {g1 g2 g3 : PyData → PyData → Option PyData} (v1 : VO K true true r1 g1) (v2 : VO K true true r2 g2) (v3 : VO K true true r3 g3) {σ : St} {H : Hp} {Q : VK}
    (h : tX K (m1 || (m2 || (m3 || m4))) true (chn3 fa fb fc fd g1 g2 g3) σ H Q) : tChain3 r1 r2 r3 (tX K m1 true fa) (tX K m2 true fb) (tX K m3 true fc) (tX K m4 true fd) σ H Q := by
  obtain ⟨vs0, P, E, fps, d, E', rel, hh, q⟩ := h
  obtain ⟨d1, E1, h1, hh⟩ := bnd_some hh
  obtain ⟨d2, E2, h2, hh⟩ := bnd_some hh
  obtain ⟨k, E3, h3, hh⟩ := bnd_some hh
  obtain ⟨h3', rfl⟩ := lft_some (toB_some h3)
  refine ⟨vs0, P, E, fps, d1, E1, rel, h1, fun P1 H1 fps1 x q1 s1 m1' dx => ⟨vs0, P1, E1, fps1, d2, _, q1, h2, fun P2 H2 fps2 y q2 s2 m2' dy => ?_⟩⟩
  refine v1 P2 H2 x y d1 d2 _ _ q2.sub (Dq.mono s2.pp dx) dy h3' fun P3 H3 z pp su hh3 fr dz => ⟨k, dq_bl dz, ?_⟩
  have q3 := q2.alloc pp su hh3 fr
  have s3 := (s1.trans s2).trans (Step.alloc (F := In fps2) pp hh3 fr)
  cases k with
  | false =>
    rw [if_neg Bool.false_ne_true] at hh
    obtain ⟨rfl, rfl⟩ := ret_some hh
    rw [if_neg Bool.false_ne_true]
    refine q P3 H3 fps2 _ q3 s3 (fun hm => ?_) (.bl false)
    rw [Bool.or_eq_false_iff, Bool.or_eq_false_iff] at hm
    exact ((m1' hm.1).trans (m2' hm.2.1)).trans hh3
  | true =>
    rw [if_pos rfl] at hh
    rw [if_pos rfl]
    obtain ⟨d4, E4, h4, hh⟩ := bnd_some hh
    obtain ⟨k2, E5, h5, hh⟩ := bnd_some hh
    obtain ⟨h5', rfl⟩ := lft_some (toB_some h5)
    refine ⟨vs0, P3, _, fps2, d4, _, q3, h4, fun P4 H4 fps4 w q4 s4 m4' dw => ?_⟩
    refine v2 P4 H4 y w d2 d4 _ _ q4.sub (Dq.mono (pp.trans s4.pp) dy) dw h5' fun P5 H5 u pp5 su5 hh5 fr5 du => ⟨k2, dq_bl du, ?_⟩
    have q5 := q4.alloc pp5 su5 hh5 fr5
    have s5 := (s3.trans s4).trans (Step.alloc (F := In fps4) pp5 hh5 fr5)
    cases k2 with
    | false =>
      rw [if_neg Bool.false_ne_true] at hh
      obtain ⟨rfl, rfl⟩ := ret_some hh
      rw [if_neg Bool.false_ne_true]
      refine q P5 H5 fps4 _ q5 s5 (fun hm => ?_) (.bl false)
      rw [Bool.or_eq_false_iff, Bool.or_eq_false_iff, Bool.or_eq_false_iff] at hm
      exact ((((m1' hm.1).trans (m2' hm.2.1)).trans hh3).trans (m4' hm.2.2.1)).trans hh5
    | true =>
      rw [if_pos rfl] at hh
      rw [if_pos rfl]
      obtain ⟨d6, E6, h6, hh⟩ := bnd_some hh
      obtain ⟨h7, rfl⟩ := lft_some hh
      refine ⟨vs0, P5, _, fps4, d6, _, q5, h6, fun P6 H6 fps6 w6 q6 s6 m6' dw6 => ?_⟩
      refine v3 P6 H6 w w6 d4 d6 d _ q6.sub (Dq.mono (pp5.trans s6.pp) dw) dw6 h7 fun P7 H7 u7 pp7 su7 hh7 fr7 du7 => ?_
      refine q P7 H7 fps6 u7 (q6.alloc pp7 su7 hh7 fr7) ((s5.trans s6).trans (.alloc pp7 hh7 fr7)) (fun hm => ?_) du7
      rw [Bool.or_eq_false_iff, Bool.or_eq_false_iff, Bool.or_eq_false_iff] at hm
      exact ((((((m1' hm.1).trans (m2' hm.2.1)).trans hh3).trans (m4' hm.2.2.1)).trans hh5).trans (m6' hm.2.2.2)).trans hh7
theorem px_ch2 {op op' : CmpOp} {r1 r2 : R2} {g1 g2 : PyData → PyData → Option PyData} (o1 : OpR X (compareOp op) r1) (v1 : VO X.K true true r1 g1) (o2 : OpR X (compareOp op') r2) (v2 : VO X.K true true r2 g2)
    (ha : PX X m1 true a fa) (hb : PX X m2 true b fb) (hc : PX X m3 true c fc) (hm : lastMarks [op, op'] [b, c] = false) : PX X (m1 || (m2 || m3)) true (.Compare a [op, op'] [b, c] pos) (chn fa fb fc g1 g2) := pe_imp (pe_chain o1 o2 ha hb hc hm) fun σ H Q h => chn_core v1 v2 h
theorem px_ch3 {op op' op'' : CmpOp} {r1 r2 r3 : R2} {g1 g2 g3 : PyData → PyData → Option PyData} (o1 : OpR X (compareOp op) r1) (v1 : VO X.K true true r1 g1) (o2 : OpR X (compareOp op') r2) (v2 : VO X.K true true r2 g2) (o3 : OpR X (compareOp op'') r3) (v3 : VO X.K true true r3 g3)
    (ha : PX X m1 true a fa) (hb : PX X m2 true b fb) (hc : PX X m3 true c fc) (hd : PX X m4 true d fd) (hm : lastMarks [op, op', op''] [b, c, d] = false) : PX X (m1 || (m2 || (m3 || m4))) true (.Compare a [op, op', op''] [b, c, d] pos) (chn3 fa fb fc fd g1 g2 g3) := pe_imp (pe_chain3 o1 o2 o3 ha hb hc hd hm) fun σ H Q h => chn3_core v1 v2 v3 h
theorem px_lelt (ha : PX X m1 true a fa) (hb : PX X m2 true b fb) (hc : PX X m3 true c fc) : PX X (m1 || (m2 || m3)) true (.Compare a [.LtE, .Lt] [b, c] pos) (chn fa fb fc gLe gLt) := px_ch2 op_leA vo_le op_lt vo_lt ha hb hc (nomark c)
theorem px_lelelt (ha : PX X m1 true a fa) (hb : PX X m2 true b fb) (hc : PX X m3 true c fc) (hd : PX X m4 true d fd) : PX X (m1 || (m2 || (m3 || m4))) true (.Compare a [.LtE, .LtE, .Lt] [b, c, d] pos) (chn3 fa fb fc fd gLe gLe gLt) := px_ch3 op_leA vo_le op_leA vo_le op_lt vo_lt ha hb hc hd (nomark d)
theorem ok_chn3 {g1 g2 g3 : PyData → PyData → Option PyData} {E : En} {Q : PyData → En → Prop} : Ok (chn3 fa fb fc fd g1 g2 g3 E) Q = Ok (fa E) fun d E1 => Ok (fb E1) fun e E2 => OkV (g1 d e) fun k => match k with
    | .bool true => Ok (fc E2) fun w E3 => OkV (g2 e w) fun k2 => match k2 with
      | .bool true => Ok (fd E3) fun u E4 => OkV (g3 w u) fun z => Q z E4
      | .bool false => Q (.bool false) E3
      | _ => False
    | .bool false => Q (.bool false) E2
    | _ => False := by
  unfold chn3
  rw [ok_bnd]
  congr 1
  funext d E1
  rw [ok_bnd]
  congr 1
  funext e E2
  rw [ok_bnd, ok_toB, ok_lft]
  congr 1
  funext k
  cases k with
  | bool x =>
    cases x
    · exact ok_some
    · show Ok (bnd fc _ E2) Q = _
      rw [ok_bnd]
      congr 1
      funext w E3
      rw [ok_bnd, ok_toB, ok_lft]
      congr 1
      funext k2
      cases k2 with
      | bool y =>
        cases y
        · exact ok_some
        · show Ok (bnd fd _ E3) Q = _
          rw [ok_bnd]
          congr 1
          funext u E4
          exact ok_lft
      | _ => rfl
  | _ => rfl
theorem pt_chain3 {op op' op'' : CmpOp} {r1 r2 r3 : R2} {ta tb tc td : TE} (ho : OpR X (compareOp op) r1) (ho' : OpR X (compareOp op') r2) (ho'' : OpR X (compareOp op'') r3) (ha : PE X a ta) (hb : PE X b tb) (hc : PE X c tc) (hd : PE X d td)
    (hm : lastMarks [op, op', op''] [b, c, d] = false := by with_unfolding_all rfl) : PT X (.Compare a [op, op', op''] [b, c, d] pos) (tTest (tChain3 r1 r2 r3 ta tb tc td)) := by
  refine ⟨fun pins s σ H Q I h => ?_⟩
  refine isTrue_chain (thn (ha.run pins s σ H _ I h) fun v s1 ⟨x, H1, I1, q0, q1⟩ => test_link (thn (hb.run pins s1 σ H1 _ I1 q1) fun u s2 ⟨y, H2, I2, q02, q2⟩ =>
    thn (ho pins s2 σ H2 x y v u _ I2 q0 q02 q2) fun d0 s3 ⟨z, H3, I3, q03, k, e, q3⟩ => ?_)) hm
  subst e
  cases q03
  refine wpAny_truthy_bool ?_
  cases k with
  | false =>
    obtain ⟨k', e', q'⟩ := q3
    cases e'
    exact ite_ff ⟨H3, I3, q'⟩
  | true =>
    refine ite_tt (test_link (thn (hc.run pins s3 σ H3 _ I3 q3) fun w s4 ⟨z', H4, I4, q04, q4⟩ => thn (ho' pins s4 σ H4 y z' u w _ I4 q02 q04 q4) fun d5 s5 ⟨z2, H5, I5, q05, k2, e2, q5⟩ => ?_))
    subst e2
    cases q05
    refine wpAny_truthy_bool ?_
    cases k2 with
    | false =>
      obtain ⟨k', e', q'⟩ := q5
      cases e'
      exact ite_ff ⟨H5, I5, q'⟩
    | true =>
      refine ite_tt (test_last (thn (hd.run pins s5 σ H5 _ I5 q5) fun w' s6 ⟨z6, H6, I6, q06, q6⟩ => thn (ho'' pins s6 σ H6 z' z6 w w' _ I6 q04 q06 q6) fun d' s7 ⟨z7, H7, I7, q7, k7, e7, q8⟩ => ?_))
      subst e7
      cases q7
      exact wpAny_truthy_bool ⟨H7, I7, q8⟩
theorem pt_lelt (ha : PX X m1 true a fa) (hb : PX X m2 true b fb) (hc : PX X m3 true c fc) : PXT X (m1 || (m2 || m3)) (.Compare a [.LtE, .Lt] [b, c] pos) (toB (chn fa fb fc gLe gLt)) := pt_imp (pt_chain op_leA op_lt ha hb hc (nomark c)) fun σ H Q => by
  rintro ⟨vs0, P, E, fps, d, E', rel, hh, q⟩
  refine chn_core vo_le vo_lt ⟨vs0, P, E, fps, .bool d, E', rel, toB_some hh, fun P' H' fps' v r' st sm dv => ⟨d, dq_bl dv, q P' H' fps' r' st sm⟩⟩
theorem pt_lelelt (ha : PX X m1 true a fa) (hb : PX X m2 true b fb) (hc : PX X m3 true c fc) (hd : PX X m4 true d fd) : PXT X (m1 || (m2 || (m3 || m4))) (.Compare a [.LtE, .LtE, .Lt] [b, c, d] pos) (toB (chn3 fa fb fc fd gLe gLe gLt)) := pt_imp (pt_chain3 op_leA op_leA op_lt ha hb hc hd (nomark d)) fun σ H Q => by
  rintro ⟨vs0, P, E, fps, d, E', rel, hh, q⟩
  refine chn3_core vo_le vo_le vo_lt ⟨vs0, P, E, fps, .bool d, E', rel, toB_some hh, fun P' H' fps' v r' st sm dv => ⟨d, dq_bl dv, q P' H' fps' r' st sm⟩⟩
def gGtS : PyData → PyData → Option PyData
  | .str x, .str y => some (.bool (decide (y.cps.toList < x.cps.toList)))
  | _, _ => none
def gLtS : PyData → PyData → Option PyData
  | .str x, .str y => some (.bool (decide (x.cps.toList < y.cps.toList)))
  | _, _ => none
def gGeS : PyData → PyData → Option PyData
  | .str x, .str y => some (.bool (!decide (x.cps.toList < y.cps.toList)))
  | _, _ => none
theorem vo_gts {K : PySem.W.Frag} : VO K p1 p2 (fun x y H Q => ∃ i j, x = V.str i ∧ y = V.str j ∧ Q (.bl (decide (j.cps.toList < i.cps.toList))) H) gGtS := by
  intro P H x y d e z Q su dx dy hg q
  unfold gGtS at hg
  split at hg
  · cases hg
    rw [dq_str dx, dq_str dy]
    exact ⟨_, _, rfl, rfl, q.at su (.bl _)⟩
  · cases hg
theorem vo_lts {K : PySem.W.Frag} : VO K p1 p2 (fun x y H Q => ∃ i j, x = V.str i ∧ y = V.str j ∧ Q (.bl (decide (i.cps.toList < j.cps.toList))) H) gLtS := by
  intro P H x y d e z Q su dx dy hg q
  unfold gLtS at hg
  split at hg
  · cases hg
    rw [dq_str dx, dq_str dy]
    exact ⟨_, _, rfl, rfl, q.at su (.bl _)⟩
  · cases hg
theorem vo_ges {K : PySem.W.Frag} : VO K p1 p2 (fun x y H Q => ∃ i j, x = V.str i ∧ y = V.str j ∧ Q (.bl (!decide (i.cps.toList < j.cps.toList))) H) gGeS := by
  intro P H x y d e z Q su dx dy hg q
  unfold gGeS at hg
  split at hg
  · cases hg
    rw [dq_str dx, dq_str dy]
    exact ⟨_, _, rfl, rfl, q.at su (.bl _)⟩
  · cases hg
theorem px_gts (ha : PX X m1 p1 a fa) (hb : PX X m2 p2 b fb) (hf : p1 = true ∨ m2 = false) : PX X (m1 || m2) true (.Compare a [.Gt] [b] pos) (bin fa fb gGtS) := px_op2 (pe_cmpR op_gt_str ha hb (nomark _)) vo_gts hf
theorem px_lts (ha : PX X m1 p1 a fa) (hb : PX X m2 p2 b fb) (hf : p1 = true ∨ m2 = false) : PX X (m1 || m2) true (.Compare a [.Lt] [b] pos) (bin fa fb gLtS) := px_op2 (pe_cmpR op_lt_str ha hb (nomark _)) vo_lts hf
theorem px_ges (ha : PX X m1 p1 a fa) (hb : PX X m2 p2 b fb) (hf : p1 = true ∨ m2 = false) : PX X (m1 || m2) true (.Compare a [.GtE] [b] pos) (bin fa fb gGeS) := px_op2 (pe_cmpR op_ge_str ha hb (nomark _)) vo_ges hf
theorem pt_gts' (ha : PX X m1 p1 a fa) (hb : PX X m2 p2 b fb) (hf : p1 = true ∨ m2 = false) : PXT X (m1 || m2) (.Compare a [.Gt] [b] pos) (toB (bin fa fb gGtS)) := pt_op2 (pt_cmpR op_gt_str ha hb (nomark _)) vo_gts hf
theorem pt_lts' (ha : PX X m1 p1 a fa) (hb : PX X m2 p2 b fb) (hf : p1 = true ∨ m2 = false) : PXT X (m1 || m2) (.Compare a [.Lt] [b] pos) (toB (bin fa fb gLtS)) := pt_op2 (pt_cmpR op_lt_str ha hb (nomark _)) vo_lts hf
theorem pt_ges' (ha : PX X m1 p1 a fa) (hb : PX X m2 p2 b fb) (hf : p1 = true ∨ m2 = false) : PXT X (m1 || m2) (.Compare a [.GtE] [b] pos) (toB (bin fa fb gGeS)) := pt_op2 (pt_cmpR op_ge_str ha hb (nomark _)) vo_ges hf
end
section
theorem ok_jns0 {acc : Str} {E : En} {Q : PyData → En → Prop} : Ok (jns [] acc E) Q = Q (.str acc) E := by
  unfold jns
  exact ok_ret
theorem ok_jns1 {f : SE PyData} {fs : List (SE PyData)} {acc : Str} {E : En} {Q : PyData → En → Prop} : Ok (jns (f :: fs) acc E) Q = Ok (f E) fun d E1 => match d with
    | .str y => (acc ++ y).length ≤ sizeLine ∧ Ok (jns fs (acc ++ y) E1) Q
    | _ => False := by
  rw [jns, ok_bnd]
  congr 1
  funext d E1
  cases d with
  | str y =>
    apply propext
    by_cases h : (acc ++ y).length ≤ sizeLine
    · simp only [if_pos h]
      exact ⟨fun q => ⟨h, q⟩, fun q => q.2⟩
    · simp only [if_neg h]
      exact ⟨fun q => (by obtain ⟨_, _, e, _⟩ := q; cases e), fun q => absurd q.1 h⟩
  | _ => exact ok_none
end
end Fw
namespace Fw
open PySem PySem.Spec L2
open PyProof.Rows hiding St
/-- the turns, by the place in the list as it stands -/
def forN (i : Nat) (bb : PyData → En → Option En) (g : SS) : Nat → Nat → SS
  | 0, _, _ => none
  | n + 1, j, E => match E[i]? with
    | some (.own ys) => match ys[j]? with
      | none => some (.nx, E)
      | some d => match bb d E with
        | some E1 => match g E1 with
          | some (.nx, E2) => forN i bb g n (j + 1) E2
          | some (.ct, E2) => forN i bb g n (j + 1) E2
          | some (.bk, E2) => some (.nx, E2)
          | r => r
        | none => none
    | _ => none
def forO (i : Nat) (bb : PyData → En → Option En) (g : SS) : SS := fun E => forN i bb g fuelC 0 E
section
variable {X : Cx} {n n' : Nat} {tg e : Expr} {sts : List Stmt} {pos : Pos} {g : SS}
/-- the values of the first slots that own -/
def ownV (n : Nat) (E : En) (σ : L2.St) : List V := (List.range n).map fun j => match E[j]? with
  | some (.own _) => (match σ[j]? with | some (some v) => v | _ => .non)
  | _ => .non
theorem ownV_len {E : En} {σ : L2.St} : (ownV n E σ).length = n := by simp [ownV]
theorem ownV_get {E : En} {σ : L2.St} {j : Nat} (h : j < n) : (ownV n E σ)[j]? = some (match E[j]? with
  | some (.own _) => (match σ[j]? with | some (some v) => v | _ => .non)
  | _ => .non) := by
  unfold ownV
  rw [List.getElem?_map, List.getElem?_range h]
  rfl
theorem Rel.toOwn {K : PySem.W.Frag} {vs0 : List V} {P H : Hp} {E : En} {σ : L2.St} {fps : Nat → List Addr} (r : Rel K vs0 P E σ H fps) (n : Nat) : Rel K (ownV n E σ) P E σ H fps where
  sub := r.sub
  len := r.len
  sl := r.sl
  out := r.out
  dj := r.dj
  par := fun j xs v hv he => by
    have hj : j < n := by
      have := (List.getElem?_eq_some_iff.mp hv).1
      rwa [ownV_len] at this
    rw [ownV_get hj, he] at hv
    obtain ⟨ov, e2, s⟩ := r.sl j _ he
    generalize fps j = fp at s
    cases s with
    | own _ _ _ =>
      rw [e2] at hv
      simp only [Option.some.injEq] at hv
      rw [e2, ← hv]
theorem Rel.ofOwn {K : PySem.W.Frag} {vs0 : List V} {P H P2 H2 : Hp} {E E2 : En} {σ σ2 : L2.St} {fps fps2 : Nat → List Addr} (r : Rel K vs0 P E σ H fps) (hn : vs0.length ≤ n) (r2 : Rel K (ownV n E σ) P2 E2 σ2 H2 fps2) : Rel K vs0 P2 E2 σ2 H2 fps2 where
  sub := r2.sub
  len := r2.len
  sl := r2.sl
  out := r2.out
  dj := r2.dj
  par := fun j xs v hv he => by
    have hj : j < n := Nat.lt_of_lt_of_le (List.getElem?_eq_some_iff.mp hv).1 hn
    have h1 := r2.par j xs _ (ownV_get hj) he
    obtain ⟨ov, e2, s⟩ := r2.sl j _ he
    generalize fps2 j = fp at s
    cases s with
    | own _ _ _ =>
      rw [e2] at h1
      split at h1
      · rename_i ys e1
        have h3 := r.par j ys v hv e1
        rw [h3] at h1
        rw [e2, h1]
      · cases h1
theorem pxs_forO {i : Nat} {ts : List Nat} {bb : PyData → En → Option En} (hin : i < n') (hnn : n ≤ n') (hp : PassesOwn (model X.prog X.w) X.A X.env X.xe) (hc : X.calm = true) (hv : PE X e (tVar i)) (hg : PXG X ts tg bb) (hb : PXS X n' sts g)
    (hs : ∀ x, foldedSetIterable e X.env x = pure x := by intro _; rfl) : PXS1 X n (.For tg e sts [] pos) (forO i bb g) := ps_imp (ps_for hp hc (pi_list hv) hg hb hs) fun D σ H => by
  rintro ⟨vs0, P, E, fps, fl, E', hn, r, hf, q⟩
  have back : ∀ {P2 H2 : Hp} {E2 : En} {σ2 : L2.St} {fps2 : Nat → List Addr}, Rel X.K (ownV n' E σ) P2 E2 σ2 H2 fps2 → Rel X.K vs0 P2 E2 σ2 H2 fps2 := fun r2 => r.ofOwn (by omega) r2
  have r0 := r.toOwn n'
  unfold forO at hf
  have hf0 := hf
  unfold fuelC forN at hf
  split at hf
  · rename_i ys0 e0
    clear hf
    obtain ⟨ov, e2, s⟩ := r.sl i _ e0
    generalize hfp : fps i = fp at s
    cases s with
    | @own ad vs _ hP hH hdq =>
      have hid : (ownV n' E σ)[i]? = some (.ref ad) := by rw [ownV_get hin, e0, e2]
      refine ⟨_, e2, ad, rfl, ⟨vs, SqL.of hH⟩, fun j k σ2 H2 => ∃ P2 E2 fps2, Rel X.K (ownV n' E σ) P2 E2 σ2 H2 fps2 ∧ Step (In fps) P H (In fps2) P2 H2 ∧ forN i bb g k j E2 = some (fl, E'), ⟨fuelC, P, E, fps, r0, .refl _ _ _, hf0⟩, ?_⟩
      rintro j k σ2 H2 ⟨P2, E2, fps2, r2, s2, h2⟩
      cases k with
      | zero => cases h2
      | succ k =>
        unfold forN at h2
        split at h2
        · rename_i ys ey
          obtain ⟨ov2, e3, s3⟩ := r2.sl i _ ey
          have hpar := r2.par i ys _ hid ey
          generalize fps2 i = fp2 at s3
          cases s3 with
          | @own ad2 vs2 _ hP2 hH2 hdq2 =>
            rw [e3] at hpar
            cases hpar
            split at h2
            · rename_i eN
              cases h2
              refine .inl ⟨⟨vs2, SqL.of hH2, ?_⟩, q P2 H2 fps2 σ2 (back r2) s2⟩
              rw [hdq2.length]
              exact List.getElem?_eq_none_iff.mp eN
            · rename_i d eD
              obtain ⟨v, hv1, hv2⟩ := hdq2.get eD
              split at h2
              · rename_i E3 eB
                refine .inr ⟨⟨vs2, v, SqL.of hH2, hv1⟩, fun σ4 H4 => ∃ P4 E4 fps4, Rel X.K (ownV n' E σ) P4 E4 σ4 H4 fps4 ∧ Step (In fps) P H (In fps4) P4 H4 ∧ forN i bb g k (j + 1) E4 = some (fl, E'), ?_, fun y H3 hy => ?_⟩
                · rintro σ4 H4 ⟨P4, E4, fps4, r4, s4, h4⟩
                  exact ⟨k, Nat.lt_succ_self k, P4, E4, fps4, r4, s4, h4⟩
                · obtain ⟨rfl, hy⟩ := hy
                  have hyv := hy vs2 (SqL.of hH2)
                  rw [hv1] at hyv
                  cases hyv
                  refine ⟨_, P2, E2, fps2, d, E3, r2, hv2, eB, fun fps5 σ5 r5 s5 _ _ => ?_⟩
                  have s6 := s2.trans s5
                  split at h2
                  · rename_i E7 e7
                    exact ⟨_, P2, E3, fps5, .nx, E7, ownV_len, r5, e7, fun P7 H7 fps7 σ7 r7 s7 => ⟨P7, E7, fps7, r7, s6.trans s7, h2⟩⟩
                  · rename_i E7 e7
                    exact ⟨_, P2, E3, fps5, .ct, E7, ownV_len, r5, e7, fun P7 H7 fps7 σ7 r7 s7 => ⟨P7, E7, fps7, r7, s6.trans s7, h2⟩⟩
                  · rename_i E7 e7
                    cases h2
                    exact ⟨_, P2, E3, fps5, .bk, _, ownV_len, r5, e7, fun P7 H7 fps7 σ7 r7 s7 => q P7 H7 fps7 σ7 (back r7) (s6.trans s7)⟩
                  · rename_i n1 n2 n3
                    refine ⟨_, P2, E3, fps5, fl, E', ownV_len, r5, h2, ?_⟩
                    cases fl with
                    | nx => exact absurd h2 (n1 E')
                    | ct => exact absurd h2 (n2 E')
                    | bk => exact absurd h2 (n3 E')
                    | rt s => exact fun P' H' fps' σ' v fr r' st q1 q2 => q P' H' fps' σ' v fr (back r') (s6.trans st) q1 q2
              · cases h2
        · cases h2
  · cases hf
end
theorem forN_inv {i : Nat} {bb : PyData → En → Option En} {g : SS} (I : Nat → En → Prop) (ys : List PyData) {Q : Fl → En → Prop} (hown : ∀ k E, I k E → E[i]? = some (.own ys))
    (h : ∀ k d, ys[k]? = some d → ∀ E, I k E → OkV (bb d E) fun E1 => Ok (g E1) (stp (I (k + 1)) Q)) (q : ∀ E, I ys.length E → Q .nx E) : ∀ (n j : Nat) (E : En), ys.length - j < n → j ≤ ys.length → I j E → Ok (forN i bb g n j E) Q
  | 0, j, E, hn, _, _ => absurd hn (Nat.not_lt_zero _)
  | n + 1, j, E, hn, hj, hI => by
    have e0 := hown j E hI
    cases ej : ys[j]? with
    | none =>
      have : j = ys.length := by
        have := List.getElem?_eq_none_iff.mp ej
        omega
      subst this
      exact ⟨.nx, E, by unfold forN; rw [e0]; simp only [ej], q E hI⟩
    | some d =>
      have hlt := (List.getElem?_eq_some_iff.mp ej).1
      obtain ⟨E1, e1, fl, E2, e2, h2⟩ := h j d ej E hI
      cases fl with
      | nx =>
        obtain ⟨fl, E3, e3, h3⟩ := forN_inv I ys hown h q n (j + 1) E2 (by omega) (by omega) h2
        exact ⟨fl, E3, by unfold forN; rw [e0]; simp only [ej, e1, e2]; exact e3, h3⟩
      | ct =>
        obtain ⟨fl, E3, e3, h3⟩ := forN_inv I ys hown h q n (j + 1) E2 (by omega) (by omega) h2
        exact ⟨fl, E3, by unfold forN; rw [e0]; simp only [ej, e1, e2]; exact e3, h3⟩
      | bk => exact ⟨.nx, E2, by unfold forN; rw [e0]; simp only [ej, e1, e2], h2⟩
      | rt s => exact ⟨.rt s, E2, by unfold forN; rw [e0]; simp only [ej, e1, e2], h2⟩
theorem forO_inv {i : Nat} {bb : PyData → En → Option En} {g : SS} (I : Nat → En → Prop) (ys : List PyData) (E : En) {Q : Fl → En → Prop} (h0 : I 0 E) (hown : ∀ k E, I k E → E[i]? = some (.own ys)) (hl : ys.length < 1099511627776)
    (h : ∀ k d, ys[k]? = some d → ∀ E, I k E → OkV (bb d E) fun E1 => Ok (g E1) (stp (I (k + 1)) Q)) (q : ∀ E, I ys.length E → Q .nx E) : Ok (forO i bb g E) Q :=
  forN_inv I ys hown h q fuelC 0 E (by unfold fuelC; omega) (Nat.zero_le _) h0
end Fw
namespace Fw
open PySem PySem.Spec L2
open PyProof.Rows hiding St
/-- an expression behind which a token is out -/
def PXk (X : Cx) (m p : Bool) (e : Expr) (f : SE PyData) : Prop := ∀ (pins : List (Addr × Obj)) (s : Shared) (σ : L2.St) (H : Hp) (Q : VK), Inv X pins σ H s → tX X.K m p f σ H Q →
  wpAny (model X.prog X.w) X.A (eval e X.env) (fun v s1 => 1 ≤ s1.toks ∧ EP X pins σ Q v s1) X.xe s
section
variable {X : Cx} {m m1 m2 p p1 p2 : Bool} {a b e : Expr} {j k : Nat} {pos p0 pos1 : Pos} {fa fb f : SE PyData} {c : Str}
theorem op2_core {K : PySem.W.Frag} {r : R2} {g : PyData → PyData → Option PyData} {σ : L2.St} {H : Hp} {Q : VK} (v : VO K p1 p2 r g) (hf : p1 = true ∨ m2 = false) (h : tX K (m1 || m2) true (bin fa fb g) σ H Q) : tOp r (tX K m1 p1 fa) (tX K m2 p2 fb) σ H Q := by
  obtain ⟨vs0, P, E, fps, d, E', rel, hh, q⟩ := h
  obtain ⟨d1, E1, h1, hh⟩ := bnd_some hh
  obtain ⟨d2, E2, h2, hh⟩ := bnd_some hh
  obtain ⟨h3, rfl⟩ := lft_some hh
  refine ⟨vs0, P, E, fps, d1, E1, rel, h1, fun P1 H1 fps1 x r1 s1 m1' dx => ⟨vs0, P1, E1, fps1, d2, E', r1, h2, fun P2 H2 fps2 y r2 s2 m2' dy => ?_⟩⟩
  have dx2 : Dq K (pick p1 P2 H2) x d1 := by
    cases p1 with
    | true => exact Dq.mono s2.pp dx
    | false =>
      rcases hf with hf | hf
      · cases hf
      · exact Dq.mono (m2' hf) dx
  refine v P2 H2 x y d1 d2 d Q r2.sub dx2 dy h3 fun P3 H3 w pp su hh fr dw => ?_
  refine q P3 H3 fps2 w (r2.alloc pp su hh fr) ((s1.trans s2).trans (.alloc pp hh fr)) (fun hm => ?_) dw
  rw [Bool.or_eq_false_iff] at hm
  exact ((m1' hm.1).trans (m2' hm.2)).trans hh
theorem pxk_addC (ha : PX X m1 true a fa) : PXk X (m1 || false) true (.BinOp a .Add (.Constant (.str c) j p0) pos) (bin fa (ret (.str c)) gAdd) := by
  intro pins s σ H Q I h
  have h0 := op2_core (m1 := m1) (m2 := false) (p1 := true) (p2 := true) (r := rAddA X.K) vo_add (.inl rfl) h
  refine wpAny_BinOp (thn (ha.run pins s σ H _ I h0) fun v s1 ⟨x, H1, I1, r1, q1⟩ => ?_)
  obtain ⟨vs0, P, E, fps, d, E', rel, hh, q⟩ := q1
  obtain ⟨rfl, rfl⟩ := ret_some hh
  have h1 := q P H1 fps (.str c) rel (.refl _ _ _) (fun _ => Same.refl H1) (.str c)
  refine Calls.Constant_str ?_
  exact wpAny_mono (PySem.wpAny_toks_of (n := 1) (by show 1 ≤ s1.toks + 1; omega) (op_addA pins _ σ H1 x (.str c) v _ Q (I1.tok _) r1 ⟨_, rfl⟩ h1)) (fun _ _ z => z) (fun _ _ z => z.2)
theorem px_addTk (ha : PXk X m1 true a fa) (hb : PXt X m2 true b fb) : PX X (m1 || m2) true (.BinOp a .Add b pos) (bin fa fb gAdd) := by
  refine px_op2 (m1 := m1) (m2 := m2) (p1 := true) (p2 := true) (r := rAddA X.K) ⟨fun pins s σ H Q I h => ?_⟩ vo_add (.inl rfl)
  exact wpAny_BinOp (wpAny_mono (ha pins s σ H _ I h) (fun v s1 ⟨hk, x, H1, I1, r1, q1⟩ => thn (hb pins s1 σ H1 _ hk I1 q1) fun u s2 ⟨y, H2, I2, r2, q2⟩ => op_addA pins s2 σ H2 x y v u Q I2 r1 r2 q2) fun _ _ z => z)
end
end Fw
namespace ownanswer_k51_lists_and_joined_values
open PySem Fw
def Y_lower : SS := (retD (m0S (rdD 0) gLower))
abbrev N_lower : List Str := ["text"]
def S_lower : Fn := runF 1 1 Y_lower
def Y_trimmed : SS := (retD (m1S (rdD 0) (ret (.str " \t")) gStrip))
abbrev N_trimmed : List Str := ["text"]
def S_trimmed : Fn := runF 1 1 Y_trimmed
def C_values_1 : SE PyData := (rdD 4)
def C_values_2 : SE Bool := (toB (bin (rdD 3) (rdD 2) gEq))
def T_values_1 : SS := (retL (lcS (sItems (rdD 0)) [3, 4] (toT [3, 4]) C_values_2 C_values_1))
def Y_values : SS := (seqS (asg 2 (mny (sCons (rdD 1) sNil) (callD S_lower))) T_values_1)
abbrev N_values : List Str := ["fields", "name", "wanted", "key", "value"]
def S_values : Fn := runF 2 5 Y_values
def T__cut_1 : SS := (asg 3 (bin (rdD 6) (ret (.int 1)) gAdd))
def L__cut_1 : SS := (ifS (toB (rdD 5)) (asg 5 (ret (.bool false))) (ifS (toB (bin (rdD 7) (ret (.str "\"")) gEq)) (asg 4 (una (rdD 4) gNot)) (ifS (toB (bin (rdD 7) (ret (.str "\\")) gEq)) (asg 5 (rdD 4)) (ifS (sAnd (toB (bin (rdD 7) (rdD 1) gEq)) (sNot (toB (rdD 4)))) (seqS (appO 2 (sSl (rdD 0) (sPart (rdD 3)) (sPart (rdD 6)))) T__cut_1) nxt))))
def T__cut_2 : SS := (retD (sIf (toB (rdD 4)) (ret .none) (rdA 2)))
def T__cut_3 : SS := (seqS (appO 2 (sSl (rdD 0) (sPart (rdD 3)) (ret none))) T__cut_2)
def T__cut_4 : SS := (seqS (forS (sEnum (rdD 0)) (toT [6, 7]) L__cut_1) T__cut_3)
def T__cut_5 : SS := (seqS (asg 5 (ret (.bool false))) T__cut_4)
def T__cut_6 : SS := (seqS (asg 4 (ret (.bool false))) T__cut_5)
def T__cut_7 : SS := (seqS (asg 3 (ret (.int 0))) T__cut_6)
def Y__cut : SS := (seqS (asgL 2 (dLst sNil)) T__cut_7)
abbrev N__cut : List Str := ["text", "mark", "parts", "begin", "quoted", "taken", "at", "sign"]
def S__cut : Fn := runF 2 8 Y__cut
def C_split_list_1 : SE PyData := (mny (sCons (rdD 3) sNil) (callD S_trimmed))
def C_split_list_2 : SE PyData := (rdD 3)
def C_split_list_3 : SE Bool := (toB (bin (rdD 3) (ret (.str "")) gNe))
def T_split_list_1 : SS := (retL (lcS (sItems (rdD 2)) [3] (toN 3) C_split_list_3 C_split_list_2))
def T_split_list_2 : SS := (seqS (asg 2 (bnd (lcS (sItems (rdD 1)) [3] (toN 3) yesS C_split_list_1) fun ds => ret (.list ds))) T_split_list_1)
def T_split_list_3 : SS := (seqS (ifS (toB (una (rdD 1) gIsN)) (retD (ret .none)) nxt) T_split_list_2)
def Y_split_list : SS := (seqS (asg 1 (mny (sCons (rdD 0) (sCons (ret (.str ",")) sNil)) (callD S__cut))) T_split_list_3)
abbrev N_split_list : List Str := ["value", "parts", "trimmed_parts", "part"]
def S_split_list : Fn := runF 1 4 Y_split_list
def T_join_values_1 : SS := (retD (sIf (toB (bin (una (rdD 2) gLen) (ret (.int 0)) gEq)) (ret .none) (m1S (ret (.str ", ")) (rdD 2) gJoin)))
def Y_join_values : SS := (seqS (asg 2 (mny (sCons (rdD 0) (sCons (rdD 1) sNil)) (callD S_values))) T_join_values_1)
abbrev N_join_values : List Str := ["fields", "name", "found"]
def S_join_values : Fn := runF 2 3 Y_join_values
def L__law_draw_1 : SS := (asg 1 (bin (una (bin (bin (bin (rdD 1) (ret (.int 48271)) gMul) (bin (una (una (rdD 2) gInt) gAbs) (ret (.int 65521)) gMod) gAdd) (ret (.int 1)) gAdd) gInt) (ret (.int 2147483647)) gMod))
def C__law_draw_1 : SE PyData := (una (una (rdD 2) gInt) gAbs)
def T__law_draw_1 : SS := (retL (dLst (sCons (bnd (lcS (sScr 0) [2] (toN 2) yesS C__law_draw_1) fun ds => ret (.list ds)) (sCons (una (ret (.int 1)) gNeg) (sCons (ret (.int 0)) (sCons (rdD 1) sNil))))))
def T__law_draw_2 : SS := (seqS (forS (sScr 0) (toN 2) L__law_draw_1) T__law_draw_1)
def Y__law_draw : SS := (seqS (asg 1 (ret (.int 7))) T__law_draw_2)
abbrev N__law_draw : List Str := ["script", "seed", "cell"]
def S__law_draw : Fn := runF 1 3 Y__law_draw
def T__law_take_1 : SS := (setO 0 (ixO 0 (ret (.int 3))) (ret (.int 2)))
def T__law_take_2 : SS := (ifS (toB (bin (ixO 0 (ret (.int 2))) (ret (.int 0)) gEq)) (seqS (setO 0 (bin (una (bin (bin (ixO 0 (ret (.int 3))) (ret (.int 48271)) gMul) (ret (.int 11)) gAdd) gInt) (ret (.int 2147483647)) gMod) (ret (.int 3))) T__law_take_1) nxt)
def T__law_take_3 : SS := (seqS (ifS (toB (bin (ixO 0 (ret (.int 1))) (una (ixO 0 (ret (.int 0))) gLen) gLt)) (setO 0 (bin (ixO 0 (ret (.int 0))) (ixO 0 (ret (.int 1))) gIx) (ret (.int 2))) nxt) T__law_take_2)
def T__law_take_4 : SS := (retD (rdD 2))
def T__law_take_5 : SS := (seqS (setO 0 (bin (ixO 0 (ret (.int 2))) (rdD 1) gDiv) (ret (.int 2))) T__law_take_4)
def T__law_take_6 : SS := (seqS (asg 2 (bin (una (ixO 0 (ret (.int 2))) gInt) (rdD 1) gMod)) T__law_take_5)
def Y__law_take : SS := (seqS (ifS (toB (bin (ixO 0 (ret (.int 2))) (ret (.int 0)) gEq)) (seqS (setO 0 (bin (ixO 0 (ret (.int 1))) (ret (.int 1)) gAdd) (ret (.int 1))) T__law_take_3) nxt) T__law_take_6)
abbrev N__law_take : List Str := ["draw", "many", "found"]
def S__law_take : Fn := runF 2 3 Y__law_take
def T__law_signs_1 : SS := (retD (bin (rdD 0) (ret (.str "abcdefghijklmnopqrstuvwxyz{|}~\t")) gAdd))
def Y__law_signs : SS := (seqS (asg 0 (ret (.str " !\"#$&'()*+,-./0123456789:;<=>?@ABCDEFGHIJKLMNOPQRSTUVWXYZ[\\]^_`"))) T__law_signs_1)
abbrev N__law_signs : List Str := ["signs"]
def S__law_signs : Fn := runF 0 1 Y__law_signs
def L__law_text_1 : SS := (ifS (toB (bin (asD (callM 0 S__law_take (sCons (ret (.int 2)) sNil))) (ret (.int 0)) gEq)) (asg 3 (bin (rdD 3) (bin (rdD 2) (asD (callM 0 S__law_take (sCons (ret (.int 10)) sNil))) gIx) gAdd)) (asg 3 (bin (rdD 3) (bin (mny sNil (callD S__law_signs)) (asD (callM 0 S__law_take (sCons (ret (.int 95)) sNil))) gIx) gAdd)))
def T__law_text_1 : SS := (retD (rdD 3))
def T__law_text_2 : SS := (seqS (forS (sRng1 (asD (callM 0 S__law_take (sCons (bin (rdD 1) (ret (.int 1)) gAdd) sNil)))) (toN 4) L__law_text_1) T__law_text_1)
def T__law_text_3 : SS := (seqS (asg 3 (ret (.str ""))) T__law_text_2)
def Y__law_text : SS := (seqS (asg 2 (ret (.str "\"\\,; =ab1\t"))) T__law_text_3)
abbrev N__law_text : List Str := ["draw", "most", "odd", "found", "k"]
def S__law_text : Fn := runF 2 5 Y__law_text
def C__law_token_1 : SE PyData := (bin (rdD 1) (asD (callM 0 S__law_take (sCons (ret (.int 30)) sNil))) gIx)
def T__law_token_1 : SS := (retD (m1S (ret (.str "")) (bnd (lcS (sRng1 (bin (ret (.int 1)) (asD (callM 0 S__law_take (sCons (ret (.int 5)) sNil))) gAdd)) [2] (toN 2) yesS C__law_token_1) fun ds => ret (.list ds)) gJoin))
def Y__law_token : SS := (seqS (asg 1 (ret (.str "abcxyzABCXYZ0189!#$&'*+-.^_|~`"))) T__law_token_1)
abbrev N__law_token : List Str := ["draw", "signs", "k"]
def S__law_token : Fn := runF 1 3 Y__law_token
def L__law_trimmed_1 : SS := (asg 0 (sSl (rdD 0) (sPart (ret (.int 1))) (ret none)))
def L__law_trimmed_2 : SS := (asg 0 (sSl (rdD 0) (ret none) (sPart (una (ret (.int 1)) gNeg))))
def T__law_trimmed_1 : SS := (retD (rdD 0))
def T__law_trimmed_2 : SS := (seqS (whS (sAnd (toB (bin (rdD 0) (ret (.str "")) gNe)) (toB (bin (bin (rdD 0) (una (ret (.int 1)) gNeg) gIx) (ret (.str " \t")) gIn))) L__law_trimmed_2) T__law_trimmed_1)
def Y__law_trimmed : SS := (seqS (whS (sAnd (toB (bin (rdD 0) (ret (.str "")) gNe)) (toB (bin (bin (rdD 0) (ret (.int 0)) gIx) (ret (.str " \t")) gIn))) L__law_trimmed_1) T__law_trimmed_2)
abbrev N__law_trimmed : List Str := ["text"]
def S__law_trimmed : Fn := runF 1 1 Y__law_trimmed
def T__law_split_1 : SS := (asg 2 (ret (.str "")))
def T__law_split_2 : SS := (asg 2 (bin (rdD 2) (bin (rdD 0) (rdD 4) gIx) gAdd))
def T__law_split_3 : SS := (ifS (sAnd (toB (rdD 3)) (sAnd (toB (bin (rdD 5) (ret (.str "\\")) gEq)) (toB (bin (bin (rdD 4) (ret (.int 1)) gAdd) (una (rdD 0) gLen) gLt)))) (seqS (asg 4 (bin (rdD 4) (ret (.int 1)) gAdd)) T__law_split_2) (ifS (toB (bin (rdD 5) (ret (.str "\"")) gEq)) (asg 3 (una (rdD 3) gNot)) nxt))
def T__law_split_4 : SS := (asg 4 (bin (rdD 4) (ret (.int 1)) gAdd))
def T__law_split_5 : SS := (seqS (ifS (sAnd (toB (bin (rdD 5) (ret (.str ",")) gEq)) (sNot (toB (rdD 3)))) (seqS (appO 1 (mny (sCons (rdD 2) sNil) (callD S__law_trimmed))) T__law_split_1) (seqS (asg 2 (bin (rdD 2) (rdD 5) gAdd)) T__law_split_3)) T__law_split_4)
def L__law_split_1 : SS := (seqS (asg 5 (bin (rdD 0) (rdD 4) gIx)) T__law_split_5)
def C__law_split_1 : SE PyData := (rdD 6)
def C__law_split_2 : SE Bool := (toB (bin (rdD 6) (ret (.str "")) gNe))
def T__law_split_6 : SS := (retL (lcS (sItems (rdA 1)) [6] (toN 6) C__law_split_2 C__law_split_1))
def T__law_split_7 : SS := (seqS (ifS (toB (rdD 3)) (retD (ret .none)) nxt) T__law_split_6)
def T__law_split_8 : SS := (seqS (appO 1 (mny (sCons (rdD 2) sNil) (callD S__law_trimmed))) T__law_split_7)
def T__law_split_9 : SS := (seqS (whS (toB (bin (rdD 4) (una (rdD 0) gLen) gLt)) L__law_split_1) T__law_split_8)
def T__law_split_10 : SS := (seqS (asg 4 (ret (.int 0))) T__law_split_9)
def T__law_split_11 : SS := (seqS (asg 3 (ret (.bool false))) T__law_split_10)
def T__law_split_12 : SS := (seqS (asg 2 (ret (.str ""))) T__law_split_11)
def Y__law_split : SS := (seqS (asgL 1 (dLst sNil)) T__law_split_12)
abbrev N__law_split : List Str := ["value", "found", "piece", "inside", "at", "sign", "one"]
def S__law_split : Fn := runF 1 7 Y__law_split
def T__law_piece_1 : SS := (retD (asD (callM 0 S__law_text (sCons (ret (.int 4)) sNil))))
def T__law_piece_2 : SS := (seqS (ifS (toB (bin (rdD 1) (ret (.int 4)) gEq)) (retD (ret (.str "\"a, b\\\", c\" "))) nxt) T__law_piece_1)
def T__law_piece_3 : SS := (seqS (ifS (toB (bin (rdD 1) (ret (.int 3)) gEq)) (retD (bin (bin (ret (.str "\"")) (rplS (rplS (asD (callM 0 S__law_text (sCons (ret (.int 5)) sNil))) "\\" "\\\\") "\"" "\\\"") gAdd) (ret (.str "\"")) gAdd)) nxt) T__law_piece_2)
def T__law_piece_4 : SS := (seqS (ifS (toB (bin (rdD 1) (ret (.int 2)) gEq)) (retD (ret (.str ","))) nxt) T__law_piece_3)
def T__law_piece_5 : SS := (seqS (ifS (toB (bin (rdD 1) (ret (.int 1)) gEq)) (retD (bin (bnd (dLst (sCons (ret (.str " ")) (sCons (ret (.str "\t")) (sCons (ret (.str "  ")) (sCons (ret (.str ", ")) (sCons (ret (.str ",,")) (sCons (ret (.str " ,")) sNil))))))) fun ds => ret (.list ds)) (asD (callM 0 S__law_take (sCons (ret (.int 6)) sNil))) gIx)) nxt) T__law_piece_4)
def T__law_piece_6 : SS := (seqS (ifS (toB (bin (rdD 1) (ret (.int 0)) gEq)) (retD (asD (callM 0 S__law_token sNil))) nxt) T__law_piece_5)
def Y__law_piece : SS := (seqS (asg 1 (asD (callM 0 S__law_take (sCons (ret (.int 6)) sNil)))) T__law_piece_6)
abbrev N__law_piece : List Str := ["draw", "choice"]
def S__law_piece : Fn := runF 1 2 Y__law_piece
def C_law_1 : SE PyData := (asD (callM 1 S__law_piece sNil))
def L_law_1 : SS := (appO 6 (dTup (sCons (bin (rdD 5) (asD (callM 1 S__law_take (sCons (ret (.int 3)) sNil))) gIx) (sCons (mny (sCons (asD (callM 1 S__law_text (sCons (ret (.int 5)) sNil))) sNil) (callD S__law_trimmed)) sNil))))
def C_law_2 : SE PyData := (bin (rdD 11) (ret (.int 1)) gIx)
def C_law_3 : SE Bool := (toB (bin (bin (rdD 11) (ret (.int 0)) gIx) (rdD 9) gEq))
def T_law_1 : SS := (ifS (toB (bin (mny (sCons (rdD 8) (sCons (rdD 9) sNil)) (callD S_join_values)) (rdD 3) gNe)) (retD (ret (.bool false))) nxt)
def T_law_2 : SS := (seqS (asg 3 (sIf (toB (bin (rdD 10) (bnd (dLst sNil) fun ds => ret (.list ds)) gEq)) (ret .none) (m1S (ret (.str ", ")) (rdD 10) gJoin))) T_law_1)
def L_law_2 : SS := (seqS (asg 10 (bnd (lcS (sItems (rdA 6)) [11] (toN 11) C_law_3 C_law_2) fun ds => ret (.list ds))) T_law_2)
def T_law_3 : SS := (retD (bin (rdD 8) (tupA 6) gEq))
def T_law_4 : SS := (seqS (forS (sItems (rdD 5)) (toN 9) L_law_2) T_law_3)
def T_law_5 : SS := (seqS (asg 8 (tupA 6)) T_law_4)
def T_law_6 : SS := (seqS (forS (sRng1 (asD (callM 1 S__law_take (sCons (ret (.int 7)) sNil)))) (toN 7) L_law_1) T_law_5)
def T_law_7 : SS := (seqS (asgL 6 (dLst sNil)) T_law_6)
def T_law_8 : SS := (seqS (asg 5 (bnd (dLst (sCons (ret (.str "accept")) (sCons (ret (.str "x-a")) (sCons (ret (.str "vary")) sNil)))) fun ds => ret (.list ds))) T_law_7)
def T_law_9 : SS := (seqS (ifS (sOr (sAnd (toB (una (rdD 3) gIsN)) (toB (una (rdD 4) gNotN))) (sAnd (toB (una (rdD 3) gNotN)) (sOr (sNot (toB (una (rdD 4) (gIsi "list")))) (toB (bin (rdD 4) (rdD 3) gNe))))) (retD (ret (.bool false))) nxt) T_law_8)
def T_law_10 : SS := (seqS (asg 4 (mny (sCons (rdD 2) sNil) (callD S_split_list))) T_law_9)
def T_law_11 : SS := (seqS (asg 3 (mny (sCons (rdD 2) sNil) (callD S__law_split))) T_law_10)
def T_law_12 : SS := (seqS (asg 2 (m1S (ret (.str "")) (bnd (lcS (sRng1 (asD (callM 1 S__law_take (sCons (ret (.int 8)) sNil)))) [7] (toN 7) yesS C_law_1) fun ds => ret (.list ds)) gJoin)) T_law_11)
def Y_law : SS := (seqS (asgL 1 (callS 0 S__law_draw)) T_law_12)
abbrev N_law : List Str := ["script", "draw", "value", "due", "actual", "names", "fields", "k", "given", "name", "found", "row"]
def S_law : Fn := runF 1 12 Y_law
theorem lt_0 : Str.ofString " \t" = T [32, 9] := by decide +kernel
theorem lt_1 : Str.ofString "\"" = T [34] := by decide +kernel
theorem lt_2 : Str.ofString "\\" = T [92] := by decide +kernel
theorem lt_3 : Str.ofString "," = T [44] := by decide +kernel
theorem lt_4 : Str.ofString "" = T [] := by decide +kernel
theorem lt_5 : Str.ofString ", " = T [44, 32] := by decide +kernel
theorem lt_6 : Str.ofString " !\"#$&'()*+,-./0123456789:;<=>?@ABCDEFGHIJKLMNOPQRSTUVWXYZ[\\]^_`" = T [32, 33, 34, 35, 36, 38, 39, 40, 41, 42, 43, 44, 45, 46, 47, 48, 49, 50, 51, 52, 53, 54, 55, 56, 57, 58, 59, 60, 61, 62, 63, 64, 65, 66, 67, 68, 69, 70, 71, 72, 73, 74, 75, 76, 77, 78, 79, 80, 81, 82, 83, 84, 85, 86, 87, 88, 89, 90, 91, 92, 93, 94, 95, 96] := by decide +kernel
theorem lt_7 : Str.ofString "abcdefghijklmnopqrstuvwxyz{|}~\t" = T [97, 98, 99, 100, 101, 102, 103, 104, 105, 106, 107, 108, 109, 110, 111, 112, 113, 114, 115, 116, 117, 118, 119, 120, 121, 122, 123, 124, 125, 126, 9] := by decide +kernel
theorem lt_8 : Str.ofString "\"\\,; =ab1\t" = T [34, 92, 44, 59, 32, 61, 97, 98, 49, 9] := by decide +kernel
theorem lt_9 : Str.ofString "abcxyzABCXYZ0189!#$&'*+-.^_|~`" = T [97, 98, 99, 120, 121, 122, 65, 66, 67, 88, 89, 90, 48, 49, 56, 57, 33, 35, 36, 38, 39, 42, 43, 45, 46, 94, 95, 124, 126, 96] := by decide +kernel
theorem lt_10 : Str.ofString " ," = T [32, 44] := by decide +kernel
theorem lt_11 : Str.ofString ",," = T [44, 44] := by decide +kernel
theorem lt_12 : Str.ofString "  " = T [32, 32] := by decide +kernel
theorem lt_13 : Str.ofString "\t" = T [9] := by decide +kernel
theorem lt_14 : Str.ofString " " = T [32] := by decide +kernel
theorem lt_15 : Str.ofString "\\\\" = T [92, 92] := by decide +kernel
theorem lt_16 : Str.ofString "\\\"" = T [92, 34] := by decide +kernel
theorem lt_17 : Str.ofString "\"a, b\\\", c\" " = T [34, 97, 44, 32, 98, 92, 34, 44, 32, 99, 34, 32] := by decide +kernel
theorem lt_18 : Str.ofString "vary" = T [118, 97, 114, 121] := by decide +kernel
theorem lt_19 : Str.ofString "x-a" = T [120, 45, 97] := by decide +kernel
theorem lt_20 : Str.ofString "accept" = T [97, 99, 99, 101, 112, 116] := by decide +kernel
theorem lt_21 : Str.ofString "law_ownanswer_k51_lists_and_joined_values" = T [108, 97, 119, 95, 111, 119, 110, 97, 110, 115, 119, 101, 114, 95, 107, 53, 49, 95, 108, 105, 115, 116, 115, 95, 97, 110, 100, 95, 106, 111, 105, 110, 101, 100, 95, 118, 97, 108, 117, 101, 115] := by decide +kernel
end ownanswer_k51_lists_and_joined_values
namespace ownanswer_k51_lists_and_joined_values
open PySem PySem.Spec L2 Fw
local macro_rules | `(tactic| simp only [walkA, $xs,*] $[$l:location]?) => `(tactic| simp only [ok_some, ok_none, okV_some, okV_none, ↓okV_if, ↓ok_if, ↓ok_ret, ↓ok_bnd, ↓ok_lft, ↓ok_bin, ↓ok_una, ↓ok_binL, ↓ok_unaL, ↓ok_mny, ↓ok_rdD, ↓ok_rdO, ↓ok_rdA, ↓ok_toB, ↓ok_sAnd, ↓ok_sOr, ↓ok_sNot, ↓ok_vAnd, ↓ok_vOr, ↓ok_sIf, ↓ok_chn, ↓ok_sNil, ↓ok_sCons, ↓ok_dTup, ↓ok_dLst, ↓ok_m0S, ↓ok_m1S, ↓ok_m1L, ↓ok_ixO, ↓ok_sPart, ↓ok_sSl, ↓ok_tupO, ↓ok_sItems, ↓ok_sScr, ↓ok_sEnum, ↓ok_sRng1, ↓ok_sRng2, ↓ok_seqS, ↓ok_nxt, ↓ok_brkS, ↓ok_cntS, ↓ok_retN, ↓ok_drpS, ↓ok_asg, ↓ok_asgL, ↓ok_asgG, ↓ok_augS, ↓ok_ifS, ↓ok_retD, ↓ok_retL, ↓ok_retO, ↓ok_appO, ↓ok_setO, ↓ok_extO, ↓ok_popS, ↓ok_forS, ↓ok_forL_nil, ↓ok_lcS, ↓ok_lcL_nil, ↓okV_callD, ↓okV_callV, ↓ok_callM, ↓ok_asD, ↓ok_asL, ↓ok_callS, ↓ok_runF, ↓ok_rplS, ↓ok_tupA, ↓ok_strM, ↓ok_chn3, own?, toN, toT, toNs, wipE, bakE, stp_nx, stp_ct, stp_bk, stp_rt, Fw.collect, ok_yesS, List.getElem?_cons_zero, List.getElem?_cons_succ, List.set_cons_zero, List.set_cons_succ, List.map_cons, List.map_nil, List.length_cons, List.length_nil, List.cons_append, List.nil_append, List.replicate_succ, List.replicate_zero, Nat.reduceAdd, Nat.reduceSub, Nat.reduceLeDiff, Nat.reduceLT, Nat.reduceEqDiff, Int.reduceLT, Int.reduceLE, Int.reduceNeg, Int.reducePow, Int.reduceEq, Option.isSome_some, Option.map_some, Option.map_none, true_and, and_true, if_true, if_false, ite_true, ite_false, Bool.false_eq_true, reduceIte, reduceCtorEq, gAdd_ii, gAdd_ss, gAdd_tt, gSub_ii, gMul_ii, gDiv_ii, gMod_ii, gNeg_i, gLt_ii, gGt_ii, gGe_ii, gLe_ii, eqv_ii, eqv_ss, eqv_bb, eqv_nn, eqv_ni, eqv_in, eqv_ns, eqv_sn, eqv_nb, eqv_bn, eqv_is, eqv_si, eqv_nt, eqv_tn, eqv_nl, eqv_ln, eqv_tt, eqv_ll, eqvA_nn, eqvA_cc, eqvA_nc, eqvA_cn, gEq_ii, gEq_ss, gEq_bb, gEq_nn, gEq_in, gEq_ni, gEq_sn, gEq_ns, gEq_si, gEq_is, gNe_ii, gNe_ss, gNe_bb, gNe_nn, gNot_b, gIsN_n, gIsN_i, gIsN_b, gIsN_s, gIsN_t, gIsN_l, gNotN_n, gNotN_i, gNotN_b, gNotN_s, gNotN_t, gNotN_l, gIx_l, gIx_t, gIx_s, gLen_s, gLen_l, gLen_t, gAbs_i, gInt_i, gInt_b, gInt_s, gOrd_sign, gDivmod_ii, gStr_i, gStr_s, gTuple_l, gTuple_t, gStrip_s, gLstrip_s, gSplit_s, gPartition_s, gJoin_m, gCat_ll, gSl_s, gSl_t, gSl_l, itemsOf_l, itemsOf_t, itemsOf_s, ofString_inj, cMul_r, cMul_l, ixN_lit, atI_lit, atI_m1, cast_lit, String.reduceEq, decide_true, decide_false, Int.reduceSub, Int.reduceAdd, Int.reduceMul, Int.reduceToNat, T_toList, T_len, T_app, T_inj, T_sign, T_cut, T_signs, T_strip, T_empty, gIn_T, gNin_T, gLjust_T, lt_0, lt_1, lt_2, lt_3, lt_4, lt_5, lt_6, lt_7, lt_8, lt_9, lt_10, lt_11, lt_12, lt_13, lt_14, lt_15, lt_16, lt_17, lt_18, lt_19, lt_20, lt_21, $xs,*] $[$l:location]?)
local macro_rules | `(tactic| simp only [walkA] $[$l:location]?) => `(tactic| simp only [ok_some, ok_none, okV_some, okV_none, ↓okV_if, ↓ok_if, ↓ok_ret, ↓ok_bnd, ↓ok_lft, ↓ok_bin, ↓ok_una, ↓ok_binL, ↓ok_unaL, ↓ok_mny, ↓ok_rdD, ↓ok_rdO, ↓ok_rdA, ↓ok_toB, ↓ok_sAnd, ↓ok_sOr, ↓ok_sNot, ↓ok_vAnd, ↓ok_vOr, ↓ok_sIf, ↓ok_chn, ↓ok_sNil, ↓ok_sCons, ↓ok_dTup, ↓ok_dLst, ↓ok_m0S, ↓ok_m1S, ↓ok_m1L, ↓ok_ixO, ↓ok_sPart, ↓ok_sSl, ↓ok_tupO, ↓ok_sItems, ↓ok_sScr, ↓ok_sEnum, ↓ok_sRng1, ↓ok_sRng2, ↓ok_seqS, ↓ok_nxt, ↓ok_brkS, ↓ok_cntS, ↓ok_retN, ↓ok_drpS, ↓ok_asg, ↓ok_asgL, ↓ok_asgG, ↓ok_augS, ↓ok_ifS, ↓ok_retD, ↓ok_retL, ↓ok_retO, ↓ok_appO, ↓ok_setO, ↓ok_extO, ↓ok_popS, ↓ok_forS, ↓ok_forL_nil, ↓ok_lcS, ↓ok_lcL_nil, ↓okV_callD, ↓okV_callV, ↓ok_callM, ↓ok_asD, ↓ok_asL, ↓ok_callS, ↓ok_runF, ↓ok_rplS, ↓ok_tupA, ↓ok_strM, ↓ok_chn3, own?, toN, toT, toNs, wipE, bakE, stp_nx, stp_ct, stp_bk, stp_rt, Fw.collect, ok_yesS, List.getElem?_cons_zero, List.getElem?_cons_succ, List.set_cons_zero, List.set_cons_succ, List.map_cons, List.map_nil, List.length_cons, List.length_nil, List.cons_append, List.nil_append, List.replicate_succ, List.replicate_zero, Nat.reduceAdd, Nat.reduceSub, Nat.reduceLeDiff, Nat.reduceLT, Nat.reduceEqDiff, Int.reduceLT, Int.reduceLE, Int.reduceNeg, Int.reducePow, Int.reduceEq, Option.isSome_some, Option.map_some, Option.map_none, true_and, and_true, if_true, if_false, ite_true, ite_false, Bool.false_eq_true, reduceIte, reduceCtorEq, gAdd_ii, gAdd_ss, gAdd_tt, gSub_ii, gMul_ii, gDiv_ii, gMod_ii, gNeg_i, gLt_ii, gGt_ii, gGe_ii, gLe_ii, eqv_ii, eqv_ss, eqv_bb, eqv_nn, eqv_ni, eqv_in, eqv_ns, eqv_sn, eqv_nb, eqv_bn, eqv_is, eqv_si, eqv_nt, eqv_tn, eqv_nl, eqv_ln, eqv_tt, eqv_ll, eqvA_nn, eqvA_cc, eqvA_nc, eqvA_cn, gEq_ii, gEq_ss, gEq_bb, gEq_nn, gEq_in, gEq_ni, gEq_sn, gEq_ns, gEq_si, gEq_is, gNe_ii, gNe_ss, gNe_bb, gNe_nn, gNot_b, gIsN_n, gIsN_i, gIsN_b, gIsN_s, gIsN_t, gIsN_l, gNotN_n, gNotN_i, gNotN_b, gNotN_s, gNotN_t, gNotN_l, gIx_l, gIx_t, gIx_s, gLen_s, gLen_l, gLen_t, gAbs_i, gInt_i, gInt_b, gInt_s, gOrd_sign, gDivmod_ii, gStr_i, gStr_s, gTuple_l, gTuple_t, gStrip_s, gLstrip_s, gSplit_s, gPartition_s, gJoin_m, gCat_ll, gSl_s, gSl_t, gSl_l, itemsOf_l, itemsOf_t, itemsOf_s, ofString_inj, cMul_r, cMul_l, ixN_lit, atI_lit, atI_m1, cast_lit, String.reduceEq, decide_true, decide_false, Int.reduceSub, Int.reduceAdd, Int.reduceMul, Int.reduceToNat, T_toList, T_len, T_app, T_inj, T_sign, T_cut, T_signs, T_strip, T_empty, gIn_T, gNin_T, gLjust_T, lt_0, lt_1, lt_2, lt_3, lt_4, lt_5, lt_6, lt_7, lt_8, lt_9, lt_10, lt_11, lt_12, lt_13, lt_14, lt_15, lt_16, lt_17, lt_18, lt_19, lt_20, lt_21] $[$l:location]?)

abbrev ts (ls : List (List Nat)) : List PyData := ls.map fun l => .str (T l)
abbrev sg (l : List Nat) : List PyData := l.map fun c => .str (T [c])
/-- the pieces between the marks, and whether a quote is open at the end -/
def cutF (m : Nat) : List Nat → Bool → Bool → List Nat → List (List Nat) × Bool
  | [], q, _, cur => ([cur], q)
  | c :: r, q, t, cur =>
    if t then cutF m r q false (cur ++ [c])
    else if c = 34 then cutF m r (!q) false (cur ++ [c])
    else if c = 92 then cutF m r q q (cur ++ [c])
    else if c = m ∧ q = false then (cur :: (cutF m r q false []).1, (cutF m r q false []).2)
    else cutF m r q false (cur ++ [c])
theorem cutF_len (m : Nat) : ∀ (r : List Nat) (q t : Bool) (cur : List Nat), (cutF m r q t cur).1.length ≤ r.length + 1 ∧ ∀ p ∈ (cutF m r q t cur).1, p.length ≤ cur.length + r.length := by
  intro r
  induction r with
  | nil => intro q t cur; simp [cutF]
  | cons c r ih =>
    intro q t cur
    unfold cutF
    split
    · have := ih q false (cur ++ [c]); simp only [List.length_append, List.length_cons, List.length_nil] at this ⊢; exact ⟨by omega, fun p hp => by have := this.2 p hp; omega⟩
    · split
      · have := ih (!q) false (cur ++ [c]); simp only [List.length_append, List.length_cons, List.length_nil] at this ⊢; exact ⟨by omega, fun p hp => by have := this.2 p hp; omega⟩
      · split
        · have := ih q q (cur ++ [c]); simp only [List.length_append, List.length_cons, List.length_nil] at this ⊢; exact ⟨by omega, fun p hp => by have := this.2 p hp; omega⟩
        · split
          · have := ih q false []; simp only [List.length_cons, List.length_nil] at this ⊢
            refine ⟨by omega, fun p hp => ?_⟩
            rcases List.mem_cons.mp hp with rfl | hp
            · omega
            · have := this.2 p hp; omega
          · have := ih q false (cur ++ [c]); simp only [List.length_append, List.length_cons, List.length_nil] at this ⊢; exact ⟨by omega, fun p hp => by have := this.2 p hp; omega⟩
theorem cut_mid {l pre : List Nat} {b : Nat} (hb : b ≤ pre.length) (h : ∃ r, l = pre ++ r) : cutL l (some (b : Int)) (some (pre.length : Int)) = pre.drop b := by
  obtain ⟨r, rfl⟩ := h
  unfold cutL
  rw [sIx_nat, sIx_nat]
  have h1 : min b (pre ++ r).length = b := by simp; omega
  have h2 : min pre.length (pre ++ r).length = pre.length := by simp
  rw [h1, h2, List.drop_append_of_le_length hb, List.take_append_of_le_length (by simp)]
  exact List.take_of_length_le (by simp)
theorem cut_from {l : List Nat} {b : Nat} (hb : b ≤ l.length) : cutL l (some (b : Int)) none = l.drop b := by
  unfold cutL
  rw [sIx_nat]
  have h1 : min b l.length = b := by omega
  rw [h1]
  show (l.drop b).take (l.length - b) = _
  exact List.take_of_length_le (by simp)
theorem cut_loop {l : List Nat} {m : Nat} (hl : l.length < sizeLine) {Q : Fl → En → Prop} : ∀ (r pre : List Nat) (parts : List (List Nat)) (b : Nat) (q t : Bool) (x y : Sl), l = pre ++ r → b ≤ pre.length → parts.length ≤ pre.length →
    (∀ parts' b' q' t' x y, b' ≤ l.length → parts'.length ≤ l.length → parts' ++ [l.drop b'] = parts ++ (cutF m r q t (pre.drop b)).1 → q' = (cutF m r q t (pre.drop b)).2 → Q .nx [.dat (.str (T l)), .dat (.str (T [m])), .own (ts parts'), .dat (.int (b' : Nat)), .dat (.bool q'), .dat (.bool t'), x, y]) →
    Ok (forL (toT [6, 7]) L__cut_1 (pairs pre.length (sg r)) [.dat (.str (T l)), .dat (.str (T [m])), .own (ts parts), .dat (.int (b : Nat)), .dat (.bool q), .dat (.bool t), x, y]) Q := by
  intro r
  induction r with
  | nil =>
    intro pre parts b q t x y hl' hb hp k
    simp only [List.map_nil, pairs, ok_forL_nil]
    rw [List.append_nil] at hl'
    subst hl'
    exact k parts b q t x y hb hp rfl rfl
  | cons c r ih =>
    intro pre parts b q t x y hl' hb hp k
    have e2 : l = (pre ++ [c]) ++ r := by rw [hl']; simp
    have hlen : l.length = pre.length + r.length + 1 := by rw [hl']; simp; omega
    have hd : (pre ++ [c]).drop b = pre.drop b ++ [c] := List.drop_append_of_le_length hb
    have hs := sizeLine_eq
    have hlc : (pre ++ [c]).length = pre.length + 1 := by simp
    have go : ∀ (q2 t2 : Bool) (x y : Sl), cutF m (c :: r) q t (pre.drop b) = cutF m r q2 t2 (pre.drop b ++ [c]) →
        Ok (forL (toT [6, 7]) L__cut_1 (pairs (pre.length + 1) (sg r)) [.dat (.str (T l)), .dat (.str (T [m])), .own (ts parts), .dat (.int (b : Nat)), .dat (.bool q2), .dat (.bool t2), x, y]) Q := fun q2 t2 x y e => by
      rw [← hlc]
      refine ih (pre ++ [c]) parts b q2 t2 x y e2 (by omega) (by omega) fun p' b' q' t' x y h1 h2 h3 h4 => k p' b' q' t' x y h1 h2 ?_ ?_
      · rw [e, ← hd]; exact h3
      · rw [e, ← hd]; exact h4
    simp only [walkA, List.map_cons, pairs, ok_forL_cons]
    cases t with
    | true =>
      simp only [walkA, L__cut_1]
      exact go q false _ _ (by rw [cutF, if_pos rfl])
    | false =>
      simp only [walkA, L__cut_1]
      by_cases h1 : c = 34
      · subst h1
        simp only [walkA]
        exact go (!q) false _ _ (by rw [cutF]; simp)
      · have n1 : ¬ ([c] : List Nat) = [34] := fun z => h1 (List.cons.inj z).1
        simp only [walkA, n1]
        by_cases h2 : c = 92
        · subst h2
          simp only [walkA]
          exact go q q _ _ (by rw [cutF]; simp)
        · have n2 : ¬ ([c] : List Nat) = [92] := fun z => h2 (List.cons.inj z).1
          simp only [walkA, n2]
          by_cases h3 : c = m
          · subst h3
            cases q with
            | true =>
              simp only [walkA, Bool.not_true]
              exact go true false _ _ (by rw [cutF]; simp [h1, h2])
            | false =>
              simp only [walkA, T__cut_1, Bool.not_false, cut_mid hb ⟨c :: r, hl'⟩]
              refine ⟨by omega, by rw [List.length_map]; omega, ?_⟩
              have eb : ((pre.length : Nat) : Int) + 1 = ((pre.length + 1 : Nat) : Int) := by omega
              have ep : ts parts ++ [PyData.str (T (pre.drop b))] = ts (parts ++ [pre.drop b]) := by simp [ts]
              rw [eb, ep, ← hlc]
              refine ih (pre ++ [c]) (parts ++ [pre.drop b]) (pre ++ [c]).length false false _ _ e2 (Nat.le_refl _) (by simp; omega) fun p' b' q' t' x y h1' h2' h3' h4' => k p' b' q' t' x y h1' h2' ?_ ?_
              · rw [h3', List.drop_length, cutF]
                simp [h1, h2]
              · rw [h4', List.drop_length, cutF]
                simp [h1, h2]
          · have n3 : ¬ ([c] : List Nat) = [m] := fun z => h3 (List.cons.inj z).1
            simp only [walkA, n3]
            exact go q false _ _ (by rw [cutF]; simp [h1, h2, h3])
theorem cut_ok {l : List Nat} {m : Nat} (hl : l.length < sizeLine) {Q : Sl → En → Prop} (q : Q (.dat (if (cutF m l false false []).2 then .none else .list (ts (cutF m l false false []).1))) [.un, .un]) : Ok (S__cut [.dat (.str (T l)), .dat (.str (T [m]))]) Q := by
  have hs := sizeLine_eq
  unfold S__cut
  rw [ok_runF]
  refine ⟨rfl, ?_⟩
  simp only [walkA, Y__cut, T__cut_7, T__cut_6, T__cut_5, T__cut_4]
  refine ⟨by omega, ?_⟩
  refine cut_loop hl l [] [] 0 false false .un .un rfl (Nat.le_refl _) (Nat.le_refl _) fun p' b' q' t' x y h1 h2 h3 h4 => ?_
  simp only [walkA, T__cut_3, T__cut_2, cut_from h1]
  refine ⟨by omega, by rw [List.length_map]; omega, ?_⟩
  have ep : ts p' ++ [PyData.str (T (l.drop b'))] = ts (p' ++ [l.drop b']) := by simp [ts]
  rw [ep, h3, h4]
  cases hq : (cutF m l false false []).2 with
  | true =>
    rw [hq] at q
    simp only [walkA, List.drop_nil, hq] at q ⊢
    exact q
  | false =>
    rw [hq] at q
    simp only [walkA, List.drop_nil, hq] at q ⊢
    exact q
end ownanswer_k51_lists_and_joined_values
namespace ownanswer_k51_lists_and_joined_values
open PySem PySem.Spec L2 Fw
local macro_rules | `(tactic| simp only [walkA, $xs,*] $[$l:location]?) => `(tactic| simp only [ok_some, ok_none, okV_some, okV_none, ↓okV_if, ↓ok_if, ↓ok_ret, ↓ok_bnd, ↓ok_lft, ↓ok_bin, ↓ok_una, ↓ok_binL, ↓ok_unaL, ↓ok_mny, ↓ok_rdD, ↓ok_rdO, ↓ok_rdA, ↓ok_toB, ↓ok_sAnd, ↓ok_sOr, ↓ok_sNot, ↓ok_vAnd, ↓ok_vOr, ↓ok_sIf, ↓ok_chn, ↓ok_sNil, ↓ok_sCons, ↓ok_dTup, ↓ok_dLst, ↓ok_m0S, ↓ok_m1S, ↓ok_m1L, ↓ok_ixO, ↓ok_sPart, ↓ok_sSl, ↓ok_tupO, ↓ok_sItems, ↓ok_sScr, ↓ok_sEnum, ↓ok_sRng1, ↓ok_sRng2, ↓ok_seqS, ↓ok_nxt, ↓ok_brkS, ↓ok_cntS, ↓ok_retN, ↓ok_drpS, ↓ok_asg, ↓ok_asgL, ↓ok_asgG, ↓ok_augS, ↓ok_ifS, ↓ok_retD, ↓ok_retL, ↓ok_retO, ↓ok_appO, ↓ok_setO, ↓ok_extO, ↓ok_popS, ↓ok_forS, ↓ok_forL_nil, ↓ok_lcS, ↓ok_lcL_nil, ↓okV_callD, ↓okV_callV, ↓ok_callM, ↓ok_asD, ↓ok_asL, ↓ok_callS, ↓ok_runF, ↓ok_rplS, ↓ok_tupA, ↓ok_strM, ↓ok_chn3, own?, toN, toT, toNs, wipE, bakE, stp_nx, stp_ct, stp_bk, stp_rt, Fw.collect, ok_yesS, List.getElem?_cons_zero, List.getElem?_cons_succ, List.set_cons_zero, List.set_cons_succ, List.map_cons, List.map_nil, List.length_cons, List.length_nil, List.cons_append, List.nil_append, List.replicate_succ, List.replicate_zero, Nat.reduceAdd, Nat.reduceSub, Nat.reduceLeDiff, Nat.reduceLT, Nat.reduceEqDiff, Int.reduceLT, Int.reduceLE, Int.reduceNeg, Int.reducePow, Int.reduceEq, Option.isSome_some, Option.map_some, Option.map_none, true_and, and_true, if_true, if_false, ite_true, ite_false, Bool.false_eq_true, reduceIte, reduceCtorEq, gAdd_ii, gAdd_ss, gAdd_tt, gSub_ii, gMul_ii, gDiv_ii, gMod_ii, gNeg_i, gLt_ii, gGt_ii, gGe_ii, gLe_ii, eqv_ii, eqv_ss, eqv_bb, eqv_nn, eqv_ni, eqv_in, eqv_ns, eqv_sn, eqv_nb, eqv_bn, eqv_is, eqv_si, eqv_nt, eqv_tn, eqv_nl, eqv_ln, eqv_tt, eqv_ll, eqvA_nn, eqvA_cc, eqvA_nc, eqvA_cn, gEq_ii, gEq_ss, gEq_bb, gEq_nn, gEq_in, gEq_ni, gEq_sn, gEq_ns, gEq_si, gEq_is, gNe_ii, gNe_ss, gNe_bb, gNe_nn, gNot_b, gIsN_n, gIsN_i, gIsN_b, gIsN_s, gIsN_t, gIsN_l, gNotN_n, gNotN_i, gNotN_b, gNotN_s, gNotN_t, gNotN_l, gIx_l, gIx_t, gIx_s, gLen_s, gLen_l, gLen_t, gAbs_i, gInt_i, gInt_b, gInt_s, gOrd_sign, gDivmod_ii, gStr_i, gStr_s, gTuple_l, gTuple_t, gStrip_s, gLstrip_s, gSplit_s, gPartition_s, gJoin_m, gCat_ll, gSl_s, gSl_t, gSl_l, itemsOf_l, itemsOf_t, itemsOf_s, ofString_inj, cMul_r, cMul_l, ixN_lit, atI_lit, atI_m1, cast_lit, String.reduceEq, decide_true, decide_false, Int.reduceSub, Int.reduceAdd, Int.reduceMul, Int.reduceToNat, T_toList, T_len, T_app, T_inj, T_sign, T_cut, T_signs, T_strip, T_empty, gIn_T, gNin_T, gLjust_T, lt_0, lt_1, lt_2, lt_3, lt_4, lt_5, lt_6, lt_7, lt_8, lt_9, lt_10, lt_11, lt_12, lt_13, lt_14, lt_15, lt_16, lt_17, lt_18, lt_19, lt_20, lt_21, $xs,*] $[$l:location]?)
local macro_rules | `(tactic| simp only [walkA] $[$l:location]?) => `(tactic| simp only [ok_some, ok_none, okV_some, okV_none, ↓okV_if, ↓ok_if, ↓ok_ret, ↓ok_bnd, ↓ok_lft, ↓ok_bin, ↓ok_una, ↓ok_binL, ↓ok_unaL, ↓ok_mny, ↓ok_rdD, ↓ok_rdO, ↓ok_rdA, ↓ok_toB, ↓ok_sAnd, ↓ok_sOr, ↓ok_sNot, ↓ok_vAnd, ↓ok_vOr, ↓ok_sIf, ↓ok_chn, ↓ok_sNil, ↓ok_sCons, ↓ok_dTup, ↓ok_dLst, ↓ok_m0S, ↓ok_m1S, ↓ok_m1L, ↓ok_ixO, ↓ok_sPart, ↓ok_sSl, ↓ok_tupO, ↓ok_sItems, ↓ok_sScr, ↓ok_sEnum, ↓ok_sRng1, ↓ok_sRng2, ↓ok_seqS, ↓ok_nxt, ↓ok_brkS, ↓ok_cntS, ↓ok_retN, ↓ok_drpS, ↓ok_asg, ↓ok_asgL, ↓ok_asgG, ↓ok_augS, ↓ok_ifS, ↓ok_retD, ↓ok_retL, ↓ok_retO, ↓ok_appO, ↓ok_setO, ↓ok_extO, ↓ok_popS, ↓ok_forS, ↓ok_forL_nil, ↓ok_lcS, ↓ok_lcL_nil, ↓okV_callD, ↓okV_callV, ↓ok_callM, ↓ok_asD, ↓ok_asL, ↓ok_callS, ↓ok_runF, ↓ok_rplS, ↓ok_tupA, ↓ok_strM, ↓ok_chn3, own?, toN, toT, toNs, wipE, bakE, stp_nx, stp_ct, stp_bk, stp_rt, Fw.collect, ok_yesS, List.getElem?_cons_zero, List.getElem?_cons_succ, List.set_cons_zero, List.set_cons_succ, List.map_cons, List.map_nil, List.length_cons, List.length_nil, List.cons_append, List.nil_append, List.replicate_succ, List.replicate_zero, Nat.reduceAdd, Nat.reduceSub, Nat.reduceLeDiff, Nat.reduceLT, Nat.reduceEqDiff, Int.reduceLT, Int.reduceLE, Int.reduceNeg, Int.reducePow, Int.reduceEq, Option.isSome_some, Option.map_some, Option.map_none, true_and, and_true, if_true, if_false, ite_true, ite_false, Bool.false_eq_true, reduceIte, reduceCtorEq, gAdd_ii, gAdd_ss, gAdd_tt, gSub_ii, gMul_ii, gDiv_ii, gMod_ii, gNeg_i, gLt_ii, gGt_ii, gGe_ii, gLe_ii, eqv_ii, eqv_ss, eqv_bb, eqv_nn, eqv_ni, eqv_in, eqv_ns, eqv_sn, eqv_nb, eqv_bn, eqv_is, eqv_si, eqv_nt, eqv_tn, eqv_nl, eqv_ln, eqv_tt, eqv_ll, eqvA_nn, eqvA_cc, eqvA_nc, eqvA_cn, gEq_ii, gEq_ss, gEq_bb, gEq_nn, gEq_in, gEq_ni, gEq_sn, gEq_ns, gEq_si, gEq_is, gNe_ii, gNe_ss, gNe_bb, gNe_nn, gNot_b, gIsN_n, gIsN_i, gIsN_b, gIsN_s, gIsN_t, gIsN_l, gNotN_n, gNotN_i, gNotN_b, gNotN_s, gNotN_t, gNotN_l, gIx_l, gIx_t, gIx_s, gLen_s, gLen_l, gLen_t, gAbs_i, gInt_i, gInt_b, gInt_s, gOrd_sign, gDivmod_ii, gStr_i, gStr_s, gTuple_l, gTuple_t, gStrip_s, gLstrip_s, gSplit_s, gPartition_s, gJoin_m, gCat_ll, gSl_s, gSl_t, gSl_l, itemsOf_l, itemsOf_t, itemsOf_s, ofString_inj, cMul_r, cMul_l, ixN_lit, atI_lit, atI_m1, cast_lit, String.reduceEq, decide_true, decide_false, Int.reduceSub, Int.reduceAdd, Int.reduceMul, Int.reduceToNat, T_toList, T_len, T_app, T_inj, T_sign, T_cut, T_signs, T_strip, T_empty, gIn_T, gNin_T, gLjust_T, lt_0, lt_1, lt_2, lt_3, lt_4, lt_5, lt_6, lt_7, lt_8, lt_9, lt_10, lt_11, lt_12, lt_13, lt_14, lt_15, lt_16, lt_17, lt_18, lt_19, lt_20, lt_21] $[$l:location]?)

abbrev wW : List Nat := [32, 9]
theorem wh_test_head {r : List Nat} (hl : r.length ≤ sizeLine) {Q : Bool → En → Prop} {rest : En} (q : Q (match r with | c :: _ => decide (c ∈ wW) | [] => false) (.dat (.str (T r)) :: rest)) :
    Ok (sAnd (toB (bin (rdD 0) (ret (.str "")) gNe)) (toB (bin (bin (rdD 0) (ret (.int 0)) gIx) (ret (.str " \t")) gIn)) (.dat (.str (T r)) :: rest)) Q := by
  cases r with
  | nil =>
    simp only [walkA, Bool.not_true]
    exact q
  | cons c r =>
    simp only [walkA, List.cons_ne_nil, Bool.not_false]
    exact ⟨by simpa using hl, q⟩
theorem wh_test_last {r : List Nat} (hl : r.length ≤ sizeLine) {Q : Bool → En → Prop} {rest : En} (q : Q (match r.getLast? with | some c => decide (c ∈ wW) | none => false) (.dat (.str (T r)) :: rest)) :
    Ok (sAnd (toB (bin (rdD 0) (ret (.str "")) gNe)) (toB (bin (bin (rdD 0) (una (ret (.int 1)) gNeg) gIx) (ret (.str " \t")) gIn)) (.dat (.str (T r)) :: rest)) Q := by
  cases h : r.getLast? with
  | none =>
    rw [List.getLast?_eq_none_iff] at h
    subst h
    simp only [walkA, Bool.not_true]
    exact q
  | some c =>
    have hne : r ≠ [] := fun z => by rw [z] at h; cases h
    rw [h] at q
    simp only [walkA, hne, Bool.not_false, h]
    exact ⟨by simpa using hl, q⟩
theorem cut_tail {l : List Nat} : cutL l (some 1) none = l.tail := by
  cases l with
  | nil => rfl
  | cons c l =>
    have := @cut_from (c :: l) 1 (by simp)
    rw [show ((1 : Nat) : Int) = 1 from rfl] at this
    rw [this]; rfl
theorem cut_init {l : List Nat} : cutL l none (some (-1)) = l.dropLast := by
  unfold cutL
  have h1 : HT.sIx l.length 0 none = 0 := rfl
  have h2 : HT.sIx l.length l.length (some (-1)) = l.length - 1 := by
    unfold HT.sIx
    show (if (-1 : Int) < 0 then _ else _) = _
    rw [if_pos (by omega)]
    omega
  rw [h1, h2, List.drop_zero, List.dropLast_eq_take]
  rfl
theorem ltrim_ok {l : List Nat} (hl : l.length < sizeLine) {Q : Sl → En → Prop} (q : Q (.dat (.str (T (trimL wW l)))) [.un]) : Ok (S__law_trimmed [.dat (.str (T l))]) Q := by
  have hs := sizeLine_eq
  unfold S__law_trimmed
  rw [ok_runF]
  refine ⟨rfl, ?_⟩
  simp only [Y__law_trimmed, ↓ok_seqS]
  refine whS_inv (fun k E => ∃ r, E = [.dat (.str (T r))] ∧ r.length = k ∧ r.length ≤ l.length ∧ r.dropWhile (fun c => decide (c ∈ wW)) = l.dropWhile fun c => decide (c ∈ wW)) l.length _ ⟨l, by simp only [own?, toN, toT, toNs, wipE, bakE, stp_nx, stp_ct, stp_bk, stp_rt, Fw.collect, ok_yesS, List.getElem?_cons_zero, List.getElem?_cons_succ, List.set_cons_zero, List.set_cons_succ, List.map_cons, List.map_nil, List.length_cons, List.length_nil, List.cons_append, List.nil_append, List.replicate_succ, List.replicate_zero, Nat.reduceAdd, Nat.reduceSub, Nat.reduceLeDiff, Nat.reduceLT, Nat.reduceEqDiff, Int.reduceLT, Int.reduceLE, Int.reduceNeg, Int.reducePow, Int.reduceEq, Option.isSome_some, Option.map_some, Option.map_none, true_and, and_true, if_true, if_false, ite_true, ite_false, Bool.false_eq_true, reduceIte, reduceCtorEq], rfl, Nat.le_refl _, rfl⟩ (by omega) ?_
  rintro k E ⟨r, rfl, hk, hle, hd⟩
  refine wh_test_head (by omega) ?_
  cases r with
  | nil =>
    simp only [own?, toN, toT, toNs, wipE, bakE, stp_nx, stp_ct, stp_bk, stp_rt, Fw.collect, ok_yesS, List.getElem?_cons_zero, List.getElem?_cons_succ, List.set_cons_zero, List.set_cons_succ, List.map_cons, List.map_nil, List.length_cons, List.length_nil, List.cons_append, List.nil_append, List.replicate_succ, List.replicate_zero, Nat.reduceAdd, Nat.reduceSub, Nat.reduceLeDiff, Nat.reduceLT, Nat.reduceEqDiff, Int.reduceLT, Int.reduceLE, Int.reduceNeg, Int.reducePow, Int.reduceEq, Option.isSome_some, Option.map_some, Option.map_none, true_and, and_true, if_true, if_false, ite_true, ite_false, Bool.false_eq_true, reduceIte, reduceCtorEq]
    rw [List.dropWhile_nil] at hd
    simp only [T__law_trimmed_2, ↓ok_seqS]
    refine whS_inv (fun k E => E = [.dat (.str (T []))]) 0 _ rfl (by omega) ?_
    rintro k E rfl
    refine wh_test_last (by simp) ?_
    simp only [walkA, T__law_trimmed_1, List.getLast?_nil]
    have : trimL wW l = [] := by unfold trimL; rw [← hd]; rfl
    rw [this] at q
    exact q
  | cons c r =>
    by_cases hc : c ∈ wW
    · simp only [walkA, L__law_trimmed_1, hc, cut_tail, List.tail_cons, stp]
      simp only [List.length_cons] at hk hle
      rw [List.dropWhile_cons, if_pos (decide_eq_true hc)] at hd
      exact ⟨by simpa using (by omega : r.length + 1 ≤ sizeLine), r.length, by omega, r, rfl, rfl, by omega, hd⟩
    · simp only [hc, own?, toN, toT, toNs, wipE, bakE, stp_nx, stp_ct, stp_bk, stp_rt, Fw.collect, ok_yesS, List.getElem?_cons_zero, List.getElem?_cons_succ, List.set_cons_zero, List.set_cons_succ, List.map_cons, List.map_nil, List.length_cons, List.length_nil, List.cons_append, List.nil_append, List.replicate_succ, List.replicate_zero, Nat.reduceAdd, Nat.reduceSub, Nat.reduceLeDiff, Nat.reduceLT, Nat.reduceEqDiff, Int.reduceLT, Int.reduceLE, Int.reduceNeg, Int.reducePow, Int.reduceEq, Option.isSome_some, Option.map_some, Option.map_none, true_and, and_true, if_true, if_false, ite_true, ite_false, Bool.false_eq_true, reduceIte, reduceCtorEq, decide_false]
      rw [List.dropWhile_cons, if_neg (by simpa using hc)] at hd
      generalize hr : c :: r = r0 at *
      simp only [T__law_trimmed_2, ↓ok_seqS]
      refine whS_inv (fun k E => ∃ r, E = [.dat (.str (T r))] ∧ r.length = k ∧ r.length ≤ l.length ∧ trimR wW r = trimR wW r0) r0.length _ ⟨r0, rfl, rfl, hle, rfl⟩ (by omega) ?_
      rintro k2 E ⟨r1, rfl, hk2, hle2, hd2⟩
      refine wh_test_last (by omega) ?_
      have fin : ∀ r1 : List Nat, trimR wW r1 = trimR wW r0 → trimR wW r1 = r1 → T (trimL wW l) = T r1 := fun r1 h1 h2 => by
        unfold trimL; rw [← hd, ← h1, h2]
      cases h : r1.getLast? with
      | none =>
        rw [List.getLast?_eq_none_iff] at h
        subst h
        simp only [walkA, T__law_trimmed_1]
        rw [fin [] hd2 rfl] at q
        exact q
      | some d =>
        have e1 : r1 = r1.dropLast ++ [d] := by
          obtain ⟨ys, rfl⟩ := List.getLast?_eq_some_iff.mp h
          simp
        by_cases hd' : d ∈ wW
        · simp only [walkA, L__law_trimmed_2, hd', cut_init, stp]
          have hl1 : r1.dropLast.length + 1 = r1.length := by conv => rhs; rw [e1]
                                                              simp
          refine ⟨by simpa using (by omega : r1.length ≤ sizeLine), r1.dropLast.length, by omega, r1.dropLast, rfl, rfl, by omega, ?_⟩
          rw [← hd2]
          conv => rhs; rw [e1]
          unfold trimR
          rw [List.reverse_append, List.reverse_singleton, List.singleton_append, List.dropWhile_cons, if_pos (decide_eq_true hd')]
        · simp only [walkA, T__law_trimmed_1, hd']
          have : trimR wW r1 = r1 := by
            rw [e1]
            unfold trimR
            rw [List.reverse_append, List.reverse_singleton, List.singleton_append, List.dropWhile_cons, if_neg (by simpa using hd')]
            simp
          rw [fin r1 hd2 this] at q
          exact q
theorem trimR_len (l : List Nat) : (trimR wW l).length ≤ l.length := by
  unfold trimR
  rw [List.length_reverse]
  have := (List.dropWhile_sublist (l := l.reverse) fun c => decide (c ∈ wW)).length_le
  simpa using this
theorem trimL_len (l : List Nat) : (trimL wW l).length ≤ l.length := by
  unfold trimL
  have h1 := trimR_len (l.dropWhile fun c => decide (c ∈ wW))
  have := (List.dropWhile_sublist (l := l) fun c => decide (c ∈ wW)).length_le
  omega
abbrev CU (l : List Nat) := cutF 44 l false false []
theorem lsplit_ok {l : List Nat} (hl : l.length < 16000000) {Q : Sl → En → Prop}
    (q : Q (if (CU l).2 then .dat .none else .own (ts (((CU l).1.map (trimL wW)).filter fun p => decide (p ≠ [])))) [.un]) : Ok (S__law_split [.dat (.str (T l))]) Q := by
  have hs := sizeLine_eq
  unfold S__law_split
  rw [ok_runF]
  refine ⟨rfl, ?_⟩
  simp only [Y__law_split, T__law_split_12, T__law_split_11, T__law_split_10, T__law_split_9, ↓ok_seqS, ↓ok_asgL, ↓ok_asg, ↓ok_dLst, ↓ok_sNil, ↓ok_ret, own?, toN, toT, toNs, wipE, bakE, stp_nx, stp_ct, stp_bk, stp_rt, Fw.collect, ok_yesS, List.getElem?_cons_zero, List.getElem?_cons_succ, List.set_cons_zero, List.set_cons_succ, List.map_cons, List.map_nil, List.length_cons, List.length_nil, List.cons_append, List.nil_append, List.replicate_succ, List.replicate_zero, Nat.reduceAdd, Nat.reduceSub, Nat.reduceLeDiff, Nat.reduceLT, Nat.reduceEqDiff, Int.reduceLT, Int.reduceLE, Int.reduceNeg, Int.reducePow, Int.reduceEq, Option.isSome_some, Option.map_some, Option.map_none, true_and, and_true, if_true, if_false, ite_true, ite_false, Bool.false_eq_true, reduceIte, reduceCtorEq, lt_0, lt_1, lt_2, lt_3, lt_4, lt_5, lt_6, lt_7, lt_8, lt_9, lt_10, lt_11, lt_12, lt_13, lt_14, lt_15, lt_16, lt_17, lt_18, lt_19, lt_20, lt_21]
  refine ⟨by omega, ?_⟩
  refine whS_inv (fun k E => ∃ (at' : Nat) (found : List (List Nat)) (piece : List Nat) (i : Bool) (x : Sl), E = [.dat (.str (T l)), .own (ts (found.map (trimL wW))), .dat (.str (T piece)), .dat (.bool i), .dat (.int (at' : Nat)), x, .un] ∧ k = l.length - at' ∧ at' ≤ l.length ∧
    found.length ≤ at' ∧ piece.length ≤ at' ∧ found ++ (cutF 44 (l.drop at') i false piece).1 = (CU l).1 ∧ (cutF 44 (l.drop at') i false piece).2 = (CU l).2) l.length _ ⟨0, [], [], false, .un, rfl, by simp, by omega, by simp, by simp, rfl, rfl⟩ (by omega) ?_
  rintro k E ⟨at', found, piece, i, x, rfl, hk, hat, hf, hp, e1, e2⟩
  simp only [walkA]
  refine ⟨by omega, ?_⟩
  by_cases hlt : at' < l.length
  · have hi : ((at' : Nat) : Int) < (l.length : Nat) := by omega
    have ei : ((at' : Nat) : Int) + 1 = ((at' + 1 : Nat) : Int) := by omega
    simp only [walkA, hi, L__law_split_1, Fw.atI_nat, List.getElem?_eq_getElem hlt]
    have hd : l.drop at' = l[at'] :: l.drop (at' + 1) := List.drop_eq_getElem_cons hlt
    rw [hd] at e1 e2
    generalize hc : l[at'] = c at *
    refine ⟨by omega, ?_⟩
    by_cases h1 : c = 44 ∧ i = false
    · obtain ⟨rfl, rfl⟩ := h1
      simp only [walkA, T__law_split_5, Bool.not_false]
      refine ltrim_ok (by omega) ?_
      simp only [walkA, T__law_split_1, T__law_split_4, stp, ei]
      rw [cutF] at e1 e2
      simp only [if_false, if_true, and_true, Bool.false_eq_true, show ¬ (44 = 34) by decide, show ¬ (44 = 92) by decide] at e1 e2
      refine ⟨by simp only [List.length_map]; omega, l.length - (at' + 1), by omega, at' + 1, found ++ [piece], [], false, .dat (.str (T [44])), by simp [ts], rfl, by omega, by simp; omega, by simp, ?_, e2⟩
      rw [List.append_assoc]; exact e1
    · have fin : ∀ (i' : Bool) (n : Nat) (pc : List Nat), at' + 1 ≤ n → n ≤ l.length → pc.length ≤ n → cutF 44 (c :: l.drop (at' + 1)) i false piece = cutF 44 (l.drop n) i' false pc →
          ∃ j, j < k ∧ ∃ (at' : Nat) (found' : List (List Nat)) (piece : List Nat) (i : Bool) (x : Sl), ([.dat (.str (T l)), .own (ts (found.map (trimL wW))), .dat (.str (T pc)), .dat (.bool i'), .dat (.int (n : Nat)), .dat (.str (T [c])), .un] : En) = [.dat (.str (T l)), .own (ts (found'.map (trimL wW))), .dat (.str (T piece)), .dat (.bool i), .dat (.int (at' : Nat)), x, .un] ∧ j = l.length - at' ∧ at' ≤ l.length ∧
            found'.length ≤ at' ∧ piece.length ≤ at' ∧ found' ++ (cutF 44 (l.drop at') i false piece).1 = (CU l).1 ∧ (cutF 44 (l.drop at') i false piece).2 = (CU l).2 := fun i' n pc h2 h3 h4 h5 => by
        rw [h5] at e1 e2
        exact ⟨l.length - n, by omega, n, found, pc, i', _, rfl, rfl, h3, by omega, h4, e1, e2⟩
      have e3 : ((decide ([c] = [44]) && !i) = false) := by
        cases i with
        | true => simp
        | false =>
          have : c ≠ 44 := fun z => h1 ⟨z, rfl⟩
          simp [this]
      have step : Ok (sAnd (toB (bin (rdD 5) (ret (.str ",")) gEq)) (sNot (toB (rdD 3))) [.dat (.str (T l)), .own (ts (found.map (trimL wW))), .dat (.str (T piece)), .dat (.bool i), .dat (.int (at' : Nat)), .dat (.str (T [c])), .un]) fun b E => b = false ∧ E = [.dat (.str (T l)), .own (ts (found.map (trimL wW))), .dat (.str (T piece)), .dat (.bool i), .dat (.int (at' : Nat)), .dat (.str (T [c])), .un] := by
        simp only [walkA]
        by_cases hc4 : c = 44
        · have : i = true := by cases i with
            | true => rfl
            | false => exact absurd ⟨hc4, rfl⟩ h1
          subst this hc4
          simp
        · simp [hc4]
      simp only [T__law_split_5, ↓ok_seqS, ↓ok_ifS]
      refine step.imp ?_
      rintro b E ⟨rfl, rfl⟩
      simp only [walkA, T__law_split_3, T__law_split_4]
      refine ⟨by omega, ?_⟩
      have hcm : cutF 44 (c :: l.drop (at' + 1)) i false piece = if c = 34 then cutF 44 (l.drop (at' + 1)) (!i) false (piece ++ [c]) else if c = 92 then cutF 44 (l.drop (at' + 1)) i i (piece ++ [c]) else cutF 44 (l.drop (at' + 1)) i false (piece ++ [c]) := by
        rw [cutF]
        simp only [Bool.false_eq_true, if_false, h1]
      have hpl : (piece ++ [c]).length ≤ at' + 1 := by simp; omega
      by_cases h34 : c = 34
      · subst h34
        cases i <;> simp only [walkA, stp, ei, Bool.not_false, Bool.not_true] <;> exact fin _ _ _ (Nat.le_refl _) (by omega) hpl (by rw [hcm]; rfl)
      · have n34 : ¬ ([c] : List Nat) = [34] := fun z => h34 (List.cons.inj z).1
        rw [if_neg h34] at hcm
        by_cases h92 : c = 92
        · subst h92
          rw [if_pos rfl] at hcm
          cases i with
          | false =>
            simp only [walkA, stp, ei]
            exact fin _ _ _ (Nat.le_refl _) (by omega) hpl hcm
          | true =>
            simp only [walkA, ei]
            refine ⟨by omega, ?_⟩
            by_cases hn : at' + 1 < l.length
            · have hi2 : ((at' + 1 : Nat) : Int) < (l.length : Nat) := by omega
              have ei2 : ((at' + 1 : Nat) : Int) + 1 = ((at' + 2 : Nat) : Int) := by omega
              simp only [walkA, hi2, T__law_split_2, Fw.atI_nat, List.getElem?_eq_getElem hn, stp, ei2]
              have hd2 : l.drop (at' + 1) = l[at' + 1] :: l.drop (at' + 2) := List.drop_eq_getElem_cons hn
              refine ⟨by omega, by simp only [List.length_append, List.length_cons, List.length_nil] at hpl ⊢; omega, fin true (at' + 2) _ (by omega) (by omega) ?_ ?_⟩
              · simp only [List.length_append, List.length_cons, List.length_nil] at hpl ⊢; omega
              · rw [hcm, hd2, cutF, if_pos rfl]
            · have hi2 : ¬ ((at' + 1 : Nat) : Int) < (l.length : Nat) := by omega
              simp only [walkA, hi2, stp, ei]
              refine fin true (at' + 1) _ (Nat.le_refl _) (by omega) hpl ?_
              rw [hcm, List.drop_eq_nil_of_le (by omega)]
              rfl
        · have n92 : ¬ ([c] : List Nat) = [92] := fun z => h92 (List.cons.inj z).1
          rw [if_neg h92] at hcm
          cases i <;> simp only [walkA, n34, n92, stp, ei] <;> exact fin _ _ _ (Nat.le_refl _) (by omega) hpl hcm
  · have hi : ¬ ((at' : Nat) : Int) < (l.length : Nat) := by omega
    simp only [walkA, hi, T__law_split_8]
    refine ltrim_ok (by omega) ?_
    simp only [walkA]
    refine ⟨by simp only [List.length_map]; omega, ?_⟩
    have hd : l.drop at' = [] := List.drop_eq_nil_of_le (by omega)
    rw [hd] at e1 e2
    have e1 : found ++ [piece] = (CU l).1 := e1
    have e2 : i = (CU l).2 := e2
    have ep : ts (found.map (trimL wW)) ++ [PyData.str (T (trimL wW piece))] = ts ((CU l).1.map (trimL wW)) := by
      rw [← e1]; simp [ts]
    rw [ep, e2]
    cases hq : (CU l).2 with
    | true =>
      rw [hq] at q
      simp only [walkA, T__law_split_7]
      exact q
    | false =>
      rw [hq] at q
      have hcl : (CU l).1.length ≤ l.length + 1 := (cutF_len 44 l false false []).1
      simp only [walkA, T__law_split_7, T__law_split_6]
      refine ⟨by simp only [List.length_map]; omega, ?_⟩
      rw [show ts ((CU l).1.map (trimL wW)) = ((CU l).1.map (trimL wW)).map fun l => .str (T l) from rfl]
      refine lcL_map (fun l => .str (T l)) (fun l => .str (T l)) (fun p => decide (p ≠ [])) _ _ (fun p hp => ?_) ?_
      · unfold turn
        simp only [walkA, C__law_split_1, C__law_split_2]
        by_cases hp0 : p = []
        · simp [hp0, ok_some, ok_none, okV_some, okV_none, ↓okV_if, ↓ok_if, ↓ok_ret, ↓ok_bnd, ↓ok_lft, ↓ok_bin, ↓ok_una, ↓ok_binL, ↓ok_unaL, ↓ok_mny, ↓ok_rdD, ↓ok_rdO, ↓ok_rdA, ↓ok_toB, ↓ok_sAnd, ↓ok_sOr, ↓ok_sNot, ↓ok_vAnd, ↓ok_vOr, ↓ok_sIf, ↓ok_chn, ↓ok_sNil, ↓ok_sCons, ↓ok_dTup, ↓ok_dLst, ↓ok_m0S, ↓ok_m1S, ↓ok_m1L, ↓ok_ixO, ↓ok_sPart, ↓ok_sSl, ↓ok_tupO, ↓ok_sItems, ↓ok_sScr, ↓ok_sEnum, ↓ok_sRng1, ↓ok_sRng2, ↓ok_seqS, ↓ok_nxt, ↓ok_brkS, ↓ok_cntS, ↓ok_retN, ↓ok_drpS, ↓ok_asg, ↓ok_asgL, ↓ok_asgG, ↓ok_augS, ↓ok_ifS, ↓ok_retD, ↓ok_retL, ↓ok_retO, ↓ok_appO, ↓ok_setO, ↓ok_extO, ↓ok_popS, ↓ok_forS, ↓ok_forL_nil, ↓ok_lcS, ↓ok_lcL_nil, ↓okV_callD, ↓okV_callV, ↓ok_callM, ↓ok_asD, ↓ok_asL, ↓ok_callS, ↓ok_runF, ↓ok_rplS, ↓ok_tupA, ↓ok_strM, ↓ok_chn3, own?, toN, toT, toNs, wipE, bakE, stp_nx, stp_ct, stp_bk, stp_rt, Fw.collect, ok_yesS, List.getElem?_cons_zero, List.getElem?_cons_succ, List.set_cons_zero, List.set_cons_succ, List.map_cons, List.map_nil, List.length_cons, List.length_nil, List.cons_append, List.nil_append, List.replicate_succ, List.replicate_zero, Nat.reduceAdd, Nat.reduceSub, Nat.reduceLeDiff, Nat.reduceLT, Nat.reduceEqDiff, Int.reduceLT, Int.reduceLE, Int.reduceNeg, Int.reducePow, Int.reduceEq, Option.isSome_some, Option.map_some, Option.map_none, true_and, and_true, if_true, if_false, ite_true, ite_false, Bool.false_eq_true, reduceIte, reduceCtorEq, gAdd_ii, gAdd_ss, gAdd_tt, gSub_ii, gMul_ii, gDiv_ii, gMod_ii, gNeg_i, gLt_ii, gGt_ii, gGe_ii, gLe_ii, eqv_ii, eqv_ss, eqv_bb, eqv_nn, eqv_ni, eqv_in, eqv_ns, eqv_sn, eqv_nb, eqv_bn, eqv_is, eqv_si, eqv_nt, eqv_tn, eqv_nl, eqv_ln, eqv_tt, eqv_ll, eqvA_nn, eqvA_cc, eqvA_nc, eqvA_cn, gEq_ii, gEq_ss, gEq_bb, gEq_nn, gEq_in, gEq_ni, gEq_sn, gEq_ns, gEq_si, gEq_is, gNe_ii, gNe_ss, gNe_bb, gNe_nn, gNot_b, gIsN_n, gIsN_i, gIsN_b, gIsN_s, gIsN_t, gIsN_l, gNotN_n, gNotN_i, gNotN_b, gNotN_s, gNotN_t, gNotN_l, gIx_l, gIx_t, gIx_s, gLen_s, gLen_l, gLen_t, gAbs_i, gInt_i, gInt_b, gInt_s, gOrd_sign, gDivmod_ii, gStr_i, gStr_s, gTuple_l, gTuple_t, gStrip_s, gLstrip_s, gSplit_s, gPartition_s, gJoin_m, gCat_ll, gSl_s, gSl_t, gSl_l, itemsOf_l, itemsOf_t, itemsOf_s, ofString_inj, cMul_r, cMul_l, ixN_lit, atI_lit, atI_m1, cast_lit, String.reduceEq, decide_true, decide_false, Int.reduceSub, Int.reduceAdd, Int.reduceMul, Int.reduceToNat, T_toList, T_len, T_app, T_inj, T_sign, T_cut, T_signs, T_strip, T_empty, gIn_T, gNin_T, gLjust_T, lt_0, lt_1, lt_2, lt_3, lt_4, lt_5, lt_6, lt_7, lt_8, lt_9, lt_10, lt_11, lt_12, lt_13, lt_14, lt_15, lt_16, lt_17, lt_18, lt_19, lt_20, lt_21]
        · simp [hp0, ok_some, ok_none, okV_some, okV_none, ↓okV_if, ↓ok_if, ↓ok_ret, ↓ok_bnd, ↓ok_lft, ↓ok_bin, ↓ok_una, ↓ok_binL, ↓ok_unaL, ↓ok_mny, ↓ok_rdD, ↓ok_rdO, ↓ok_rdA, ↓ok_toB, ↓ok_sAnd, ↓ok_sOr, ↓ok_sNot, ↓ok_vAnd, ↓ok_vOr, ↓ok_sIf, ↓ok_chn, ↓ok_sNil, ↓ok_sCons, ↓ok_dTup, ↓ok_dLst, ↓ok_m0S, ↓ok_m1S, ↓ok_m1L, ↓ok_ixO, ↓ok_sPart, ↓ok_sSl, ↓ok_tupO, ↓ok_sItems, ↓ok_sScr, ↓ok_sEnum, ↓ok_sRng1, ↓ok_sRng2, ↓ok_seqS, ↓ok_nxt, ↓ok_brkS, ↓ok_cntS, ↓ok_retN, ↓ok_drpS, ↓ok_asg, ↓ok_asgL, ↓ok_asgG, ↓ok_augS, ↓ok_ifS, ↓ok_retD, ↓ok_retL, ↓ok_retO, ↓ok_appO, ↓ok_setO, ↓ok_extO, ↓ok_popS, ↓ok_forS, ↓ok_forL_nil, ↓ok_lcS, ↓ok_lcL_nil, ↓okV_callD, ↓okV_callV, ↓ok_callM, ↓ok_asD, ↓ok_asL, ↓ok_callS, ↓ok_runF, ↓ok_rplS, ↓ok_tupA, ↓ok_strM, ↓ok_chn3, own?, toN, toT, toNs, wipE, bakE, stp_nx, stp_ct, stp_bk, stp_rt, Fw.collect, ok_yesS, List.getElem?_cons_zero, List.getElem?_cons_succ, List.set_cons_zero, List.set_cons_succ, List.map_cons, List.map_nil, List.length_cons, List.length_nil, List.cons_append, List.nil_append, List.replicate_succ, List.replicate_zero, Nat.reduceAdd, Nat.reduceSub, Nat.reduceLeDiff, Nat.reduceLT, Nat.reduceEqDiff, Int.reduceLT, Int.reduceLE, Int.reduceNeg, Int.reducePow, Int.reduceEq, Option.isSome_some, Option.map_some, Option.map_none, true_and, and_true, if_true, if_false, ite_true, ite_false, Bool.false_eq_true, reduceIte, reduceCtorEq, gAdd_ii, gAdd_ss, gAdd_tt, gSub_ii, gMul_ii, gDiv_ii, gMod_ii, gNeg_i, gLt_ii, gGt_ii, gGe_ii, gLe_ii, eqv_ii, eqv_ss, eqv_bb, eqv_nn, eqv_ni, eqv_in, eqv_ns, eqv_sn, eqv_nb, eqv_bn, eqv_is, eqv_si, eqv_nt, eqv_tn, eqv_nl, eqv_ln, eqv_tt, eqv_ll, eqvA_nn, eqvA_cc, eqvA_nc, eqvA_cn, gEq_ii, gEq_ss, gEq_bb, gEq_nn, gEq_in, gEq_ni, gEq_sn, gEq_ns, gEq_si, gEq_is, gNe_ii, gNe_ss, gNe_bb, gNe_nn, gNot_b, gIsN_n, gIsN_i, gIsN_b, gIsN_s, gIsN_t, gIsN_l, gNotN_n, gNotN_i, gNotN_b, gNotN_s, gNotN_t, gNotN_l, gIx_l, gIx_t, gIx_s, gLen_s, gLen_l, gLen_t, gAbs_i, gInt_i, gInt_b, gInt_s, gOrd_sign, gDivmod_ii, gStr_i, gStr_s, gTuple_l, gTuple_t, gStrip_s, gLstrip_s, gSplit_s, gPartition_s, gJoin_m, gCat_ll, gSl_s, gSl_t, gSl_l, itemsOf_l, itemsOf_t, itemsOf_s, ofString_inj, cMul_r, cMul_l, ixN_lit, atI_lit, atI_m1, cast_lit, String.reduceEq, decide_true, decide_false, Int.reduceSub, Int.reduceAdd, Int.reduceMul, Int.reduceToNat, T_toList, T_len, T_app, T_inj, T_sign, T_cut, T_signs, T_strip, T_empty, gIn_T, gNin_T, gLjust_T, lt_0, lt_1, lt_2, lt_3, lt_4, lt_5, lt_6, lt_7, lt_8, lt_9, lt_10, lt_11, lt_12, lt_13, lt_14, lt_15, lt_16, lt_17, lt_18, lt_19, lt_20, lt_21]
      · simp only [walkA]
        exact q
end ownanswer_k51_lists_and_joined_values
namespace ownanswer_k51_lists_and_joined_values
open PySem PySem.Spec L2 Fw
local macro_rules | `(tactic| simp only [walkA, $xs,*] $[$l:location]?) => `(tactic| simp only [ok_some, ok_none, okV_some, okV_none, ↓okV_if, ↓ok_if, ↓ok_ret, ↓ok_bnd, ↓ok_lft, ↓ok_bin, ↓ok_una, ↓ok_binL, ↓ok_unaL, ↓ok_mny, ↓ok_rdD, ↓ok_rdO, ↓ok_rdA, ↓ok_toB, ↓ok_sAnd, ↓ok_sOr, ↓ok_sNot, ↓ok_vAnd, ↓ok_vOr, ↓ok_sIf, ↓ok_chn, ↓ok_sNil, ↓ok_sCons, ↓ok_dTup, ↓ok_dLst, ↓ok_m0S, ↓ok_m1S, ↓ok_m1L, ↓ok_ixO, ↓ok_sPart, ↓ok_sSl, ↓ok_tupO, ↓ok_sItems, ↓ok_sScr, ↓ok_sEnum, ↓ok_sRng1, ↓ok_sRng2, ↓ok_seqS, ↓ok_nxt, ↓ok_brkS, ↓ok_cntS, ↓ok_retN, ↓ok_drpS, ↓ok_asg, ↓ok_asgL, ↓ok_asgG, ↓ok_augS, ↓ok_ifS, ↓ok_retD, ↓ok_retL, ↓ok_retO, ↓ok_appO, ↓ok_setO, ↓ok_extO, ↓ok_popS, ↓ok_forS, ↓ok_forL_nil, ↓ok_lcS, ↓ok_lcL_nil, ↓okV_callD, ↓okV_callV, ↓ok_callM, ↓ok_asD, ↓ok_asL, ↓ok_callS, ↓ok_runF, ↓ok_rplS, ↓ok_tupA, ↓ok_strM, ↓ok_chn3, own?, toN, toT, toNs, wipE, bakE, stp_nx, stp_ct, stp_bk, stp_rt, Fw.collect, ok_yesS, List.getElem?_cons_zero, List.getElem?_cons_succ, List.set_cons_zero, List.set_cons_succ, List.map_cons, List.map_nil, List.length_cons, List.length_nil, List.cons_append, List.nil_append, List.replicate_succ, List.replicate_zero, Nat.reduceAdd, Nat.reduceSub, Nat.reduceLeDiff, Nat.reduceLT, Nat.reduceEqDiff, Int.reduceLT, Int.reduceLE, Int.reduceNeg, Int.reducePow, Int.reduceEq, Option.isSome_some, Option.map_some, Option.map_none, true_and, and_true, if_true, if_false, ite_true, ite_false, Bool.false_eq_true, reduceIte, reduceCtorEq, gAdd_ii, gAdd_ss, gAdd_tt, gSub_ii, gMul_ii, gDiv_ii, gMod_ii, gNeg_i, gLt_ii, gGt_ii, gGe_ii, gLe_ii, eqv_ii, eqv_ss, eqv_bb, eqv_nn, eqv_ni, eqv_in, eqv_ns, eqv_sn, eqv_nb, eqv_bn, eqv_is, eqv_si, eqv_nt, eqv_tn, eqv_nl, eqv_ln, eqv_tt, eqv_ll, eqvA_nn, eqvA_cc, eqvA_nc, eqvA_cn, gEq_ii, gEq_ss, gEq_bb, gEq_nn, gEq_in, gEq_ni, gEq_sn, gEq_ns, gEq_si, gEq_is, gNe_ii, gNe_ss, gNe_bb, gNe_nn, gNot_b, gIsN_n, gIsN_i, gIsN_b, gIsN_s, gIsN_t, gIsN_l, gNotN_n, gNotN_i, gNotN_b, gNotN_s, gNotN_t, gNotN_l, gIx_l, gIx_t, gIx_s, gLen_s, gLen_l, gLen_t, gAbs_i, gInt_i, gInt_b, gInt_s, gOrd_sign, gDivmod_ii, gStr_i, gStr_s, gTuple_l, gTuple_t, gStrip_s, gLstrip_s, gSplit_s, gPartition_s, gJoin_m, gCat_ll, gSl_s, gSl_t, gSl_l, itemsOf_l, itemsOf_t, itemsOf_s, ofString_inj, cMul_r, cMul_l, ixN_lit, atI_lit, atI_m1, cast_lit, String.reduceEq, decide_true, decide_false, Int.reduceSub, Int.reduceAdd, Int.reduceMul, Int.reduceToNat, T_toList, T_len, T_app, T_inj, T_sign, T_cut, T_signs, T_strip, T_empty, gIn_T, gNin_T, gLjust_T, lt_0, lt_1, lt_2, lt_3, lt_4, lt_5, lt_6, lt_7, lt_8, lt_9, lt_10, lt_11, lt_12, lt_13, lt_14, lt_15, lt_16, lt_17, lt_18, lt_19, lt_20, lt_21, $xs,*] $[$l:location]?)
local macro_rules | `(tactic| simp only [walkA] $[$l:location]?) => `(tactic| simp only [ok_some, ok_none, okV_some, okV_none, ↓okV_if, ↓ok_if, ↓ok_ret, ↓ok_bnd, ↓ok_lft, ↓ok_bin, ↓ok_una, ↓ok_binL, ↓ok_unaL, ↓ok_mny, ↓ok_rdD, ↓ok_rdO, ↓ok_rdA, ↓ok_toB, ↓ok_sAnd, ↓ok_sOr, ↓ok_sNot, ↓ok_vAnd, ↓ok_vOr, ↓ok_sIf, ↓ok_chn, ↓ok_sNil, ↓ok_sCons, ↓ok_dTup, ↓ok_dLst, ↓ok_m0S, ↓ok_m1S, ↓ok_m1L, ↓ok_ixO, ↓ok_sPart, ↓ok_sSl, ↓ok_tupO, ↓ok_sItems, ↓ok_sScr, ↓ok_sEnum, ↓ok_sRng1, ↓ok_sRng2, ↓ok_seqS, ↓ok_nxt, ↓ok_brkS, ↓ok_cntS, ↓ok_retN, ↓ok_drpS, ↓ok_asg, ↓ok_asgL, ↓ok_asgG, ↓ok_augS, ↓ok_ifS, ↓ok_retD, ↓ok_retL, ↓ok_retO, ↓ok_appO, ↓ok_setO, ↓ok_extO, ↓ok_popS, ↓ok_forS, ↓ok_forL_nil, ↓ok_lcS, ↓ok_lcL_nil, ↓okV_callD, ↓okV_callV, ↓ok_callM, ↓ok_asD, ↓ok_asL, ↓ok_callS, ↓ok_runF, ↓ok_rplS, ↓ok_tupA, ↓ok_strM, ↓ok_chn3, own?, toN, toT, toNs, wipE, bakE, stp_nx, stp_ct, stp_bk, stp_rt, Fw.collect, ok_yesS, List.getElem?_cons_zero, List.getElem?_cons_succ, List.set_cons_zero, List.set_cons_succ, List.map_cons, List.map_nil, List.length_cons, List.length_nil, List.cons_append, List.nil_append, List.replicate_succ, List.replicate_zero, Nat.reduceAdd, Nat.reduceSub, Nat.reduceLeDiff, Nat.reduceLT, Nat.reduceEqDiff, Int.reduceLT, Int.reduceLE, Int.reduceNeg, Int.reducePow, Int.reduceEq, Option.isSome_some, Option.map_some, Option.map_none, true_and, and_true, if_true, if_false, ite_true, ite_false, Bool.false_eq_true, reduceIte, reduceCtorEq, gAdd_ii, gAdd_ss, gAdd_tt, gSub_ii, gMul_ii, gDiv_ii, gMod_ii, gNeg_i, gLt_ii, gGt_ii, gGe_ii, gLe_ii, eqv_ii, eqv_ss, eqv_bb, eqv_nn, eqv_ni, eqv_in, eqv_ns, eqv_sn, eqv_nb, eqv_bn, eqv_is, eqv_si, eqv_nt, eqv_tn, eqv_nl, eqv_ln, eqv_tt, eqv_ll, eqvA_nn, eqvA_cc, eqvA_nc, eqvA_cn, gEq_ii, gEq_ss, gEq_bb, gEq_nn, gEq_in, gEq_ni, gEq_sn, gEq_ns, gEq_si, gEq_is, gNe_ii, gNe_ss, gNe_bb, gNe_nn, gNot_b, gIsN_n, gIsN_i, gIsN_b, gIsN_s, gIsN_t, gIsN_l, gNotN_n, gNotN_i, gNotN_b, gNotN_s, gNotN_t, gNotN_l, gIx_l, gIx_t, gIx_s, gLen_s, gLen_l, gLen_t, gAbs_i, gInt_i, gInt_b, gInt_s, gOrd_sign, gDivmod_ii, gStr_i, gStr_s, gTuple_l, gTuple_t, gStrip_s, gLstrip_s, gSplit_s, gPartition_s, gJoin_m, gCat_ll, gSl_s, gSl_t, gSl_l, itemsOf_l, itemsOf_t, itemsOf_s, ofString_inj, cMul_r, cMul_l, ixN_lit, atI_lit, atI_m1, cast_lit, String.reduceEq, decide_true, decide_false, Int.reduceSub, Int.reduceAdd, Int.reduceMul, Int.reduceToNat, T_toList, T_len, T_app, T_inj, T_sign, T_cut, T_signs, T_strip, T_empty, gIn_T, gNin_T, gLjust_T, lt_0, lt_1, lt_2, lt_3, lt_4, lt_5, lt_6, lt_7, lt_8, lt_9, lt_10, lt_11, lt_12, lt_13, lt_14, lt_15, lt_16, lt_17, lt_18, lt_19, lt_20, lt_21] $[$l:location]?)

theorem trimmed_ok {l : List Nat} (hl : l.length < sizeLine) {Q : Sl → En → Prop} (q : Q (.dat (.str (T (trimL wW l)))) [.un]) : Ok (S_trimmed [.dat (.str (T l))]) Q := by
  unfold S_trimmed
  rw [ok_runF]
  refine ⟨rfl, ?_⟩
  simp only [walkA, Y_trimmed]
  exact ⟨by omega, q⟩
theorem split_ok {l : List Nat} (hl : l.length < 16000000) {Q : Sl → En → Prop}
    (q : Q (if (CU l).2 then .dat .none else .own (ts (((CU l).1.map (trimL wW)).filter fun p => decide (p ≠ [])))) [.un]) : Ok (S_split_list [.dat (.str (T l))]) Q := by
  have hs := sizeLine_eq
  have hcl : (CU l).1.length ≤ l.length + 1 := (cutF_len 44 l false false []).1
  have hcl2 : (cutF 44 l false false []).1.length ≤ l.length + 1 := hcl
  unfold S_split_list
  rw [ok_runF]
  refine ⟨rfl, ?_⟩
  simp only [walkA, Y_split_list]
  refine cut_ok (by omega) ?_
  cases hq : (CU l).2 with
  | true =>
    rw [hq] at q
    simp only [walkA, T_split_list_3]
    exact q
  | false =>
    rw [hq] at q
    simp only [walkA, T_split_list_3, T_split_list_2]
    refine ⟨by rw [List.length_map]; omega, ?_⟩
    rw [show ts (CU l).1 = (CU l).1.map fun l => .str (T l) from rfl]
    refine lcL_map (fun l => .str (T l)) (fun l => .str (T (trimL wW l))) (fun p => true) _ _ (fun p hp => ?_) ?_
    · have hp2 := (cutF_len 44 l false false []).2 p hp
      simp only [List.length_nil] at hp2
      unfold turn
      simp only [walkA, C_split_list_1]
      refine trimmed_ok (by omega) ?_
      simp only [walkA]
    · simp only [walkA, T_split_list_1]
      have ef : List.filter (fun p => true) (CU l).1 = (CU l).1 := List.filter_eq_self.mpr fun _ _ => rfl
      rw [ef]
      refine ⟨by rw [List.length_map]; omega, ?_⟩
      rw [show (CU l).1.map (fun l => PyData.str (T (trimL wW l))) = ((CU l).1.map (trimL wW)).map fun l => .str (T l) by rw [List.map_map]; rfl]
      refine lcL_map (fun l => .str (T l)) (fun l => .str (T l)) (fun p => decide (p ≠ [])) _ _ (fun p hp => ?_) ?_
      · unfold turn
        simp only [walkA, C_split_list_2, C_split_list_3]
        by_cases hp0 : p = []
        · simp [hp0, ok_some, ok_none, okV_some, okV_none, ↓okV_if, ↓ok_if, ↓ok_ret, ↓ok_bnd, ↓ok_lft, ↓ok_bin, ↓ok_una, ↓ok_binL, ↓ok_unaL, ↓ok_mny, ↓ok_rdD, ↓ok_rdO, ↓ok_rdA, ↓ok_toB, ↓ok_sAnd, ↓ok_sOr, ↓ok_sNot, ↓ok_vAnd, ↓ok_vOr, ↓ok_sIf, ↓ok_chn, ↓ok_sNil, ↓ok_sCons, ↓ok_dTup, ↓ok_dLst, ↓ok_m0S, ↓ok_m1S, ↓ok_m1L, ↓ok_ixO, ↓ok_sPart, ↓ok_sSl, ↓ok_tupO, ↓ok_sItems, ↓ok_sScr, ↓ok_sEnum, ↓ok_sRng1, ↓ok_sRng2, ↓ok_seqS, ↓ok_nxt, ↓ok_brkS, ↓ok_cntS, ↓ok_retN, ↓ok_drpS, ↓ok_asg, ↓ok_asgL, ↓ok_asgG, ↓ok_augS, ↓ok_ifS, ↓ok_retD, ↓ok_retL, ↓ok_retO, ↓ok_appO, ↓ok_setO, ↓ok_extO, ↓ok_popS, ↓ok_forS, ↓ok_forL_nil, ↓ok_lcS, ↓ok_lcL_nil, ↓okV_callD, ↓okV_callV, ↓ok_callM, ↓ok_asD, ↓ok_asL, ↓ok_callS, ↓ok_runF, ↓ok_rplS, ↓ok_tupA, ↓ok_strM, ↓ok_chn3, own?, toN, toT, toNs, wipE, bakE, stp_nx, stp_ct, stp_bk, stp_rt, Fw.collect, ok_yesS, List.getElem?_cons_zero, List.getElem?_cons_succ, List.set_cons_zero, List.set_cons_succ, List.map_cons, List.map_nil, List.length_cons, List.length_nil, List.cons_append, List.nil_append, List.replicate_succ, List.replicate_zero, Nat.reduceAdd, Nat.reduceSub, Nat.reduceLeDiff, Nat.reduceLT, Nat.reduceEqDiff, Int.reduceLT, Int.reduceLE, Int.reduceNeg, Int.reducePow, Int.reduceEq, Option.isSome_some, Option.map_some, Option.map_none, true_and, and_true, if_true, if_false, ite_true, ite_false, Bool.false_eq_true, reduceIte, reduceCtorEq, gAdd_ii, gAdd_ss, gAdd_tt, gSub_ii, gMul_ii, gDiv_ii, gMod_ii, gNeg_i, gLt_ii, gGt_ii, gGe_ii, gLe_ii, eqv_ii, eqv_ss, eqv_bb, eqv_nn, eqv_ni, eqv_in, eqv_ns, eqv_sn, eqv_nb, eqv_bn, eqv_is, eqv_si, eqv_nt, eqv_tn, eqv_nl, eqv_ln, eqv_tt, eqv_ll, eqvA_nn, eqvA_cc, eqvA_nc, eqvA_cn, gEq_ii, gEq_ss, gEq_bb, gEq_nn, gEq_in, gEq_ni, gEq_sn, gEq_ns, gEq_si, gEq_is, gNe_ii, gNe_ss, gNe_bb, gNe_nn, gNot_b, gIsN_n, gIsN_i, gIsN_b, gIsN_s, gIsN_t, gIsN_l, gNotN_n, gNotN_i, gNotN_b, gNotN_s, gNotN_t, gNotN_l, gIx_l, gIx_t, gIx_s, gLen_s, gLen_l, gLen_t, gAbs_i, gInt_i, gInt_b, gInt_s, gOrd_sign, gDivmod_ii, gStr_i, gStr_s, gTuple_l, gTuple_t, gStrip_s, gLstrip_s, gSplit_s, gPartition_s, gJoin_m, gCat_ll, gSl_s, gSl_t, gSl_l, itemsOf_l, itemsOf_t, itemsOf_s, ofString_inj, cMul_r, cMul_l, ixN_lit, atI_lit, atI_m1, cast_lit, String.reduceEq, decide_true, decide_false, Int.reduceSub, Int.reduceAdd, Int.reduceMul, Int.reduceToNat, T_toList, T_len, T_app, T_inj, T_sign, T_cut, T_signs, T_strip, T_empty, gIn_T, gNin_T, gLjust_T, lt_0, lt_1, lt_2, lt_3, lt_4, lt_5, lt_6, lt_7, lt_8, lt_9, lt_10, lt_11, lt_12, lt_13, lt_14, lt_15, lt_16, lt_17, lt_18, lt_19, lt_20, lt_21]
        · simp [hp0, ok_some, ok_none, okV_some, okV_none, ↓okV_if, ↓ok_if, ↓ok_ret, ↓ok_bnd, ↓ok_lft, ↓ok_bin, ↓ok_una, ↓ok_binL, ↓ok_unaL, ↓ok_mny, ↓ok_rdD, ↓ok_rdO, ↓ok_rdA, ↓ok_toB, ↓ok_sAnd, ↓ok_sOr, ↓ok_sNot, ↓ok_vAnd, ↓ok_vOr, ↓ok_sIf, ↓ok_chn, ↓ok_sNil, ↓ok_sCons, ↓ok_dTup, ↓ok_dLst, ↓ok_m0S, ↓ok_m1S, ↓ok_m1L, ↓ok_ixO, ↓ok_sPart, ↓ok_sSl, ↓ok_tupO, ↓ok_sItems, ↓ok_sScr, ↓ok_sEnum, ↓ok_sRng1, ↓ok_sRng2, ↓ok_seqS, ↓ok_nxt, ↓ok_brkS, ↓ok_cntS, ↓ok_retN, ↓ok_drpS, ↓ok_asg, ↓ok_asgL, ↓ok_asgG, ↓ok_augS, ↓ok_ifS, ↓ok_retD, ↓ok_retL, ↓ok_retO, ↓ok_appO, ↓ok_setO, ↓ok_extO, ↓ok_popS, ↓ok_forS, ↓ok_forL_nil, ↓ok_lcS, ↓ok_lcL_nil, ↓okV_callD, ↓okV_callV, ↓ok_callM, ↓ok_asD, ↓ok_asL, ↓ok_callS, ↓ok_runF, ↓ok_rplS, ↓ok_tupA, ↓ok_strM, ↓ok_chn3, own?, toN, toT, toNs, wipE, bakE, stp_nx, stp_ct, stp_bk, stp_rt, Fw.collect, ok_yesS, List.getElem?_cons_zero, List.getElem?_cons_succ, List.set_cons_zero, List.set_cons_succ, List.map_cons, List.map_nil, List.length_cons, List.length_nil, List.cons_append, List.nil_append, List.replicate_succ, List.replicate_zero, Nat.reduceAdd, Nat.reduceSub, Nat.reduceLeDiff, Nat.reduceLT, Nat.reduceEqDiff, Int.reduceLT, Int.reduceLE, Int.reduceNeg, Int.reducePow, Int.reduceEq, Option.isSome_some, Option.map_some, Option.map_none, true_and, and_true, if_true, if_false, ite_true, ite_false, Bool.false_eq_true, reduceIte, reduceCtorEq, gAdd_ii, gAdd_ss, gAdd_tt, gSub_ii, gMul_ii, gDiv_ii, gMod_ii, gNeg_i, gLt_ii, gGt_ii, gGe_ii, gLe_ii, eqv_ii, eqv_ss, eqv_bb, eqv_nn, eqv_ni, eqv_in, eqv_ns, eqv_sn, eqv_nb, eqv_bn, eqv_is, eqv_si, eqv_nt, eqv_tn, eqv_nl, eqv_ln, eqv_tt, eqv_ll, eqvA_nn, eqvA_cc, eqvA_nc, eqvA_cn, gEq_ii, gEq_ss, gEq_bb, gEq_nn, gEq_in, gEq_ni, gEq_sn, gEq_ns, gEq_si, gEq_is, gNe_ii, gNe_ss, gNe_bb, gNe_nn, gNot_b, gIsN_n, gIsN_i, gIsN_b, gIsN_s, gIsN_t, gIsN_l, gNotN_n, gNotN_i, gNotN_b, gNotN_s, gNotN_t, gNotN_l, gIx_l, gIx_t, gIx_s, gLen_s, gLen_l, gLen_t, gAbs_i, gInt_i, gInt_b, gInt_s, gOrd_sign, gDivmod_ii, gStr_i, gStr_s, gTuple_l, gTuple_t, gStrip_s, gLstrip_s, gSplit_s, gPartition_s, gJoin_m, gCat_ll, gSl_s, gSl_t, gSl_l, itemsOf_l, itemsOf_t, itemsOf_s, ofString_inj, cMul_r, cMul_l, ixN_lit, atI_lit, atI_m1, cast_lit, String.reduceEq, decide_true, decide_false, Int.reduceSub, Int.reduceAdd, Int.reduceMul, Int.reduceToNat, T_toList, T_len, T_app, T_inj, T_sign, T_cut, T_signs, T_strip, T_empty, gIn_T, gNin_T, gLjust_T, lt_0, lt_1, lt_2, lt_3, lt_4, lt_5, lt_6, lt_7, lt_8, lt_9, lt_10, lt_11, lt_12, lt_13, lt_14, lt_15, lt_16, lt_17, lt_18, lt_19, lt_20, lt_21]
      · simp only [walkA]
        exact q
theorem tk : S__law_take = S_take := rfl
theorem dk : S__law_draw = S_draw := rfl
def Lo (l : List Nat) : Prop := ∀ c ∈ l, c < 128
theorem lo_app {a b : List Nat} (ha : Lo a) (hb : Lo b) : Lo (a ++ b) := fun c h => (List.mem_append.mp h).elim (ha c) (hb c)
theorem ix_T {w : List Nat} (hw : w.length ≤ sizeLine) {r : Int} (h0 : 0 ≤ r) (h1 : r < w.length) : ∃ c, c ∈ w ∧ atI w r = some c := by
  obtain ⟨k, rfl⟩ := Int.eq_ofNat_of_zero_le h0
  have hk : k < w.length := by omega
  exact ⟨w[k], List.getElem_mem hk, by rw [Fw.atI_nat, List.getElem?_eq_getElem hk]⟩
theorem rng_len (n : Int) : (rngL 0 n.toNat).length = n.toNat := by simp [rngL]
theorem text_ok {d : List PyData} (hd : DrawOk d) {m : Int} (h0 : 0 ≤ m) (h1 : m ≤ 100) {Q : Sl → En → Prop} (q : ∀ l d', l.length ≤ m.toNat → Lo l → DrawOk d' → Q (.dat (.str (T l))) [.own d', .un]) :
    Ok (S__law_text [.own d, .dat (.int m)]) Q := by
  have hs := sizeLine_eq
  unfold S__law_text
  rw [ok_runF]
  refine ⟨rfl, ?_⟩
  simp only [walkA, Y__law_text, T__law_text_3, T__law_text_2, tk]
  refine take_ok hd (by omega) (by omega) fun n d1 n0 n1 h1 => ?_
  simp only [walkA]
  refine ⟨by omega, ?_⟩
  refine forL_inv (fun k E => ∃ d' l x, DrawOk d' ∧ l.length = k ∧ Lo l ∧ E = [.own d', .dat (.int m), .dat (.str (T [34, 92, 44, 59, 32, 61, 97, 98, 49, 9])), .dat (.str (T l)), x]) _ 0 _ _ ⟨d1, [], .un, h1, rfl, (fun _ h => nomatch h), rfl⟩ ?_ ?_
  · rintro i z hz E ⟨d', l, x, hd', hl, ho, rfl⟩
    have hi : i < n.toNat := by
      have := (List.getElem?_eq_some_iff.mp hz).1
      rwa [rng_len] at this
    simp only [walkA, L__law_text_1, tk]
    refine take_ok hd' (by omega) (by omega) fun r d2 r0 r1 h2 => ?_
    by_cases er : r = 0
    · simp only [walkA, er, tk]
      refine take_ok h2 (by omega) (by omega) fun r d2 r0 r1 h2 => ?_
      obtain ⟨c, hc, e⟩ := ix_T (w := [34, 92, 44, 59, 32, 61, 97, 98, 49, 9]) (by rw [hs]; decide) r0 r1
      simp only [walkA, e, stp]
      refine ⟨by omega, by omega, d2, l ++ [c], _, h2, by simp; omega, lo_app ho ?_, rfl⟩
      intro x hx
      cases List.mem_singleton.mp hx
      have : ∀ c ∈ ([34, 92, 44, 59, 32, 61, 97, 98, 49, 9] : List Nat), c < 128 := by decide
      exact this _ hc
    · simp only [walkA, er, tk]
      unfold S__law_signs
      rw [ok_runF]
      refine ⟨rfl, ?_⟩
      simp only [walkA, Y__law_signs, T__law_signs_1, tk]
      refine ⟨by omega, take_ok h2 (by omega) (by omega) fun r d2 r0 r1 h2 => ?_⟩
      generalize hw : ([32, 33, 34, 35, 36, 38, 39, 40, 41, 42, 43, 44, 45, 46, 47, 48, 49, 50, 51, 52, 53, 54, 55, 56, 57, 58, 59, 60, 61, 62, 63, 64, 65, 66, 67, 68, 69, 70, 71, 72, 73, 74, 75, 76, 77, 78, 79, 80, 81, 82, 83, 84, 85, 86, 87, 88, 89, 90, 91, 92, 93, 94, 95, 96, 97, 98, 99, 100, 101, 102, 103, 104, 105, 106, 107, 108, 109, 110, 111, 112, 113, 114, 115, 116, 117, 118, 119, 120, 121, 122, 123, 124, 125, 126, 9] : List Nat) = w
      have hwl : w.length = 95 := by rw [← hw]; decide
      have hwo : Lo w := by rw [← hw]; unfold Lo; decide
      obtain ⟨c, hc, e⟩ := ix_T (w := w) (by omega) r0 (by omega)
      simp only [walkA, e, stp]
      refine ⟨by omega, by omega, d2, l ++ [c], _, h2, by simp; omega, lo_app ho ?_, rfl⟩
      intro x hx
      cases List.mem_singleton.mp hx
      exact hwo c hc
  · rintro E ⟨d', l, x, hd', hl, ho, rfl⟩
    rw [rng_len] at hl
    simp only [walkA, T__law_text_1]
    exact q l d' (by omega) ho hd'
theorem token_ok {d : List PyData} (hd : DrawOk d) {Q : Sl → En → Prop} (q : ∀ l d', l.length ≤ 5 → Lo l → DrawOk d' → Q (.dat (.str (T l))) [.own d']) :
    Ok (S__law_token [.own d]) Q := by
  have hs := sizeLine_eq
  unfold S__law_token
  rw [ok_runF]
  refine ⟨rfl, ?_⟩
  simp only [walkA, Y__law_token, T__law_token_1, tk]
  refine take_ok hd (by omega) (by omega) fun n d1 n0 n1 h1 => ?_
  simp only [walkA]
  refine ⟨by omega, by rw [rng_len]; omega, ?_⟩
  generalize hw : ([97, 98, 99, 120, 121, 122, 65, 66, 67, 88, 89, 90, 48, 49, 56, 57, 33, 35, 36, 38, 39, 42, 43, 45, 46, 94, 95, 124, 126, 96] : List Nat) = w
  have hwl : w.length = 30 := by rw [← hw]; decide
  have hwo : Lo w := by rw [← hw]; unfold Lo; decide
  refine lcL_all (fun E => ∃ d' x, DrawOk d' ∧ (∀ ys, x ≠ .own ys) ∧ E = [.own d', .dat (.str (T w)), x]) (fun y => ∃ c, y = .str (T [c]) ∧ c < 128) _ _ _ ⟨d1, .un, h1, fun _ => nofun, rfl⟩ ?_ ?_
  · rintro z _ E ⟨d2, x, h2, hx, rfl⟩
    have hwp : ∀ a b, wipE [2] [a, b, x] = some [a, b, .un] := by
      intro a b
      cases x <;> first | rfl | exact absurd rfl (hx _)
    unfold turn
    rw [hwp, okV_some]
    simp only [walkA, C__law_token_1, tk]
    refine take_ok h2 (by omega) (by omega) fun r d3 r0 r1 h3 => ?_
    obtain ⟨c, hc, e⟩ := ix_T (w := w) (by omega) r0 (by omega)
    simp only [walkA, e, bakE]
    exact ⟨by omega, ⟨d3, x, h3, hx, rfl⟩, _, rfl, c, rfl, hwo c hc⟩
  · rintro ys E' hlen hp ⟨d2, x, h2, hx, rfl⟩
    rw [rng_len] at hlen
    have : ∃ l : List Nat, ys = (l.map fun c => [c]).map (fun l => PyData.str (T l)) ∧ l.length = ys.length ∧ Lo l := by
      clear hlen
      induction ys with
      | nil => exact ⟨[], rfl, rfl, fun _ h => nomatch h⟩
      | cons y ys ih =>
        obtain ⟨l, e, hl, ho⟩ := ih fun w hw => hp w (List.mem_cons_of_mem _ hw)
        obtain ⟨c, rfl, hc⟩ := hp y (List.mem_cons_self ..)
        exact ⟨c :: l, by rw [e]; rfl, by simp [hl], fun z hz => (List.mem_cons.mp hz).elim (fun h => h ▸ hc) (ho z)⟩
    obtain ⟨l, rfl, hl, ho⟩ := this
    have e1 : ((l.map fun c => [c]).map fun l => PyData.str (T l)) = ((l.map fun c => [c]).map T).map .str := by simp
    rw [e1]
    have e2 : ([] : List Nat).intercalate (l.map fun c => [c]) = l := by
      clear hl ho e1 hp hlen
      induction l with
      | nil => rfl
      | cons c l ih =>
        cases l with
        | nil => rfl
        | cons d l => simp only [List.map_cons, List.intercalate, List.intersperse_cons₂, List.flatten_cons] at ih ⊢; rw [ih]; rfl
    simp only [List.length_map] at hl hlen
    simp only [walkA, T_join, e2]
    refine ⟨?_, q l d2 (by omega) ho h2⟩
    simp only [List.map_map, List.length_map, List.length_nil, Nat.mul_zero, Nat.add_zero]
    have : (l.map ((fun x : Str => x.length) ∘ T ∘ fun c => [c])).sum = l.length := by
      clear hl ho e1 e2 hp hlen
      induction l with
      | nil => rfl
      | cons c l ih => simp only [List.map_cons, List.sum_cons, ih, List.length_cons, Function.comp_apply, T_len]; simp; omega
    omega
end ownanswer_k51_lists_and_joined_values
namespace ownanswer_k51_lists_and_joined_values
open PySem PySem.Spec L2 Fw
local macro_rules | `(tactic| simp only [walkA, $xs,*] $[$l:location]?) => `(tactic| simp only [ok_some, ok_none, okV_some, okV_none, ↓okV_if, ↓ok_if, ↓ok_ret, ↓ok_bnd, ↓ok_lft, ↓ok_bin, ↓ok_una, ↓ok_binL, ↓ok_unaL, ↓ok_mny, ↓ok_rdD, ↓ok_rdO, ↓ok_rdA, ↓ok_toB, ↓ok_sAnd, ↓ok_sOr, ↓ok_sNot, ↓ok_vAnd, ↓ok_vOr, ↓ok_sIf, ↓ok_chn, ↓ok_sNil, ↓ok_sCons, ↓ok_dTup, ↓ok_dLst, ↓ok_m0S, ↓ok_m1S, ↓ok_m1L, ↓ok_ixO, ↓ok_sPart, ↓ok_sSl, ↓ok_tupO, ↓ok_sItems, ↓ok_sScr, ↓ok_sEnum, ↓ok_sRng1, ↓ok_sRng2, ↓ok_seqS, ↓ok_nxt, ↓ok_brkS, ↓ok_cntS, ↓ok_retN, ↓ok_drpS, ↓ok_asg, ↓ok_asgL, ↓ok_asgG, ↓ok_augS, ↓ok_ifS, ↓ok_retD, ↓ok_retL, ↓ok_retO, ↓ok_appO, ↓ok_setO, ↓ok_extO, ↓ok_popS, ↓ok_forS, ↓ok_forL_nil, ↓ok_lcS, ↓ok_lcL_nil, ↓okV_callD, ↓okV_callV, ↓ok_callM, ↓ok_asD, ↓ok_asL, ↓ok_callS, ↓ok_runF, ↓ok_rplS, ↓ok_tupA, ↓ok_strM, ↓ok_chn3, own?, toN, toT, toNs, wipE, bakE, stp_nx, stp_ct, stp_bk, stp_rt, Fw.collect, ok_yesS, List.getElem?_cons_zero, List.getElem?_cons_succ, List.set_cons_zero, List.set_cons_succ, List.map_cons, List.map_nil, List.length_cons, List.length_nil, List.cons_append, List.nil_append, List.replicate_succ, List.replicate_zero, Nat.reduceAdd, Nat.reduceSub, Nat.reduceLeDiff, Nat.reduceLT, Nat.reduceEqDiff, Int.reduceLT, Int.reduceLE, Int.reduceNeg, Int.reducePow, Int.reduceEq, Option.isSome_some, Option.map_some, Option.map_none, true_and, and_true, if_true, if_false, ite_true, ite_false, Bool.false_eq_true, reduceIte, reduceCtorEq, gAdd_ii, gAdd_ss, gAdd_tt, gSub_ii, gMul_ii, gDiv_ii, gMod_ii, gNeg_i, gLt_ii, gGt_ii, gGe_ii, gLe_ii, eqv_ii, eqv_ss, eqv_bb, eqv_nn, eqv_ni, eqv_in, eqv_ns, eqv_sn, eqv_nb, eqv_bn, eqv_is, eqv_si, eqv_nt, eqv_tn, eqv_nl, eqv_ln, eqv_tt, eqv_ll, eqvA_nn, eqvA_cc, eqvA_nc, eqvA_cn, gEq_ii, gEq_ss, gEq_bb, gEq_nn, gEq_in, gEq_ni, gEq_sn, gEq_ns, gEq_si, gEq_is, gNe_ii, gNe_ss, gNe_bb, gNe_nn, gNot_b, gIsN_n, gIsN_i, gIsN_b, gIsN_s, gIsN_t, gIsN_l, gNotN_n, gNotN_i, gNotN_b, gNotN_s, gNotN_t, gNotN_l, gIx_l, gIx_t, gIx_s, gLen_s, gLen_l, gLen_t, gAbs_i, gInt_i, gInt_b, gInt_s, gOrd_sign, gDivmod_ii, gStr_i, gStr_s, gTuple_l, gTuple_t, gStrip_s, gLstrip_s, gSplit_s, gPartition_s, gJoin_m, gCat_ll, gSl_s, gSl_t, gSl_l, itemsOf_l, itemsOf_t, itemsOf_s, ofString_inj, cMul_r, cMul_l, ixN_lit, atI_lit, atI_m1, cast_lit, String.reduceEq, decide_true, decide_false, Int.reduceSub, Int.reduceAdd, Int.reduceMul, Int.reduceToNat, T_toList, T_len, T_app, T_inj, T_sign, T_cut, T_signs, T_strip, T_empty, gIn_T, gNin_T, gLjust_T, lt_0, lt_1, lt_2, lt_3, lt_4, lt_5, lt_6, lt_7, lt_8, lt_9, lt_10, lt_11, lt_12, lt_13, lt_14, lt_15, lt_16, lt_17, lt_18, lt_19, lt_20, lt_21, $xs,*] $[$l:location]?)
local macro_rules | `(tactic| simp only [walkA] $[$l:location]?) => `(tactic| simp only [ok_some, ok_none, okV_some, okV_none, ↓okV_if, ↓ok_if, ↓ok_ret, ↓ok_bnd, ↓ok_lft, ↓ok_bin, ↓ok_una, ↓ok_binL, ↓ok_unaL, ↓ok_mny, ↓ok_rdD, ↓ok_rdO, ↓ok_rdA, ↓ok_toB, ↓ok_sAnd, ↓ok_sOr, ↓ok_sNot, ↓ok_vAnd, ↓ok_vOr, ↓ok_sIf, ↓ok_chn, ↓ok_sNil, ↓ok_sCons, ↓ok_dTup, ↓ok_dLst, ↓ok_m0S, ↓ok_m1S, ↓ok_m1L, ↓ok_ixO, ↓ok_sPart, ↓ok_sSl, ↓ok_tupO, ↓ok_sItems, ↓ok_sScr, ↓ok_sEnum, ↓ok_sRng1, ↓ok_sRng2, ↓ok_seqS, ↓ok_nxt, ↓ok_brkS, ↓ok_cntS, ↓ok_retN, ↓ok_drpS, ↓ok_asg, ↓ok_asgL, ↓ok_asgG, ↓ok_augS, ↓ok_ifS, ↓ok_retD, ↓ok_retL, ↓ok_retO, ↓ok_appO, ↓ok_setO, ↓ok_extO, ↓ok_popS, ↓ok_forS, ↓ok_forL_nil, ↓ok_lcS, ↓ok_lcL_nil, ↓okV_callD, ↓okV_callV, ↓ok_callM, ↓ok_asD, ↓ok_asL, ↓ok_callS, ↓ok_runF, ↓ok_rplS, ↓ok_tupA, ↓ok_strM, ↓ok_chn3, own?, toN, toT, toNs, wipE, bakE, stp_nx, stp_ct, stp_bk, stp_rt, Fw.collect, ok_yesS, List.getElem?_cons_zero, List.getElem?_cons_succ, List.set_cons_zero, List.set_cons_succ, List.map_cons, List.map_nil, List.length_cons, List.length_nil, List.cons_append, List.nil_append, List.replicate_succ, List.replicate_zero, Nat.reduceAdd, Nat.reduceSub, Nat.reduceLeDiff, Nat.reduceLT, Nat.reduceEqDiff, Int.reduceLT, Int.reduceLE, Int.reduceNeg, Int.reducePow, Int.reduceEq, Option.isSome_some, Option.map_some, Option.map_none, true_and, and_true, if_true, if_false, ite_true, ite_false, Bool.false_eq_true, reduceIte, reduceCtorEq, gAdd_ii, gAdd_ss, gAdd_tt, gSub_ii, gMul_ii, gDiv_ii, gMod_ii, gNeg_i, gLt_ii, gGt_ii, gGe_ii, gLe_ii, eqv_ii, eqv_ss, eqv_bb, eqv_nn, eqv_ni, eqv_in, eqv_ns, eqv_sn, eqv_nb, eqv_bn, eqv_is, eqv_si, eqv_nt, eqv_tn, eqv_nl, eqv_ln, eqv_tt, eqv_ll, eqvA_nn, eqvA_cc, eqvA_nc, eqvA_cn, gEq_ii, gEq_ss, gEq_bb, gEq_nn, gEq_in, gEq_ni, gEq_sn, gEq_ns, gEq_si, gEq_is, gNe_ii, gNe_ss, gNe_bb, gNe_nn, gNot_b, gIsN_n, gIsN_i, gIsN_b, gIsN_s, gIsN_t, gIsN_l, gNotN_n, gNotN_i, gNotN_b, gNotN_s, gNotN_t, gNotN_l, gIx_l, gIx_t, gIx_s, gLen_s, gLen_l, gLen_t, gAbs_i, gInt_i, gInt_b, gInt_s, gOrd_sign, gDivmod_ii, gStr_i, gStr_s, gTuple_l, gTuple_t, gStrip_s, gLstrip_s, gSplit_s, gPartition_s, gJoin_m, gCat_ll, gSl_s, gSl_t, gSl_l, itemsOf_l, itemsOf_t, itemsOf_s, ofString_inj, cMul_r, cMul_l, ixN_lit, atI_lit, atI_m1, cast_lit, String.reduceEq, decide_true, decide_false, Int.reduceSub, Int.reduceAdd, Int.reduceMul, Int.reduceToNat, T_toList, T_len, T_app, T_inj, T_sign, T_cut, T_signs, T_strip, T_empty, gIn_T, gNin_T, gLjust_T, lt_0, lt_1, lt_2, lt_3, lt_4, lt_5, lt_6, lt_7, lt_8, lt_9, lt_10, lt_11, lt_12, lt_13, lt_14, lt_15, lt_16, lt_17, lt_18, lt_19, lt_20, lt_21] $[$l:location]?)

theorem replS_mem {y z : List Nat} : ∀ (l : List Nat) (s : Nat) (c : Nat), c ∈ StrLaws.replS y z s l → c ∈ l ∨ c ∈ z
  | [], s, c, h => by rw [StrLaws.replS] at h; cases h
  | x :: r, s + 1, c, h => by
    rw [StrLaws.replS] at h
    rcases replS_mem r _ _ h with h | h
    · exact .inl (List.mem_cons_of_mem _ h)
    · exact .inr h
  | x :: r, 0, c, h => by
    rw [StrLaws.replS] at h
    split at h
    · rcases List.mem_append.mp h with h | h
      · exact .inr h
      · rcases replS_mem r _ _ h with h | h
        · exact .inl (List.mem_cons_of_mem _ h)
        · exact .inr h
    · rcases List.mem_cons.mp h with rfl | h
      · exact .inl (List.mem_cons_self ..)
      · rcases replS_mem r _ _ h with h | h
        · exact .inl (List.mem_cons_of_mem _ h)
        · exact .inr h
theorem rep_T {l y z : List Nat} (hy : 1 ≤ y.length) (hl : Lo l) (hz : Lo z) : ∃ m, Txt.replace (T l) (T y) (T z) = T m ∧ Lo m ∧ m.length ≤ l.length + (l.length + 1) * z.length := by
  refine ⟨_, T_of _, fun c hc => ?_, ?_⟩
  · rw [StrLaws.replace_list (by rw [T_len]; exact hy)] at hc
    rcases replS_mem _ _ _ hc with h | h
    · exact hl c h
    · exact hz c h
  · have := TK.replace_len (T l) (T y) (T z)
    rw [T_len, T_len] at this
    simpa [Str.length] using this
theorem piece_ok {d : List PyData} (hd : DrawOk d) {Q : Sl → En → Prop} (q : ∀ l d', l.length ≤ 60 → Lo l → DrawOk d' → Q (.dat (.str (T l))) [.own d']) : Ok (S__law_piece [.own d]) Q := by
  have hs := sizeLine_eq
  unfold S__law_piece
  rw [ok_runF]
  refine ⟨rfl, ?_⟩
  simp only [walkA, Y__law_piece, tk]
  refine take_ok hd (by omega) (by omega) fun n d1 n0 n1 h1 => ?_
  by_cases e0 : n = 0
  · simp only [walkA, T__law_piece_6, e0, tk]
    exact token_ok h1 fun l d' hl ho h2 => by simp only [walkA]; exact q l d' (by omega) ho h2
  by_cases e1 : n = 1
  · simp only [walkA, T__law_piece_6, T__law_piece_5, e1, tk]
    refine ⟨by omega, take_ok h1 (by omega) (by omega) fun r d2 r0 r1 h2 => ?_⟩
    obtain ⟨y, hy, e⟩ := atI_mem (ys := [PyData.str (T [32]), .str (T [9]), .str (T [32, 32]), .str (T [44, 32]), .str (T [44, 44]), .str (T [32, 44])]) r0 r1
    have hy : ∃ t, y = .str (T t) ∧ Lo t ∧ t.length ≤ 2 := by
      simp only [List.mem_cons, List.not_mem_nil, or_false] at hy
      rcases hy with rfl | rfl | rfl | rfl | rfl | rfl <;> exact ⟨_, rfl, by unfold Lo; decide, by decide⟩
    obtain ⟨t, rfl, ht, htl⟩ := hy
    simp only [walkA, e]
    exact q t d2 (by omega) ht h2
  by_cases e2 : n = 2
  · simp only [walkA, T__law_piece_6, T__law_piece_5, T__law_piece_4, e2, tk]
    exact q _ d1 (by decide) (by unfold Lo; decide) h1
  by_cases e3 : n = 3
  · simp only [walkA, T__law_piece_6, T__law_piece_5, T__law_piece_4, T__law_piece_3, e3, tk]
    refine text_ok h1 (by omega) (by omega) fun l d2 hl ho h2 => ?_
    simp only [walkA]
    have hl5 : l.length ≤ 5 := hl
    obtain ⟨m, em, hmo, hml⟩ := rep_T (l := l) (y := [92]) (z := [92, 92]) (by decide) ho (by unfold Lo; decide)
    obtain ⟨m2, em2, hmo2, hml2⟩ := rep_T (l := m) (y := [34]) (z := [92, 34]) (by decide) hmo (by unfold Lo; decide)
    simp only [List.length_cons, List.length_nil] at hml hml2
    rw [em]
    simp only [walkA]
    rw [em2]
    simp only [walkA]
    refine ⟨by omega, by omega, by omega, by omega, ?_⟩
    refine q _ d2 (by simp; omega) ?_ h2
    intro c hc
    simp only [List.mem_cons, List.mem_append, List.not_mem_nil, or_false] at hc
    rcases hc with rfl | hc | rfl
    · decide
    · exact hmo2 c hc
    · decide
  by_cases e4 : n = 4
  · simp only [walkA, T__law_piece_6, T__law_piece_5, T__law_piece_4, T__law_piece_3, T__law_piece_2, e4, tk]
    exact q _ d1 (by decide) (by unfold Lo; decide) h1
  simp only [walkA, T__law_piece_6, T__law_piece_5, T__law_piece_4, T__law_piece_3, T__law_piece_2, T__law_piece_1, e0, e1, e2, e3, e4, tk]
  exact text_ok h1 (by omega) (by omega) fun l d' hl ho h2 => by simp only [walkA]; exact q l d' (by omega) ho h2
theorem canAll_ts : ∀ (ls : List (List Nat)), (∀ l ∈ ls, Lo l) → PyData.canLayAll0 (ts ls) = true
  | [], _ => rfl
  | l :: ls, h => by
    have hl := h l (List.mem_cons_self ..)
    show PyData.canLayAll0 (.str (T l) :: ts ls) = true
    rw [PyData.canLayAll0, canAll_ts ls fun x hx => h x (List.mem_cons_of_mem _ hx), PyData.canLay0]
    have : PyData.strOk (T l) = true := by
      unfold PyData.strOk T
      simp only [List.size_toArray, List.all_toArray', List.all_eq_true, decide_eq_true_eq]
      intro c hc
      have := hl c hc
      omega
    rw [this]
    rfl
theorem depthAll_ts : ∀ (ls : List (List Nat)), PyData.depthAll (ts ls) = 0
  | [] => by simp [PyData.depthAll]
  | l :: ls => by
    show PyData.depthAll (.str (T l) :: ts ls) = 0
    rw [PyData.depthAll, depthAll_ts ls]
    simp [PyData.depth]
theorem shaped_lts {ls : List (List Nat)} (h : ∀ l ∈ ls, Lo l) : SeqAt.shaped (.list (ts ls)) = true := by
  simp [SeqAt.shaped, PyData.canLay0, PyData.depth, canAll_ts ls h, depthAll_ts]
theorem eqvAll_ts : ∀ (xs ys : List (List Nat)), PyData.eqvAll (ts xs) (ts ys) = decide (xs = ys)
  | [], [] => by simp [eqvA_nn]
  | [], y :: ys => by simp [eqvA_nc]
  | x :: xs, [] => by simp [eqvA_cn]
  | x :: xs, y :: ys => by
    show PyData.eqvAll (.str (T x) :: ts xs) (.str (T y) :: ts ys) = _
    rw [eqvA_cc, eqvAll_ts xs ys, eqv_ss]
    simp [Bool.decide_and, T_inj]
theorem gEq_lts {xs ys : List (List Nat)} (hx : ∀ l ∈ xs, Lo l) (hy : ∀ l ∈ ys, Lo l) : gEq (.list (ts xs)) (.list (ts ys)) = some (.bool (decide (xs = ys))) := by
  rw [gEq_ll, if_pos (by rw [shaped_lts hx, shaped_lts hy]; rfl), eqvAll_ts]
theorem gNe_lts {xs ys : List (List Nat)} (hx : ∀ l ∈ xs, Lo l) (hy : ∀ l ∈ ys, Lo l) : gNe (.list (ts xs)) (.list (ts ys)) = some (.bool (!decide (xs = ys))) := by
  rw [gNe_ll, if_pos (by rw [shaped_lts hx, shaped_lts hy]; rfl), eqvAll_ts]
theorem isi_list {xs : List PyData} : gIsi "list" (.list xs) = some (.bool true) := rfl
theorem cutF_lo (m : Nat) : ∀ (r : List Nat) (q t : Bool) (cur : List Nat), Lo r → Lo cur → ∀ p ∈ (cutF m r q t cur).1, Lo p := by
  intro r
  induction r with
  | nil => intro q t cur hr hc p hp; cases List.mem_singleton.mp hp; exact hc
  | cons c r ih =>
    intro q t cur hr hc p hp
    have hr' : Lo r := fun x hx => hr x (List.mem_cons_of_mem _ hx)
    have hc' : Lo (cur ++ [c]) := lo_app hc fun x hx => by cases List.mem_singleton.mp hx; exact hr c (List.mem_cons_self ..)
    unfold cutF at hp
    split at hp
    · exact ih _ _ _ hr' hc' p hp
    · split at hp
      · exact ih _ _ _ hr' hc' p hp
      · split at hp
        · exact ih _ _ _ hr' hc' p hp
        · split at hp
          · rcases List.mem_cons.mp hp with rfl | hp
            · exact hc
            · exact ih _ _ _ hr' (by intro c h; cases h) p hp
          · exact ih _ _ _ hr' hc' p hp
theorem trimL_mem {l : List Nat} {c : Nat} (h : c ∈ trimL wW l) : c ∈ l := by
  unfold trimL trimR at h
  have := (List.dropWhile_sublist _).subset (List.mem_reverse.mp h)
  exact (List.dropWhile_sublist _).subset (List.mem_reverse.mp this)
theorem cu_lo {l : List Nat} (h : Lo l) : ∀ p ∈ ((CU l).1.map (trimL wW)).filter (fun p => decide (p ≠ [])), Lo p := by
  intro p hp
  obtain ⟨p', hp', rfl⟩ := List.mem_map.mp (List.mem_filter.mp hp).1
  exact fun c hc => cutF_lo 44 l false false [] h (by intro c h; cases h) p' hp' c (trimL_mem hc)
/-- pairs of texts -/
abbrev pr (ps : List (List Nat × List Nat)) : List PyData := ps.map fun p => .tuple [.str (T p.1), .str (T p.2)]
def LoP (ps : List (List Nat × List Nat)) : Prop := ∀ p ∈ ps, Lo p.1 ∧ Lo p.2
theorem strOk_T {l : List Nat} (hl : Lo l) : PyData.strOk (T l) = true := by
  unfold PyData.strOk T
  simp only [List.size_toArray, List.all_toArray', List.all_eq_true, decide_eq_true_eq]
  intro c hc
  have := hl c hc
  omega
theorem canAll_pr : ∀ (ps : List (List Nat × List Nat)), LoP ps → PyData.canLayAll0 (pr ps) = true
  | [], _ => rfl
  | p :: ps, h => by
    show PyData.canLayAll0 (.tuple [.str (T p.1), .str (T p.2)] :: pr ps) = true
    rw [PyData.canLayAll0, canAll_pr ps fun x hx => h x (List.mem_cons_of_mem _ hx)]
    have h1 := h p (List.mem_cons_self ..)
    simp [PyData.canLay0, PyData.canLayAll0, strOk_T h1.1, strOk_T h1.2]
theorem depthAll_pr : ∀ (ps : List (List Nat × List Nat)), PyData.depthAll (pr ps) ≤ 1
  | [] => by simp [PyData.depthAll]
  | p :: ps => by
    show PyData.depthAll (.tuple [.str (T p.1), .str (T p.2)] :: pr ps) ≤ 1
    rw [PyData.depthAll]
    have := depthAll_pr ps
    simp [PyData.depth, PyData.depthAll]
    omega
theorem shaped_pr {ps : List (List Nat × List Nat)} (h : LoP ps) : SeqAt.shaped (.tuple (pr ps)) = true := by
  have := depthAll_pr ps
  simp [SeqAt.shaped, PyData.canLay0, PyData.depth, canAll_pr ps h]
  omega
theorem eqvAll_pr : ∀ (ps : List (List Nat × List Nat)), PyData.eqvAll (pr ps) (pr ps) = true
  | [] => by simp [eqvA_nn]
  | p :: ps => by
    show PyData.eqvAll (.tuple [.str (T p.1), .str (T p.2)] :: pr ps) (.tuple [.str (T p.1), .str (T p.2)] :: pr ps) = _
    rw [eqvA_cc, eqvAll_pr ps, eqv_tt, eqvA_cc, eqvA_cc, eqvA_nn, eqv_ss, eqv_ss]
    simp
theorem gEq_pr {ps : List (List Nat × List Nat)} (h : LoP ps) : gEq (.tuple (pr ps)) (.tuple (pr ps)) = some (.bool true) := by
  rw [gEq_tt, if_pos (by rw [shaped_pr h]; rfl), eqvAll_pr]
end ownanswer_k51_lists_and_joined_values
namespace ownanswer_k51_lists_and_joined_values
open PySem PySem.Spec L2 Fw
local macro_rules | `(tactic| simp only [walkA, $xs,*] $[$l:location]?) => `(tactic| simp only [ok_some, ok_none, okV_some, okV_none, ↓okV_if, ↓ok_if, ↓ok_ret, ↓ok_bnd, ↓ok_lft, ↓ok_bin, ↓ok_una, ↓ok_binL, ↓ok_unaL, ↓ok_mny, ↓ok_rdD, ↓ok_rdO, ↓ok_rdA, ↓ok_toB, ↓ok_sAnd, ↓ok_sOr, ↓ok_sNot, ↓ok_vAnd, ↓ok_vOr, ↓ok_sIf, ↓ok_chn, ↓ok_sNil, ↓ok_sCons, ↓ok_dTup, ↓ok_dLst, ↓ok_m0S, ↓ok_m1S, ↓ok_m1L, ↓ok_ixO, ↓ok_sPart, ↓ok_sSl, ↓ok_tupO, ↓ok_sItems, ↓ok_sScr, ↓ok_sEnum, ↓ok_sRng1, ↓ok_sRng2, ↓ok_seqS, ↓ok_nxt, ↓ok_brkS, ↓ok_cntS, ↓ok_retN, ↓ok_drpS, ↓ok_asg, ↓ok_asgL, ↓ok_asgG, ↓ok_augS, ↓ok_ifS, ↓ok_retD, ↓ok_retL, ↓ok_retO, ↓ok_appO, ↓ok_setO, ↓ok_extO, ↓ok_popS, ↓ok_forS, ↓ok_forL_nil, ↓ok_lcS, ↓ok_lcL_nil, ↓okV_callD, ↓okV_callV, ↓ok_callM, ↓ok_asD, ↓ok_asL, ↓ok_callS, ↓ok_runF, ↓ok_rplS, ↓ok_tupA, ↓ok_strM, ↓ok_chn3, own?, toN, toT, toNs, wipE, bakE, stp_nx, stp_ct, stp_bk, stp_rt, Fw.collect, ok_yesS, List.getElem?_cons_zero, List.getElem?_cons_succ, List.set_cons_zero, List.set_cons_succ, List.map_cons, List.map_nil, List.length_cons, List.length_nil, List.cons_append, List.nil_append, List.replicate_succ, List.replicate_zero, Nat.reduceAdd, Nat.reduceSub, Nat.reduceLeDiff, Nat.reduceLT, Nat.reduceEqDiff, Int.reduceLT, Int.reduceLE, Int.reduceNeg, Int.reducePow, Int.reduceEq, Option.isSome_some, Option.map_some, Option.map_none, true_and, and_true, if_true, if_false, ite_true, ite_false, Bool.false_eq_true, reduceIte, reduceCtorEq, gAdd_ii, gAdd_ss, gAdd_tt, gSub_ii, gMul_ii, gDiv_ii, gMod_ii, gNeg_i, gLt_ii, gGt_ii, gGe_ii, gLe_ii, eqv_ii, eqv_ss, eqv_bb, eqv_nn, eqv_ni, eqv_in, eqv_ns, eqv_sn, eqv_nb, eqv_bn, eqv_is, eqv_si, eqv_nt, eqv_tn, eqv_nl, eqv_ln, eqv_tt, eqv_ll, eqvA_nn, eqvA_cc, eqvA_nc, eqvA_cn, gEq_ii, gEq_ss, gEq_bb, gEq_nn, gEq_in, gEq_ni, gEq_sn, gEq_ns, gEq_si, gEq_is, gNe_ii, gNe_ss, gNe_bb, gNe_nn, gNot_b, gIsN_n, gIsN_i, gIsN_b, gIsN_s, gIsN_t, gIsN_l, gNotN_n, gNotN_i, gNotN_b, gNotN_s, gNotN_t, gNotN_l, gIx_l, gIx_t, gIx_s, gLen_s, gLen_l, gLen_t, gAbs_i, gInt_i, gInt_b, gInt_s, gOrd_sign, gDivmod_ii, gStr_i, gStr_s, gTuple_l, gTuple_t, gStrip_s, gLstrip_s, gSplit_s, gPartition_s, gJoin_m, gCat_ll, gSl_s, gSl_t, gSl_l, itemsOf_l, itemsOf_t, itemsOf_s, ofString_inj, cMul_r, cMul_l, ixN_lit, atI_lit, atI_m1, cast_lit, String.reduceEq, decide_true, decide_false, Int.reduceSub, Int.reduceAdd, Int.reduceMul, Int.reduceToNat, T_toList, T_len, T_app, T_inj, T_sign, T_cut, T_signs, T_strip, T_empty, gIn_T, gNin_T, gLjust_T, lt_0, lt_1, lt_2, lt_3, lt_4, lt_5, lt_6, lt_7, lt_8, lt_9, lt_10, lt_11, lt_12, lt_13, lt_14, lt_15, lt_16, lt_17, lt_18, lt_19, lt_20, lt_21, $xs,*] $[$l:location]?)
local macro_rules | `(tactic| simp only [walkA] $[$l:location]?) => `(tactic| simp only [ok_some, ok_none, okV_some, okV_none, ↓okV_if, ↓ok_if, ↓ok_ret, ↓ok_bnd, ↓ok_lft, ↓ok_bin, ↓ok_una, ↓ok_binL, ↓ok_unaL, ↓ok_mny, ↓ok_rdD, ↓ok_rdO, ↓ok_rdA, ↓ok_toB, ↓ok_sAnd, ↓ok_sOr, ↓ok_sNot, ↓ok_vAnd, ↓ok_vOr, ↓ok_sIf, ↓ok_chn, ↓ok_sNil, ↓ok_sCons, ↓ok_dTup, ↓ok_dLst, ↓ok_m0S, ↓ok_m1S, ↓ok_m1L, ↓ok_ixO, ↓ok_sPart, ↓ok_sSl, ↓ok_tupO, ↓ok_sItems, ↓ok_sScr, ↓ok_sEnum, ↓ok_sRng1, ↓ok_sRng2, ↓ok_seqS, ↓ok_nxt, ↓ok_brkS, ↓ok_cntS, ↓ok_retN, ↓ok_drpS, ↓ok_asg, ↓ok_asgL, ↓ok_asgG, ↓ok_augS, ↓ok_ifS, ↓ok_retD, ↓ok_retL, ↓ok_retO, ↓ok_appO, ↓ok_setO, ↓ok_extO, ↓ok_popS, ↓ok_forS, ↓ok_forL_nil, ↓ok_lcS, ↓ok_lcL_nil, ↓okV_callD, ↓okV_callV, ↓ok_callM, ↓ok_asD, ↓ok_asL, ↓ok_callS, ↓ok_runF, ↓ok_rplS, ↓ok_tupA, ↓ok_strM, ↓ok_chn3, own?, toN, toT, toNs, wipE, bakE, stp_nx, stp_ct, stp_bk, stp_rt, Fw.collect, ok_yesS, List.getElem?_cons_zero, List.getElem?_cons_succ, List.set_cons_zero, List.set_cons_succ, List.map_cons, List.map_nil, List.length_cons, List.length_nil, List.cons_append, List.nil_append, List.replicate_succ, List.replicate_zero, Nat.reduceAdd, Nat.reduceSub, Nat.reduceLeDiff, Nat.reduceLT, Nat.reduceEqDiff, Int.reduceLT, Int.reduceLE, Int.reduceNeg, Int.reducePow, Int.reduceEq, Option.isSome_some, Option.map_some, Option.map_none, true_and, and_true, if_true, if_false, ite_true, ite_false, Bool.false_eq_true, reduceIte, reduceCtorEq, gAdd_ii, gAdd_ss, gAdd_tt, gSub_ii, gMul_ii, gDiv_ii, gMod_ii, gNeg_i, gLt_ii, gGt_ii, gGe_ii, gLe_ii, eqv_ii, eqv_ss, eqv_bb, eqv_nn, eqv_ni, eqv_in, eqv_ns, eqv_sn, eqv_nb, eqv_bn, eqv_is, eqv_si, eqv_nt, eqv_tn, eqv_nl, eqv_ln, eqv_tt, eqv_ll, eqvA_nn, eqvA_cc, eqvA_nc, eqvA_cn, gEq_ii, gEq_ss, gEq_bb, gEq_nn, gEq_in, gEq_ni, gEq_sn, gEq_ns, gEq_si, gEq_is, gNe_ii, gNe_ss, gNe_bb, gNe_nn, gNot_b, gIsN_n, gIsN_i, gIsN_b, gIsN_s, gIsN_t, gIsN_l, gNotN_n, gNotN_i, gNotN_b, gNotN_s, gNotN_t, gNotN_l, gIx_l, gIx_t, gIx_s, gLen_s, gLen_l, gLen_t, gAbs_i, gInt_i, gInt_b, gInt_s, gOrd_sign, gDivmod_ii, gStr_i, gStr_s, gTuple_l, gTuple_t, gStrip_s, gLstrip_s, gSplit_s, gPartition_s, gJoin_m, gCat_ll, gSl_s, gSl_t, gSl_l, itemsOf_l, itemsOf_t, itemsOf_s, ofString_inj, cMul_r, cMul_l, ixN_lit, atI_lit, atI_m1, cast_lit, String.reduceEq, decide_true, decide_false, Int.reduceSub, Int.reduceAdd, Int.reduceMul, Int.reduceToNat, T_toList, T_len, T_app, T_inj, T_sign, T_cut, T_signs, T_strip, T_empty, gIn_T, gNin_T, gLjust_T, lt_0, lt_1, lt_2, lt_3, lt_4, lt_5, lt_6, lt_7, lt_8, lt_9, lt_10, lt_11, lt_12, lt_13, lt_14, lt_15, lt_16, lt_17, lt_18, lt_19, lt_20, lt_21] $[$l:location]?)

/-- the values of a name, joined -/
def valsOfV (n : List Nat) (ps : List (List Nat × List Nat)) : List (List Nat) := (ps.filter fun p => decide (p.1 = n)).map (·.2)
def joinOfV (vs : List (List Nat)) : PyData := if vs = [] then .none else .str (Txt.join (T [44, 32]) (vs.map T))
theorem join_boundV {vs : List (List Nat)} {b n : Nat} (h : ∀ v ∈ vs, v.length ≤ b) (hn : vs.length ≤ n) : ((vs.map T).map (·.length)).sum + (vs.map T).length * 2 ≤ n * (b + 2) := by
  have : ((vs.map T).map (·.length)).sum ≤ vs.length * b := by
    clear hn
    induction vs with
    | nil => simp
    | cons v vs ih =>
      have h1 := ih fun w hw => h w (List.mem_cons_of_mem _ hw)
      have h2 := h v (List.mem_cons_self ..)
      simp only [List.map_cons, List.sum_cons, T_len, List.length_cons, Nat.succ_mul]
      omega
  rw [List.length_map]
  have h1 : vs.length * b ≤ n * b := Nat.mul_le_mul_right b hn
  rw [Nat.mul_add]
  omega
theorem vals_okV {ps : List (List Nat × List Nat)} {n : List Nat} (hlow : gLower (T n) = some (.str (T n))) (hn : ps.length < 100) {Q : Sl → En → Prop} (q : Q (.own (ts (valsOfV n ps))) [.un, .un]) :
    Ok (S_values [.dat (.tuple (pr ps)), .dat (.str (T n))]) Q := by
  have hs := sizeLine_eq
  unfold S_values
  rw [ok_runF]
  refine ⟨rfl, ?_⟩
  simp only [walkA, Y_values, S_lower, Y_lower, hlow]
  simp only [walkA, T_values_1]
  refine ⟨by rw [List.length_map]; omega, ?_⟩
  refine lcL_map (fun p : List Nat × List Nat => PyData.tuple [.str (T p.1), .str (T p.2)]) (fun p => .str (T p.2)) (fun p => decide (p.1 = n)) ps _ (fun p hp => ?_) ?_
  · unfold turn
    simp only [walkA, C_values_1, C_values_2]
    by_cases h : p.1 = n
    · simp only [walkA, h]
    · simp only [walkA, h]
  · simp only [walkA]
    rw [show (ps.filter fun p => decide (p.1 = n)).map (fun p => PyData.str (T p.2)) = ts (valsOfV n ps) by unfold valsOfV; simp [ts]]
    exact q
theorem join_okV {ps : List (List Nat × List Nat)} {n : List Nat} (hlow : gLower (T n) = some (.str (T n))) (hn : ps.length < 100) (hb : ∀ p ∈ ps, p.2.length ≤ 100) {Q : Sl → En → Prop} (q : Q (.dat (joinOfV (valsOfV n ps))) [.un, .un]) :
    Ok (S_join_values [.dat (.tuple (pr ps)), .dat (.str (T n))]) Q := by
  unfold S_join_values
  rw [ok_runF]
  refine ⟨rfl, ?_⟩
  simp only [walkA, Y_join_values]
  refine vals_okV hlow hn ?_
  simp only [walkA, T_join_values_1]
  have hv : ∀ v ∈ valsOfV n ps, v.length ≤ 100 := fun v hv => by
    obtain ⟨p, hp, rfl⟩ := List.mem_map.mp hv
    exact hb p (List.mem_filter.mp hp).1
  have hvl : (valsOfV n ps).length ≤ 100 := by
    unfold valsOfV
    rw [List.length_map]
    have := List.length_filter_le (fun p : List Nat × List Nat => decide (p.1 = n)) ps
    omega
  have hj := join_boundV hv hvl
  by_cases h : valsOfV n ps = []
  · rw [joinOfV, if_pos h] at q
    simp only [walkA, h]
    exact q
  · rw [joinOfV, if_neg h] at q
    have hl : ¬ ((valsOfV n ps).length : Int) = 0 := fun z => h (List.eq_nil_of_length_eq_zero (by omega))
    have e1 : ts (valsOfV n ps) = ((valsOfV n ps).map T).map .str := by rw [List.map_map]; rfl
    simp only [walkA, e1, List.length_map, hl, gJoin_m]
    simp only [List.length_map] at hj
    exact ⟨by omega, q⟩
end ownanswer_k51_lists_and_joined_values
namespace ownanswer_k62_conditions_judged
open PySem Fw
def Y_is_value_sign : SS := (retD (vOr (bin (rdD 0) (ret (.int 9)) gEq) (vAnd (chn (ret (.int 32)) (rdD 0) (ret (.int 126)) gLe gLe) (bin (rdD 0) (ret (.int 37)) gNe))))
abbrev N_is_value_sign : List Str := ["octet"]
def S_is_value_sign : Fn := runF 1 1 Y_is_value_sign
def C_is_digits_1 : SE PyData := (bin (rdD 1) (ret (.str "0123456789")) gIn)
def C_is_digits_2 : SE PyData := (bin (rdD 1) (ret (.str "0123456789")) gIn)
def Y_is_digits : SS := (retD (vAnd (bin (una (rdD 0) gLen) (ret (.int 0)) gGt) (una (bnd (lcS (sItems (rdD 0)) [1] (toN 1) yesS C_is_digits_2) fun ds => ret (.list ds)) gAll)))
abbrev N_is_digits : List Str := ["text", "sign"]
def S_is_digits : Fn := runF 1 2 Y_is_digits
def Y_lower : SS := (retD (m0S (rdD 0) gLower))
abbrev N_lower : List Str := ["text"]
def S_lower : Fn := runF 1 1 Y_lower
def Y_trimmed : SS := (retD (m1S (rdD 0) (ret (.str " \t")) gStrip))
abbrev N_trimmed : List Str := ["text"]
def S_trimmed : Fn := runF 1 1 Y_trimmed
def Y__is_leap : SS := (retD (vAnd (bin (bin (rdD 0) (ret (.int 4)) gMod) (ret (.int 0)) gEq) (vOr (bin (bin (rdD 0) (ret (.int 100)) gMod) (ret (.int 0)) gNe) (bin (bin (rdD 0) (ret (.int 400)) gMod) (ret (.int 0)) gEq))))
abbrev N__is_leap : List Str := ["year"]
def S__is_leap : Fn := runF 1 1 Y__is_leap
def T__days_ahead_1 : SS := (retD (bin (bin (bin (rdD 0) (ret (.int 1970)) gSub) (ret (.int 365)) gMul) (rdD 2) gAdd))
def T__days_ahead_2 : SS := (seqS (asg 2 (bin (bin (bin (bin (rdD 1) (ret (.int 4)) gDiv) (bin (rdD 1) (ret (.int 100)) gDiv) gSub) (bin (rdD 1) (ret (.int 400)) gDiv) gAdd) (ret (.int 477)) gSub)) T__days_ahead_1)
def Y__days_ahead : SS := (seqS (asg 1 (bin (rdD 0) (ret (.int 1)) gSub)) T__days_ahead_2)
abbrev N__days_ahead : List Str := ["year", "past", "leaps"]
def S__days_ahead : Fn := runF 1 3 Y__days_ahead
def T__clock_1 : SS := (retD (jns [(una (rdD 3) (gSpec "02d")), (ret (.str ":")), (una (rdD 1) (gSpec "02d")), (ret (.str ":")), (una (rdD 2) (gSpec "02d"))] Str.empty))
def T__clock_2 : SS := (seqS (asgG (toT [3, 1]) (mny (sCons (rdD 1) (sCons (ret (.int 60)) sNil)) gDivmod)) T__clock_1)
def Y__clock : SS := (seqS (asgG (toT [1, 2]) (mny (sCons (rdD 0) (sCons (ret (.int 60)) sNil)) gDivmod)) T__clock_2)
abbrev N__clock : List Str := ["second", "minute", "rest", "hour"]
def S__clock : Fn := runF 1 4 Y__clock
def T__cut_1 : SS := (asg 3 (bin (rdD 6) (ret (.int 1)) gAdd))
def L__cut_1 : SS := (ifS (toB (rdD 5)) (asg 5 (ret (.bool false))) (ifS (toB (bin (rdD 7) (ret (.str "\"")) gEq)) (asg 4 (una (rdD 4) gNot)) (ifS (toB (bin (rdD 7) (ret (.str "\\")) gEq)) (asg 5 (rdD 4)) (ifS (sAnd (toB (bin (rdD 7) (rdD 1) gEq)) (sNot (toB (rdD 4)))) (seqS (appO 2 (sSl (rdD 0) (sPart (rdD 3)) (sPart (rdD 6)))) T__cut_1) nxt))))
def T__cut_2 : SS := (retD (sIf (toB (rdD 4)) (ret .none) (rdA 2)))
def T__cut_3 : SS := (seqS (appO 2 (sSl (rdD 0) (sPart (rdD 3)) (ret none))) T__cut_2)
def T__cut_4 : SS := (seqS (forS (sEnum (rdD 0)) (toT [6, 7]) L__cut_1) T__cut_3)
def T__cut_5 : SS := (seqS (asg 5 (ret (.bool false))) T__cut_4)
def T__cut_6 : SS := (seqS (asg 4 (ret (.bool false))) T__cut_5)
def T__cut_7 : SS := (seqS (asg 3 (ret (.int 0))) T__cut_6)
def Y__cut : SS := (seqS (asgL 2 (dLst sNil)) T__cut_7)
abbrev N__cut : List Str := ["text", "mark", "parts", "begin", "quoted", "taken", "at", "sign"]
def S__cut : Fn := runF 2 8 Y__cut
def Y_strong_match : SS := (retD (vAnd (bin (bin (rdD 0) (ret (.int 1)) gIx) (bin (rdD 1) (ret (.int 1)) gIx) gEq) (vAnd (una (bin (rdD 0) (ret (.int 0)) gIx) gNot) (una (bin (rdD 1) (ret (.int 0)) gIx) gNot))))
abbrev N_strong_match : List Str := ["a", "b"]
def S_strong_match : Fn := runF 2 2 Y_strong_match
def Y_weak_match : SS := (retD (bin (bin (rdD 0) (ret (.int 1)) gIx) (bin (rdD 1) (ret (.int 1)) gIx) gEq))
abbrev N_weak_match : List Str := ["a", "b"]
def S_weak_match : Fn := runF 2 2 Y_weak_match
def L__law_draw_1 : SS := (asg 1 (bin (una (bin (bin (bin (rdD 1) (ret (.int 48271)) gMul) (bin (una (una (rdD 2) gInt) gAbs) (ret (.int 65521)) gMod) gAdd) (ret (.int 1)) gAdd) gInt) (ret (.int 2147483647)) gMod))
def C__law_draw_1 : SE PyData := (una (una (rdD 2) gInt) gAbs)
def T__law_draw_1 : SS := (retL (dLst (sCons (bnd (lcS (sScr 0) [2] (toN 2) yesS C__law_draw_1) fun ds => ret (.list ds)) (sCons (una (ret (.int 1)) gNeg) (sCons (ret (.int 0)) (sCons (rdD 1) sNil))))))
def T__law_draw_2 : SS := (seqS (forS (sScr 0) (toN 2) L__law_draw_1) T__law_draw_1)
def Y__law_draw : SS := (seqS (asg 1 (ret (.int 7))) T__law_draw_2)
abbrev N__law_draw : List Str := ["script", "seed", "cell"]
def S__law_draw : Fn := runF 1 3 Y__law_draw
def T__law_take_1 : SS := (setO 0 (ixO 0 (ret (.int 3))) (ret (.int 2)))
def T__law_take_2 : SS := (ifS (toB (bin (ixO 0 (ret (.int 2))) (ret (.int 0)) gEq)) (seqS (setO 0 (bin (una (bin (bin (ixO 0 (ret (.int 3))) (ret (.int 48271)) gMul) (ret (.int 11)) gAdd) gInt) (ret (.int 2147483647)) gMod) (ret (.int 3))) T__law_take_1) nxt)
def T__law_take_3 : SS := (seqS (ifS (toB (bin (ixO 0 (ret (.int 1))) (una (ixO 0 (ret (.int 0))) gLen) gLt)) (setO 0 (bin (ixO 0 (ret (.int 0))) (ixO 0 (ret (.int 1))) gIx) (ret (.int 2))) nxt) T__law_take_2)
def T__law_take_4 : SS := (retD (rdD 2))
def T__law_take_5 : SS := (seqS (setO 0 (bin (ixO 0 (ret (.int 2))) (rdD 1) gDiv) (ret (.int 2))) T__law_take_4)
def T__law_take_6 : SS := (seqS (asg 2 (bin (una (ixO 0 (ret (.int 2))) gInt) (rdD 1) gMod)) T__law_take_5)
def Y__law_take : SS := (seqS (ifS (toB (bin (ixO 0 (ret (.int 2))) (ret (.int 0)) gEq)) (seqS (setO 0 (bin (ixO 0 (ret (.int 1))) (ret (.int 1)) gAdd) (ret (.int 1))) T__law_take_3) nxt) T__law_take_6)
abbrev N__law_take : List Str := ["draw", "many", "found"]
def S__law_take : Fn := runF 2 3 Y__law_take
def Y__law_tag_text : SS := (retD (bin (bin (bin (sIf (toB (bin (rdD 0) (ret (.int 0)) gIx)) (ret (.str "W/")) (ret (.str ""))) (ret (.str "\"")) gAdd) (bin (rdD 0) (ret (.int 1)) gIx) gAdd) (ret (.str "\"")) gAdd))
abbrev N__law_tag_text : List Str := ["tag"]
def S__law_tag_text : Fn := runF 1 1 Y__law_tag_text
def Y__law_strong : SS := (retD (vAnd (una (bin (rdD 0) (ret (.int 0)) gIx) gNot) (vAnd (una (bin (rdD 1) (ret (.int 0)) gIx) gNot) (bin (bin (rdD 0) (ret (.int 1)) gIx) (bin (rdD 1) (ret (.int 1)) gIx) gEq))))
abbrev N__law_strong : List Str := ["a", "b"]
def S__law_strong : Fn := runF 2 2 Y__law_strong
def C__law_joined_1 : SE PyData := (rdD 4)
def C__law_joined_2 : SE Bool := (toB (bin (rdD 3) (rdD 1) gEq))
def T__law_joined_1 : SS := (retD (sIf (toB (bin (rdD 2) (bnd (dLst sNil) fun ds => ret (.list ds)) gEq)) (ret .none) (m1S (ret (.str ", ")) (rdD 2) gJoin)))
def Y__law_joined : SS := (seqS (asg 2 (bnd (lcS (sItems (rdD 0)) [3, 4] (toT [3, 4]) C__law_joined_2 C__law_joined_1) fun ds => ret (.list ds))) T__law_joined_1)
abbrev N__law_joined : List Str := ["fields", "name", "found", "key", "value"]
def S__law_joined : Fn := runF 2 5 Y__law_joined
def L__law_read_tag_1 : SS := (ifS (toB (bin (rdD 2) (ret (.str " \"\\\t")) gIn)) (retD (ret .none)) nxt)
def T__law_read_tag_1 : SS := (retD (dTup (sCons (rdD 1) (sCons (sSl (rdD 0) (sPart (ret (.int 1))) (sPart (una (ret (.int 1)) gNeg))) sNil))))
def T__law_read_tag_2 : SS := (seqS (forS (sItems (sSl (rdD 0) (sPart (ret (.int 1))) (sPart (una (ret (.int 1)) gNeg)))) (toN 2) L__law_read_tag_1) T__law_read_tag_1)
def T__law_read_tag_3 : SS := (seqS (ifS (sOr (toB (bin (una (rdD 0) gLen) (ret (.int 2)) gLt)) (sOr (toB (bin (bin (rdD 0) (ret (.int 0)) gIx) (ret (.str "\"")) gNe)) (toB (bin (bin (rdD 0) (una (ret (.int 1)) gNeg) gIx) (ret (.str "\"")) gNe)))) (retD (ret .none)) nxt) T__law_read_tag_2)
def T__law_read_tag_4 : SS := (seqS (ifS (toB (rdD 1)) (asg 0 (sSl (rdD 0) (sPart (ret (.int 2))) (ret none))) nxt) T__law_read_tag_3)
def Y__law_read_tag : SS := (seqS (asg 1 (bin (sSl (rdD 0) (ret none) (sPart (ret (.int 2)))) (ret (.str "W/")) gEq)) T__law_read_tag_4)
abbrev N__law_read_tag : List Str := ["text", "weak", "sign"]
def S__law_read_tag : Fn := runF 1 3 Y__law_read_tag
def T__law_pieces_1 : SS := (ifS (toB (bin (rdD 3) (ret (.str "\"")) gEq)) (asg 2 (una (rdD 2) gNot)) nxt)
def L__law_pieces_1 : SS := (ifS (sAnd (toB (bin (rdD 3) (ret (.str ",")) gEq)) (sNot (toB (rdD 2)))) (appO 1 (ret (.str ""))) (seqS (setO 1 (bin (ixO 1 (una (ret (.int 1)) gNeg)) (rdD 3) gAdd) (una (ret (.int 1)) gNeg)) T__law_pieces_1))
def C__law_pieces_1 : SE PyData := (m1S (rdD 4) (ret (.str " ")) gStrip)
def C__law_pieces_2 : SE Bool := (toB (bin (m1S (rdD 4) (ret (.str " ")) gStrip) (ret (.str "")) gNe))
def T__law_pieces_2 : SS := (retD (sIf (toB (rdD 2)) (ret .none) (bnd (lcS (sItems (rdA 1)) [4] (toN 4) C__law_pieces_2 C__law_pieces_1) fun ds => ret (.list ds))))
def T__law_pieces_3 : SS := (seqS (forS (sItems (rdD 0)) (toN 3) L__law_pieces_1) T__law_pieces_2)
def T__law_pieces_4 : SS := (seqS (asg 2 (ret (.bool false))) T__law_pieces_3)
def Y__law_pieces : SS := (seqS (asgL 1 (dLst (sCons (ret (.str "")) sNil))) T__law_pieces_4)
abbrev N__law_pieces : List Str := ["value", "found", "inside", "sign", "one"]
def S__law_pieces : Fn := runF 1 5 Y__law_pieces
def C_values_1 : SE PyData := (rdD 4)
def C_values_2 : SE Bool := (toB (bin (rdD 3) (rdD 2) gEq))
def T_values_1 : SS := (retL (lcS (sItems (rdD 0)) [3, 4] (toT [3, 4]) C_values_2 C_values_1))
def Y_values : SS := (seqS (asg 2 (mny (sCons (rdD 1) sNil) (callD S_lower))) T_values_1)
abbrev N_values : List Str := ["fields", "name", "wanted", "key", "value"]
def S_values : Fn := runF 2 5 Y_values
def Y__days_of_month : SS := (retD (sIf (sAnd (toB (bin (rdD 1) (ret (.int 1)) gEq)) (toB (mny (sCons (rdD 0) sNil) (callD S__is_leap)))) (ret (.int 29)) (bin (ret (.tuple [(.int 31), (.int 28), (.int 31), (.int 30), (.int 31), (.int 30), (.int 31), (.int 31), (.int 30), (.int 31), (.int 30), (.int 31)])) (rdD 1) gIx)))
abbrev N__days_of_month : List Str := ["year", "month"]
def S__days_of_month : Fn := runF 2 2 Y__days_of_month
def L__year_of_1 : SS := (augS 1 (fun i j => i + j) (ret (.int 1)))
def T__year_of_1 : SS := (retD (rdD 1))
def T__year_of_2 : SS := (seqS (whS (toB (bin (mny (sCons (bin (rdD 1) (ret (.int 1)) gAdd) sNil) (callD S__days_ahead)) (rdD 0) gLe)) L__year_of_1) T__year_of_1)
def Y__year_of : SS := (seqS (asg 1 (bin (ret (.int 1970)) (bin (rdD 0) (ret (.int 366)) gDiv) gAdd)) T__year_of_2)
abbrev N__year_of : List Str := ["days", "year"]
def S__year_of : Fn := runF 1 2 Y__year_of
def C__read_clock_1 : SE PyData := (mny (sCons (rdD 5) sNil) (callD S_is_digits))
def T__read_clock_1 : SS := (retD (bin (bin (bin (rdD 2) (ret (.int 3600)) gMul) (bin (rdD 3) (ret (.int 60)) gMul) gAdd) (rdD 4) gAdd))
def T__read_clock_2 : SS := (seqS (ifS (sOr (toB (bin (rdD 2) (ret (.int 23)) gGt)) (sOr (toB (bin (rdD 3) (ret (.int 59)) gGt)) (toB (bin (rdD 4) (ret (.int 59)) gGt)))) (retD (ret .none)) nxt) T__read_clock_1)
def T__read_clock_3 : SS := (seqS (asg 4 (una (bin (rdD 1) (ret (.int 2)) gIx) gInt)) T__read_clock_2)
def T__read_clock_4 : SS := (seqS (asg 3 (una (bin (rdD 1) (ret (.int 1)) gIx) gInt)) T__read_clock_3)
def T__read_clock_5 : SS := (seqS (asg 2 (una (bin (rdD 1) (ret (.int 0)) gIx) gInt)) T__read_clock_4)
def T__read_clock_6 : SS := (seqS (ifS (sOr (toB (bin (una (rdD 1) gLen) (ret (.int 3)) gNe)) (sNot (toB (una (bnd (lcS (sItems (rdD 1)) [5] (toN 5) yesS C__read_clock_1) fun ds => ret (.list ds)) gAll)))) (retD (ret .none)) nxt) T__read_clock_5)
def Y__read_clock : SS := (seqS (asg 1 (bnd (m1L (rdD 0) (ret (.str ":")) gSplit) fun ds => ret (.list ds))) T__read_clock_6)
abbrev N__read_clock : List Str := ["text", "parts", "hour", "minute", "second", "part"]
def S__read_clock : Fn := runF 1 6 Y__read_clock
def C_split_list_1 : SE PyData := (mny (sCons (rdD 3) sNil) (callD S_trimmed))
def C_split_list_2 : SE PyData := (rdD 3)
def C_split_list_3 : SE Bool := (toB (bin (rdD 3) (ret (.str "")) gNe))
def T_split_list_1 : SS := (retL (lcS (sItems (rdD 2)) [3] (toN 3) C_split_list_3 C_split_list_2))
def T_split_list_2 : SS := (seqS (asg 2 (bnd (lcS (sItems (rdD 1)) [3] (toN 3) yesS C_split_list_1) fun ds => ret (.list ds))) T_split_list_1)
def T_split_list_3 : SS := (seqS (ifS (toB (una (rdD 1) gIsN)) (retD (ret .none)) nxt) T_split_list_2)
def Y_split_list : SS := (seqS (asg 1 (mny (sCons (rdD 0) (sCons (ret (.str ",")) sNil)) (callD S__cut))) T_split_list_3)
abbrev N_split_list : List Str := ["value", "parts", "trimmed_parts", "part"]
def S_split_list : Fn := runF 1 4 Y_split_list
def Y__number : SS := (retD (sIf (sAnd (toB (mny (sCons (rdD 0) sNil) (callD S_is_digits))) (toB (bin (una (rdD 0) gLen) (ret (.int 15)) gLe))) (una (rdD 0) gInt) (ret .none)))
abbrev N__number : List Str := ["text"]
def S__number : Fn := runF 1 1 Y__number
def C_is_tag_text_1 : SE PyData := (vAnd (bin (rdD 2) (ret (.str " ")) gGtS) (vAnd (bin (rdD 2) (ret (.str "\"")) gNe) (vAnd (bin (rdD 2) (ret (.str "\\")) gNe) (mny (sCons (una (rdD 2) gOrd) sNil) (callD S_is_value_sign)))))
def T_is_tag_text_1 : SS := (retD (una (rdD 1) gAll))
def Y_is_tag_text : SS := (seqS (asg 1 (bnd (lcS (sItems (rdD 0)) [2] (toN 2) yesS C_is_tag_text_1) fun ds => ret (.list ds))) T_is_tag_text_1)
abbrev N_is_tag_text : List Str := ["text", "fitting", "sign"]
def S_is_tag_text : Fn := runF 1 3 Y_is_tag_text
def C__matches_1 : SE PyData := (sIf (toB (rdD 2)) (mny (sCons (rdD 3) (sCons (rdD 1) sNil)) (callD S_strong_match)) (mny (sCons (rdD 3) (sCons (rdD 1) sNil)) (callD S_weak_match)))
def T__matches_1 : SS := (retD (una (bnd (lcS (sItems (rdD 0)) [3] (toN 3) yesS C__matches_1) fun ds => ret (.list ds)) gAny))
def T__matches_2 : SS := (seqS (ifS (toB (bin (rdD 0) (ret (.str "*")) gEq)) (retD (ret (.bool true))) nxt) T__matches_1)
def Y__matches : SS := (seqS (ifS (sOr (toB (una (rdD 0) gIsN)) (toB (una (rdD 1) gIsN))) (retD (ret (.bool false))) nxt) T__matches_2)
abbrev N__matches : List Str := ["tags", "tag", "strong", "wanted"]
def S__matches : Fn := runF 3 4 Y__matches
def C__law_read_tags_1 : SE PyData := (mny (sCons (rdD 3) sNil) (callD S__law_read_tag))
def T__law_read_tags_1 : SS := (retD (sIf (toB (bin (ret .none) (rdD 2) gIn)) (ret .none) (rdD 2)))
def T__law_read_tags_2 : SS := (seqS (asg 2 (bnd (lcS (sItems (rdD 1)) [3] (toN 3) yesS C__law_read_tags_1) fun ds => ret (.list ds))) T__law_read_tags_1)
def T__law_read_tags_3 : SS := (seqS (ifS (sOr (toB (una (rdD 1) gIsN)) (toB (bin (rdD 1) (bnd (dLst sNil) fun ds => ret (.list ds)) gEq))) (retD (ret .none)) nxt) T__law_read_tags_2)
def T__law_read_tags_4 : SS := (seqS (asg 1 (mny (sCons (rdD 0) sNil) (callD S__law_pieces))) T__law_read_tags_3)
def Y__law_read_tags : SS := (seqS (ifS (toB (bin (m1S (rdD 0) (ret (.str " ")) gStrip) (ret (.str "*")) gEq)) (retD (ret (.str "*"))) nxt) T__law_read_tags_4)
abbrev N__law_read_tags : List Str := ["value", "pieces", "tags", "one"]
def S__law_read_tags : Fn := runF 1 4 Y__law_read_tags
def L__law_among_1 : SS := (ifS (sOr (toB (mny (sCons (rdD 3) (sCons (rdD 1) sNil)) (callD S__law_strong))) (sAnd (sNot (toB (rdD 2))) (toB (bin (bin (rdD 3) (ret (.int 1)) gIx) (bin (rdD 1) (ret (.int 1)) gIx) gEq)))) (retD (ret (.bool true))) nxt)
def T__law_among_1 : SS := (retD (ret (.bool false)))
def T__law_among_2 : SS := (seqS (forS (sItems (rdD 0)) (toN 3) L__law_among_1) T__law_among_1)
def T__law_among_3 : SS := (seqS (ifS (toB (bin (rdD 0) (ret (.str "*")) gEq)) (retD (ret (.bool true))) nxt) T__law_among_2)
def Y__law_among : SS := (seqS (ifS (toB (una (rdD 1) gIsN)) (retD (ret (.bool false))) nxt) T__law_among_3)
abbrev N__law_among : List Str := ["tags", "tag", "strong", "other"]
def S__law_among : Fn := runF 3 4 Y__law_among
def L__law_date_1 : SS := (ifS (toB (bin (rdD 3) (rdD 4) gEq)) (retD (rdD 5)) nxt)
def T__law_date_1 : SS := (retD (ret .none))
def T__law_date_2 : SS := (seqS (forS (sItems (rdD 2)) (toT [4, 5]) L__law_date_1) T__law_date_1)
def Y__law_date : SS := (seqS (asg 3 (mny (sCons (rdD 0) (sCons (rdD 1) sNil)) (callD S__law_joined))) T__law_date_2)
abbrev N__law_date : List Str := ["fields", "name", "dates", "value", "text", "time"]
def S__law_date : Fn := runF 3 6 Y__law_date
def Y__law_time : SS := (retD (bin (bnd (dLst (sCons (dTup (sCons (ret (.str "Sat, 04 Mar 2017 05:06:07 GMT")) (sCons (ret (.int 1488603967)) sNil))) (sCons (dTup (sCons (ret (.str "Sat, 04 Mar 2017 05:06:08 GMT")) (sCons (ret (.int 1488603968)) sNil))) (sCons (dTup (sCons (ret (.str "Sat, 04 Mar 2017 05:06:06 GMT")) (sCons (ret (.int 1488603966)) sNil))) (sCons (dTup (sCons (ret (.str "Sat Mar  4 05:06:07 2017")) (sCons (ret (.int 1488603967)) sNil))) (sCons (dTup (sCons (ret (.str "Mon, 04 Mar 2017 05:06:07 GMT")) (sCons (ret .none) sNil))) (sCons (dTup (sCons (ret (.str "soon")) (sCons (ret .none) sNil))) sNil))))))) fun ds => ret (.list ds)) (asD (callM 0 S__law_take (sCons (ret (.int 6)) sNil))) gIx))
abbrev N__law_time : List Str := ["draw"]
def S__law_time : Fn := runF 1 1 Y__law_time
def C__law_tags_value_1 : SE PyData := (bin (rdD 3) (asD (callM 0 S__law_take (sCons (ret (.int 4)) sNil))) gIx)
def T__law_tags_value_1 : SS := (retD (m1S (ret (.str ", ")) (bnd (lcS (sRng1 (bin (ret (.int 1)) (asD (callM 0 S__law_take (sCons (ret (.int 3)) sNil))) gAdd)) [5] (toN 5) yesS C__law_tags_value_1) fun ds => ret (.list ds)) gJoin))
def T__law_tags_value_2 : SS := (seqS (ifS (toB (bin (rdD 4) (ret (.int 1)) gEq)) (retD (bin (bnd (dLst (sCons (ret (.str "a")) (sCons (ret (.str "")) (sCons (ret (.str "\"a")) (sCons (ret (.str "W/a, \"b\"")) (sCons (ret (.str ",")) sNil)))))) fun ds => ret (.list ds)) (asD (callM 0 S__law_take (sCons (ret (.int 5)) sNil))) gIx)) nxt) T__law_tags_value_1)
def T__law_tags_value_3 : SS := (seqS (ifS (toB (bin (rdD 4) (ret (.int 0)) gEq)) (retD (ret (.str "*"))) nxt) T__law_tags_value_2)
def T__law_tags_value_4 : SS := (seqS (asg 4 (asD (callM 0 S__law_take (sCons (ret (.int 7)) sNil)))) T__law_tags_value_3)
def T__law_tags_value_5 : SS := (seqS (asg 3 (bnd (dLst (sCons (mny (sCons (rdD 2) sNil) (callD S__law_tag_text)) (sCons (bin (bin (bin (ret (.str "W/")) (ret (.str "\"")) gAdd) (bin (rdD 2) (ret (.int 1)) gIx) gAdd) (ret (.str "\"")) gAdd) (sCons (ret (.str "\"zz\"")) (sCons (bin (bin (ret (.str "\"")) (bin (rdD 2) (ret (.int 1)) gIx) gAdd) (ret (.str "\"")) gAdd) sNil))))) fun ds => ret (.list ds))) T__law_tags_value_4)
def Y__law_tags_value : SS := (seqS (asg 2 (sIf (toB (una (rdD 1) gIsN)) (dTup (sCons (ret (.bool false)) (sCons (ret (.str "a")) sNil))) (rdD 1))) T__law_tags_value_5)
abbrev N__law_tags_value : List Str := ["draw", "tag", "base", "menu", "choice", "k"]
def S__law_tags_value : Fn := runF 2 6 Y__law_tags_value
def T__parts_1 : SS := (augS 4 (fun i j => i + j) (ret (.int 1)))
def L__parts_1 : SS := (seqS (augS 3 (fun i j => i - j) (mny (sCons (rdD 2) (sCons (rdD 4) sNil)) (callD S__days_of_month))) T__parts_1)
def T__parts_2 : SS := (retD (dTup (sCons (bin (ret (.tuple [(.str "Monday"), (.str "Tuesday"), (.str "Wednesday"), (.str "Thursday"), (.str "Friday"), (.str "Saturday"), (.str "Sunday")])) (bin (bin (rdD 1) (ret (.int 3)) gAdd) (ret (.int 7)) gMod) gIx) (sCons (rdD 2) (sCons (rdD 4) (sCons (bin (rdD 3) (ret (.int 1)) gAdd) (sCons (mny (sCons (rdD 5) sNil) (callD S__clock)) sNil)))))))
def T__parts_3 : SS := (seqS (asg 5 (bin (rdD 0) (bin (rdD 1) (ret (.int 86400)) gMul) gSub)) T__parts_2)
def T__parts_4 : SS := (seqS (whS (toB (bin (rdD 3) (mny (sCons (rdD 2) (sCons (rdD 4) sNil)) (callD S__days_of_month)) gGe)) L__parts_1) T__parts_3)
def T__parts_5 : SS := (seqS (asg 4 (ret (.int 0))) T__parts_4)
def T__parts_6 : SS := (seqS (asg 3 (bin (rdD 1) (mny (sCons (rdD 2) sNil) (callD S__days_ahead)) gSub)) T__parts_5)
def T__parts_7 : SS := (seqS (asg 2 (mny (sCons (rdD 1) sNil) (callD S__year_of))) T__parts_6)
def Y__parts : SS := (seqS (asg 1 (bin (rdD 0) (ret (.int 86400)) gDiv)) T__parts_7)
abbrev N__parts : List Str := ["time", "days", "year", "day", "month", "second"]
def S__parts : Fn := runF 1 6 Y__parts
def L__read_time_1 : SS := (augS 6 (fun i j => i + j) (mny (sCons (rdD 0) (sCons (rdD 7) sNil)) (callD S__days_of_month)))
def T__read_time_1 : SS := (retD (bin (bin (rdD 6) (ret (.int 86400)) gMul) (rdD 4) gAdd))
def T__read_time_2 : SS := (seqS (forS (sRng1 (rdD 5)) (toN 7) L__read_time_1) T__read_time_1)
def T__read_time_3 : SS := (seqS (asg 6 (bin (bin (mny (sCons (rdD 0) sNil) (callD S__days_ahead)) (una (rdD 2) gInt) gAdd) (ret (.int 1)) gSub)) T__read_time_2)
def T__read_time_4 : SS := (seqS (ifS (sOr (toB (bin (una (rdD 2) gInt) (ret (.int 1)) gLt)) (toB (bin (una (rdD 2) gInt) (mny (sCons (rdD 0) (sCons (rdD 5) sNil)) (callD S__days_of_month)) gGt))) (retD (ret .none)) nxt) T__read_time_3)
def T__read_time_5 : SS := (seqS (asg 5 (una (rdD 1) (gTidx [(.str "Jan"), (.str "Feb"), (.str "Mar"), (.str "Apr"), (.str "May"), (.str "Jun"), (.str "Jul"), (.str "Aug"), (.str "Sep"), (.str "Oct"), (.str "Nov"), (.str "Dec")]))) T__read_time_4)
def T__read_time_6 : SS := (seqS (ifS (sOr (toB (bin (rdD 0) (ret (.int 1970)) gLt)) (toB (bin (rdD 0) (ret (.int 9999)) gGt))) (retD (ret .none)) nxt) T__read_time_5)
def T__read_time_7 : SS := (seqS (ifS (sOr (toB (una (rdD 4) gIsN)) (sOr (toB (bin (rdD 1) (ret (.tuple [(.str "Jan"), (.str "Feb"), (.str "Mar"), (.str "Apr"), (.str "May"), (.str "Jun"), (.str "Jul"), (.str "Aug"), (.str "Sep"), (.str "Oct"), (.str "Nov"), (.str "Dec")])) gNin)) (sNot (toB (mny (sCons (rdD 2) sNil) (callD S_is_digits)))))) (retD (ret .none)) nxt) T__read_time_6)
def Y__read_time : SS := (seqS (asg 4 (mny (sCons (rdD 3) sNil) (callD S__read_clock))) T__read_time_7)
abbrev N__read_time : List Str := ["year", "month", "day", "clock", "second", "at", "days", "past"]
def S__read_time : Fn := runF 4 8 Y__read_time
def T__full_year_1 : SS := (retD (bin (rdD 2) (bin (bin (rdD 2) (rdD 0) gSub) (ret (.int 100)) gMod) gSub))
def Y__full_year : SS := (seqS (asg 2 (bin (mny (sCons (bin (rdD 1) (ret (.int 86400)) gDiv) sNil) (callD S__year_of)) (ret (.int 50)) gAdd)) T__full_year_1)
abbrev N__full_year : List Str := ["last_two", "now", "latest"]
def S__full_year : Fn := runF 2 3 Y__full_year
def T_join_values_1 : SS := (retD (sIf (toB (bin (una (rdD 2) gLen) (ret (.int 0)) gEq)) (ret .none) (m1S (ret (.str ", ")) (rdD 2) gJoin)))
def Y_join_values : SS := (seqS (asg 2 (mny (sCons (rdD 0) (sCons (rdD 1) sNil)) (callD S_values))) T_join_values_1)
abbrev N_join_values : List Str := ["fields", "name", "found"]
def S_join_values : Fn := runF 2 3 Y_join_values
def T__read_last_1 : SS := (retD (sIf (toB (una (rdD 2) gIsN)) (ret .none) (dTup (sCons (mny (sCons (bin (rdD 1) (rdD 2) gSub) (sCons (ret (.int 0)) sNil)) gMax) (sCons (bin (rdD 1) (ret (.int 1)) gSub) sNil)))))
def Y__read_last : SS := (seqS (asg 2 (mny (sCons (rdD 0) sNil) (callD S__number))) T__read_last_1)
abbrev N__read_last : List Str := ["digits", "size", "many"]
def S__read_last : Fn := runF 2 3 Y__read_last
def T_read_tag_1 : SS := (retD (sIf (toB (mny (sCons (sSl (rdD 2) (sPart (ret (.int 1))) (sPart (una (ret (.int 1)) gNeg))) sNil) (callD S_is_tag_text))) (dTup (sCons (rdD 1) (sCons (sSl (rdD 2) (sPart (ret (.int 1))) (sPart (una (ret (.int 1)) gNeg))) sNil))) (ret .none)))
def T_read_tag_2 : SS := (seqS (ifS (sOr (toB (bin (una (rdD 2) gLen) (ret (.int 2)) gLt)) (sOr (toB (bin (bin (rdD 2) (ret (.int 0)) gIx) (ret (.str "\"")) gNe)) (toB (bin (bin (rdD 2) (una (ret (.int 1)) gNeg) gIx) (ret (.str "\"")) gNe)))) (retD (ret .none)) nxt) T_read_tag_1)
def T_read_tag_3 : SS := (seqS (asg 2 (sIf (toB (rdD 1)) (sSl (rdD 0) (sPart (una (ret (.str "W/")) gLen)) (ret none)) (rdD 0))) T_read_tag_2)
def Y_read_tag : SS := (seqS (asg 1 (strM (rdD 0) (sCons (ret (.str "W/")) sNil) gStarts)) T_read_tag_3)
abbrev N_read_tag : List Str := ["text", "weak", "rest"]
def S_read_tag : Fn := runF 1 3 Y_read_tag
def T__law_whole_1 : SS := (retD (vOr (una (rdD 7) gIsN) (bin (rdD 3) (rdD 7) gNe)))
def T__law_whole_2 : SS := (seqS (asg 7 (mny (sCons (rdD 1) (sCons (ret (.str "if-range")) (sCons (rdD 4) sNil))) (callD S__law_date))) T__law_whole_1)
def T__law_whole_3 : SS := (seqS (ifS (toB (una (rdD 6) gNotN)) (retD (vOr (una (rdD 2) gIsN) (una (mny (sCons (rdD 6) (sCons (rdD 2) sNil)) (callD S__law_strong)) gNot))) nxt) T__law_whole_2)
def T__law_whole_4 : SS := (seqS (asg 6 (mny (sCons (rdD 5) sNil) (callD S__law_read_tag))) T__law_whole_3)
def T__law_whole_5 : SS := (seqS (ifS (toB (una (rdD 5) gIsN)) (retD (ret (.bool false))) nxt) T__law_whole_4)
def T__law_whole_6 : SS := (seqS (asg 5 (mny (sCons (rdD 1) (sCons (ret (.str "if-range")) sNil)) (callD S__law_joined))) T__law_whole_5)
def Y__law_whole : SS := (seqS (ifS (sOr (toB (bin (rdD 0) (ret (.str "GET")) gNe)) (toB (una (mny (sCons (rdD 1) (sCons (ret (.str "range")) sNil)) (callD S__law_joined)) gIsN))) (retD (ret (.bool true))) nxt) T__law_whole_6)
abbrev N__law_whole : List Str := ["method", "fields", "tag", "modified", "dates", "value", "other", "limit"]
def S__law_whole : Fn := runF 5 8 Y__law_whole
def T__law_fields_1 : SS := (ifS (toB (bin (asD (callM 0 S__law_take (sCons (ret (.int 6)) sNil))) (ret (.int 0)) gEq)) (appO 2 (dTup (sCons (rdD 3) (sCons (asD (callM 0 S__law_tags_value (sCons (rdD 1) sNil))) sNil)))) nxt)
def L__law_fields_1 : SS := (ifS (toB (bin (asD (callM 0 S__law_take (sCons (ret (.int 3)) sNil))) (ret (.int 0)) gEq)) (seqS (appO 2 (dTup (sCons (rdD 3) (sCons (asD (callM 0 S__law_tags_value (sCons (rdD 1) sNil))) sNil)))) T__law_fields_1) nxt)
def T__law_fields_2 : SS := (ifS (toB (bin (asD (callM 0 S__law_take (sCons (ret (.int 8)) sNil))) (ret (.int 0)) gEq)) (appO 2 (dTup (sCons (rdD 3) (sCons (bin (asD (callM 0 S__law_time sNil)) (ret (.int 0)) gIx) sNil)))) nxt)
def L__law_fields_2 : SS := (ifS (toB (bin (asD (callM 0 S__law_take (sCons (ret (.int 3)) sNil))) (ret (.int 0)) gEq)) (seqS (appO 2 (dTup (sCons (rdD 3) (sCons (bin (asD (callM 0 S__law_time sNil)) (ret (.int 0)) gIx) sNil)))) T__law_fields_2) nxt)
def T__law_fields_3 : SS := (appO 2 (dTup (sCons (ret (.str "if-range")) (sCons (rdD 5) sNil))))
def T__law_fields_4 : SS := (retD (una (bnd (binL (sSl (rdA 2) (sPart (rdD 4)) (ret none)) (sSl (rdA 2) (ret none) (sPart (rdD 4))) gCat) fun ds => ret (.list ds)) gTuple))
def T__law_fields_5 : SS := (seqS (asg 4 (asD (callM 0 S__law_take (sCons (una (rdO 2) gLen) sNil)))) T__law_fields_4)
def T__law_fields_6 : SS := (seqS (appO 2 (dTup (sCons (ret (.str "accept")) (sCons (ret (.str "*/*")) sNil)))) T__law_fields_5)
def T__law_fields_7 : SS := (seqS (ifS (toB (bin (asD (callM 0 S__law_take (sCons (ret (.int 2)) sNil))) (ret (.int 0)) gEq)) (seqS (asg 5 (bin (bnd (dLst (sCons (bin (asD (callM 0 S__law_time sNil)) (ret (.int 0)) gIx) (sCons (asD (callM 0 S__law_tags_value (sCons (rdD 1) sNil))) sNil))) fun ds => ret (.list ds)) (asD (callM 0 S__law_take (sCons (ret (.int 2)) sNil))) gIx)) T__law_fields_3) nxt) T__law_fields_6)
def T__law_fields_8 : SS := (seqS (ifS (toB (bin (asD (callM 0 S__law_take (sCons (ret (.int 2)) sNil))) (ret (.int 0)) gEq)) (appO 2 (dTup (sCons (ret (.str "range")) (sCons (ret (.str "bytes=0-")) sNil)))) nxt) T__law_fields_7)
def T__law_fields_9 : SS := (seqS (forS (sItems (bnd (dLst (sCons (ret (.str "if-unmodified-since")) (sCons (ret (.str "if-modified-since")) sNil))) fun ds => ret (.list ds))) (toN 3) L__law_fields_2) T__law_fields_8)
def T__law_fields_10 : SS := (seqS (forS (sItems (bnd (dLst (sCons (ret (.str "if-match")) (sCons (ret (.str "if-none-match")) sNil))) fun ds => ret (.list ds))) (toN 3) L__law_fields_1) T__law_fields_9)
def Y__law_fields : SS := (seqS (asgL 2 (dLst sNil)) T__law_fields_10)
abbrev N__law_fields : List Str := ["draw", "tag", "fields", "name", "at", "value"]
def S__law_fields : Fn := runF 2 6 Y__law_fields
def T_write_date_1 : SS := (retD (jns [(una (sSl (rdD 1) (ret none) (sPart (ret (.int 3)))) gFmt), (ret (.str ", ")), (una (rdD 4) (gSpec "02d")), (ret (.str " ")), (una (bin (ret (.tuple [(.str "Jan"), (.str "Feb"), (.str "Mar"), (.str "Apr"), (.str "May"), (.str "Jun"), (.str "Jul"), (.str "Aug"), (.str "Sep"), (.str "Oct"), (.str "Nov"), (.str "Dec")])) (rdD 3) gIx) gFmt), (ret (.str " ")), (una (rdD 2) gFmt), (ret (.str " ")), (una (rdD 5) gFmt), (ret (.str " GMT"))] Str.empty))
def Y_write_date : SS := (seqS (asgG (toT [1, 2, 3, 4, 5]) (mny (sCons (rdD 0) sNil) (callD S__parts))) T_write_date_1)
abbrev N_write_date : List Str := ["time", "weekday", "year", "month", "day", "clock"]
def S_write_date : Fn := runF 1 6 Y_write_date
def T__write_dashed_1 : SS := (retD (jns [(una (rdD 2) gFmt), (ret (.str ", ")), (una (rdD 5) (gSpec "02d")), (ret (.str "-")), (una (bin (ret (.tuple [(.str "Jan"), (.str "Feb"), (.str "Mar"), (.str "Apr"), (.str "May"), (.str "Jun"), (.str "Jul"), (.str "Aug"), (.str "Sep"), (.str "Oct"), (.str "Nov"), (.str "Dec")])) (rdD 4) gIx) gFmt), (ret (.str "-")), (una (rdD 1) (gSpec "02d")), (ret (.str " ")), (una (rdD 6) gFmt), (ret (.str " GMT"))] Str.empty))
def T__write_dashed_2 : SS := (seqS (asg 1 (bin (rdD 3) (ret (.int 100)) gMod)) T__write_dashed_1)
def Y__write_dashed : SS := (seqS (asgG (toT [2, 3, 4, 5, 6]) (mny (sCons (rdD 0) sNil) (callD S__parts))) T__write_dashed_2)
abbrev N__write_dashed : List Str := ["time", "last_two", "weekday", "year", "month", "day", "clock"]
def S__write_dashed : Fn := runF 1 7 Y__write_dashed
def T__write_spaced_1 : SS := (retD (jns [(una (sSl (rdD 1) (ret none) (sPart (ret (.int 3)))) gFmt), (ret (.str " ")), (una (bin (ret (.tuple [(.str "Jan"), (.str "Feb"), (.str "Mar"), (.str "Apr"), (.str "May"), (.str "Jun"), (.str "Jul"), (.str "Aug"), (.str "Sep"), (.str "Oct"), (.str "Nov"), (.str "Dec")])) (rdD 3) gIx) gFmt), (ret (.str " ")), (una (rdD 4) (gSpec ">2d")), (ret (.str " ")), (una (rdD 5) gFmt), (ret (.str " ")), (una (rdD 2) gFmt)] Str.empty))
def Y__write_spaced : SS := (seqS (asgG (toT [1, 2, 3, 4, 5]) (mny (sCons (rdD 0) sNil) (callD S__parts))) T__write_spaced_1)
abbrev N__write_spaced : List Str := ["time", "weekday", "year", "month", "day", "clock"]
def S__write_spaced : Fn := runF 1 6 Y__write_spaced
def T__read_range_1 : SS := (retD (dTup (sCons (rdD 2) (sCons (mny (sCons (rdD 3) (sCons (bin (rdD 1) (ret (.int 1)) gSub) sNil)) gMin) sNil))))
def T__read_range_2 : SS := (seqS (ifS (sAnd (toB (bin (rdD 6) (ret (.str "")) gNe)) (toB (bin (rdD 3) (rdD 2) gLt))) (retD (ret .none)) nxt) T__read_range_1)
def T__read_range_3 : SS := (seqS (ifS (sOr (toB (bin (rdD 5) (ret (.str "")) gEq)) (sOr (toB (una (rdD 2) gIsN)) (toB (una (rdD 3) gIsN)))) (retD (ret .none)) nxt) T__read_range_2)
def T__read_range_4 : SS := (seqS (asg 3 (sIf (toB (bin (rdD 6) (ret (.str "")) gEq)) (bin (rdD 1) (ret (.int 1)) gSub) (mny (sCons (rdD 6) sNil) (callD S__number)))) T__read_range_3)
def T__read_range_5 : SS := (seqS (asg 2 (mny (sCons (rdD 4) sNil) (callD S__number))) T__read_range_4)
def T__read_range_6 : SS := (seqS (ifS (toB (bin (rdD 4) (ret (.str "")) gEq)) (retD (mny (sCons (rdD 6) (sCons (rdD 1) sNil)) (callD S__read_last))) nxt) T__read_range_5)
def Y__read_range : SS := (seqS (asgG (toT [4, 5, 6]) (m1S (rdD 0) (ret (.str "-")) gPartition)) T__read_range_6)
abbrev N__read_range : List Str := ["element", "size", "first", "last", "left", "minus", "right"]
def S__read_range : Fn := runF 2 7 Y__read_range
def C_read_tags_1 : SE PyData := (mny (sCons (rdD 3) sNil) (callD S_read_tag))
def T_read_tags_1 : SS := (retD (sIf (toB (bin (ret .none) (rdD 2) gIn)) (ret .none) (rdD 2)))
def T_read_tags_2 : SS := (seqS (asg 2 (bnd (lcS (sItems (rdD 1)) [3] (toN 3) yesS C_read_tags_1) fun ds => ret (.list ds))) T_read_tags_1)
def T_read_tags_3 : SS := (seqS (ifS (sOr (toB (una (rdD 1) gIsN)) (toB (bin (una (rdD 1) gLen) (ret (.int 0)) gEq))) (retD (ret .none)) nxt) T_read_tags_2)
def T_read_tags_4 : SS := (seqS (asg 1 (mny (sCons (rdD 0) sNil) (callD S_split_list))) T_read_tags_3)
def Y_read_tags : SS := (seqS (ifS (toB (bin (rdD 0) (ret (.str "*")) gEq)) (retD (ret (.str "*"))) nxt) T_read_tags_4)
abbrev N_read_tags : List Str := ["value", "parts", "tags", "part"]
def S_read_tags : Fn := runF 1 4 Y_read_tags
def T__law_judge_1 : SS := (ifS (sOr (toB (una (rdD 8) gIsN)) (sNot (toB (mny (sCons (rdD 8) (sCons (rdD 2) (sCons (ret (.bool true)) sNil))) (callD S__law_among))))) (retD (dTup (sCons (ret (.int 412)) (sCons (ret (.bool true)) sNil)))) nxt)
def T__law_judge_2 : SS := (ifS (sAnd (toB (una (rdD 9) gNotN)) (sAnd (toB (una (rdD 3) gNotN)) (toB (bin (rdD 3) (rdD 9) gGt)))) (retD (dTup (sCons (ret (.int 412)) (sCons (ret (.bool true)) sNil)))) nxt)
def T__law_judge_3 : SS := (ifS (sAnd (toB (rdD 5)) (sAnd (toB (una (rdD 9) gNotN)) (sAnd (toB (una (rdD 3) gNotN)) (toB (bin (rdD 3) (rdD 9) gLe))))) (retD (dTup (sCons (ret (.int 304)) (sCons (ret (.bool true)) sNil)))) nxt)
def T__law_judge_4 : SS := (retD (dTup (sCons (ret (.int 0)) (sCons (mny (sCons (rdD 0) (sCons (rdD 1) (sCons (rdD 2) (sCons (rdD 3) (sCons (rdD 4) sNil))))) (callD S__law_whole)) sNil))))
def T__law_judge_5 : SS := (seqS (ifS (toB (una (rdD 8) gNotN)) (ifS (toB (mny (sCons (rdD 8) (sCons (rdD 2) (sCons (ret (.bool false)) sNil))) (callD S__law_among))) (retD (sIf (toB (rdD 5)) (dTup (sCons (ret (.int 304)) (sCons (ret (.bool true)) sNil))) (dTup (sCons (ret (.int 412)) (sCons (ret (.bool true)) sNil))))) nxt) (seqS (asg 9 (mny (sCons (rdD 1) (sCons (ret (.str "if-modified-since")) (sCons (rdD 4) sNil))) (callD S__law_date))) T__law_judge_3)) T__law_judge_4)
def T__law_judge_6 : SS := (seqS (asg 8 (sIf (toB (una (rdD 7) gIsN)) (ret .none) (mny (sCons (rdD 7) sNil) (callD S__law_read_tags)))) T__law_judge_5)
def T__law_judge_7 : SS := (seqS (asg 7 (mny (sCons (rdD 1) (sCons (ret (.str "if-none-match")) sNil)) (callD S__law_joined))) T__law_judge_6)
def T__law_judge_8 : SS := (seqS (ifS (toB (una (rdD 6) gNotN)) (seqS (asg 8 (mny (sCons (rdD 6) sNil) (callD S__law_read_tags))) T__law_judge_1) (seqS (asg 9 (mny (sCons (rdD 1) (sCons (ret (.str "if-unmodified-since")) (sCons (rdD 4) sNil))) (callD S__law_date))) T__law_judge_2)) T__law_judge_7)
def T__law_judge_9 : SS := (seqS (asg 6 (mny (sCons (rdD 1) (sCons (ret (.str "if-match")) sNil)) (callD S__law_joined))) T__law_judge_8)
def Y__law_judge : SS := (seqS (asg 5 (bin (rdD 0) (bnd (dLst (sCons (ret (.str "GET")) (sCons (ret (.str "HEAD")) sNil))) fun ds => ret (.list ds)) gIn)) T__law_judge_9)
abbrev N__law_judge : List Str := ["method", "fields", "tag", "modified", "dates", "reading", "wanted", "known", "tags", "limit"]
def S__law_judge : Fn := runF 5 10 Y__law_judge
def T__read_fixed_1 : SS := (retD (sIf (sAnd (toB (una (rdD 1) gNotN)) (toB (bin (mny (sCons (rdD 1) sNil) (callD S_write_date)) (rdD 0) gEq))) (rdD 1) (ret .none)))
def T__read_fixed_2 : SS := (seqS (asg 1 (mny (sCons (una (sSl (rdD 0) (sPart (ret (.int 12))) (sPart (ret (.int 16)))) gInt) (sCons (sSl (rdD 0) (sPart (ret (.int 8))) (sPart (ret (.int 11)))) (sCons (sSl (rdD 0) (sPart (ret (.int 5))) (sPart (ret (.int 7)))) (sCons (sSl (rdD 0) (sPart (ret (.int 17))) (sPart (ret (.int 25)))) sNil)))) (callD S__read_time))) T__read_fixed_1)
def Y__read_fixed : SS := (seqS (ifS (sNot (toB (mny (sCons (sSl (rdD 0) (sPart (ret (.int 12))) (sPart (ret (.int 16)))) sNil) (callD S_is_digits)))) (retD (ret .none)) nxt) T__read_fixed_2)
abbrev N__read_fixed : List Str := ["text", "time"]
def S__read_fixed : Fn := runF 1 2 Y__read_fixed
def T__read_dashed_1 : SS := (retD (sIf (sAnd (toB (una (rdD 3) gNotN)) (toB (bin (mny (sCons (rdD 3) sNil) (callD S__write_dashed)) (rdD 0) gEq))) (rdD 3) (ret .none)))
def T__read_dashed_2 : SS := (seqS (asg 3 (mny (sCons (mny (sCons (una (sSl (rdD 2) (sPart (ret (.int 7))) (sPart (ret (.int 9)))) gInt) (sCons (rdD 1) sNil)) (callD S__full_year)) (sCons (sSl (rdD 2) (sPart (ret (.int 3))) (sPart (ret (.int 6)))) (sCons (sSl (rdD 2) (ret none) (sPart (ret (.int 2)))) (sCons (sSl (rdD 2) (sPart (ret (.int 10))) (sPart (ret (.int 18)))) sNil)))) (callD S__read_time))) T__read_dashed_1)
def T__read_dashed_3 : SS := (seqS (ifS (sNot (toB (mny (sCons (sSl (rdD 2) (sPart (ret (.int 7))) (sPart (ret (.int 9)))) sNil) (callD S_is_digits)))) (retD (ret .none)) nxt) T__read_dashed_2)
def Y__read_dashed : SS := (seqS (asg 2 (bin (m1S (rdD 0) (ret (.str ", ")) gPartition) (ret (.int 2)) gIx)) T__read_dashed_3)
abbrev N__read_dashed : List Str := ["text", "now", "rest", "time"]
def S__read_dashed : Fn := runF 2 4 Y__read_dashed
def T__read_spaced_1 : SS := (retD (sIf (sAnd (toB (una (rdD 1) gNotN)) (toB (bin (mny (sCons (rdD 1) sNil) (callD S__write_spaced)) (rdD 0) gEq))) (rdD 1) (ret .none)))
def T__read_spaced_2 : SS := (seqS (asg 1 (mny (sCons (una (sSl (rdD 0) (sPart (ret (.int 20))) (sPart (ret (.int 24)))) gInt) (sCons (sSl (rdD 0) (sPart (ret (.int 4))) (sPart (ret (.int 7)))) (sCons (m1S (sSl (rdD 0) (sPart (ret (.int 8))) (sPart (ret (.int 10)))) (ret (.str " ")) gLstrip) (sCons (sSl (rdD 0) (sPart (ret (.int 11))) (sPart (ret (.int 19)))) sNil)))) (callD S__read_time))) T__read_spaced_1)
def Y__read_spaced : SS := (seqS (ifS (sNot (toB (mny (sCons (sSl (rdD 0) (sPart (ret (.int 20))) (sPart (ret (.int 24)))) sNil) (callD S_is_digits)))) (retD (ret .none)) nxt) T__read_spaced_2)
abbrev N__read_spaced : List Str := ["text", "time"]
def S__read_spaced : Fn := runF 1 2 Y__read_spaced
def C_read_ranges_1 : SE PyData := (mny (sCons (rdD 4) (sCons (rdD 1) sNil)) (callD S__read_range))
def C_read_ranges_2 : SE PyData := (dTup (sCons (rdD 5) (sCons (rdD 6) sNil)))
def C_read_ranges_3 : SE Bool := (toB (bin (rdD 5) (rdD 1) gLt))
def T_read_ranges_1 : SS := (retD (sIf (toB (bin (ret .none) (rdD 3) gIn)) (ret .none) (bnd (lcS (sItems (rdD 3)) [5, 6] (toT [5, 6]) C_read_ranges_3 C_read_ranges_2) fun ds => ret (.list ds))))
def T_read_ranges_2 : SS := (seqS (asg 3 (bnd (lcS (sItems (rdD 2)) [4] (toN 4) yesS C_read_ranges_1) fun ds => ret (.list ds))) T_read_ranges_1)
def T_read_ranges_3 : SS := (seqS (ifS (sOr (toB (una (rdD 2) gIsN)) (sNot (toB (chn (ret (.int 1)) (una (rdD 2) gLen) (ret (.int 20)) gLe gLe)))) (retD (ret .none)) nxt) T_read_ranges_2)
def T_read_ranges_4 : SS := (seqS (asg 2 (mny (sCons (sSl (rdD 0) (sPart (una (ret (.str "bytes=")) gLen)) (ret none)) sNil) (callD S_split_list))) T_read_ranges_3)
def Y_read_ranges : SS := (seqS (ifS (toB (bin (mny (sCons (sSl (rdD 0) (ret none) (sPart (una (ret (.str "bytes=")) gLen))) sNil) (callD S_lower)) (ret (.str "bytes=")) gNe)) (retD (ret .none)) nxt) T_read_ranges_4)
abbrev N_read_ranges : List Str := ["value", "size", "parts", "found", "part", "first", "last"]
def S_read_ranges : Fn := runF 2 7 Y_read_ranges
def T__joined_tags_1 : SS := (retD (sIf (toB (una (rdD 2) gIsN)) (ret .none) (mny (sCons (rdD 2) sNil) (callD S_read_tags))))
def Y__joined_tags : SS := (seqS (asg 2 (mny (sCons (rdD 0) (sCons (rdD 1) sNil)) (callD S_join_values))) T__joined_tags_1)
abbrev N__joined_tags : List Str := ["fields", "name", "value"]
def S__joined_tags : Fn := runF 2 3 Y__joined_tags
def T_read_date_1 : SS := (retD (mny (sCons (rdD 0) (sCons (rdD 1) sNil)) (callD S__read_dashed)))
def T_read_date_2 : SS := (seqS (ifS (toB (bin (sSl (rdD 0) (sPart (ret (.int 3))) (sPart (ret (.int 4)))) (ret (.str " ")) gEq)) (retD (mny (sCons (rdD 0) sNil) (callD S__read_spaced))) nxt) T_read_date_1)
def Y_read_date : SS := (seqS (ifS (toB (bin (sSl (rdD 0) (sPart (ret (.int 3))) (sPart (ret (.int 4)))) (ret (.str ",")) gEq)) (retD (mny (sCons (rdD 0) sNil) (callD S__read_fixed))) nxt) T_read_date_2)
abbrev N_read_date : List Str := ["text", "now"]
def S_read_date : Fn := runF 2 2 Y_read_date
def T__joined_date_1 : SS := (retD (sIf (toB (una (rdD 3) gIsN)) (ret .none) (mny (sCons (rdD 3) (sCons (rdD 2) sNil)) (callD S_read_date))))
def Y__joined_date : SS := (seqS (asg 3 (mny (sCons (rdD 0) (sCons (rdD 1) sNil)) (callD S_join_values))) T__joined_date_1)
abbrev N__joined_date : List Str := ["fields", "name", "now", "value"]
def S__joined_date : Fn := runF 3 4 Y__joined_date
def T__wants_part_1 : SS := (retD (vAnd (una (rdD 8) gNotN) (bin (rdD 8) (rdD 3) gEq)))
def T__wants_part_2 : SS := (seqS (asg 8 (mny (sCons (rdD 6) (sCons (rdD 4) sNil)) (callD S_read_date))) T__wants_part_1)
def T__wants_part_3 : SS := (seqS (ifS (toB (una (rdD 7) gNotN)) (retD (vAnd (una (rdD 2) gNotN) (mny (sCons (rdD 7) (sCons (rdD 2) sNil)) (callD S_strong_match)))) nxt) T__wants_part_2)
def T__wants_part_4 : SS := (seqS (asg 7 (mny (sCons (rdD 6) sNil) (callD S_read_tag))) T__wants_part_3)
def T__wants_part_5 : SS := (seqS (ifS (toB (una (rdD 6) gIsN)) (retD (ret (.bool true))) nxt) T__wants_part_4)
def T__wants_part_6 : SS := (seqS (asg 6 (mny (sCons (rdD 1) (sCons (ret (.str "if-range")) sNil)) (callD S_join_values))) T__wants_part_5)
def T__wants_part_7 : SS := (seqS (ifS (sOr (toB (bin (rdD 0) (ret (.str "GET")) gNe)) (sOr (toB (una (rdD 5) gIsN)) (toB (una (mny (sCons (rdD 5) (sCons (ret (.int 0)) sNil)) (callD S_read_ranges)) gIsN)))) (retD (ret (.bool false))) nxt) T__wants_part_6)
def Y__wants_part : SS := (seqS (asg 5 (mny (sCons (rdD 1) (sCons (ret (.str "range")) sNil)) (callD S_join_values))) T__wants_part_7)
abbrev N__wants_part : List Str := ["method", "fields", "tag", "modified", "now", "value", "state", "wanted", "date"]
def S__wants_part : Fn := runF 5 9 Y__wants_part
def T__fails_1 : SS := (retD (vAnd (una (rdD 4) gNotN) (vAnd (una (rdD 2) gNotN) (bin (rdD 2) (rdD 4) gGt))))
def T__fails_2 : SS := (seqS (asg 4 (mny (sCons (rdD 0) (sCons (ret (.str "if-unmodified-since")) (sCons (rdD 3) sNil))) (callD S__joined_date))) T__fails_1)
def Y__fails : SS := (seqS (ifS (toB (una (mny (sCons (rdD 0) (sCons (ret (.str "if-match")) sNil)) (callD S_join_values)) gNotN)) (retD (una (mny (sCons (mny (sCons (rdD 0) (sCons (ret (.str "if-match")) sNil)) (callD S__joined_tags)) (sCons (rdD 1) (sCons (ret (.bool true)) sNil))) (callD S__matches)) gNot)) nxt) T__fails_2)
abbrev N__fails : List Str := ["fields", "tag", "modified", "now", "limit"]
def S__fails : Fn := runF 4 5 Y__fails
def T__is_known_1 : SS := (retD (vAnd (bin (rdD 0) (ret (.tuple [(.str "GET"), (.str "HEAD")])) gIn) (vAnd (una (rdD 6) gNotN) (vAnd (una (rdD 3) gNotN) (bin (rdD 3) (rdD 6) gLe)))))
def T__is_known_2 : SS := (seqS (asg 6 (mny (sCons (rdD 1) (sCons (ret (.str "if-modified-since")) (sCons (rdD 4) sNil))) (callD S__joined_date))) T__is_known_1)
def T__is_known_3 : SS := (seqS (ifS (toB (una (rdD 5) gNotN)) (retD (mny (sCons (rdD 5) (sCons (rdD 2) (sCons (ret (.bool false)) sNil))) (callD S__matches))) nxt) T__is_known_2)
def Y__is_known : SS := (seqS (asg 5 (mny (sCons (rdD 1) (sCons (ret (.str "if-none-match")) sNil)) (callD S__joined_tags))) T__is_known_3)
abbrev N__is_known : List Str := ["method", "fields", "tag", "modified", "now", "tags", "limit"]
def S__is_known : Fn := runF 5 7 Y__is_known
def T_judge_1 : SS := (retD (dTup (sCons (ret (.int 0)) (sCons (una (mny (sCons (rdD 0) (sCons (rdD 1) (sCons (rdD 2) (sCons (rdD 3) (sCons (rdD 4) sNil))))) (callD S__wants_part)) gNot) sNil))))
def T_judge_2 : SS := (seqS (ifS (toB (mny (sCons (rdD 0) (sCons (rdD 1) (sCons (rdD 2) (sCons (rdD 3) (sCons (rdD 4) sNil))))) (callD S__is_known))) (retD (sIf (toB (bin (rdD 0) (ret (.tuple [(.str "GET"), (.str "HEAD")])) gIn)) (ret (.tuple [(.int 304), (.bool true)])) (ret (.tuple [(.int 412), (.bool true)])))) nxt) T_judge_1)
def Y_judge : SS := (seqS (ifS (toB (mny (sCons (rdD 1) (sCons (rdD 2) (sCons (rdD 3) (sCons (rdD 4) sNil)))) (callD S__fails))) (retD (ret (.tuple [(.int 412), (.bool true)]))) nxt) T_judge_2)
abbrev N_judge : List Str := ["method", "fields", "tag", "modified", "now"]
def S_judge : Fn := runF 5 5 Y_judge
def T_law_1 : SS := (ifS (sOr (toB (bin (rdD 10) (rdD 11) gNe)) (sOr (sNot (toB (una (bin (rdD 10) (ret (.int 1)) gIx) (gIsi "bool")))) (toB (bin (rdD 7) (rdD 8) gNe)))) (retD (ret (.bool false))) nxt)
def T_law_2 : SS := (seqS (asg 11 (mny (sCons (rdD 4) (sCons (rdD 7) (sCons (rdD 5) (sCons (rdD 6) (sCons (rdD 2) sNil))))) (callD S__law_judge))) T_law_1)
def T_law_3 : SS := (seqS (asg 10 (mny (sCons (rdD 4) (sCons (rdD 7) (sCons (rdD 5) (sCons (rdD 6) (sCons (rdD 9) sNil))))) (callD S_judge))) T_law_2)
def T_law_4 : SS := (seqS (asg 9 (bin (bnd (dLst (sCons (ret (.int 0)) (sCons (ret (.int 1488603967)) (sCons (ret (.int 2000000000)) sNil)))) fun ds => ret (.list ds)) (asD (callM 1 S__law_take (sCons (ret (.int 3)) sNil))) gIx)) T_law_3)
def T_law_5 : SS := (seqS (asg 8 (una (bnd (unaL (rdD 7) gList) fun ds => ret (.list ds)) gTuple)) T_law_4)
def T_law_6 : SS := (seqS (asg 7 (asD (callM 1 S__law_fields (sCons (rdD 5) sNil)))) T_law_5)
def T_law_7 : SS := (seqS (asg 6 (bin (bnd (dLst (sCons (ret (.int 1488603967)) (sCons (ret (.int 1488603967)) (sCons (ret (.int 1488603890)) (sCons (ret .none) sNil))))) fun ds => ret (.list ds)) (asD (callM 1 S__law_take (sCons (ret (.int 4)) sNil))) gIx)) T_law_6)
def T_law_8 : SS := (seqS (asg 5 (bin (bnd (dLst (sCons (dTup (sCons (ret (.bool false)) (sCons (ret (.str "a")) sNil))) (sCons (dTup (sCons (ret (.bool true)) (sCons (ret (.str "a")) sNil))) (sCons (dTup (sCons (ret (.bool false)) (sCons (ret (.str "")) sNil))) (sCons (dTup (sCons (ret (.bool false)) (sCons (ret (.str "x,y")) sNil))) (sCons (ret .none) sNil)))))) fun ds => ret (.list ds)) (asD (callM 1 S__law_take (sCons (ret (.int 5)) sNil))) gIx)) T_law_7)
def L_law_1 : SS := (seqS (asg 4 (bin (bnd (dLst (sCons (ret (.str "GET")) (sCons (ret (.str "GET")) (sCons (ret (.str "HEAD")) (sCons (ret (.str "PUT")) (sCons (ret (.str "POST")) (sCons (ret (.str "DELETE")) sNil))))))) fun ds => ret (.list ds)) (asD (callM 1 S__law_take (sCons (ret (.int 6)) sNil))) gIx)) T_law_8)
def T_law_9 : SS := (retD (ret (.bool true)))
def T_law_10 : SS := (seqS (forS (sRng1 (ret (.int 4))) (toN 3) L_law_1) T_law_9)
def T_law_11 : SS := (seqS (asg 2 (bnd (binL (rdD 2) (bnd (dLst (sCons (dTup (sCons (ret (.str "Sat, 04 Mar 2017 05:06:06 GMT")) (sCons (ret (.int 1488603966)) sNil))) (sCons (dTup (sCons (ret (.str "Sat Mar  4 05:06:07 2017")) (sCons (ret (.int 1488603967)) sNil))) sNil))) fun ds => ret (.list ds)) gCat) fun ds => ret (.list ds))) T_law_10)
def T_law_12 : SS := (seqS (asg 2 (bnd (dLst (sCons (dTup (sCons (ret (.str "Sat, 04 Mar 2017 05:06:07 GMT")) (sCons (ret (.int 1488603967)) sNil))) (sCons (dTup (sCons (ret (.str "Sat, 04 Mar 2017 05:06:08 GMT")) (sCons (ret (.int 1488603968)) sNil))) sNil))) fun ds => ret (.list ds))) T_law_11)
def Y_law : SS := (seqS (asgL 1 (callS 0 S__law_draw)) T_law_12)
abbrev N_law : List Str := ["script", "draw", "dates", "k", "method", "tag", "modified", "fields", "copy", "now", "actual", "due"]
def S_law : Fn := runF 1 12 Y_law
theorem lt_0 : Str.ofString "0123456789" = T [48, 49, 50, 51, 52, 53, 54, 55, 56, 57] := by decide +kernel
theorem lt_1 : Str.ofString " \t" = T [32, 9] := by decide +kernel
theorem lt_2 : Str.ofString ":" = T [58] := by decide +kernel
theorem lt_3 : Str.ofString "\"" = T [34] := by decide +kernel
theorem lt_4 : Str.ofString "\\" = T [92] := by decide +kernel
theorem lt_5 : Str.ofString "W/" = T [87, 47] := by decide +kernel
theorem lt_6 : Str.ofString "" = T [] := by decide +kernel
theorem lt_7 : Str.ofString ", " = T [44, 32] := by decide +kernel
theorem lt_8 : Str.ofString " \"\\\t" = T [32, 34, 92, 9] := by decide +kernel
theorem lt_9 : Str.ofString "," = T [44] := by decide +kernel
theorem lt_10 : Str.ofString " " = T [32] := by decide +kernel
theorem lt_11 : Str.ofString "*" = T [42] := by decide +kernel
theorem lt_12 : Str.ofString "soon" = T [115, 111, 111, 110] := by decide +kernel
theorem lt_13 : Str.ofString "Mon, 04 Mar 2017 05:06:07 GMT" = T [77, 111, 110, 44, 32, 48, 52, 32, 77, 97, 114, 32, 50, 48, 49, 55, 32, 48, 53, 58, 48, 54, 58, 48, 55, 32, 71, 77, 84] := by decide +kernel
theorem lt_14 : Str.ofString "Sat Mar  4 05:06:07 2017" = T [83, 97, 116, 32, 77, 97, 114, 32, 32, 52, 32, 48, 53, 58, 48, 54, 58, 48, 55, 32, 50, 48, 49, 55] := by decide +kernel
theorem lt_15 : Str.ofString "Sat, 04 Mar 2017 05:06:06 GMT" = T [83, 97, 116, 44, 32, 48, 52, 32, 77, 97, 114, 32, 50, 48, 49, 55, 32, 48, 53, 58, 48, 54, 58, 48, 54, 32, 71, 77, 84] := by decide +kernel
theorem lt_16 : Str.ofString "Sat, 04 Mar 2017 05:06:08 GMT" = T [83, 97, 116, 44, 32, 48, 52, 32, 77, 97, 114, 32, 50, 48, 49, 55, 32, 48, 53, 58, 48, 54, 58, 48, 56, 32, 71, 77, 84] := by decide +kernel
theorem lt_17 : Str.ofString "Sat, 04 Mar 2017 05:06:07 GMT" = T [83, 97, 116, 44, 32, 48, 52, 32, 77, 97, 114, 32, 50, 48, 49, 55, 32, 48, 53, 58, 48, 54, 58, 48, 55, 32, 71, 77, 84] := by decide +kernel
theorem lt_18 : Str.ofString "a" = T [97] := by decide +kernel
theorem lt_19 : Str.ofString "\"zz\"" = T [34, 122, 122, 34] := by decide +kernel
theorem lt_20 : Str.ofString "W/a, \"b\"" = T [87, 47, 97, 44, 32, 34, 98, 34] := by decide +kernel
theorem lt_21 : Str.ofString "\"a" = T [34, 97] := by decide +kernel
theorem lt_22 : Str.ofString "Monday" = T [77, 111, 110, 100, 97, 121] := by decide +kernel
theorem lt_23 : Str.ofString "Tuesday" = T [84, 117, 101, 115, 100, 97, 121] := by decide +kernel
theorem lt_24 : Str.ofString "Wednesday" = T [87, 101, 100, 110, 101, 115, 100, 97, 121] := by decide +kernel
theorem lt_25 : Str.ofString "Thursday" = T [84, 104, 117, 114, 115, 100, 97, 121] := by decide +kernel
theorem lt_26 : Str.ofString "Friday" = T [70, 114, 105, 100, 97, 121] := by decide +kernel
theorem lt_27 : Str.ofString "Saturday" = T [83, 97, 116, 117, 114, 100, 97, 121] := by decide +kernel
theorem lt_28 : Str.ofString "Sunday" = T [83, 117, 110, 100, 97, 121] := by decide +kernel
theorem lt_29 : Str.ofString "Jan" = T [74, 97, 110] := by decide +kernel
theorem lt_30 : Str.ofString "Feb" = T [70, 101, 98] := by decide +kernel
theorem lt_31 : Str.ofString "Mar" = T [77, 97, 114] := by decide +kernel
theorem lt_32 : Str.ofString "Apr" = T [65, 112, 114] := by decide +kernel
theorem lt_33 : Str.ofString "May" = T [77, 97, 121] := by decide +kernel
theorem lt_34 : Str.ofString "Jun" = T [74, 117, 110] := by decide +kernel
theorem lt_35 : Str.ofString "Jul" = T [74, 117, 108] := by decide +kernel
theorem lt_36 : Str.ofString "Aug" = T [65, 117, 103] := by decide +kernel
theorem lt_37 : Str.ofString "Sep" = T [83, 101, 112] := by decide +kernel
theorem lt_38 : Str.ofString "Oct" = T [79, 99, 116] := by decide +kernel
theorem lt_39 : Str.ofString "Nov" = T [78, 111, 118] := by decide +kernel
theorem lt_40 : Str.ofString "Dec" = T [68, 101, 99] := by decide +kernel
theorem lt_41 : Str.ofString "GET" = T [71, 69, 84] := by decide +kernel
theorem lt_42 : Str.ofString "range" = T [114, 97, 110, 103, 101] := by decide +kernel
theorem lt_43 : Str.ofString "if-range" = T [105, 102, 45, 114, 97, 110, 103, 101] := by decide +kernel
theorem lt_44 : Str.ofString "if-none-match" = T [105, 102, 45, 110, 111, 110, 101, 45, 109, 97, 116, 99, 104] := by decide +kernel
theorem lt_45 : Str.ofString "if-match" = T [105, 102, 45, 109, 97, 116, 99, 104] := by decide +kernel
theorem lt_46 : Str.ofString "if-modified-since" = T [105, 102, 45, 109, 111, 100, 105, 102, 105, 101, 100, 45, 115, 105, 110, 99, 101] := by decide +kernel
theorem lt_47 : Str.ofString "if-unmodified-since" = T [105, 102, 45, 117, 110, 109, 111, 100, 105, 102, 105, 101, 100, 45, 115, 105, 110, 99, 101] := by decide +kernel
theorem lt_48 : Str.ofString "bytes=0-" = T [98, 121, 116, 101, 115, 61, 48, 45] := by decide +kernel
theorem lt_49 : Str.ofString "*/*" = T [42, 47, 42] := by decide +kernel
theorem lt_50 : Str.ofString "accept" = T [97, 99, 99, 101, 112, 116] := by decide +kernel
theorem lt_51 : Str.ofString " GMT" = T [32, 71, 77, 84] := by decide +kernel
theorem lt_52 : Str.ofString "-" = T [45] := by decide +kernel
theorem lt_53 : Str.ofString "HEAD" = T [72, 69, 65, 68] := by decide +kernel
theorem lt_54 : Str.ofString "bytes=" = T [98, 121, 116, 101, 115, 61] := by decide +kernel
theorem lt_55 : Str.ofString "DELETE" = T [68, 69, 76, 69, 84, 69] := by decide +kernel
theorem lt_56 : Str.ofString "POST" = T [80, 79, 83, 84] := by decide +kernel
theorem lt_57 : Str.ofString "PUT" = T [80, 85, 84] := by decide +kernel
theorem lt_58 : Str.ofString "x,y" = T [120, 44, 121] := by decide +kernel
theorem lt_59 : Str.ofString "law_ownanswer_k62_conditions_judged" = T [108, 97, 119, 95, 111, 119, 110, 97, 110, 115, 119, 101, 114, 95, 107, 54, 50, 95, 99, 111, 110, 100, 105, 116, 105, 111, 110, 115, 95, 106, 117, 100, 103, 101, 100] := by decide +kernel
end ownanswer_k62_conditions_judged
namespace ownanswer_k62_conditions_judged
open PySem PySem.Spec L2 Fw
local macro_rules | `(tactic| simp only [walkA, $xs,*] $[$l:location]?) => `(tactic| simp only [ok_some, ok_none, okV_some, okV_none, ↓okV_if, ↓ok_if, ↓ok_ret, ↓ok_bnd, ↓ok_lft, ↓ok_bin, ↓ok_una, ↓ok_binL, ↓ok_unaL, ↓ok_mny, ↓ok_rdD, ↓ok_rdO, ↓ok_rdA, ↓ok_toB, ↓ok_sAnd, ↓ok_sOr, ↓ok_sNot, ↓ok_vAnd, ↓ok_vOr, ↓ok_sIf, ↓ok_chn, ↓ok_sNil, ↓ok_sCons, ↓ok_dTup, ↓ok_dLst, ↓ok_m0S, ↓ok_m1S, ↓ok_m1L, ↓ok_ixO, ↓ok_sPart, ↓ok_sSl, ↓ok_tupO, ↓ok_sItems, ↓ok_sScr, ↓ok_sEnum, ↓ok_sRng1, ↓ok_sRng2, ↓ok_seqS, ↓ok_nxt, ↓ok_brkS, ↓ok_cntS, ↓ok_retN, ↓ok_drpS, ↓ok_asg, ↓ok_asgL, ↓ok_asgG, ↓ok_augS, ↓ok_ifS, ↓ok_retD, ↓ok_retL, ↓ok_retO, ↓ok_appO, ↓ok_setO, ↓ok_extO, ↓ok_popS, ↓ok_forS, ↓ok_forL_nil, ↓ok_lcS, ↓ok_lcL_nil, ↓okV_callD, ↓okV_callV, ↓ok_callM, ↓ok_asD, ↓ok_asL, ↓ok_callS, ↓ok_runF, ↓ok_rplS, ↓ok_tupA, ↓ok_strM, ↓ok_chn3, own?, toN, toT, toNs, wipE, bakE, stp_nx, stp_ct, stp_bk, stp_rt, Fw.collect, ok_yesS, List.getElem?_cons_zero, List.getElem?_cons_succ, List.set_cons_zero, List.set_cons_succ, List.map_cons, List.map_nil, List.length_cons, List.length_nil, List.cons_append, List.nil_append, List.replicate_succ, List.replicate_zero, Nat.reduceAdd, Nat.reduceSub, Nat.reduceLeDiff, Nat.reduceLT, Nat.reduceEqDiff, Int.reduceLT, Int.reduceLE, Int.reduceNeg, Int.reducePow, Int.reduceEq, Option.isSome_some, Option.map_some, Option.map_none, true_and, and_true, if_true, if_false, ite_true, ite_false, Bool.false_eq_true, reduceIte, reduceCtorEq, gAdd_ii, gAdd_ss, gAdd_tt, gSub_ii, gMul_ii, gDiv_ii, gMod_ii, gNeg_i, gLt_ii, gGt_ii, gGe_ii, gLe_ii, eqv_ii, eqv_ss, eqv_bb, eqv_nn, eqv_ni, eqv_in, eqv_ns, eqv_sn, eqv_nb, eqv_bn, eqv_is, eqv_si, eqv_nt, eqv_tn, eqv_nl, eqv_ln, eqv_tt, eqv_ll, eqvA_nn, eqvA_cc, eqvA_nc, eqvA_cn, gEq_ii, gEq_ss, gEq_bb, gEq_nn, gEq_in, gEq_ni, gEq_sn, gEq_ns, gEq_si, gEq_is, gNe_ii, gNe_ss, gNe_bb, gNe_nn, gNot_b, gIsN_n, gIsN_i, gIsN_b, gIsN_s, gIsN_t, gIsN_l, gNotN_n, gNotN_i, gNotN_b, gNotN_s, gNotN_t, gNotN_l, gIx_l, gIx_t, gIx_s, gLen_s, gLen_l, gLen_t, gAbs_i, gInt_i, gInt_b, gInt_s, gOrd_sign, gDivmod_ii, gStr_i, gStr_s, gTuple_l, gTuple_t, gStrip_s, gLstrip_s, gSplit_s, gPartition_s, gJoin_m, gCat_ll, gSl_s, gSl_t, gSl_l, itemsOf_l, itemsOf_t, itemsOf_s, ofString_inj, cMul_r, cMul_l, ixN_lit, atI_lit, atI_m1, cast_lit, String.reduceEq, decide_true, decide_false, Int.reduceSub, Int.reduceAdd, Int.reduceMul, Int.reduceToNat, T_toList, T_len, T_app, T_inj, T_sign, T_cut, T_signs, T_strip, T_empty, gIn_T, gNin_T, gLjust_T, lt_0, lt_1, lt_2, lt_3, lt_4, lt_5, lt_6, lt_7, lt_8, lt_9, lt_10, lt_11, lt_12, lt_13, lt_14, lt_15, lt_16, lt_17, lt_18, lt_19, lt_20, lt_21, lt_22, lt_23, lt_24, lt_25, lt_26, lt_27, lt_28, lt_29, lt_30, lt_31, lt_32, lt_33, lt_34, lt_35, lt_36, lt_37, lt_38, lt_39, lt_40, lt_41, lt_42, lt_43, lt_44, lt_45, lt_46, lt_47, lt_48, lt_49, lt_50, lt_51, lt_52, lt_53, lt_54, lt_55, lt_56, lt_57, lt_58, lt_59, $xs,*] $[$l:location]?)
local macro_rules | `(tactic| simp only [walkA] $[$l:location]?) => `(tactic| simp only [ok_some, ok_none, okV_some, okV_none, ↓okV_if, ↓ok_if, ↓ok_ret, ↓ok_bnd, ↓ok_lft, ↓ok_bin, ↓ok_una, ↓ok_binL, ↓ok_unaL, ↓ok_mny, ↓ok_rdD, ↓ok_rdO, ↓ok_rdA, ↓ok_toB, ↓ok_sAnd, ↓ok_sOr, ↓ok_sNot, ↓ok_vAnd, ↓ok_vOr, ↓ok_sIf, ↓ok_chn, ↓ok_sNil, ↓ok_sCons, ↓ok_dTup, ↓ok_dLst, ↓ok_m0S, ↓ok_m1S, ↓ok_m1L, ↓ok_ixO, ↓ok_sPart, ↓ok_sSl, ↓ok_tupO, ↓ok_sItems, ↓ok_sScr, ↓ok_sEnum, ↓ok_sRng1, ↓ok_sRng2, ↓ok_seqS, ↓ok_nxt, ↓ok_brkS, ↓ok_cntS, ↓ok_retN, ↓ok_drpS, ↓ok_asg, ↓ok_asgL, ↓ok_asgG, ↓ok_augS, ↓ok_ifS, ↓ok_retD, ↓ok_retL, ↓ok_retO, ↓ok_appO, ↓ok_setO, ↓ok_extO, ↓ok_popS, ↓ok_forS, ↓ok_forL_nil, ↓ok_lcS, ↓ok_lcL_nil, ↓okV_callD, ↓okV_callV, ↓ok_callM, ↓ok_asD, ↓ok_asL, ↓ok_callS, ↓ok_runF, ↓ok_rplS, ↓ok_tupA, ↓ok_strM, ↓ok_chn3, own?, toN, toT, toNs, wipE, bakE, stp_nx, stp_ct, stp_bk, stp_rt, Fw.collect, ok_yesS, List.getElem?_cons_zero, List.getElem?_cons_succ, List.set_cons_zero, List.set_cons_succ, List.map_cons, List.map_nil, List.length_cons, List.length_nil, List.cons_append, List.nil_append, List.replicate_succ, List.replicate_zero, Nat.reduceAdd, Nat.reduceSub, Nat.reduceLeDiff, Nat.reduceLT, Nat.reduceEqDiff, Int.reduceLT, Int.reduceLE, Int.reduceNeg, Int.reducePow, Int.reduceEq, Option.isSome_some, Option.map_some, Option.map_none, true_and, and_true, if_true, if_false, ite_true, ite_false, Bool.false_eq_true, reduceIte, reduceCtorEq, gAdd_ii, gAdd_ss, gAdd_tt, gSub_ii, gMul_ii, gDiv_ii, gMod_ii, gNeg_i, gLt_ii, gGt_ii, gGe_ii, gLe_ii, eqv_ii, eqv_ss, eqv_bb, eqv_nn, eqv_ni, eqv_in, eqv_ns, eqv_sn, eqv_nb, eqv_bn, eqv_is, eqv_si, eqv_nt, eqv_tn, eqv_nl, eqv_ln, eqv_tt, eqv_ll, eqvA_nn, eqvA_cc, eqvA_nc, eqvA_cn, gEq_ii, gEq_ss, gEq_bb, gEq_nn, gEq_in, gEq_ni, gEq_sn, gEq_ns, gEq_si, gEq_is, gNe_ii, gNe_ss, gNe_bb, gNe_nn, gNot_b, gIsN_n, gIsN_i, gIsN_b, gIsN_s, gIsN_t, gIsN_l, gNotN_n, gNotN_i, gNotN_b, gNotN_s, gNotN_t, gNotN_l, gIx_l, gIx_t, gIx_s, gLen_s, gLen_l, gLen_t, gAbs_i, gInt_i, gInt_b, gInt_s, gOrd_sign, gDivmod_ii, gStr_i, gStr_s, gTuple_l, gTuple_t, gStrip_s, gLstrip_s, gSplit_s, gPartition_s, gJoin_m, gCat_ll, gSl_s, gSl_t, gSl_l, itemsOf_l, itemsOf_t, itemsOf_s, ofString_inj, cMul_r, cMul_l, ixN_lit, atI_lit, atI_m1, cast_lit, String.reduceEq, decide_true, decide_false, Int.reduceSub, Int.reduceAdd, Int.reduceMul, Int.reduceToNat, T_toList, T_len, T_app, T_inj, T_sign, T_cut, T_signs, T_strip, T_empty, gIn_T, gNin_T, gLjust_T, lt_0, lt_1, lt_2, lt_3, lt_4, lt_5, lt_6, lt_7, lt_8, lt_9, lt_10, lt_11, lt_12, lt_13, lt_14, lt_15, lt_16, lt_17, lt_18, lt_19, lt_20, lt_21, lt_22, lt_23, lt_24, lt_25, lt_26, lt_27, lt_28, lt_29, lt_30, lt_31, lt_32, lt_33, lt_34, lt_35, lt_36, lt_37, lt_38, lt_39, lt_40, lt_41, lt_42, lt_43, lt_44, lt_45, lt_46, lt_47, lt_48, lt_49, lt_50, lt_51, lt_52, lt_53, lt_54, lt_55, lt_56, lt_57, lt_58, lt_59] $[$l:location]?)

open ownanswer_k51_lists_and_joined_values (ts pr Lo LoP valsOfV joinOfV vals_okV join_okV CU wW split_ok cutF cutF_len strOk_T trimL_mem shaped_lts)
theorem tk : S__law_take = S_take := rfl
theorem dk : S__law_draw = S_draw := rfl
theorem sk : S_split_list = ownanswer_k51_lists_and_joined_values.S_split_list := rfl
theorem vk : S_values = ownanswer_k51_lists_and_joined_values.S_values := rfl
theorem jk : S_join_values = ownanswer_k51_lists_and_joined_values.S_join_values := rfl
abbrev Fd := List Nat × List Nat
abbrev Tg := Bool × List Nat
def tgD (t : Tg) : PyData := .tuple [.bool t.1, .str (T t.2)]
def otD : Option Tg → PyData
  | none => .none
  | some t => tgD t
/-- signs of the drawn texts -/
def pl (c : Nat) : Bool := decide (32 ≤ c) && decide (c ≤ 126) && !decide (c = 37) && !decide (c = 92)
def Pl (l : List Nat) : Prop := ∀ c ∈ l, pl c = true
theorem pl_lt {c : Nat} (h : pl c = true) : 32 ≤ c ∧ c ≤ 126 ∧ c ≠ 37 ∧ c ≠ 92 := by
  unfold pl at h
  simp only [Bool.and_eq_true, Bool.not_eq_true', decide_eq_true_eq, decide_eq_false_iff_not] at h
  exact ⟨h.1.1.1, h.1.1.2, h.1.2, h.2⟩
theorem Pl.lo {l : List Nat} (h : Pl l) : Lo l := fun c hc => by have := pl_lt (h c hc); omega
theorem starts2 (l : List Nat) : Txt.startswith (T l) (T [87, 47]) = decide (l.take 2 = [87, 47]) := by
  show (decide (0 + (T [87, 47]).length ≤ (T l).length) && Builtin.Str.subAt (T l) (T [87, 47]) 0) = _
  rw [StrLaws.subAt_eq, T_toList, T_toList, T_len, T_len, List.drop_zero]
  rw [Bool.eq_iff_iff, Bool.and_eq_true, decide_eq_true_eq, beq_iff_eq, decide_eq_true_eq]
  constructor
  · exact fun h => h.2
  · intro h
    refine ⟨?_, h⟩
    have := congrArg List.length h
    rw [List.length_take] at this
    simp only [List.length_cons, List.length_nil] at this ⊢
    omega
theorem cut_2 (l : List Nat) : cutL l none (some 2) = l.take 2 := by
  unfold cutL
  show (l.drop 0).take (HT.sIx l.length l.length (some ((2 : Nat) : Int)) - 0) = _
  rw [sIx_nat, List.drop_zero, Nat.sub_zero]
  by_cases h : 2 ≤ l.length
  · rw [Nat.min_eq_left h]
  · rw [Nat.min_eq_right (by omega), List.take_of_length_le (Nat.le_refl _), List.take_of_length_le (by omega)]
def mid (l : List Nat) : List Nat := cutL l (some 1) (some (-1))
def dr2 (l : List Nat) : List Nat := cutL l (some 2) none
/-- what is read of a tag -/
def rsF (l : List Nat) : List Nat := if l.take 2 = [87, 47] then dr2 l else l
def sgn (c : Nat) : Bool := !decide (c = 32) && !decide (c = 34)
def rtF (l : List Nat) : Option Tg :=
  if (rsF l).length < 2 ∨ (rsF l)[0]? ≠ some 34 ∨ (rsF l).getLast? ≠ some 34 then none
  else if (mid (rsF l)).all sgn = true then some (decide (l.take 2 = [87, 47]), mid (rsF l)) else none
def okG (r : Option PyData) (b : Bool) : Bool := match r with
  | some (.bool x) => x == b
  | _ => false
theorem okG_t {r : Option PyData} {b : Bool} (h : okG r b = true) : r = some (PyData.bool b) := by
  unfold okG at h
  split at h
  · rw [beq_iff_eq.mp h]
  · cases h
theorem gts_all : ((List.range 127).all fun c => okG (gGtS (.str (T [c])) (.str (T [32]))) (decide (32 < c))) = true := by decide +kernel
theorem gts {c : Nat} (h : c ≤ 126) : gGtS (.str (T [c])) (.str (T [32])) = some (.bool (decide (32 < c))) := okG_t (List.all_eq_true.mp gts_all c (List.mem_range.mpr (by omega)))
def okB (r : Option (Sl × En)) (b : Bool) : Bool := match r with
  | some (.dat (.bool x), _) => x == b
  | _ => false
theorem okB_t {r : Option (Sl × En)} {b : Bool} (h : okB r b = true) {Q : Sl → En → Prop} (q : ∀ E, Q (.dat (.bool b)) E) : Ok r Q := by
  unfold okB at h
  split at h
  · rename_i x E
    rw [← eq_of_beq h] at q
    exact ⟨_, _, rfl, q _⟩
  · cases h
theorem vs_all : ((List.range 127).all fun c => !pl c || okB (S_is_value_sign [.dat (.int (c : Nat))]) true) = true := by decide +kernel
theorem vs_ok {c : Nat} (h : pl c = true) {Q : Sl → En → Prop} (q : ∀ E, Q (.dat (.bool true)) E) : Ok (S_is_value_sign [.dat (.int (c : Nat))]) Q := by
  have := List.all_eq_true.mp vs_all c (List.mem_range.mpr (by have := pl_lt h; omega))
  rw [h] at this
  exact okB_t this q
theorem gAll_map {α : Type} (xs : List α) (p : α → Bool) : gAll (.list (xs.map fun x => .bool (p x))) = some (.bool (xs.all p)) := by
  have hb : boolsOf (xs.map fun x => PyData.bool (p x)) = some (xs.map p) := by
    induction xs with
    | nil => rfl
    | cons x xs ih => rw [List.map_cons, boolsOf, ih]; rfl
  unfold gAll
  simp only [hb, Option.map_some, List.all_map]
  rfl
theorem gAny_map {α : Type} (xs : List α) (p : α → Bool) : gAny (.list (xs.map fun x => .bool (p x))) = some (.bool (xs.any p)) := by
  have hb : boolsOf (xs.map fun x => PyData.bool (p x)) = some (xs.map p) := by
    induction xs with
    | nil => rfl
    | cons x xs ih => rw [List.map_cons, boolsOf, ih]; rfl
  unfold gAny
  simp only [hb, Option.map_some, List.any_map]
  rfl
theorem tagtext_ok {l : List Nat} (h : Pl l) (hl : l.length ≤ 1000) {Q : Sl → En → Prop} (q : ∀ a, Q (.dat (.bool (l.all sgn))) [a]) : Ok (S_is_tag_text [.dat (.str (T l))]) Q := by
  have hs := sizeLine_eq
  unfold S_is_tag_text
  rw [ok_runF]
  refine ⟨rfl, ?_⟩
  simp only [walkA, Y_is_tag_text, List.length_map]
  refine ⟨by omega, ?_⟩
  refine lcL_map (fun c : Nat => PyData.str (T [c])) (fun c => .bool (sgn c)) (fun _ => true) l _ (fun c hc => ?_) ?_
  · have hp := h c hc
    have hp2 := pl_lt hp
    have ho : gOrd (.str (T [c])) = some (.int (c : Nat)) := rfl
    unfold turn
    simp only [walkA, C_is_tag_text_1, gts hp2.2.1]
    by_cases h32 : c = 32
    · subst h32
      simp [sgn, ok_some, ok_none, okV_some, okV_none, ↓okV_if, ↓ok_if, ↓ok_ret, ↓ok_bnd, ↓ok_lft, ↓ok_bin, ↓ok_una, ↓ok_binL, ↓ok_unaL, ↓ok_mny, ↓ok_rdD, ↓ok_rdO, ↓ok_rdA, ↓ok_toB, ↓ok_sAnd, ↓ok_sOr, ↓ok_sNot, ↓ok_vAnd, ↓ok_vOr, ↓ok_sIf, ↓ok_chn, ↓ok_sNil, ↓ok_sCons, ↓ok_dTup, ↓ok_dLst, ↓ok_m0S, ↓ok_m1S, ↓ok_m1L, ↓ok_ixO, ↓ok_sPart, ↓ok_sSl, ↓ok_tupO, ↓ok_sItems, ↓ok_sScr, ↓ok_sEnum, ↓ok_sRng1, ↓ok_sRng2, ↓ok_seqS, ↓ok_nxt, ↓ok_brkS, ↓ok_cntS, ↓ok_retN, ↓ok_drpS, ↓ok_asg, ↓ok_asgL, ↓ok_asgG, ↓ok_augS, ↓ok_ifS, ↓ok_retD, ↓ok_retL, ↓ok_retO, ↓ok_appO, ↓ok_setO, ↓ok_extO, ↓ok_popS, ↓ok_forS, ↓ok_forL_nil, ↓ok_lcS, ↓ok_lcL_nil, ↓okV_callD, ↓okV_callV, ↓ok_callM, ↓ok_asD, ↓ok_asL, ↓ok_callS, ↓ok_runF, ↓ok_rplS, ↓ok_tupA, ↓ok_strM, ↓ok_chn3, own?, toN, toT, toNs, wipE, bakE, stp_nx, stp_ct, stp_bk, stp_rt, Fw.collect, ok_yesS, List.getElem?_cons_zero, List.getElem?_cons_succ, List.set_cons_zero, List.set_cons_succ, List.map_cons, List.map_nil, List.length_cons, List.length_nil, List.cons_append, List.nil_append, List.replicate_succ, List.replicate_zero, Nat.reduceAdd, Nat.reduceSub, Nat.reduceLeDiff, Nat.reduceLT, Nat.reduceEqDiff, Int.reduceLT, Int.reduceLE, Int.reduceNeg, Int.reducePow, Int.reduceEq, Option.isSome_some, Option.map_some, Option.map_none, true_and, and_true, if_true, if_false, ite_true, ite_false, Bool.false_eq_true, reduceIte, reduceCtorEq, gAdd_ii, gAdd_ss, gAdd_tt, gSub_ii, gMul_ii, gDiv_ii, gMod_ii, gNeg_i, gLt_ii, gGt_ii, gGe_ii, gLe_ii, eqv_ii, eqv_ss, eqv_bb, eqv_nn, eqv_ni, eqv_in, eqv_ns, eqv_sn, eqv_nb, eqv_bn, eqv_is, eqv_si, eqv_nt, eqv_tn, eqv_nl, eqv_ln, eqv_tt, eqv_ll, eqvA_nn, eqvA_cc, eqvA_nc, eqvA_cn, gEq_ii, gEq_ss, gEq_bb, gEq_nn, gEq_in, gEq_ni, gEq_sn, gEq_ns, gEq_si, gEq_is, gNe_ii, gNe_ss, gNe_bb, gNe_nn, gNot_b, gIsN_n, gIsN_i, gIsN_b, gIsN_s, gIsN_t, gIsN_l, gNotN_n, gNotN_i, gNotN_b, gNotN_s, gNotN_t, gNotN_l, gIx_l, gIx_t, gIx_s, gLen_s, gLen_l, gLen_t, gAbs_i, gInt_i, gInt_b, gInt_s, gOrd_sign, gDivmod_ii, gStr_i, gStr_s, gTuple_l, gTuple_t, gStrip_s, gLstrip_s, gSplit_s, gPartition_s, gJoin_m, gCat_ll, gSl_s, gSl_t, gSl_l, itemsOf_l, itemsOf_t, itemsOf_s, ofString_inj, cMul_r, cMul_l, ixN_lit, atI_lit, atI_m1, cast_lit, String.reduceEq, decide_true, decide_false, Int.reduceSub, Int.reduceAdd, Int.reduceMul, Int.reduceToNat, T_toList, T_len, T_app, T_inj, T_sign, T_cut, T_signs, T_strip, T_empty, gIn_T, gNin_T, gLjust_T, lt_0, lt_1, lt_2, lt_3, lt_4, lt_5, lt_6, lt_7, lt_8, lt_9, lt_10, lt_11, lt_12, lt_13, lt_14, lt_15, lt_16, lt_17, lt_18, lt_19, lt_20, lt_21, lt_22, lt_23, lt_24, lt_25, lt_26, lt_27, lt_28, lt_29, lt_30, lt_31, lt_32, lt_33, lt_34, lt_35, lt_36, lt_37, lt_38, lt_39, lt_40, lt_41, lt_42, lt_43, lt_44, lt_45, lt_46, lt_47, lt_48, lt_49, lt_50, lt_51, lt_52, lt_53, lt_54, lt_55, lt_56, lt_57, lt_58, lt_59]
    · have h32' : 32 < c := by omega
      by_cases h34 : c = 34
      · subst h34
        simp only [walkA, decide_eq_true h32']
        simp [sgn, ok_some, ok_none, okV_some, okV_none, ↓okV_if, ↓ok_if, ↓ok_ret, ↓ok_bnd, ↓ok_lft, ↓ok_bin, ↓ok_una, ↓ok_binL, ↓ok_unaL, ↓ok_mny, ↓ok_rdD, ↓ok_rdO, ↓ok_rdA, ↓ok_toB, ↓ok_sAnd, ↓ok_sOr, ↓ok_sNot, ↓ok_vAnd, ↓ok_vOr, ↓ok_sIf, ↓ok_chn, ↓ok_sNil, ↓ok_sCons, ↓ok_dTup, ↓ok_dLst, ↓ok_m0S, ↓ok_m1S, ↓ok_m1L, ↓ok_ixO, ↓ok_sPart, ↓ok_sSl, ↓ok_tupO, ↓ok_sItems, ↓ok_sScr, ↓ok_sEnum, ↓ok_sRng1, ↓ok_sRng2, ↓ok_seqS, ↓ok_nxt, ↓ok_brkS, ↓ok_cntS, ↓ok_retN, ↓ok_drpS, ↓ok_asg, ↓ok_asgL, ↓ok_asgG, ↓ok_augS, ↓ok_ifS, ↓ok_retD, ↓ok_retL, ↓ok_retO, ↓ok_appO, ↓ok_setO, ↓ok_extO, ↓ok_popS, ↓ok_forS, ↓ok_forL_nil, ↓ok_lcS, ↓ok_lcL_nil, ↓okV_callD, ↓okV_callV, ↓ok_callM, ↓ok_asD, ↓ok_asL, ↓ok_callS, ↓ok_runF, ↓ok_rplS, ↓ok_tupA, ↓ok_strM, ↓ok_chn3, own?, toN, toT, toNs, wipE, bakE, stp_nx, stp_ct, stp_bk, stp_rt, Fw.collect, ok_yesS, List.getElem?_cons_zero, List.getElem?_cons_succ, List.set_cons_zero, List.set_cons_succ, List.map_cons, List.map_nil, List.length_cons, List.length_nil, List.cons_append, List.nil_append, List.replicate_succ, List.replicate_zero, Nat.reduceAdd, Nat.reduceSub, Nat.reduceLeDiff, Nat.reduceLT, Nat.reduceEqDiff, Int.reduceLT, Int.reduceLE, Int.reduceNeg, Int.reducePow, Int.reduceEq, Option.isSome_some, Option.map_some, Option.map_none, true_and, and_true, if_true, if_false, ite_true, ite_false, Bool.false_eq_true, reduceIte, reduceCtorEq, gAdd_ii, gAdd_ss, gAdd_tt, gSub_ii, gMul_ii, gDiv_ii, gMod_ii, gNeg_i, gLt_ii, gGt_ii, gGe_ii, gLe_ii, eqv_ii, eqv_ss, eqv_bb, eqv_nn, eqv_ni, eqv_in, eqv_ns, eqv_sn, eqv_nb, eqv_bn, eqv_is, eqv_si, eqv_nt, eqv_tn, eqv_nl, eqv_ln, eqv_tt, eqv_ll, eqvA_nn, eqvA_cc, eqvA_nc, eqvA_cn, gEq_ii, gEq_ss, gEq_bb, gEq_nn, gEq_in, gEq_ni, gEq_sn, gEq_ns, gEq_si, gEq_is, gNe_ii, gNe_ss, gNe_bb, gNe_nn, gNot_b, gIsN_n, gIsN_i, gIsN_b, gIsN_s, gIsN_t, gIsN_l, gNotN_n, gNotN_i, gNotN_b, gNotN_s, gNotN_t, gNotN_l, gIx_l, gIx_t, gIx_s, gLen_s, gLen_l, gLen_t, gAbs_i, gInt_i, gInt_b, gInt_s, gOrd_sign, gDivmod_ii, gStr_i, gStr_s, gTuple_l, gTuple_t, gStrip_s, gLstrip_s, gSplit_s, gPartition_s, gJoin_m, gCat_ll, gSl_s, gSl_t, gSl_l, itemsOf_l, itemsOf_t, itemsOf_s, ofString_inj, cMul_r, cMul_l, ixN_lit, atI_lit, atI_m1, cast_lit, String.reduceEq, decide_true, decide_false, Int.reduceSub, Int.reduceAdd, Int.reduceMul, Int.reduceToNat, T_toList, T_len, T_app, T_inj, T_sign, T_cut, T_signs, T_strip, T_empty, gIn_T, gNin_T, gLjust_T, lt_0, lt_1, lt_2, lt_3, lt_4, lt_5, lt_6, lt_7, lt_8, lt_9, lt_10, lt_11, lt_12, lt_13, lt_14, lt_15, lt_16, lt_17, lt_18, lt_19, lt_20, lt_21, lt_22, lt_23, lt_24, lt_25, lt_26, lt_27, lt_28, lt_29, lt_30, lt_31, lt_32, lt_33, lt_34, lt_35, lt_36, lt_37, lt_38, lt_39, lt_40, lt_41, lt_42, lt_43, lt_44, lt_45, lt_46, lt_47, lt_48, lt_49, lt_50, lt_51, lt_52, lt_53, lt_54, lt_55, lt_56, lt_57, lt_58, lt_59]
      · have e34 : ¬ ([c] : List Nat) = [34] := fun z => h34 (List.cons.inj z).1
        have e92 : ¬ ([c] : List Nat) = [92] := fun z => hp2.2.2.2 (List.cons.inj z).1
        simp only [walkA, decide_eq_true h32', decide_eq_false e34, decide_eq_false e92, Bool.not_false, ho]
        refine vs_ok hp fun E => ?_
        simp [sgn, h32, h34, ok_some, ok_none, okV_some, okV_none, ↓okV_if, ↓ok_if, ↓ok_ret, ↓ok_bnd, ↓ok_lft, ↓ok_bin, ↓ok_una, ↓ok_binL, ↓ok_unaL, ↓ok_mny, ↓ok_rdD, ↓ok_rdO, ↓ok_rdA, ↓ok_toB, ↓ok_sAnd, ↓ok_sOr, ↓ok_sNot, ↓ok_vAnd, ↓ok_vOr, ↓ok_sIf, ↓ok_chn, ↓ok_sNil, ↓ok_sCons, ↓ok_dTup, ↓ok_dLst, ↓ok_m0S, ↓ok_m1S, ↓ok_m1L, ↓ok_ixO, ↓ok_sPart, ↓ok_sSl, ↓ok_tupO, ↓ok_sItems, ↓ok_sScr, ↓ok_sEnum, ↓ok_sRng1, ↓ok_sRng2, ↓ok_seqS, ↓ok_nxt, ↓ok_brkS, ↓ok_cntS, ↓ok_retN, ↓ok_drpS, ↓ok_asg, ↓ok_asgL, ↓ok_asgG, ↓ok_augS, ↓ok_ifS, ↓ok_retD, ↓ok_retL, ↓ok_retO, ↓ok_appO, ↓ok_setO, ↓ok_extO, ↓ok_popS, ↓ok_forS, ↓ok_forL_nil, ↓ok_lcS, ↓ok_lcL_nil, ↓okV_callD, ↓okV_callV, ↓ok_callM, ↓ok_asD, ↓ok_asL, ↓ok_callS, ↓ok_runF, ↓ok_rplS, ↓ok_tupA, ↓ok_strM, ↓ok_chn3, own?, toN, toT, toNs, wipE, bakE, stp_nx, stp_ct, stp_bk, stp_rt, Fw.collect, ok_yesS, List.getElem?_cons_zero, List.getElem?_cons_succ, List.set_cons_zero, List.set_cons_succ, List.map_cons, List.map_nil, List.length_cons, List.length_nil, List.cons_append, List.nil_append, List.replicate_succ, List.replicate_zero, Nat.reduceAdd, Nat.reduceSub, Nat.reduceLeDiff, Nat.reduceLT, Nat.reduceEqDiff, Int.reduceLT, Int.reduceLE, Int.reduceNeg, Int.reducePow, Int.reduceEq, Option.isSome_some, Option.map_some, Option.map_none, true_and, and_true, if_true, if_false, ite_true, ite_false, Bool.false_eq_true, reduceIte, reduceCtorEq, gAdd_ii, gAdd_ss, gAdd_tt, gSub_ii, gMul_ii, gDiv_ii, gMod_ii, gNeg_i, gLt_ii, gGt_ii, gGe_ii, gLe_ii, eqv_ii, eqv_ss, eqv_bb, eqv_nn, eqv_ni, eqv_in, eqv_ns, eqv_sn, eqv_nb, eqv_bn, eqv_is, eqv_si, eqv_nt, eqv_tn, eqv_nl, eqv_ln, eqv_tt, eqv_ll, eqvA_nn, eqvA_cc, eqvA_nc, eqvA_cn, gEq_ii, gEq_ss, gEq_bb, gEq_nn, gEq_in, gEq_ni, gEq_sn, gEq_ns, gEq_si, gEq_is, gNe_ii, gNe_ss, gNe_bb, gNe_nn, gNot_b, gIsN_n, gIsN_i, gIsN_b, gIsN_s, gIsN_t, gIsN_l, gNotN_n, gNotN_i, gNotN_b, gNotN_s, gNotN_t, gNotN_l, gIx_l, gIx_t, gIx_s, gLen_s, gLen_l, gLen_t, gAbs_i, gInt_i, gInt_b, gInt_s, gOrd_sign, gDivmod_ii, gStr_i, gStr_s, gTuple_l, gTuple_t, gStrip_s, gLstrip_s, gSplit_s, gPartition_s, gJoin_m, gCat_ll, gSl_s, gSl_t, gSl_l, itemsOf_l, itemsOf_t, itemsOf_s, ofString_inj, cMul_r, cMul_l, ixN_lit, atI_lit, atI_m1, cast_lit, String.reduceEq, decide_true, decide_false, Int.reduceSub, Int.reduceAdd, Int.reduceMul, Int.reduceToNat, T_toList, T_len, T_app, T_inj, T_sign, T_cut, T_signs, T_strip, T_empty, gIn_T, gNin_T, gLjust_T, lt_0, lt_1, lt_2, lt_3, lt_4, lt_5, lt_6, lt_7, lt_8, lt_9, lt_10, lt_11, lt_12, lt_13, lt_14, lt_15, lt_16, lt_17, lt_18, lt_19, lt_20, lt_21, lt_22, lt_23, lt_24, lt_25, lt_26, lt_27, lt_28, lt_29, lt_30, lt_31, lt_32, lt_33, lt_34, lt_35, lt_36, lt_37, lt_38, lt_39, lt_40, lt_41, lt_42, lt_43, lt_44, lt_45, lt_46, lt_47, lt_48, lt_49, lt_50, lt_51, lt_52, lt_53, lt_54, lt_55, lt_56, lt_57, lt_58, lt_59]
  · simp only [walkA, List.filter_eq_self.mpr (fun (x : Nat) (_ : x ∈ l) => (rfl : (fun _ => true) x = true)), T_is_tag_text_1, gAll_map]
    exact q _
theorem mid_pl {l : List Nat} (h : Pl l) : Pl (mid l) := fun c hc => h c (cutL_mem hc)
theorem rs_pl {l : List Nat} (h : Pl l) : Pl (rsF l) := by
  unfold rsF
  split
  · exact fun c hc => h c (cutL_mem hc)
  · exact h
theorem rs_len (l : List Nat) : (rsF l).length ≤ l.length := by
  unfold rsF
  split
  · exact cutL_len ..
  · exact Nat.le_refl _
theorem one_ne {c : Nat} : (([c] : List Nat) = [34]) = (c = 34) := by simp
theorem readtag_ok {l : List Nat} (h : Pl l) (hl : l.length ≤ 1000) {Q : Sl → En → Prop} (q : ∀ a, Q (.dat (otD (rtF l))) [a]) : Ok (S_read_tag [.dat (.str (T l))]) Q := by
  have hs := sizeLine_eq
  have hg : gStarts (T l) [.str (T [87, 47])] = some (.bool (decide (l.take 2 = [87, 47]))) := by rw [← starts2]; rfl
  have hrl := rs_len l
  have hrp := rs_pl h
  have hmp := mid_pl hrp
  have hml : (mid (rsF l)).length ≤ (rsF l).length := cutL_len ..
  unfold S_read_tag
  rw [ok_runF]
  refine ⟨rfl, ?_⟩
  simp only [walkA, Y_read_tag, hg]
  have tail : Ok (T_read_tag_2 [.dat (.str (T l)), .dat (.bool (decide (l.take 2 = [87, 47]))), .dat (.str (T (rsF l)))]) fun fl E => match fl with
      | .rt s => OkV (Fw.collect [.dat (.str (T l))] E) fun outs => Q s outs
      | .nx => OkV (Fw.collect [.dat (.str (T l))] E) fun outs => Q (.dat .none) outs
      | _ => False := by
    unfold rtF at q
    simp only [walkA, T_read_tag_2]
    by_cases h2 : (rsF l).length < 2
    · have h2' : ((rsF l).length : Int) < 2 := by omega
      rw [if_pos (Or.inl h2)] at q
      simp only [walkA, decide_eq_true h2']
      exact ⟨by omega, q _⟩
    · have h2' : ¬ ((rsF l).length : Int) < 2 := by omega
      have hpos : 0 < (rsF l).length := by omega
      have hg0 : (rsF l)[0]? = some (rsF l)[0] := List.getElem?_eq_getElem hpos
      have hne : rsF l ≠ [] := List.length_pos_iff.mp hpos
      have hgl : (rsF l).getLast? = some ((rsF l).getLast hne) := List.getLast?_eq_some_getLast hne
      rw [hg0, hgl] at q
      generalize (rsF l)[0] = x0 at q hg0
      generalize (rsF l).getLast hne = x1 at q hgl
      simp only [walkA, decide_eq_false h2', hg0, hgl, one_ne]
      refine ⟨by omega, by omega, ?_⟩
      by_cases e0 : x0 = 34
      · by_cases e1 : x1 = 34
        · rw [if_neg (by simp [h2, e0, e1])] at q
          simp only [walkA, decide_eq_true e0, decide_eq_true e1, Bool.not_true, T_read_tag_1]
          refine ⟨by omega, by omega, ?_⟩
          refine tagtext_ok hmp (by omega) fun a => ?_
          by_cases hm : (mid (rsF l)).all sgn = true
          · rw [if_pos hm] at q
            simp only [walkA, hm]
            exact ⟨by omega, by omega, q _⟩
          · rw [if_neg hm] at q
            rw [Bool.not_eq_true] at hm
            simp only [walkA, hm]
            exact q _
        · rw [if_pos (by simp [e1])] at q
          simp only [walkA, decide_eq_true e0, decide_eq_false e1, Bool.not_true, Bool.not_false]
          exact ⟨by omega, q _⟩
      · rw [if_pos (by simp [e0])] at q
        simp only [walkA, decide_eq_false e0, Bool.not_false]
        exact q _
  by_cases hw : l.take 2 = [87, 47]
  · have er : rsF l = cutL l (some 2) none := by unfold rsF; rw [if_pos hw]; rfl
    rw [er, decide_eq_true hw] at tail
    simp only [walkA, decide_eq_true hw, T_read_tag_3]
    exact ⟨by omega, by omega, tail⟩
  · have er : rsF l = l := by unfold rsF; rw [if_neg hw]
    rw [er, decide_eq_false hw] at tail
    simp only [walkA, decide_eq_false hw, T_read_tag_3]
    exact tail
theorem lreadtag_ok {l : List Nat} (h : Pl l) (hl : l.length ≤ 1000) {Q : Sl → En → Prop} (q : ∀ a, Q (.dat (otD (rtF l))) [a]) : Ok (S__law_read_tag [.dat (.str (T l))]) Q := by
  have hs := sizeLine_eq
  have hrl := rs_len l
  have hrp := rs_pl h
  have hmp := mid_pl hrp
  have hml : (mid (rsF l)).length ≤ (rsF l).length := cutL_len ..
  unfold S__law_read_tag
  rw [ok_runF]
  refine ⟨rfl, ?_⟩
  simp only [walkA, Y__law_read_tag, cut_2]
  have tail : Ok (T__law_read_tag_3 [.dat (.str (T (rsF l))), .dat (.bool (decide (l.take 2 = [87, 47]))), .un]) fun fl E => match fl with
      | .rt s => OkV (Fw.collect [.dat (.str (T l))] E) fun outs => Q s outs
      | .nx => OkV (Fw.collect [.dat (.str (T l))] E) fun outs => Q (.dat .none) outs
      | _ => False := by
    unfold rtF at q
    simp only [walkA, T__law_read_tag_3]
    by_cases h2 : (rsF l).length < 2
    · have h2' : ((rsF l).length : Int) < 2 := by omega
      rw [if_pos (Or.inl h2)] at q
      simp only [walkA, decide_eq_true h2']
      exact ⟨by omega, q _⟩
    · have h2' : ¬ ((rsF l).length : Int) < 2 := by omega
      have hpos : 0 < (rsF l).length := by omega
      have hg0 : (rsF l)[0]? = some (rsF l)[0] := List.getElem?_eq_getElem hpos
      have hne : rsF l ≠ [] := List.length_pos_iff.mp hpos
      have hgl : (rsF l).getLast? = some ((rsF l).getLast hne) := List.getLast?_eq_some_getLast hne
      rw [hg0, hgl] at q
      generalize (rsF l)[0] = x0 at q hg0
      generalize (rsF l).getLast hne = x1 at q hgl
      simp only [walkA, decide_eq_false h2', hg0, hgl, one_ne]
      refine ⟨by omega, by omega, ?_⟩
      by_cases e0 : x0 = 34
      · by_cases e1 : x1 = 34
        · rw [if_neg (by simp [h2, e0, e1])] at q
          simp only [walkA, decide_eq_true e0, decide_eq_true e1, Bool.not_true, T__law_read_tag_2]
          refine ⟨by omega, by omega, ?_⟩
          have loop : ∀ (m : List Nat) (x : Sl), Pl m → Ok (forL (toN 2) L__law_read_tag_1 (m.map fun c => .str (T [c])) [.dat (.str (T (rsF l))), .dat (.bool (decide (l.take 2 = [87, 47]))), x]) fun fl E => if m.all sgn = true then fl = .nx ∧ ∃ x, E = [.dat (.str (T (rsF l))), .dat (.bool (decide (l.take 2 = [87, 47]))), x] else fl = .rt (.dat .none) ∧ ∃ x, E = [.dat (.str (T (rsF l))), .dat (.bool (decide (l.take 2 = [87, 47]))), x] := by
            intro m
            induction m with
            | nil =>
              intro x _
              rw [List.map_nil, ok_forL_nil]
              exact ⟨rfl, _, rfl⟩
            | cons c m ih =>
              intro x hm
              have hc := pl_lt (hm c (List.mem_cons_self ..))
              rw [List.map_cons, ok_forL_cons]
              simp only [walkA, L__law_read_tag_1, List.all_cons]
              by_cases hsg : sgn c = true
              · have hin : ¬ c ∈ ([32, 34, 92, 9] : List Nat) := by
                  unfold sgn at hsg
                  simp only [Bool.and_eq_true, Bool.not_eq_true', decide_eq_false_iff_not] at hsg
                  simp only [List.mem_cons, List.not_mem_nil, or_false]
                  omega
                simp only [walkA, decide_eq_false hin, hsg, Bool.true_and]
                exact ih _ fun y hy => hm y (List.mem_cons_of_mem _ hy)
              · have hin : c ∈ ([32, 34, 92, 9] : List Nat) := by
                  unfold sgn at hsg
                  simp only [Bool.and_eq_true, Bool.not_eq_true', decide_eq_false_iff_not] at hsg
                  simp only [List.mem_cons, List.not_mem_nil, or_false]
                  omega
                rw [Bool.not_eq_true] at hsg
                simp only [walkA, decide_eq_true hin, hsg, Bool.false_and]
                exact ⟨_, rfl⟩
          have hlp := loop (mid (rsF l)) .un hmp
          refine hlp.imp fun fl E hE => ?_
          by_cases hm : (mid (rsF l)).all sgn = true
          · rw [if_pos hm] at q hE
            obtain ⟨rfl, x, rfl⟩ := hE
            simp only [walkA, T__law_read_tag_1]
            exact ⟨by omega, by omega, q _⟩
          · rw [if_neg hm] at q hE
            obtain ⟨rfl, x, rfl⟩ := hE
            simp only [walkA]
            exact q _
        · rw [if_pos (by simp [e1])] at q
          simp only [walkA, decide_eq_true e0, decide_eq_false e1, Bool.not_true, Bool.not_false]
          exact ⟨by omega, q _⟩
      · rw [if_pos (by simp [e0])] at q
        simp only [walkA, decide_eq_false e0, Bool.not_false]
        exact q _
  by_cases hw : l.take 2 = [87, 47]
  · have er : rsF l = cutL l (some 2) none := by unfold rsF; rw [if_pos hw]; rfl
    rw [er, decide_eq_true hw] at tail
    simp only [walkA, decide_eq_true hw, T__law_read_tag_4]
    exact ⟨by omega, by omega, tail⟩
  · have er : rsF l = l := by unfold rsF; rw [if_neg hw]
    rw [er, decide_eq_false hw] at tail
    simp only [walkA, decide_eq_false hw, T__law_read_tag_4]
    exact ⟨by omega, tail⟩
end ownanswer_k62_conditions_judged
namespace ownanswer_k62_conditions_judged
open PySem PySem.Spec L2 Fw
local macro_rules | `(tactic| simp only [walkA, $xs,*] $[$l:location]?) => `(tactic| simp only [ok_some, ok_none, okV_some, okV_none, ↓okV_if, ↓ok_if, ↓ok_ret, ↓ok_bnd, ↓ok_lft, ↓ok_bin, ↓ok_una, ↓ok_binL, ↓ok_unaL, ↓ok_mny, ↓ok_rdD, ↓ok_rdO, ↓ok_rdA, ↓ok_toB, ↓ok_sAnd, ↓ok_sOr, ↓ok_sNot, ↓ok_vAnd, ↓ok_vOr, ↓ok_sIf, ↓ok_chn, ↓ok_sNil, ↓ok_sCons, ↓ok_dTup, ↓ok_dLst, ↓ok_m0S, ↓ok_m1S, ↓ok_m1L, ↓ok_ixO, ↓ok_sPart, ↓ok_sSl, ↓ok_tupO, ↓ok_sItems, ↓ok_sScr, ↓ok_sEnum, ↓ok_sRng1, ↓ok_sRng2, ↓ok_seqS, ↓ok_nxt, ↓ok_brkS, ↓ok_cntS, ↓ok_retN, ↓ok_drpS, ↓ok_asg, ↓ok_asgL, ↓ok_asgG, ↓ok_augS, ↓ok_ifS, ↓ok_retD, ↓ok_retL, ↓ok_retO, ↓ok_appO, ↓ok_setO, ↓ok_extO, ↓ok_popS, ↓ok_forS, ↓ok_forL_nil, ↓ok_lcS, ↓ok_lcL_nil, ↓okV_callD, ↓okV_callV, ↓ok_callM, ↓ok_asD, ↓ok_asL, ↓ok_callS, ↓ok_runF, ↓ok_rplS, ↓ok_tupA, ↓ok_strM, ↓ok_chn3, own?, toN, toT, toNs, wipE, bakE, stp_nx, stp_ct, stp_bk, stp_rt, Fw.collect, ok_yesS, List.getElem?_cons_zero, List.getElem?_cons_succ, List.set_cons_zero, List.set_cons_succ, List.map_cons, List.map_nil, List.length_cons, List.length_nil, List.cons_append, List.nil_append, List.replicate_succ, List.replicate_zero, Nat.reduceAdd, Nat.reduceSub, Nat.reduceLeDiff, Nat.reduceLT, Nat.reduceEqDiff, Int.reduceLT, Int.reduceLE, Int.reduceNeg, Int.reducePow, Int.reduceEq, Option.isSome_some, Option.map_some, Option.map_none, true_and, and_true, if_true, if_false, ite_true, ite_false, Bool.false_eq_true, reduceIte, reduceCtorEq, gAdd_ii, gAdd_ss, gAdd_tt, gSub_ii, gMul_ii, gDiv_ii, gMod_ii, gNeg_i, gLt_ii, gGt_ii, gGe_ii, gLe_ii, eqv_ii, eqv_ss, eqv_bb, eqv_nn, eqv_ni, eqv_in, eqv_ns, eqv_sn, eqv_nb, eqv_bn, eqv_is, eqv_si, eqv_nt, eqv_tn, eqv_nl, eqv_ln, eqv_tt, eqv_ll, eqvA_nn, eqvA_cc, eqvA_nc, eqvA_cn, gEq_ii, gEq_ss, gEq_bb, gEq_nn, gEq_in, gEq_ni, gEq_sn, gEq_ns, gEq_si, gEq_is, gNe_ii, gNe_ss, gNe_bb, gNe_nn, gNot_b, gIsN_n, gIsN_i, gIsN_b, gIsN_s, gIsN_t, gIsN_l, gNotN_n, gNotN_i, gNotN_b, gNotN_s, gNotN_t, gNotN_l, gIx_l, gIx_t, gIx_s, gLen_s, gLen_l, gLen_t, gAbs_i, gInt_i, gInt_b, gInt_s, gOrd_sign, gDivmod_ii, gStr_i, gStr_s, gTuple_l, gTuple_t, gStrip_s, gLstrip_s, gSplit_s, gPartition_s, gJoin_m, gCat_ll, gSl_s, gSl_t, gSl_l, itemsOf_l, itemsOf_t, itemsOf_s, ofString_inj, cMul_r, cMul_l, ixN_lit, atI_lit, atI_m1, cast_lit, String.reduceEq, decide_true, decide_false, Int.reduceSub, Int.reduceAdd, Int.reduceMul, Int.reduceToNat, T_toList, T_len, T_app, T_inj, T_sign, T_cut, T_signs, T_strip, T_empty, gIn_T, gNin_T, gLjust_T, lt_0, lt_1, lt_2, lt_3, lt_4, lt_5, lt_6, lt_7, lt_8, lt_9, lt_10, lt_11, lt_12, lt_13, lt_14, lt_15, lt_16, lt_17, lt_18, lt_19, lt_20, lt_21, lt_22, lt_23, lt_24, lt_25, lt_26, lt_27, lt_28, lt_29, lt_30, lt_31, lt_32, lt_33, lt_34, lt_35, lt_36, lt_37, lt_38, lt_39, lt_40, lt_41, lt_42, lt_43, lt_44, lt_45, lt_46, lt_47, lt_48, lt_49, lt_50, lt_51, lt_52, lt_53, lt_54, lt_55, lt_56, lt_57, lt_58, lt_59, $xs,*] $[$l:location]?)
local macro_rules | `(tactic| simp only [walkA] $[$l:location]?) => `(tactic| simp only [ok_some, ok_none, okV_some, okV_none, ↓okV_if, ↓ok_if, ↓ok_ret, ↓ok_bnd, ↓ok_lft, ↓ok_bin, ↓ok_una, ↓ok_binL, ↓ok_unaL, ↓ok_mny, ↓ok_rdD, ↓ok_rdO, ↓ok_rdA, ↓ok_toB, ↓ok_sAnd, ↓ok_sOr, ↓ok_sNot, ↓ok_vAnd, ↓ok_vOr, ↓ok_sIf, ↓ok_chn, ↓ok_sNil, ↓ok_sCons, ↓ok_dTup, ↓ok_dLst, ↓ok_m0S, ↓ok_m1S, ↓ok_m1L, ↓ok_ixO, ↓ok_sPart, ↓ok_sSl, ↓ok_tupO, ↓ok_sItems, ↓ok_sScr, ↓ok_sEnum, ↓ok_sRng1, ↓ok_sRng2, ↓ok_seqS, ↓ok_nxt, ↓ok_brkS, ↓ok_cntS, ↓ok_retN, ↓ok_drpS, ↓ok_asg, ↓ok_asgL, ↓ok_asgG, ↓ok_augS, ↓ok_ifS, ↓ok_retD, ↓ok_retL, ↓ok_retO, ↓ok_appO, ↓ok_setO, ↓ok_extO, ↓ok_popS, ↓ok_forS, ↓ok_forL_nil, ↓ok_lcS, ↓ok_lcL_nil, ↓okV_callD, ↓okV_callV, ↓ok_callM, ↓ok_asD, ↓ok_asL, ↓ok_callS, ↓ok_runF, ↓ok_rplS, ↓ok_tupA, ↓ok_strM, ↓ok_chn3, own?, toN, toT, toNs, wipE, bakE, stp_nx, stp_ct, stp_bk, stp_rt, Fw.collect, ok_yesS, List.getElem?_cons_zero, List.getElem?_cons_succ, List.set_cons_zero, List.set_cons_succ, List.map_cons, List.map_nil, List.length_cons, List.length_nil, List.cons_append, List.nil_append, List.replicate_succ, List.replicate_zero, Nat.reduceAdd, Nat.reduceSub, Nat.reduceLeDiff, Nat.reduceLT, Nat.reduceEqDiff, Int.reduceLT, Int.reduceLE, Int.reduceNeg, Int.reducePow, Int.reduceEq, Option.isSome_some, Option.map_some, Option.map_none, true_and, and_true, if_true, if_false, ite_true, ite_false, Bool.false_eq_true, reduceIte, reduceCtorEq, gAdd_ii, gAdd_ss, gAdd_tt, gSub_ii, gMul_ii, gDiv_ii, gMod_ii, gNeg_i, gLt_ii, gGt_ii, gGe_ii, gLe_ii, eqv_ii, eqv_ss, eqv_bb, eqv_nn, eqv_ni, eqv_in, eqv_ns, eqv_sn, eqv_nb, eqv_bn, eqv_is, eqv_si, eqv_nt, eqv_tn, eqv_nl, eqv_ln, eqv_tt, eqv_ll, eqvA_nn, eqvA_cc, eqvA_nc, eqvA_cn, gEq_ii, gEq_ss, gEq_bb, gEq_nn, gEq_in, gEq_ni, gEq_sn, gEq_ns, gEq_si, gEq_is, gNe_ii, gNe_ss, gNe_bb, gNe_nn, gNot_b, gIsN_n, gIsN_i, gIsN_b, gIsN_s, gIsN_t, gIsN_l, gNotN_n, gNotN_i, gNotN_b, gNotN_s, gNotN_t, gNotN_l, gIx_l, gIx_t, gIx_s, gLen_s, gLen_l, gLen_t, gAbs_i, gInt_i, gInt_b, gInt_s, gOrd_sign, gDivmod_ii, gStr_i, gStr_s, gTuple_l, gTuple_t, gStrip_s, gLstrip_s, gSplit_s, gPartition_s, gJoin_m, gCat_ll, gSl_s, gSl_t, gSl_l, itemsOf_l, itemsOf_t, itemsOf_s, ofString_inj, cMul_r, cMul_l, ixN_lit, atI_lit, atI_m1, cast_lit, String.reduceEq, decide_true, decide_false, Int.reduceSub, Int.reduceAdd, Int.reduceMul, Int.reduceToNat, T_toList, T_len, T_app, T_inj, T_sign, T_cut, T_signs, T_strip, T_empty, gIn_T, gNin_T, gLjust_T, lt_0, lt_1, lt_2, lt_3, lt_4, lt_5, lt_6, lt_7, lt_8, lt_9, lt_10, lt_11, lt_12, lt_13, lt_14, lt_15, lt_16, lt_17, lt_18, lt_19, lt_20, lt_21, lt_22, lt_23, lt_24, lt_25, lt_26, lt_27, lt_28, lt_29, lt_30, lt_31, lt_32, lt_33, lt_34, lt_35, lt_36, lt_37, lt_38, lt_39, lt_40, lt_41, lt_42, lt_43, lt_44, lt_45, lt_46, lt_47, lt_48, lt_49, lt_50, lt_51, lt_52, lt_53, lt_54, lt_55, lt_56, lt_57, lt_58, lt_59] $[$l:location]?)

open ownanswer_k51_lists_and_joined_values (ts pr Lo LoP valsOfV joinOfV vals_okV join_okV CU wW split_ok cutF cutF_len strOk_T trimL_mem shaped_lts gEq_lts)
theorem dw_congr {p q : Nat → Bool} : ∀ l : List Nat, (∀ c ∈ l, p c = q c) → l.dropWhile p = l.dropWhile q
  | [], _ => rfl
  | c :: l, h => by
    rw [List.dropWhile_cons, List.dropWhile_cons, h c (List.mem_cons_self ..), dw_congr l fun x hx => h x (List.mem_cons_of_mem _ hx)]
theorem trim9 {l : List Nat} (h : ∀ c ∈ l, c ≠ 9) : trimL [32] l = trimL wW l := by
  have e : ∀ c : Nat, c ≠ 9 → decide (c ∈ ([32] : List Nat)) = decide (c ∈ wW) := fun c hc => by
    rw [decide_eq_decide]
    simp only [List.mem_cons, List.not_mem_nil, or_false]
    omega
  unfold trimL trimR
  have e1 := dw_congr l fun c hc => e c (h c hc)
  rw [e1]
  have e2 := dw_congr (l.dropWhile fun c => decide (c ∈ wW)).reverse fun c hc => e c (h c ((List.dropWhile_sublist _).subset (List.mem_reverse.mp hc)))
  rw [e2]
theorem cutF_mem : ∀ (r : List Nat) (q t : Bool) (cur : List Nat), ∀ p ∈ (cutF 44 r q t cur).1, ∀ c ∈ p, c ∈ cur ∨ c ∈ r := by
  intro r
  induction r with
  | nil => intro q t cur p hp c hc; cases List.mem_singleton.mp hp; exact .inl hc
  | cons x r ih =>
    intro q t cur p hp c hc
    have go : ∀ q' t', p ∈ (cutF 44 r q' t' (cur ++ [x])).1 → c ∈ cur ∨ c ∈ x :: r := fun q' t' hp => by
      rcases ih q' t' _ p hp c hc with h | h
      · rcases List.mem_append.mp h with h | h
        · exact .inl h
        · exact .inr (by cases List.mem_singleton.mp h; exact List.mem_cons_self ..)
      · exact .inr (List.mem_cons_of_mem _ h)
    unfold cutF at hp
    split at hp
    · exact go _ _ hp
    · split at hp
      · exact go _ _ hp
      · split at hp
        · exact go _ _ hp
        · split at hp
          · rcases List.mem_cons.mp hp with rfl | hp
            · exact .inl hc
            · rcases ih _ _ _ p hp c hc with h | h
              · cases h
              · exact .inr (List.mem_cons_of_mem _ h)
          · exact go _ _ hp
theorem cu_pl {l : List Nat} (h : Pl l) : ∀ p ∈ (CU l).1, Pl p := fun p hp c hc => by
  rcases cutF_mem l false false [] p hp c hc with h' | h'
  · cases h'
  · exact h c h'
def pcs (l : List Nat) : List (List Nat) := ((CU l).1.map (trimL wW)).filter fun p => decide (p ≠ [])
theorem pcs_pl {l : List Nat} (h : Pl l) : ∀ p ∈ pcs l, Pl p ∧ p.length ≤ l.length := fun p hp => by
  obtain ⟨p', hp', rfl⟩ := List.mem_map.mp (List.mem_filter.mp hp).1
  refine ⟨fun c hc => cu_pl h p' hp' c (trimL_mem hc), ?_⟩
  have h1 := (cutF_len 44 l false false []).2 p' hp'
  have h2 : (trimL wW p').length ≤ p'.length := ownanswer_k51_lists_and_joined_values.trimL_len p'
  simp only [List.length_nil] at h1
  omega
theorem pcs_len (l : List Nat) : (pcs l).length ≤ l.length + 1 := by
  have h1 := (cutF_len 44 l false false []).1
  unfold pcs
  refine Nat.le_trans (List.length_filter_le _ _) ?_
  rw [List.length_map]
  exact h1
theorem ixN_m1 {n : Nat} (h : 0 < n) : ixN n (-1) = some (n - 1) := by
  unfold ixN
  rw [if_neg (by omega), if_pos (by omega)]
  congr 1
  omega
theorem set_last {α : Type} : ∀ (l : List α) (a b : α) (n : Nat), n = l.length → (l ++ [a]).set n b = l ++ [b]
  | [], a, b, n, h => by subst h; rfl
  | x :: l, a, b, n, h => by
    subst h
    show x :: (l ++ [a]).set l.length b = _
    rw [set_last l a b l.length rfl]
    rfl
theorem lp_loop {v : PyData} {y : Sl} {Q : Fl → En → Prop} : ∀ (r : List Nat) (done : List (List Nat)) (q : Bool) (cur : List Nat) (x : Sl), Pl r → done.length + r.length ≤ 10000 → cur.length + r.length ≤ 10000 →
    (∀ x, Q .nx [.dat v, .own (ts (done ++ (cutF 44 r q false cur).1)), .dat (.bool (cutF 44 r q false cur).2), x, y]) →
    Ok (forL (toN 3) L__law_pieces_1 (r.map fun c => .str (T [c])) [.dat v, .own (ts (done ++ [cur])), .dat (.bool q), x, y]) Q
  | [], done, q, cur, x, _, _, _, h => by
    rw [List.map_nil, ok_forL_nil]
    exact h x
  | c :: r, done, q, cur, x, hp, hl, hl2, h => by
    have hs := sizeLine_eq
    have hc := pl_lt (hp c (List.mem_cons_self ..))
    have hp' : Pl r := fun y hy => hp y (List.mem_cons_of_mem _ hy)
    have hlen : (ts (done ++ [cur])).length = done.length + 1 := by rw [List.length_map, List.length_append]; rfl
    simp only [List.length_cons] at hl hl2
    rw [List.map_cons, ok_forL_cons]
    unfold cutF at h
    rw [if_neg Bool.false_ne_true, if_neg hc.2.2.2] at h
    have e44 : (([c] : List Nat) = [44]) = (c = 44) := by simp
    have e34 : (([c] : List Nat) = [34]) = (c = 34) := by simp
    simp only [walkA, L__law_pieces_1, e44]
    have go : ∀ q', (c = 34 → q' = !q) → (c ≠ 34 → q' = q) → ¬ (c = 44 ∧ q = false) → Ok (forL (toN 3) L__law_pieces_1 (r.map fun c => .str (T [c])) [.dat v, .own (ts (done ++ [cur ++ [c]])), .dat (.bool q'), .dat (.str (T [c])), y]) Q := by
      intro q' h1 h2 h3
      refine lp_loop r done q' (cur ++ [c]) _ hp' (by omega) (by rw [List.length_append]; simp only [List.length_cons, List.length_nil]; omega) fun x => ?_
      by_cases h34 : c = 34
      · rw [if_pos h34, ← h1 h34] at h; exact h x
      · rw [if_neg h34, if_neg h3, ← h2 h34] at h; exact h x
    have elast : (ts (done ++ [cur])).getLast? = some (.str (T cur)) := by simp [ts]
    have eset : ∀ n, n = done.length → (ts (done ++ [cur])).set n (.str (T (cur ++ [c]))) = ts (done ++ [cur ++ [c]]) := fun n hn => by
      have : ts (done ++ [cur]) = ts done ++ [PyData.str (T cur)] := by simp [ts]
      rw [this, set_last _ _ _ n (by rw [List.length_map]; exact hn)]
      simp [ts]
    have hlm : (ts (done ++ [cur])).length - 1 = done.length := by rw [hlen]; omega
    by_cases h44 : c = 44
    · cases q with
      | false =>
        subst h44
        simp only [walkA, Bool.not_false]
        refine ⟨by rw [hlen]; omega, ?_⟩
        rw [show ts (done ++ [cur]) ++ [PyData.str (T [])] = ts ((done ++ [cur]) ++ [[]]) by simp [ts]]
        refine lp_loop r (done ++ [cur]) false [] _ hp' (by rw [List.length_append]; simp only [List.length_cons, List.length_nil]; omega) (by simp only [List.length_nil]; omega) fun x => ?_
        have := h x
        simp only [show ¬ (44 = 34) by decide, if_false, and_self, if_true] at this
        rw [List.append_assoc]
        exact this
      | true =>
        simp only [walkA, decide_eq_true h44, Bool.not_true, elast, ixN_m1 (show 0 < (ts (done ++ [cur])).length by rw [hlen]; omega), eset _ hlm, T__law_pieces_1, e34]
        refine ⟨by omega, ?_⟩
        by_cases h34 : c = 34
        · simp only [walkA, decide_eq_true h34]
          exact go (!true) (fun _ => rfl) (fun z => absurd h34 z) (fun z => nomatch z.2)
        · simp only [walkA, decide_eq_false h34]
          exact go true (fun z => absurd z h34) (fun _ => rfl) (fun z => nomatch z.2)
    · simp only [walkA, decide_eq_false h44, elast, ixN_m1 (show 0 < (ts (done ++ [cur])).length by rw [hlen]; omega), eset _ hlm, T__law_pieces_1, e34]
      refine ⟨by omega, ?_⟩
      by_cases h34 : c = 34
      · simp only [walkA, decide_eq_true h34]
        exact go (!q) (fun _ => rfl) (fun z => absurd h34 z) (fun z => h44 z.1)
      · simp only [walkA, decide_eq_false h34]
        exact go q (fun z => absurd z h34) (fun _ => rfl) (fun z => h44 z.1)
theorem lpieces_ok {l : List Nat} (h : Pl l) (hl : l.length ≤ 1000) {Q : Sl → En → Prop} (q : ∀ a, Q (.dat (if (CU l).2 then .none else .list (ts (pcs l)))) [a]) : Ok (S__law_pieces [.dat (.str (T l))]) Q := by
  have hs := sizeLine_eq
  unfold S__law_pieces
  rw [ok_runF]
  refine ⟨rfl, ?_⟩
  simp only [walkA, Y__law_pieces, T__law_pieces_4, T__law_pieces_3]
  refine ⟨by omega, ?_⟩
  refine lp_loop l [] false [] .un h (by simp only [List.length_nil]; omega) (by simp only [List.length_nil]; omega) fun x => ?_
  rw [List.nil_append]
  have h1 := (cutF_len 44 l false false []).1
  cases hq : (CU l).2 with
  | true =>
    rw [hq] at q
    have hq' : (cutF 44 l false false []).2 = true := hq
    simp only [walkA, T__law_pieces_2, hq']
    exact q _
  | false =>
    rw [hq] at q
    have hq' : (cutF 44 l false false []).2 = false := hq
    simp only [walkA, T__law_pieces_2, hq', List.length_map]
    refine ⟨by omega, ?_⟩
    refine lcL_map (fun x : List Nat => PyData.str (T x)) (fun x => .str (T (trimL [32] x))) (fun x => decide (trimL [32] x ≠ [])) (cutF 44 l false false []).1 _ (fun x hx => ?_) ?_
    · have hxl := (cutF_len 44 l false false []).2 x hx
      simp only [List.length_nil] at hxl
      unfold turn
      simp only [walkA, C__law_pieces_1, C__law_pieces_2]
      by_cases hx0 : trimL [32] x = []
      · simp [hx0, ok_some, ok_none, okV_some, okV_none, ↓okV_if, ↓ok_if, ↓ok_ret, ↓ok_bnd, ↓ok_lft, ↓ok_bin, ↓ok_una, ↓ok_binL, ↓ok_unaL, ↓ok_mny, ↓ok_rdD, ↓ok_rdO, ↓ok_rdA, ↓ok_toB, ↓ok_sAnd, ↓ok_sOr, ↓ok_sNot, ↓ok_vAnd, ↓ok_vOr, ↓ok_sIf, ↓ok_chn, ↓ok_sNil, ↓ok_sCons, ↓ok_dTup, ↓ok_dLst, ↓ok_m0S, ↓ok_m1S, ↓ok_m1L, ↓ok_ixO, ↓ok_sPart, ↓ok_sSl, ↓ok_tupO, ↓ok_sItems, ↓ok_sScr, ↓ok_sEnum, ↓ok_sRng1, ↓ok_sRng2, ↓ok_seqS, ↓ok_nxt, ↓ok_brkS, ↓ok_cntS, ↓ok_retN, ↓ok_drpS, ↓ok_asg, ↓ok_asgL, ↓ok_asgG, ↓ok_augS, ↓ok_ifS, ↓ok_retD, ↓ok_retL, ↓ok_retO, ↓ok_appO, ↓ok_setO, ↓ok_extO, ↓ok_popS, ↓ok_forS, ↓ok_forL_nil, ↓ok_lcS, ↓ok_lcL_nil, ↓okV_callD, ↓okV_callV, ↓ok_callM, ↓ok_asD, ↓ok_asL, ↓ok_callS, ↓ok_runF, ↓ok_rplS, ↓ok_tupA, ↓ok_strM, ↓ok_chn3, own?, toN, toT, toNs, wipE, bakE, stp_nx, stp_ct, stp_bk, stp_rt, Fw.collect, ok_yesS, List.getElem?_cons_zero, List.getElem?_cons_succ, List.set_cons_zero, List.set_cons_succ, List.map_cons, List.map_nil, List.length_cons, List.length_nil, List.cons_append, List.nil_append, List.replicate_succ, List.replicate_zero, Nat.reduceAdd, Nat.reduceSub, Nat.reduceLeDiff, Nat.reduceLT, Nat.reduceEqDiff, Int.reduceLT, Int.reduceLE, Int.reduceNeg, Int.reducePow, Int.reduceEq, Option.isSome_some, Option.map_some, Option.map_none, true_and, and_true, if_true, if_false, ite_true, ite_false, Bool.false_eq_true, reduceIte, reduceCtorEq, gAdd_ii, gAdd_ss, gAdd_tt, gSub_ii, gMul_ii, gDiv_ii, gMod_ii, gNeg_i, gLt_ii, gGt_ii, gGe_ii, gLe_ii, eqv_ii, eqv_ss, eqv_bb, eqv_nn, eqv_ni, eqv_in, eqv_ns, eqv_sn, eqv_nb, eqv_bn, eqv_is, eqv_si, eqv_nt, eqv_tn, eqv_nl, eqv_ln, eqv_tt, eqv_ll, eqvA_nn, eqvA_cc, eqvA_nc, eqvA_cn, gEq_ii, gEq_ss, gEq_bb, gEq_nn, gEq_in, gEq_ni, gEq_sn, gEq_ns, gEq_si, gEq_is, gNe_ii, gNe_ss, gNe_bb, gNe_nn, gNot_b, gIsN_n, gIsN_i, gIsN_b, gIsN_s, gIsN_t, gIsN_l, gNotN_n, gNotN_i, gNotN_b, gNotN_s, gNotN_t, gNotN_l, gIx_l, gIx_t, gIx_s, gLen_s, gLen_l, gLen_t, gAbs_i, gInt_i, gInt_b, gInt_s, gOrd_sign, gDivmod_ii, gStr_i, gStr_s, gTuple_l, gTuple_t, gStrip_s, gLstrip_s, gSplit_s, gPartition_s, gJoin_m, gCat_ll, gSl_s, gSl_t, gSl_l, itemsOf_l, itemsOf_t, itemsOf_s, ofString_inj, cMul_r, cMul_l, ixN_lit, atI_lit, atI_m1, cast_lit, String.reduceEq, decide_true, decide_false, Int.reduceSub, Int.reduceAdd, Int.reduceMul, Int.reduceToNat, T_toList, T_len, T_app, T_inj, T_sign, T_cut, T_signs, T_strip, T_empty, gIn_T, gNin_T, gLjust_T, lt_0, lt_1, lt_2, lt_3, lt_4, lt_5, lt_6, lt_7, lt_8, lt_9, lt_10, lt_11, lt_12, lt_13, lt_14, lt_15, lt_16, lt_17, lt_18, lt_19, lt_20, lt_21, lt_22, lt_23, lt_24, lt_25, lt_26, lt_27, lt_28, lt_29, lt_30, lt_31, lt_32, lt_33, lt_34, lt_35, lt_36, lt_37, lt_38, lt_39, lt_40, lt_41, lt_42, lt_43, lt_44, lt_45, lt_46, lt_47, lt_48, lt_49, lt_50, lt_51, lt_52, lt_53, lt_54, lt_55, lt_56, lt_57, lt_58, lt_59]; omega
      · simp [hx0, ok_some, ok_none, okV_some, okV_none, ↓okV_if, ↓ok_if, ↓ok_ret, ↓ok_bnd, ↓ok_lft, ↓ok_bin, ↓ok_una, ↓ok_binL, ↓ok_unaL, ↓ok_mny, ↓ok_rdD, ↓ok_rdO, ↓ok_rdA, ↓ok_toB, ↓ok_sAnd, ↓ok_sOr, ↓ok_sNot, ↓ok_vAnd, ↓ok_vOr, ↓ok_sIf, ↓ok_chn, ↓ok_sNil, ↓ok_sCons, ↓ok_dTup, ↓ok_dLst, ↓ok_m0S, ↓ok_m1S, ↓ok_m1L, ↓ok_ixO, ↓ok_sPart, ↓ok_sSl, ↓ok_tupO, ↓ok_sItems, ↓ok_sScr, ↓ok_sEnum, ↓ok_sRng1, ↓ok_sRng2, ↓ok_seqS, ↓ok_nxt, ↓ok_brkS, ↓ok_cntS, ↓ok_retN, ↓ok_drpS, ↓ok_asg, ↓ok_asgL, ↓ok_asgG, ↓ok_augS, ↓ok_ifS, ↓ok_retD, ↓ok_retL, ↓ok_retO, ↓ok_appO, ↓ok_setO, ↓ok_extO, ↓ok_popS, ↓ok_forS, ↓ok_forL_nil, ↓ok_lcS, ↓ok_lcL_nil, ↓okV_callD, ↓okV_callV, ↓ok_callM, ↓ok_asD, ↓ok_asL, ↓ok_callS, ↓ok_runF, ↓ok_rplS, ↓ok_tupA, ↓ok_strM, ↓ok_chn3, own?, toN, toT, toNs, wipE, bakE, stp_nx, stp_ct, stp_bk, stp_rt, Fw.collect, ok_yesS, List.getElem?_cons_zero, List.getElem?_cons_succ, List.set_cons_zero, List.set_cons_succ, List.map_cons, List.map_nil, List.length_cons, List.length_nil, List.cons_append, List.nil_append, List.replicate_succ, List.replicate_zero, Nat.reduceAdd, Nat.reduceSub, Nat.reduceLeDiff, Nat.reduceLT, Nat.reduceEqDiff, Int.reduceLT, Int.reduceLE, Int.reduceNeg, Int.reducePow, Int.reduceEq, Option.isSome_some, Option.map_some, Option.map_none, true_and, and_true, if_true, if_false, ite_true, ite_false, Bool.false_eq_true, reduceIte, reduceCtorEq, gAdd_ii, gAdd_ss, gAdd_tt, gSub_ii, gMul_ii, gDiv_ii, gMod_ii, gNeg_i, gLt_ii, gGt_ii, gGe_ii, gLe_ii, eqv_ii, eqv_ss, eqv_bb, eqv_nn, eqv_ni, eqv_in, eqv_ns, eqv_sn, eqv_nb, eqv_bn, eqv_is, eqv_si, eqv_nt, eqv_tn, eqv_nl, eqv_ln, eqv_tt, eqv_ll, eqvA_nn, eqvA_cc, eqvA_nc, eqvA_cn, gEq_ii, gEq_ss, gEq_bb, gEq_nn, gEq_in, gEq_ni, gEq_sn, gEq_ns, gEq_si, gEq_is, gNe_ii, gNe_ss, gNe_bb, gNe_nn, gNot_b, gIsN_n, gIsN_i, gIsN_b, gIsN_s, gIsN_t, gIsN_l, gNotN_n, gNotN_i, gNotN_b, gNotN_s, gNotN_t, gNotN_l, gIx_l, gIx_t, gIx_s, gLen_s, gLen_l, gLen_t, gAbs_i, gInt_i, gInt_b, gInt_s, gOrd_sign, gDivmod_ii, gStr_i, gStr_s, gTuple_l, gTuple_t, gStrip_s, gLstrip_s, gSplit_s, gPartition_s, gJoin_m, gCat_ll, gSl_s, gSl_t, gSl_l, itemsOf_l, itemsOf_t, itemsOf_s, ofString_inj, cMul_r, cMul_l, ixN_lit, atI_lit, atI_m1, cast_lit, String.reduceEq, decide_true, decide_false, Int.reduceSub, Int.reduceAdd, Int.reduceMul, Int.reduceToNat, T_toList, T_len, T_app, T_inj, T_sign, T_cut, T_signs, T_strip, T_empty, gIn_T, gNin_T, gLjust_T, lt_0, lt_1, lt_2, lt_3, lt_4, lt_5, lt_6, lt_7, lt_8, lt_9, lt_10, lt_11, lt_12, lt_13, lt_14, lt_15, lt_16, lt_17, lt_18, lt_19, lt_20, lt_21, lt_22, lt_23, lt_24, lt_25, lt_26, lt_27, lt_28, lt_29, lt_30, lt_31, lt_32, lt_33, lt_34, lt_35, lt_36, lt_37, lt_38, lt_39, lt_40, lt_41, lt_42, lt_43, lt_44, lt_45, lt_46, lt_47, lt_48, lt_49, lt_50, lt_51, lt_52, lt_53, lt_54, lt_55, lt_56, lt_57, lt_58, lt_59]; omega
    · have e : ((cutF 44 l false false []).1.filter fun x => decide (trimL [32] x ≠ [])).map (fun x => PyData.str (T (trimL [32] x))) = ts (pcs l) := by
        unfold pcs CU ts
        rw [List.filter_map, List.map_map]
        have e1 : ∀ x ∈ (cutF 44 l false false []).1, trimL [32] x = trimL wW x := fun x hx => trim9 fun c hc => by
          have := pl_lt (cu_pl h x hx c hc)
          omega
        rw [List.filter_congr fun x hx => by rw [e1 x hx]]
        exact List.map_congr_left fun x hx => by rw [e1 x (List.mem_filter.mp hx).1]; rfl
      rw [e]
      simp only [walkA]
      exact q _
def optAll : List (Option Tg) → Option (List Tg)
  | [] => some []
  | none :: _ => none
  | some t :: r => (optAll r).map (t :: ·)
inductive Tgs
  | none
  | star
  | ls (l : List Tg)
def tgsD : Tgs → PyData
  | .none => .none
  | .star => .str (T [42])
  | .ls l => .list (l.map tgD)
def tgsF (l : List Nat) : Tgs := if l = [42] then .star else if (CU l).2 = true ∨ pcs l = [] then .none else match optAll ((pcs l).map rtF) with
  | some t => .ls t
  | none => .none
theorem optAll_none : ∀ l : List (Option Tg), optAll l = none ↔ none ∈ l
  | [] => by simp [optAll]
  | none :: r => by simp [optAll]
  | some t :: r => by
    have := optAll_none r
    simp only [optAll, Option.map_eq_none_iff, this, List.mem_cons, reduceCtorEq, false_or]
theorem optAll_some : ∀ (l : List (Option Tg)) (t : List Tg), optAll l = some t → l = t.map some
  | [], t, h => by simp [optAll] at h; subst h; rfl
  | none :: r, t, h => by simp [optAll] at h
  | some x :: r, t, h => by
    simp only [optAll, Option.map_eq_some_iff] at h
    obtain ⟨u, hu, rfl⟩ := h
    rw [optAll_some r u hu]
    rfl
end ownanswer_k62_conditions_judged
namespace ownanswer_k62_conditions_judged
open PySem PySem.Spec L2 Fw
local macro_rules | `(tactic| simp only [walkA, $xs,*] $[$l:location]?) => `(tactic| simp only [ok_some, ok_none, okV_some, okV_none, ↓okV_if, ↓ok_if, ↓ok_ret, ↓ok_bnd, ↓ok_lft, ↓ok_bin, ↓ok_una, ↓ok_binL, ↓ok_unaL, ↓ok_mny, ↓ok_rdD, ↓ok_rdO, ↓ok_rdA, ↓ok_toB, ↓ok_sAnd, ↓ok_sOr, ↓ok_sNot, ↓ok_vAnd, ↓ok_vOr, ↓ok_sIf, ↓ok_chn, ↓ok_sNil, ↓ok_sCons, ↓ok_dTup, ↓ok_dLst, ↓ok_m0S, ↓ok_m1S, ↓ok_m1L, ↓ok_ixO, ↓ok_sPart, ↓ok_sSl, ↓ok_tupO, ↓ok_sItems, ↓ok_sScr, ↓ok_sEnum, ↓ok_sRng1, ↓ok_sRng2, ↓ok_seqS, ↓ok_nxt, ↓ok_brkS, ↓ok_cntS, ↓ok_retN, ↓ok_drpS, ↓ok_asg, ↓ok_asgL, ↓ok_asgG, ↓ok_augS, ↓ok_ifS, ↓ok_retD, ↓ok_retL, ↓ok_retO, ↓ok_appO, ↓ok_setO, ↓ok_extO, ↓ok_popS, ↓ok_forS, ↓ok_forL_nil, ↓ok_lcS, ↓ok_lcL_nil, ↓okV_callD, ↓okV_callV, ↓ok_callM, ↓ok_asD, ↓ok_asL, ↓ok_callS, ↓ok_runF, ↓ok_rplS, ↓ok_tupA, ↓ok_strM, ↓ok_chn3, own?, toN, toT, toNs, wipE, bakE, stp_nx, stp_ct, stp_bk, stp_rt, Fw.collect, ok_yesS, List.getElem?_cons_zero, List.getElem?_cons_succ, List.set_cons_zero, List.set_cons_succ, List.map_cons, List.map_nil, List.length_cons, List.length_nil, List.cons_append, List.nil_append, List.replicate_succ, List.replicate_zero, Nat.reduceAdd, Nat.reduceSub, Nat.reduceLeDiff, Nat.reduceLT, Nat.reduceEqDiff, Int.reduceLT, Int.reduceLE, Int.reduceNeg, Int.reducePow, Int.reduceEq, Option.isSome_some, Option.map_some, Option.map_none, true_and, and_true, if_true, if_false, ite_true, ite_false, Bool.false_eq_true, reduceIte, reduceCtorEq, gAdd_ii, gAdd_ss, gAdd_tt, gSub_ii, gMul_ii, gDiv_ii, gMod_ii, gNeg_i, gLt_ii, gGt_ii, gGe_ii, gLe_ii, eqv_ii, eqv_ss, eqv_bb, eqv_nn, eqv_ni, eqv_in, eqv_ns, eqv_sn, eqv_nb, eqv_bn, eqv_is, eqv_si, eqv_nt, eqv_tn, eqv_nl, eqv_ln, eqv_tt, eqv_ll, eqvA_nn, eqvA_cc, eqvA_nc, eqvA_cn, gEq_ii, gEq_ss, gEq_bb, gEq_nn, gEq_in, gEq_ni, gEq_sn, gEq_ns, gEq_si, gEq_is, gNe_ii, gNe_ss, gNe_bb, gNe_nn, gNot_b, gIsN_n, gIsN_i, gIsN_b, gIsN_s, gIsN_t, gIsN_l, gNotN_n, gNotN_i, gNotN_b, gNotN_s, gNotN_t, gNotN_l, gIx_l, gIx_t, gIx_s, gLen_s, gLen_l, gLen_t, gAbs_i, gInt_i, gInt_b, gInt_s, gOrd_sign, gDivmod_ii, gStr_i, gStr_s, gTuple_l, gTuple_t, gStrip_s, gLstrip_s, gSplit_s, gPartition_s, gJoin_m, gCat_ll, gSl_s, gSl_t, gSl_l, itemsOf_l, itemsOf_t, itemsOf_s, ofString_inj, cMul_r, cMul_l, ixN_lit, atI_lit, atI_m1, cast_lit, String.reduceEq, decide_true, decide_false, Int.reduceSub, Int.reduceAdd, Int.reduceMul, Int.reduceToNat, T_toList, T_len, T_app, T_inj, T_sign, T_cut, T_signs, T_strip, T_empty, gIn_T, gNin_T, gLjust_T, lt_0, lt_1, lt_2, lt_3, lt_4, lt_5, lt_6, lt_7, lt_8, lt_9, lt_10, lt_11, lt_12, lt_13, lt_14, lt_15, lt_16, lt_17, lt_18, lt_19, lt_20, lt_21, lt_22, lt_23, lt_24, lt_25, lt_26, lt_27, lt_28, lt_29, lt_30, lt_31, lt_32, lt_33, lt_34, lt_35, lt_36, lt_37, lt_38, lt_39, lt_40, lt_41, lt_42, lt_43, lt_44, lt_45, lt_46, lt_47, lt_48, lt_49, lt_50, lt_51, lt_52, lt_53, lt_54, lt_55, lt_56, lt_57, lt_58, lt_59, $xs,*] $[$l:location]?)
local macro_rules | `(tactic| simp only [walkA] $[$l:location]?) => `(tactic| simp only [ok_some, ok_none, okV_some, okV_none, ↓okV_if, ↓ok_if, ↓ok_ret, ↓ok_bnd, ↓ok_lft, ↓ok_bin, ↓ok_una, ↓ok_binL, ↓ok_unaL, ↓ok_mny, ↓ok_rdD, ↓ok_rdO, ↓ok_rdA, ↓ok_toB, ↓ok_sAnd, ↓ok_sOr, ↓ok_sNot, ↓ok_vAnd, ↓ok_vOr, ↓ok_sIf, ↓ok_chn, ↓ok_sNil, ↓ok_sCons, ↓ok_dTup, ↓ok_dLst, ↓ok_m0S, ↓ok_m1S, ↓ok_m1L, ↓ok_ixO, ↓ok_sPart, ↓ok_sSl, ↓ok_tupO, ↓ok_sItems, ↓ok_sScr, ↓ok_sEnum, ↓ok_sRng1, ↓ok_sRng2, ↓ok_seqS, ↓ok_nxt, ↓ok_brkS, ↓ok_cntS, ↓ok_retN, ↓ok_drpS, ↓ok_asg, ↓ok_asgL, ↓ok_asgG, ↓ok_augS, ↓ok_ifS, ↓ok_retD, ↓ok_retL, ↓ok_retO, ↓ok_appO, ↓ok_setO, ↓ok_extO, ↓ok_popS, ↓ok_forS, ↓ok_forL_nil, ↓ok_lcS, ↓ok_lcL_nil, ↓okV_callD, ↓okV_callV, ↓ok_callM, ↓ok_asD, ↓ok_asL, ↓ok_callS, ↓ok_runF, ↓ok_rplS, ↓ok_tupA, ↓ok_strM, ↓ok_chn3, own?, toN, toT, toNs, wipE, bakE, stp_nx, stp_ct, stp_bk, stp_rt, Fw.collect, ok_yesS, List.getElem?_cons_zero, List.getElem?_cons_succ, List.set_cons_zero, List.set_cons_succ, List.map_cons, List.map_nil, List.length_cons, List.length_nil, List.cons_append, List.nil_append, List.replicate_succ, List.replicate_zero, Nat.reduceAdd, Nat.reduceSub, Nat.reduceLeDiff, Nat.reduceLT, Nat.reduceEqDiff, Int.reduceLT, Int.reduceLE, Int.reduceNeg, Int.reducePow, Int.reduceEq, Option.isSome_some, Option.map_some, Option.map_none, true_and, and_true, if_true, if_false, ite_true, ite_false, Bool.false_eq_true, reduceIte, reduceCtorEq, gAdd_ii, gAdd_ss, gAdd_tt, gSub_ii, gMul_ii, gDiv_ii, gMod_ii, gNeg_i, gLt_ii, gGt_ii, gGe_ii, gLe_ii, eqv_ii, eqv_ss, eqv_bb, eqv_nn, eqv_ni, eqv_in, eqv_ns, eqv_sn, eqv_nb, eqv_bn, eqv_is, eqv_si, eqv_nt, eqv_tn, eqv_nl, eqv_ln, eqv_tt, eqv_ll, eqvA_nn, eqvA_cc, eqvA_nc, eqvA_cn, gEq_ii, gEq_ss, gEq_bb, gEq_nn, gEq_in, gEq_ni, gEq_sn, gEq_ns, gEq_si, gEq_is, gNe_ii, gNe_ss, gNe_bb, gNe_nn, gNot_b, gIsN_n, gIsN_i, gIsN_b, gIsN_s, gIsN_t, gIsN_l, gNotN_n, gNotN_i, gNotN_b, gNotN_s, gNotN_t, gNotN_l, gIx_l, gIx_t, gIx_s, gLen_s, gLen_l, gLen_t, gAbs_i, gInt_i, gInt_b, gInt_s, gOrd_sign, gDivmod_ii, gStr_i, gStr_s, gTuple_l, gTuple_t, gStrip_s, gLstrip_s, gSplit_s, gPartition_s, gJoin_m, gCat_ll, gSl_s, gSl_t, gSl_l, itemsOf_l, itemsOf_t, itemsOf_s, ofString_inj, cMul_r, cMul_l, ixN_lit, atI_lit, atI_m1, cast_lit, String.reduceEq, decide_true, decide_false, Int.reduceSub, Int.reduceAdd, Int.reduceMul, Int.reduceToNat, T_toList, T_len, T_app, T_inj, T_sign, T_cut, T_signs, T_strip, T_empty, gIn_T, gNin_T, gLjust_T, lt_0, lt_1, lt_2, lt_3, lt_4, lt_5, lt_6, lt_7, lt_8, lt_9, lt_10, lt_11, lt_12, lt_13, lt_14, lt_15, lt_16, lt_17, lt_18, lt_19, lt_20, lt_21, lt_22, lt_23, lt_24, lt_25, lt_26, lt_27, lt_28, lt_29, lt_30, lt_31, lt_32, lt_33, lt_34, lt_35, lt_36, lt_37, lt_38, lt_39, lt_40, lt_41, lt_42, lt_43, lt_44, lt_45, lt_46, lt_47, lt_48, lt_49, lt_50, lt_51, lt_52, lt_53, lt_54, lt_55, lt_56, lt_57, lt_58, lt_59] $[$l:location]?)

open ownanswer_k51_lists_and_joined_values (ts pr Lo LoP valsOfV joinOfV vals_okV join_okV CU wW split_ok cutF cutF_len strOk_T trimL_mem shaped_lts gEq_lts)
def LoT (t : Tg) : Prop := Lo t.2
theorem sh_ot : ∀ xs : List (Option Tg), (∀ t, some t ∈ xs → LoT t) → PyData.canLayAll0 (xs.map otD) = true ∧ PyData.depthAll (xs.map otD) ≤ 1
  | [], _ => by simp [PyData.canLayAll0, PyData.depthAll]
  | none :: xs, h => by
    have := sh_ot xs fun t ht => h t (List.mem_cons_of_mem _ ht)
    rw [List.map_cons, PyData.canLayAll0, PyData.depthAll, this.1]
    simp [otD, PyData.canLay0, PyData.depth, this.2]
  | some t :: xs, h => by
    have := sh_ot xs fun t ht => h t (List.mem_cons_of_mem _ ht)
    have ht := strOk_T (h t (List.mem_cons_self ..))
    rw [List.map_cons, PyData.canLayAll0, PyData.depthAll, this.1]
    simp [otD, tgD, PyData.canLay0, PyData.canLayAll0, PyData.depth, PyData.depthAll, ht]
    have := this.2
    omega
theorem sh_list {xs : List (Option Tg)} (h : ∀ t, some t ∈ xs → LoT t) : SeqAt.shaped (.list (xs.map otD)) = true := by
  have := sh_ot xs h
  simp [SeqAt.shaped, PyData.canLay0, PyData.depth, this.1]
  omega
theorem gIn_none {xs : List (Option Tg)} (h : ∀ t, some t ∈ xs → LoT t) : gIn .none (.list (xs.map otD)) = some (.bool (decide (none ∈ xs))) := by
  have e : ((xs.map otD).any fun y => PyData.eqv y .none) = decide (none ∈ xs) := by
    rw [Bool.eq_iff_iff, List.any_eq_true, decide_eq_true_eq]
    constructor
    · rintro ⟨y, hy, e⟩
      obtain ⟨x, hx, rfl⟩ := List.mem_map.mp hy
      cases x with
      | none => exact hx
      | some t => simp [otD, tgD, PyData.eqv] at e
    · intro hx
      exact ⟨.none, List.mem_map.mpr ⟨none, hx, rfl⟩, eqv_nn⟩
  have hs : SeqAt.shaped .none = true := by decide +kernel
  unfold gIn
  have : gInB .none (.list (xs.map otD)) = some ((xs.map otD).any fun y => PyData.eqv y .none) := by
    show (if flatD .none && (xs.map otD).all flatD then _ else if SeqAt.shaped .none && SeqAt.shaped (.list (xs.map otD)) then _ else none) = _
    split
    · rfl
    · rw [hs, sh_list h]
      rfl
  rw [this, e]
  rfl
theorem rt_lo {l : List Nat} (h : Pl l) {t : Tg} (e : rtF l = some t) : LoT t := by
  unfold rtF at e
  split at e
  · cases e
  · split at e
    · cases e
      exact (mid_pl (rs_pl h)).lo
    · cases e
theorem pcs_rt {l : List Nat} (h : Pl l) : ∀ t, some t ∈ (pcs l).map rtF → LoT t := fun t ht => by
  obtain ⟨p, hp, e⟩ := List.mem_map.mp ht
  exact rt_lo (pcs_pl h p hp).1 e
theorem tgs_ls {l : List Nat} (h : Pl l) {t : List Tg} (e : tgsF l = .ls t) : ∀ x ∈ t, LoT x := by
  unfold tgsF at e
  split at e
  · cases e
  · split at e
    · cases e
    · split at e
      · rename_i u hu
        cases e
        intro x hx
        refine pcs_rt h x ?_
        rw [optAll_some _ _ hu]
        exact List.mem_map.mpr ⟨x, hx, rfl⟩
      · cases e
theorem readtags_ok {l : List Nat} (h : Pl l) (hl : l.length ≤ 900) {Q : Sl → En → Prop} (q : ∀ a, Q (.dat (tgsD (tgsF l))) [a]) : Ok (S_read_tags [.dat (.str (T l))]) Q := by
  have hs := sizeLine_eq
  have hpl := pcs_len l
  unfold S_read_tags
  rw [ok_runF]
  refine ⟨rfl, ?_⟩
  simp only [walkA, Y_read_tags]
  unfold tgsF at q
  by_cases hst : l = [42]
  · rw [if_pos hst] at q
    simp only [walkA, decide_eq_true hst]
    exact q _
  · rw [if_neg hst] at q
    simp only [walkA, decide_eq_false hst, T_read_tags_4, sk]
    refine split_ok (by omega) ?_
    cases hq : (CU l).2 with
    | true =>
      rw [if_pos (.inl hq)] at q
      simp only [walkA, T_read_tags_3]
      exact q _
    | false =>
      have e1 : ts (((CU l).1.map (trimL wW)).filter fun p => decide (p ≠ [])) = ts (pcs l) := rfl
      by_cases hp : pcs l = []
      · rw [if_pos (.inr hp)] at q
        have e2 : ts (pcs l) = [] := by rw [hp]; rfl
        simp only [walkA, e1, e2, T_read_tags_3]
        exact q _
      · rw [if_neg (by rw [hq]; simp [hp])] at q
        have hp' : ¬ ((pcs l).length : Int) = 0 := fun z => hp (List.eq_nil_of_length_eq_zero (by omega))
        simp only [walkA, e1, T_read_tags_3, List.length_map, hp', T_read_tags_2]
        refine ⟨by omega, ?_⟩
        refine lcL_map (fun p : List Nat => PyData.str (T p)) (fun p => otD (rtF p)) (fun _ => true) (pcs l) _ (fun p hp => ?_) ?_
        · have hpp := pcs_pl h p hp
          unfold turn
          simp only [walkA, C_read_tags_1]
          refine readtag_ok hpp.1 (by omega) fun a => ?_
          simp only [walkA]
        · have e3 : (pcs l).map (fun p => otD (rtF p)) = ((pcs l).map rtF).map otD := by rw [List.map_map]; rfl
          have hg := gIn_none (pcs_rt h)
          simp only [walkA, List.filter_eq_self.mpr (fun (x : List Nat) (_ : x ∈ pcs l) => (rfl : (fun _ => true) x = true)), e3, T_read_tags_1, hg]
          by_cases hn : none ∈ (pcs l).map rtF
          · rw [(optAll_none _).mpr hn] at q
            simp only [walkA, decide_eq_true hn]
            exact q _
          · cases ho : optAll ((pcs l).map rtF) with
            | none => exact absurd ((optAll_none _).mp ho) hn
            | some t =>
              rw [ho] at q
              have e4 : ((pcs l).map rtF).map otD = t.map tgD := by rw [optAll_some _ _ ho, List.map_map]; rfl
              simp only [walkA, decide_eq_false hn, e4]
              exact q _
/-- no blanks around a star alone -/
def NoSt (l : List Nat) : Prop := decide (trimL [32] l = [42]) = decide (l = [42])
theorem lreadtags_ok {l : List Nat} (h : Pl l) (hst0 : NoSt l) (hl : l.length ≤ 900) {Q : Sl → En → Prop} (q : ∀ a, Q (.dat (tgsD (tgsF l))) [a]) : Ok (S__law_read_tags [.dat (.str (T l))]) Q := by
  have hs := sizeLine_eq
  have hpl := pcs_len l
  have hst1 : decide (trimL [32] l = [42]) = decide (l = [42]) := hst0
  unfold S__law_read_tags
  rw [ok_runF]
  refine ⟨rfl, ?_⟩
  simp only [walkA, Y__law_read_tags, hst1]
  refine ⟨by omega, ?_⟩
  unfold tgsF at q
  by_cases hst : l = [42]
  · rw [if_pos hst] at q
    simp only [walkA, decide_eq_true hst]
    exact q _
  · rw [if_neg hst] at q
    simp only [walkA, decide_eq_false hst, T__law_read_tags_4]
    refine lpieces_ok h (by omega) fun a => ?_
    cases hq : (CU l).2 with
    | true =>
      rw [if_pos (.inl hq)] at q
      simp only [walkA, T__law_read_tags_3]
      exact q _
    | false =>
      have eN : gEq (.list (ts (pcs l))) (.list []) = some (.bool (decide (pcs l = []))) := gEq_lts (ys := []) (fun p hp => (pcs_pl h p hp).1.lo) (fun _ h => nomatch h)
      by_cases hp : pcs l = []
      · rw [if_pos (.inr hp)] at q
        rw [decide_eq_true hp] at eN
        simp only [walkA, T__law_read_tags_3, eN]
        exact ⟨by omega, q _⟩
      · rw [if_neg (by rw [hq]; simp [hp])] at q
        rw [decide_eq_false hp] at eN
        simp only [walkA, T__law_read_tags_3, eN, T__law_read_tags_2, List.length_map]
        refine ⟨by omega, by omega, ?_⟩
        refine lcL_map (fun p : List Nat => PyData.str (T p)) (fun p => otD (rtF p)) (fun _ => true) (pcs l) _ (fun p hp => ?_) ?_
        · have hpp := pcs_pl h p hp
          unfold turn
          simp only [walkA, C__law_read_tags_1]
          refine lreadtag_ok hpp.1 (by omega) fun a => ?_
          simp only [walkA]
        · have e3 : (pcs l).map (fun p => otD (rtF p)) = ((pcs l).map rtF).map otD := by rw [List.map_map]; rfl
          have hg := gIn_none (pcs_rt h)
          simp only [walkA, List.filter_eq_self.mpr (fun (x : List Nat) (_ : x ∈ pcs l) => (rfl : (fun _ => true) x = true)), e3, T__law_read_tags_1, hg]
          by_cases hn : none ∈ (pcs l).map rtF
          · rw [(optAll_none _).mpr hn] at q
            simp only [walkA, decide_eq_true hn]
            exact q _
          · cases ho : optAll ((pcs l).map rtF) with
            | none => exact absurd ((optAll_none _).mp ho) hn
            | some t =>
              rw [ho] at q
              have e4 : ((pcs l).map rtF).map otD = t.map tgD := by rw [optAll_some _ _ ho, List.map_map]; rfl
              simp only [walkA, decide_eq_false hn, e4]
              exact q _
def mS (a b : Tg) : Bool := decide (a.2 = b.2) && (!a.1 && !b.1)
def mt (s : Bool) (a b : Tg) : Bool := if s then mS a b else decide (a.2 = b.2)
theorem strong_ok {a b : Tg} {Q : Sl → En → Prop} (q : Q (.dat (.bool (mS a b))) [.un, .un]) : Ok (S_strong_match [.dat (tgD a), .dat (tgD b)]) Q := by
  unfold S_strong_match
  rw [ok_runF]
  refine ⟨rfl, ?_⟩
  unfold mS at q
  unfold tgD
  simp only [walkA, Y_strong_match]
  by_cases h : a.2 = b.2
  · simp only [decide_eq_true h, Bool.true_and] at q
    simp only [walkA, decide_eq_true h]
    cases h1 : a.1 with
    | true =>
      simp only [h1, Bool.not_true, Bool.false_and] at q
      simp only [walkA, Bool.not_true]
      exact q
    | false =>
      simp only [h1, Bool.not_false, Bool.true_and] at q
      simp only [walkA, Bool.not_false]
      exact q
  · simp only [decide_eq_false h, Bool.false_and] at q
    simp only [walkA, decide_eq_false h]
    exact q
theorem weak_ok {a b : Tg} {Q : Sl → En → Prop} (q : Q (.dat (.bool (decide (a.2 = b.2)))) [.un, .un]) : Ok (S_weak_match [.dat (tgD a), .dat (tgD b)]) Q := by
  unfold S_weak_match
  rw [ok_runF]
  refine ⟨rfl, ?_⟩
  unfold tgD
  simp only [walkA, Y_weak_match]
  exact q
theorem lstrong_ok {a b : Tg} {Q : Sl → En → Prop} (q : Q (.dat (.bool (mS a b))) [.un, .un]) : Ok (S__law_strong [.dat (tgD a), .dat (tgD b)]) Q := by
  unfold S__law_strong
  rw [ok_runF]
  refine ⟨rfl, ?_⟩
  unfold mS at q
  unfold tgD
  simp only [walkA, Y__law_strong]
  cases h1 : a.1 with
  | true =>
    simp only [h1, Bool.not_true, Bool.false_and, Bool.and_false] at q
    simp only [walkA, Bool.not_true]
    exact q
  | false =>
    simp only [h1, Bool.not_false, Bool.true_and] at q
    simp only [walkA, Bool.not_false]
    cases h2 : b.1 with
    | true =>
      simp only [h2, Bool.not_true, Bool.and_false] at q
      simp only [walkA, Bool.not_true]
      exact q
    | false =>
      simp only [h2, Bool.not_false, Bool.and_true] at q
      simp only [walkA, Bool.not_false]
      exact q
def mZ (g : Tgs) (t : Option Tg) (s : Bool) : Bool := match g, t with
  | .none, _ => false
  | _, none => false
  | .star, some _ => true
  | .ls l, some t => l.any fun w => mt s w t
theorem gEq_star {l : List Tg} (h : ∀ x ∈ l, LoT x) : gEq (.list (l.map tgD)) (.str (T [42])) = some (.bool false) := by
  have e : l.map tgD = (l.map some).map otD := by rw [List.map_map]; rfl
  have h1 : SeqAt.shaped (.list (l.map tgD)) = true := by
    rw [e]
    exact sh_list fun t ht => by obtain ⟨x, hx, e⟩ := List.mem_map.mp ht; cases e; exact h _ hx
  have h2 : SeqAt.shaped (.str (T [42])) = true := by decide +kernel
  have : okEq (.list (l.map tgD)) (.str (T [42])) = true := by
    show (SeqAt.shaped _ && SeqAt.shaped _) = true
    rw [h1, h2]
    rfl
  unfold gEq
  rw [if_pos this]
  simp [PyData.eqv]
theorem matches_ok {g : Tgs} {t : Option Tg} (hg : ∀ l, g = .ls l → l.length ≤ 1000 ∧ ∀ x ∈ l, LoT x) {s : Bool} {Q : Sl → En → Prop} (q : ∀ a b c, Q (.dat (.bool (mZ g t s))) [a, b, c]) : Ok (S__matches [.dat (tgsD g), .dat (otD t), .dat (.bool s)]) Q := by
  have hs := sizeLine_eq
  unfold S__matches
  rw [ok_runF]
  refine ⟨rfl, ?_⟩
  cases g with
  | none =>
    simp only [walkA, Y__matches, tgsD]
    exact q _ _ _
  | star =>
    cases t with
    | none => simp only [walkA, Y__matches, tgsD, otD]; exact q _ _ _
    | some t =>
      have e : gIsN (tgD t) = some (.bool false) := rfl
      simp only [walkA, Y__matches, tgsD, otD, e, T__matches_2]
      exact q _ _ _
  | ls l =>
    obtain ⟨hl, hlo⟩ := hg l rfl
    cases t with
    | none => simp only [walkA, Y__matches, tgsD, otD]; exact q _ _ _
    | some t =>
      have e : gIsN (tgD t) = some (.bool false) := rfl
      have e2 := gEq_star hlo
      simp only [walkA, Y__matches, tgsD, otD, e, T__matches_2, e2, T__matches_1, List.length_map]
      refine ⟨by omega, ?_⟩
      refine lcL_map (fun w : Tg => tgD w) (fun w => .bool (mt s w t)) (fun _ => true) l _ (fun w hw => ?_) ?_
      · unfold turn
        cases s with
        | true =>
          simp only [walkA, C__matches_1]
          refine strong_ok ?_
          simp only [walkA, mt]
        | false =>
          simp only [walkA, C__matches_1]
          refine weak_ok ?_
          simp only [walkA, mt]
      · simp only [walkA, List.filter_eq_self.mpr (fun (x : Tg) (_ : x ∈ l) => (rfl : (fun _ => true) x = true)), gAny_map]
        exact q _ _ _
theorem among_ok {g : Tgs} {t : Option Tg} (hn : g ≠ .none) (hg : ∀ l, g = .ls l → l.length ≤ 1000 ∧ ∀ x ∈ l, LoT x) {s : Bool} {Q : Sl → En → Prop} (q : ∀ a b c, Q (.dat (.bool (mZ g t s))) [a, b, c]) : Ok (S__law_among [.dat (tgsD g), .dat (otD t), .dat (.bool s)]) Q := by
  have hs := sizeLine_eq
  unfold S__law_among
  rw [ok_runF]
  refine ⟨rfl, ?_⟩
  cases g with
  | none => exact absurd rfl hn
  | star =>
    cases t with
    | none => simp only [walkA, Y__law_among, tgsD, otD]; exact q _ _ _
    | some t =>
      have e : gIsN (tgD t) = some (.bool false) := rfl
      simp only [walkA, Y__law_among, tgsD, otD, e, T__law_among_3]
      exact q _ _ _
  | ls l =>
    obtain ⟨hl, hlo⟩ := hg l rfl
    cases t with
    | none => simp only [walkA, Y__law_among, tgsD, otD]; exact q _ _ _
    | some t =>
      have e : gIsN (tgD t) = some (.bool false) := rfl
      have e2 := gEq_star hlo
      have e3 : ∀ w : Tg, gIx (tgD w) (.int 1) = some (.str (T w.2)) := fun w => rfl
      simp only [walkA, Y__law_among, tgsD, otD, e, T__law_among_3, e2, T__law_among_2]
      refine forL_any (fun w : Tg => tgD w) (fun w => mt s w t) (fun E => ∃ x, E = [.dat (.list (l.map tgD)), .dat (tgD t), .dat (.bool s), x]) (.dat (.bool true)) l _ _ ⟨_, rfl⟩ ?_ ?_
      · rintro w hw E ⟨x, rfl⟩
        simp only [walkA, L__law_among_1]
        refine lstrong_ok ?_
        cases hm : mS w t with
        | true =>
          have e5 : mt s w t = true := by
            unfold mt
            cases s with
            | true => exact hm
            | false =>
              unfold mS at hm
              rw [Bool.and_eq_true] at hm
              exact hm.1
          simp only [walkA, e5]
          exact ⟨_, rfl⟩
        | false =>
          cases s with
          | true =>
            have e5 : mt true w t = false := hm
            simp only [walkA, e5, Bool.not_true]
            exact ⟨_, rfl⟩
          | false =>
            simp only [walkA, Bool.not_false, e3]
            by_cases h2 : w.2 = t.2
            · have e5 : mt false w t = true := decide_eq_true h2
              simp only [walkA, e5, decide_eq_true h2]
              exact ⟨_, rfl⟩
            · have e5 : mt false w t = false := decide_eq_false h2
              simp only [walkA, e5, decide_eq_false h2]
              exact ⟨_, rfl⟩
      · rintro E ⟨x, rfl⟩
        have e6 : mZ (.ls l) (some t) s = l.any fun w => mt s w t := rfl
        rw [e6] at q
        cases ha : l.any fun w => mt s w t with
        | true =>
          rw [ha] at q
          simp only [walkA]
          exact q _ _ _
        | false =>
          rw [ha] at q
          simp only [walkA, T__law_among_1]
          exact q _ _ _
end ownanswer_k62_conditions_judged
namespace ownanswer_k62_conditions_judged
open PySem PySem.Spec L2 Fw
local macro_rules | `(tactic| simp only [walkA, $xs,*] $[$l:location]?) => `(tactic| simp only [ok_some, ok_none, okV_some, okV_none, ↓okV_if, ↓ok_if, ↓ok_ret, ↓ok_bnd, ↓ok_lft, ↓ok_bin, ↓ok_una, ↓ok_binL, ↓ok_unaL, ↓ok_mny, ↓ok_rdD, ↓ok_rdO, ↓ok_rdA, ↓ok_toB, ↓ok_sAnd, ↓ok_sOr, ↓ok_sNot, ↓ok_vAnd, ↓ok_vOr, ↓ok_sIf, ↓ok_chn, ↓ok_sNil, ↓ok_sCons, ↓ok_dTup, ↓ok_dLst, ↓ok_m0S, ↓ok_m1S, ↓ok_m1L, ↓ok_ixO, ↓ok_sPart, ↓ok_sSl, ↓ok_tupO, ↓ok_sItems, ↓ok_sScr, ↓ok_sEnum, ↓ok_sRng1, ↓ok_sRng2, ↓ok_seqS, ↓ok_nxt, ↓ok_brkS, ↓ok_cntS, ↓ok_retN, ↓ok_drpS, ↓ok_asg, ↓ok_asgL, ↓ok_asgG, ↓ok_augS, ↓ok_ifS, ↓ok_retD, ↓ok_retL, ↓ok_retO, ↓ok_appO, ↓ok_setO, ↓ok_extO, ↓ok_popS, ↓ok_forS, ↓ok_forL_nil, ↓ok_lcS, ↓ok_lcL_nil, ↓okV_callD, ↓okV_callV, ↓ok_callM, ↓ok_asD, ↓ok_asL, ↓ok_callS, ↓ok_runF, ↓ok_rplS, ↓ok_tupA, ↓ok_strM, ↓ok_chn3, own?, toN, toT, toNs, wipE, bakE, stp_nx, stp_ct, stp_bk, stp_rt, Fw.collect, ok_yesS, List.getElem?_cons_zero, List.getElem?_cons_succ, List.set_cons_zero, List.set_cons_succ, List.map_cons, List.map_nil, List.length_cons, List.length_nil, List.cons_append, List.nil_append, List.replicate_succ, List.replicate_zero, Nat.reduceAdd, Nat.reduceSub, Nat.reduceLeDiff, Nat.reduceLT, Nat.reduceEqDiff, Int.reduceLT, Int.reduceLE, Int.reduceNeg, Int.reducePow, Int.reduceEq, Option.isSome_some, Option.map_some, Option.map_none, true_and, and_true, if_true, if_false, ite_true, ite_false, Bool.false_eq_true, reduceIte, reduceCtorEq, gAdd_ii, gAdd_ss, gAdd_tt, gSub_ii, gMul_ii, gDiv_ii, gMod_ii, gNeg_i, gLt_ii, gGt_ii, gGe_ii, gLe_ii, eqv_ii, eqv_ss, eqv_bb, eqv_nn, eqv_ni, eqv_in, eqv_ns, eqv_sn, eqv_nb, eqv_bn, eqv_is, eqv_si, eqv_nt, eqv_tn, eqv_nl, eqv_ln, eqv_tt, eqv_ll, eqvA_nn, eqvA_cc, eqvA_nc, eqvA_cn, gEq_ii, gEq_ss, gEq_bb, gEq_nn, gEq_in, gEq_ni, gEq_sn, gEq_ns, gEq_si, gEq_is, gNe_ii, gNe_ss, gNe_bb, gNe_nn, gNot_b, gIsN_n, gIsN_i, gIsN_b, gIsN_s, gIsN_t, gIsN_l, gNotN_n, gNotN_i, gNotN_b, gNotN_s, gNotN_t, gNotN_l, gIx_l, gIx_t, gIx_s, gLen_s, gLen_l, gLen_t, gAbs_i, gInt_i, gInt_b, gInt_s, gOrd_sign, gDivmod_ii, gStr_i, gStr_s, gTuple_l, gTuple_t, gStrip_s, gLstrip_s, gSplit_s, gPartition_s, gJoin_m, gCat_ll, gSl_s, gSl_t, gSl_l, itemsOf_l, itemsOf_t, itemsOf_s, ofString_inj, cMul_r, cMul_l, ixN_lit, atI_lit, atI_m1, cast_lit, String.reduceEq, decide_true, decide_false, Int.reduceSub, Int.reduceAdd, Int.reduceMul, Int.reduceToNat, T_toList, T_len, T_app, T_inj, T_sign, T_cut, T_signs, T_strip, T_empty, gIn_T, gNin_T, gLjust_T, lt_0, lt_1, lt_2, lt_3, lt_4, lt_5, lt_6, lt_7, lt_8, lt_9, lt_10, lt_11, lt_12, lt_13, lt_14, lt_15, lt_16, lt_17, lt_18, lt_19, lt_20, lt_21, lt_22, lt_23, lt_24, lt_25, lt_26, lt_27, lt_28, lt_29, lt_30, lt_31, lt_32, lt_33, lt_34, lt_35, lt_36, lt_37, lt_38, lt_39, lt_40, lt_41, lt_42, lt_43, lt_44, lt_45, lt_46, lt_47, lt_48, lt_49, lt_50, lt_51, lt_52, lt_53, lt_54, lt_55, lt_56, lt_57, lt_58, lt_59, $xs,*] $[$l:location]?)
local macro_rules | `(tactic| simp only [walkA] $[$l:location]?) => `(tactic| simp only [ok_some, ok_none, okV_some, okV_none, ↓okV_if, ↓ok_if, ↓ok_ret, ↓ok_bnd, ↓ok_lft, ↓ok_bin, ↓ok_una, ↓ok_binL, ↓ok_unaL, ↓ok_mny, ↓ok_rdD, ↓ok_rdO, ↓ok_rdA, ↓ok_toB, ↓ok_sAnd, ↓ok_sOr, ↓ok_sNot, ↓ok_vAnd, ↓ok_vOr, ↓ok_sIf, ↓ok_chn, ↓ok_sNil, ↓ok_sCons, ↓ok_dTup, ↓ok_dLst, ↓ok_m0S, ↓ok_m1S, ↓ok_m1L, ↓ok_ixO, ↓ok_sPart, ↓ok_sSl, ↓ok_tupO, ↓ok_sItems, ↓ok_sScr, ↓ok_sEnum, ↓ok_sRng1, ↓ok_sRng2, ↓ok_seqS, ↓ok_nxt, ↓ok_brkS, ↓ok_cntS, ↓ok_retN, ↓ok_drpS, ↓ok_asg, ↓ok_asgL, ↓ok_asgG, ↓ok_augS, ↓ok_ifS, ↓ok_retD, ↓ok_retL, ↓ok_retO, ↓ok_appO, ↓ok_setO, ↓ok_extO, ↓ok_popS, ↓ok_forS, ↓ok_forL_nil, ↓ok_lcS, ↓ok_lcL_nil, ↓okV_callD, ↓okV_callV, ↓ok_callM, ↓ok_asD, ↓ok_asL, ↓ok_callS, ↓ok_runF, ↓ok_rplS, ↓ok_tupA, ↓ok_strM, ↓ok_chn3, own?, toN, toT, toNs, wipE, bakE, stp_nx, stp_ct, stp_bk, stp_rt, Fw.collect, ok_yesS, List.getElem?_cons_zero, List.getElem?_cons_succ, List.set_cons_zero, List.set_cons_succ, List.map_cons, List.map_nil, List.length_cons, List.length_nil, List.cons_append, List.nil_append, List.replicate_succ, List.replicate_zero, Nat.reduceAdd, Nat.reduceSub, Nat.reduceLeDiff, Nat.reduceLT, Nat.reduceEqDiff, Int.reduceLT, Int.reduceLE, Int.reduceNeg, Int.reducePow, Int.reduceEq, Option.isSome_some, Option.map_some, Option.map_none, true_and, and_true, if_true, if_false, ite_true, ite_false, Bool.false_eq_true, reduceIte, reduceCtorEq, gAdd_ii, gAdd_ss, gAdd_tt, gSub_ii, gMul_ii, gDiv_ii, gMod_ii, gNeg_i, gLt_ii, gGt_ii, gGe_ii, gLe_ii, eqv_ii, eqv_ss, eqv_bb, eqv_nn, eqv_ni, eqv_in, eqv_ns, eqv_sn, eqv_nb, eqv_bn, eqv_is, eqv_si, eqv_nt, eqv_tn, eqv_nl, eqv_ln, eqv_tt, eqv_ll, eqvA_nn, eqvA_cc, eqvA_nc, eqvA_cn, gEq_ii, gEq_ss, gEq_bb, gEq_nn, gEq_in, gEq_ni, gEq_sn, gEq_ns, gEq_si, gEq_is, gNe_ii, gNe_ss, gNe_bb, gNe_nn, gNot_b, gIsN_n, gIsN_i, gIsN_b, gIsN_s, gIsN_t, gIsN_l, gNotN_n, gNotN_i, gNotN_b, gNotN_s, gNotN_t, gNotN_l, gIx_l, gIx_t, gIx_s, gLen_s, gLen_l, gLen_t, gAbs_i, gInt_i, gInt_b, gInt_s, gOrd_sign, gDivmod_ii, gStr_i, gStr_s, gTuple_l, gTuple_t, gStrip_s, gLstrip_s, gSplit_s, gPartition_s, gJoin_m, gCat_ll, gSl_s, gSl_t, gSl_l, itemsOf_l, itemsOf_t, itemsOf_s, ofString_inj, cMul_r, cMul_l, ixN_lit, atI_lit, atI_m1, cast_lit, String.reduceEq, decide_true, decide_false, Int.reduceSub, Int.reduceAdd, Int.reduceMul, Int.reduceToNat, T_toList, T_len, T_app, T_inj, T_sign, T_cut, T_signs, T_strip, T_empty, gIn_T, gNin_T, gLjust_T, lt_0, lt_1, lt_2, lt_3, lt_4, lt_5, lt_6, lt_7, lt_8, lt_9, lt_10, lt_11, lt_12, lt_13, lt_14, lt_15, lt_16, lt_17, lt_18, lt_19, lt_20, lt_21, lt_22, lt_23, lt_24, lt_25, lt_26, lt_27, lt_28, lt_29, lt_30, lt_31, lt_32, lt_33, lt_34, lt_35, lt_36, lt_37, lt_38, lt_39, lt_40, lt_41, lt_42, lt_43, lt_44, lt_45, lt_46, lt_47, lt_48, lt_49, lt_50, lt_51, lt_52, lt_53, lt_54, lt_55, lt_56, lt_57, lt_58, lt_59] $[$l:location]?)

open ownanswer_k51_lists_and_joined_values (ts pr Lo LoP valsOfV joinOfV vals_okV join_okV CU wW split_ok cutF cutF_len strOk_T trimL_mem shaped_lts gEq_lts)
theorem at_T {ls : List (List Nat)} {k : Int} (h0 : 0 ≤ k) (h1 : k < ls.length) : ∃ x, x ∈ ls ∧ atI (ts ls) k = some (.str (T x)) := by
  obtain ⟨n, rfl⟩ := Int.eq_ofNat_of_zero_le h0
  have hn : n < ls.length := by omega
  exact ⟨ls[n], List.getElem_mem hn, by rw [Fw.atI_nat, List.getElem?_map, List.getElem?_eq_getElem hn]; rfl⟩
theorem at_I {ls : List Int} {k : Int} (h0 : 0 ≤ k) (h1 : k < ls.length) : ∃ x, x ∈ ls ∧ atI (ls.map PyData.int) k = some (.int x) := by
  obtain ⟨n, rfl⟩ := Int.eq_ofNat_of_zero_le h0
  have hn : n < ls.length := by omega
  exact ⟨ls[n], List.getElem_mem hn, by rw [Fw.atI_nat, List.getElem?_map, List.getElem?_eq_getElem hn]; rfl⟩
theorem at_M {α : Type} {f : α → PyData} {ls : List α} {k : Int} (h0 : 0 ≤ k) (h1 : k < ls.length) : ∃ x, x ∈ ls ∧ atI (ls.map f) k = some (f x) := by
  obtain ⟨n, rfl⟩ := Int.eq_ofNat_of_zero_le h0
  have hn : n < ls.length := by omega
  exact ⟨ls[n], List.getElem_mem hn, by rw [Fw.atI_nat, List.getElem?_map, List.getElem?_eq_getElem hn]; rfl⟩
def TGS : List (Option Tg) := [some (false, [97]), some (true, [97]), some (false, []), some (false, [120, 44, 121]), none]
def BS : List Tg := [(false, [97]), (true, [97]), (false, []), (false, [120, 44, 121])]
def bsF (t : Option Tg) : Tg := t.getD (false, [97])
theorem bs_in : ∀ t ∈ TGS, bsF t ∈ BS := by decide +kernel
def tt (b : Tg) : List Nat := (if b.1 then [87, 47] else []) ++ [34] ++ b.2 ++ [34]
def M4 (b : Tg) : List (List Nat) := [tt b, [87, 47] ++ [34] ++ b.2 ++ [34], [34, 122, 122, 34], [34] ++ b.2 ++ [34]]
def BAD : List (List Nat) := [[97], [], [34, 97], [87, 47, 97, 44, 32, 34, 98, 34], [44]]
def TVL (b : Tg) : List (List Nat) := [42] :: BAD ++ M4 b ++ ((M4 b).flatMap fun x => (M4 b).map fun y => x ++ [44, 32] ++ y) ++ ((M4 b).flatMap fun x => (M4 b).flatMap fun y => (M4 b).map fun z => x ++ [44, 32] ++ y ++ [44, 32] ++ z)
def DTT : List (List Nat × Option Int) := [([83, 97, 116, 44, 32, 48, 52, 32, 77, 97, 114, 32, 50, 48, 49, 55, 32, 48, 53, 58, 48, 54, 58, 48, 55, 32, 71, 77, 84], some 1488603967), ([83, 97, 116, 44, 32, 48, 52, 32, 77, 97, 114, 32, 50, 48, 49, 55, 32, 48, 53, 58, 48, 54, 58, 48, 56, 32, 71, 77, 84], some 1488603968), ([83, 97, 116, 44, 32, 48, 52, 32, 77, 97, 114, 32, 50, 48, 49, 55, 32, 48, 53, 58, 48, 54, 58, 48, 54, 32, 71, 77, 84], some 1488603966), ([83, 97, 116, 32, 77, 97, 114, 32, 32, 52, 32, 48, 53, 58, 48, 54, 58, 48, 55, 32, 50, 48, 49, 55], some 1488603967), ([77, 111, 110, 44, 32, 48, 52, 32, 77, 97, 114, 32, 50, 48, 49, 55, 32, 48, 53, 58, 48, 54, 58, 48, 55, 32, 71, 77, 84], none), ([115, 111, 111, 110], none)]
def DT : List (List Nat) := DTT.map (·.1)
/-- the time of a text -/
def dtF (l : List Nat) : Option Int := match DTT.find? fun p => decide (p.1 = l) with
  | some p => p.2
  | none => none
def oD : Option Int → PyData
  | none => .none
  | some t => .int t
def NOW : List Int := [0, 1488603967, 2000000000]
def okO (r : Option (Sl × En)) (o : Option Int) : Bool := match r, o with
  | some (.dat .none, _), none => true
  | some (.dat (.int i), _), some j => decide (i = j)
  | _, _ => false
theorem okO_t {r : Option (Sl × En)} {o : Option Int} (h : okO r o = true) {Q : Sl → En → Prop} (q : ∀ E, Q (.dat (oD o)) E) : Ok r Q := by
  unfold okO at h
  split at h
  · exact ⟨_, _, rfl, q _⟩
  · rename_i i E j
    rw [of_decide_eq_true h]
    exact ⟨_, _, rfl, q _⟩
  · cases h
def rdOk (l : List Nat) : Bool := NOW.all fun w => okO (S_read_date [.dat (.str (T l)), .dat (.int w)]) (dtF l)
def DJ : List (List Nat) := DT ++ DT.flatMap fun x => DT.map fun y => x ++ [44, 32] ++ y
theorem dj_all : DJ.all rdOk = true := by decide +kernel
def chkT (v : List Nat) : Bool := v.all pl && decide (v.length ≤ 60) && (decide (trimL [32] v = [42]) == decide (v = [42])) && ((rtF v).isSome || rdOk v)
theorem tv_0 : (TVL (false, [97])).all chkT = true := by decide +kernel
theorem tv_1 : (TVL (true, [97])).all chkT = true := by decide +kernel
theorem tv_2 : (TVL (false, [])).all chkT = true := by decide +kernel
theorem tv_3 : (TVL (false, [120, 44, 121])).all chkT = true := by decide +kernel
theorem tv_all : (BS.all fun b => (TVL b).all chkT) = true := by
  unfold BS
  simp only [List.all_cons, List.all_nil, tv_0, tv_1, tv_2, tv_3, Bool.and_true]
theorem dt_pl : (DT.all fun v => v.all pl && decide (v.length ≤ 60) && (rtF v).isNone) = true := by decide +kernel
structure TvOk (v : List Nat) : Prop where
  p : Pl v
  len : v.length ≤ 60
  st : NoSt v
  d : (rtF v).isSome = true ∨ rdOk v = true
theorem tv_ok {b : Tg} (hb : b ∈ BS) {v : List Nat} (h : v ∈ TVL b) : TvOk v := by
  have c := List.all_eq_true.mp (List.all_eq_true.mp tv_all b hb) v h
  unfold chkT at c
  simp only [Bool.and_eq_true, Bool.or_eq_true, decide_eq_true_eq, List.all_eq_true, beq_iff_eq] at c
  exact ⟨c.1.1.1, c.1.1.2, c.1.2, c.2⟩
end ownanswer_k62_conditions_judged
namespace ownanswer_k62_conditions_judged
open PySem PySem.Spec L2 Fw
local macro_rules | `(tactic| simp only [walkA, $xs,*] $[$l:location]?) => `(tactic| simp only [ok_some, ok_none, okV_some, okV_none, ↓okV_if, ↓ok_if, ↓ok_ret, ↓ok_bnd, ↓ok_lft, ↓ok_bin, ↓ok_una, ↓ok_binL, ↓ok_unaL, ↓ok_mny, ↓ok_rdD, ↓ok_rdO, ↓ok_rdA, ↓ok_toB, ↓ok_sAnd, ↓ok_sOr, ↓ok_sNot, ↓ok_vAnd, ↓ok_vOr, ↓ok_sIf, ↓ok_chn, ↓ok_sNil, ↓ok_sCons, ↓ok_dTup, ↓ok_dLst, ↓ok_m0S, ↓ok_m1S, ↓ok_m1L, ↓ok_ixO, ↓ok_sPart, ↓ok_sSl, ↓ok_tupO, ↓ok_sItems, ↓ok_sScr, ↓ok_sEnum, ↓ok_sRng1, ↓ok_sRng2, ↓ok_seqS, ↓ok_nxt, ↓ok_brkS, ↓ok_cntS, ↓ok_retN, ↓ok_drpS, ↓ok_asg, ↓ok_asgL, ↓ok_asgG, ↓ok_augS, ↓ok_ifS, ↓ok_retD, ↓ok_retL, ↓ok_retO, ↓ok_appO, ↓ok_setO, ↓ok_extO, ↓ok_popS, ↓ok_forS, ↓ok_forL_nil, ↓ok_lcS, ↓ok_lcL_nil, ↓okV_callD, ↓okV_callV, ↓ok_callM, ↓ok_asD, ↓ok_asL, ↓ok_callS, ↓ok_runF, ↓ok_rplS, ↓ok_tupA, ↓ok_strM, ↓ok_chn3, own?, toN, toT, toNs, wipE, bakE, stp_nx, stp_ct, stp_bk, stp_rt, Fw.collect, ok_yesS, List.getElem?_cons_zero, List.getElem?_cons_succ, List.set_cons_zero, List.set_cons_succ, List.map_cons, List.map_nil, List.length_cons, List.length_nil, List.cons_append, List.nil_append, List.replicate_succ, List.replicate_zero, Nat.reduceAdd, Nat.reduceSub, Nat.reduceLeDiff, Nat.reduceLT, Nat.reduceEqDiff, Int.reduceLT, Int.reduceLE, Int.reduceNeg, Int.reducePow, Int.reduceEq, Option.isSome_some, Option.map_some, Option.map_none, true_and, and_true, if_true, if_false, ite_true, ite_false, Bool.false_eq_true, reduceIte, reduceCtorEq, gAdd_ii, gAdd_ss, gAdd_tt, gSub_ii, gMul_ii, gDiv_ii, gMod_ii, gNeg_i, gLt_ii, gGt_ii, gGe_ii, gLe_ii, eqv_ii, eqv_ss, eqv_bb, eqv_nn, eqv_ni, eqv_in, eqv_ns, eqv_sn, eqv_nb, eqv_bn, eqv_is, eqv_si, eqv_nt, eqv_tn, eqv_nl, eqv_ln, eqv_tt, eqv_ll, eqvA_nn, eqvA_cc, eqvA_nc, eqvA_cn, gEq_ii, gEq_ss, gEq_bb, gEq_nn, gEq_in, gEq_ni, gEq_sn, gEq_ns, gEq_si, gEq_is, gNe_ii, gNe_ss, gNe_bb, gNe_nn, gNot_b, gIsN_n, gIsN_i, gIsN_b, gIsN_s, gIsN_t, gIsN_l, gNotN_n, gNotN_i, gNotN_b, gNotN_s, gNotN_t, gNotN_l, gIx_l, gIx_t, gIx_s, gLen_s, gLen_l, gLen_t, gAbs_i, gInt_i, gInt_b, gInt_s, gOrd_sign, gDivmod_ii, gStr_i, gStr_s, gTuple_l, gTuple_t, gStrip_s, gLstrip_s, gSplit_s, gPartition_s, gJoin_m, gCat_ll, gSl_s, gSl_t, gSl_l, itemsOf_l, itemsOf_t, itemsOf_s, ofString_inj, cMul_r, cMul_l, ixN_lit, atI_lit, atI_m1, cast_lit, String.reduceEq, decide_true, decide_false, Int.reduceSub, Int.reduceAdd, Int.reduceMul, Int.reduceToNat, T_toList, T_len, T_app, T_inj, T_sign, T_cut, T_signs, T_strip, T_empty, gIn_T, gNin_T, gLjust_T, lt_0, lt_1, lt_2, lt_3, lt_4, lt_5, lt_6, lt_7, lt_8, lt_9, lt_10, lt_11, lt_12, lt_13, lt_14, lt_15, lt_16, lt_17, lt_18, lt_19, lt_20, lt_21, lt_22, lt_23, lt_24, lt_25, lt_26, lt_27, lt_28, lt_29, lt_30, lt_31, lt_32, lt_33, lt_34, lt_35, lt_36, lt_37, lt_38, lt_39, lt_40, lt_41, lt_42, lt_43, lt_44, lt_45, lt_46, lt_47, lt_48, lt_49, lt_50, lt_51, lt_52, lt_53, lt_54, lt_55, lt_56, lt_57, lt_58, lt_59, $xs,*] $[$l:location]?)
local macro_rules | `(tactic| simp only [walkA] $[$l:location]?) => `(tactic| simp only [ok_some, ok_none, okV_some, okV_none, ↓okV_if, ↓ok_if, ↓ok_ret, ↓ok_bnd, ↓ok_lft, ↓ok_bin, ↓ok_una, ↓ok_binL, ↓ok_unaL, ↓ok_mny, ↓ok_rdD, ↓ok_rdO, ↓ok_rdA, ↓ok_toB, ↓ok_sAnd, ↓ok_sOr, ↓ok_sNot, ↓ok_vAnd, ↓ok_vOr, ↓ok_sIf, ↓ok_chn, ↓ok_sNil, ↓ok_sCons, ↓ok_dTup, ↓ok_dLst, ↓ok_m0S, ↓ok_m1S, ↓ok_m1L, ↓ok_ixO, ↓ok_sPart, ↓ok_sSl, ↓ok_tupO, ↓ok_sItems, ↓ok_sScr, ↓ok_sEnum, ↓ok_sRng1, ↓ok_sRng2, ↓ok_seqS, ↓ok_nxt, ↓ok_brkS, ↓ok_cntS, ↓ok_retN, ↓ok_drpS, ↓ok_asg, ↓ok_asgL, ↓ok_asgG, ↓ok_augS, ↓ok_ifS, ↓ok_retD, ↓ok_retL, ↓ok_retO, ↓ok_appO, ↓ok_setO, ↓ok_extO, ↓ok_popS, ↓ok_forS, ↓ok_forL_nil, ↓ok_lcS, ↓ok_lcL_nil, ↓okV_callD, ↓okV_callV, ↓ok_callM, ↓ok_asD, ↓ok_asL, ↓ok_callS, ↓ok_runF, ↓ok_rplS, ↓ok_tupA, ↓ok_strM, ↓ok_chn3, own?, toN, toT, toNs, wipE, bakE, stp_nx, stp_ct, stp_bk, stp_rt, Fw.collect, ok_yesS, List.getElem?_cons_zero, List.getElem?_cons_succ, List.set_cons_zero, List.set_cons_succ, List.map_cons, List.map_nil, List.length_cons, List.length_nil, List.cons_append, List.nil_append, List.replicate_succ, List.replicate_zero, Nat.reduceAdd, Nat.reduceSub, Nat.reduceLeDiff, Nat.reduceLT, Nat.reduceEqDiff, Int.reduceLT, Int.reduceLE, Int.reduceNeg, Int.reducePow, Int.reduceEq, Option.isSome_some, Option.map_some, Option.map_none, true_and, and_true, if_true, if_false, ite_true, ite_false, Bool.false_eq_true, reduceIte, reduceCtorEq, gAdd_ii, gAdd_ss, gAdd_tt, gSub_ii, gMul_ii, gDiv_ii, gMod_ii, gNeg_i, gLt_ii, gGt_ii, gGe_ii, gLe_ii, eqv_ii, eqv_ss, eqv_bb, eqv_nn, eqv_ni, eqv_in, eqv_ns, eqv_sn, eqv_nb, eqv_bn, eqv_is, eqv_si, eqv_nt, eqv_tn, eqv_nl, eqv_ln, eqv_tt, eqv_ll, eqvA_nn, eqvA_cc, eqvA_nc, eqvA_cn, gEq_ii, gEq_ss, gEq_bb, gEq_nn, gEq_in, gEq_ni, gEq_sn, gEq_ns, gEq_si, gEq_is, gNe_ii, gNe_ss, gNe_bb, gNe_nn, gNot_b, gIsN_n, gIsN_i, gIsN_b, gIsN_s, gIsN_t, gIsN_l, gNotN_n, gNotN_i, gNotN_b, gNotN_s, gNotN_t, gNotN_l, gIx_l, gIx_t, gIx_s, gLen_s, gLen_l, gLen_t, gAbs_i, gInt_i, gInt_b, gInt_s, gOrd_sign, gDivmod_ii, gStr_i, gStr_s, gTuple_l, gTuple_t, gStrip_s, gLstrip_s, gSplit_s, gPartition_s, gJoin_m, gCat_ll, gSl_s, gSl_t, gSl_l, itemsOf_l, itemsOf_t, itemsOf_s, ofString_inj, cMul_r, cMul_l, ixN_lit, atI_lit, atI_m1, cast_lit, String.reduceEq, decide_true, decide_false, Int.reduceSub, Int.reduceAdd, Int.reduceMul, Int.reduceToNat, T_toList, T_len, T_app, T_inj, T_sign, T_cut, T_signs, T_strip, T_empty, gIn_T, gNin_T, gLjust_T, lt_0, lt_1, lt_2, lt_3, lt_4, lt_5, lt_6, lt_7, lt_8, lt_9, lt_10, lt_11, lt_12, lt_13, lt_14, lt_15, lt_16, lt_17, lt_18, lt_19, lt_20, lt_21, lt_22, lt_23, lt_24, lt_25, lt_26, lt_27, lt_28, lt_29, lt_30, lt_31, lt_32, lt_33, lt_34, lt_35, lt_36, lt_37, lt_38, lt_39, lt_40, lt_41, lt_42, lt_43, lt_44, lt_45, lt_46, lt_47, lt_48, lt_49, lt_50, lt_51, lt_52, lt_53, lt_54, lt_55, lt_56, lt_57, lt_58, lt_59] $[$l:location]?)

open ownanswer_k51_lists_and_joined_values (ts pr Lo LoP valsOfV joinOfV vals_okV join_okV CU wW split_ok cutF cutF_len strOk_T trimL_mem shaped_lts gEq_lts)
theorem pr_app {ps : List Fd} {n l : List Nat} : pr ps ++ [PyData.tuple [.str (T n), .str (T l)]] = pr (ps ++ [(n, l)]) := by simp [pr]
theorem bs_len : ∀ b ∈ BS, b.2.length ≤ 3 := by decide +kernel
theorem m4_len : ∀ b ∈ BS, ∀ m ∈ M4 b, m.length ≤ 8 := by decide +kernel
theorem tval_ok {t : Option Tg} (ht : t ∈ TGS) {d : List PyData} (hd : DrawOk d) {Q : Sl → En → Prop} (q : ∀ d' v, DrawOk d' → v ∈ TVL (bsF t) → Q (.dat (.str (T v))) [.own d', .un]) : Ok (S__law_tags_value [.own d, .dat (otD t)]) Q := by
  have hs := sizeLine_eq
  have hb := bs_in t ht
  have hbl := bs_len _ hb
  have hml := m4_len _ hb
  unfold S__law_tags_value
  rw [ok_runF]
  refine ⟨rfl, ?_⟩
  have e0 : ∀ x : List Sl, x = x := fun _ => rfl
  have tail : Ok (T__law_tags_value_5 [.own d, .dat (otD t), .dat (tgD (bsF t)), .un, .un, .un]) fun fl E => match fl with
      | .rt s => OkV (Fw.collect [.own d, .dat (otD t)] E) fun outs => Q s outs
      | .nx => OkV (Fw.collect [.own d, .dat (otD t)] E) fun outs => Q (.dat .none) outs
      | _ => False := by
    generalize bsF t = b at hb hbl hml q
    have etx : ∀ Q : Sl → En → Prop, Q (.dat (.str (T (tt b)))) [.un] → Ok (S__law_tag_text [.dat (tgD b)]) Q := fun Q q => by
      unfold S__law_tag_text
      rw [ok_runF]
      refine ⟨rfl, ?_⟩
      unfold tt at q
      unfold tgD
      simp only [walkA, Y__law_tag_text]
      cases h1 : b.1 with
      | true =>
        simp only [h1, if_true] at q
        simp only [walkA, List.length_append]
        exact ⟨by omega, by omega, by omega, q⟩
      | false =>
        simp only [h1, Bool.false_eq_true, if_false] at q
        simp only [walkA, List.length_append]
        exact ⟨by omega, by omega, by omega, q⟩
    simp only [walkA, T__law_tags_value_5]
    refine etx _ ?_
    have ex1 : gIx (tgD b) (.int 1) = some (.str (T b.2)) := rfl
    have m4d : [PyData.str (T (tt b)), .str (T ([87, 47] ++ [34] ++ b.2 ++ [34])), .str (T [34, 122, 122, 34]), .str (T ([34] ++ b.2 ++ [34]))] = ts (M4 b) := rfl
    simp only [walkA, tgD, List.length_append, T__law_tags_value_4, tk]
    simp only [List.cons_append, List.nil_append] at m4d
    refine ⟨by omega, by omega, by omega, by omega, by omega, by omega, take_ok hd (by omega) (by omega) fun c d1 c0 c1 hd1 => ?_⟩
    rw [m4d]
    by_cases e0 : c = 0
    · simp only [walkA, T__law_tags_value_3, e0]
      exact q d1 _ hd1 (List.mem_append_left _ (List.mem_append_left _ (List.mem_append_left _ (List.mem_cons_self ..))))
    · by_cases e1 : c = 1
      · subst e1
        simp only [walkA, T__law_tags_value_3, T__law_tags_value_2, tk]
        refine ⟨by omega, take_ok hd1 (by omega) (by omega) fun r d2 r0 r1 hd2 => ?_⟩
        obtain ⟨v, hv, ev⟩ := at_T (ls := BAD) r0 r1
        simp only [BAD, ts, List.map_cons, List.map_nil] at ev
        simp only [walkA, ev]
        exact q d2 v hd2 (List.mem_append_left _ (List.mem_append_left _ (List.mem_append_left _ (List.mem_cons_of_mem _ hv))))
      · simp only [walkA, T__law_tags_value_3, e0, T__law_tags_value_2, e1, T__law_tags_value_1, tk]
        refine take_ok hd1 (by omega) (by omega) fun n d2 n0 n1 hd2 => ?_
        simp only [walkA]
        refine ⟨by omega, by simp [rngL]; omega, ?_⟩
        refine lcL_all (fun E => ∃ d', DrawOk d' ∧ E = [.own d', .dat (otD t), .dat (.tuple [.bool b.1, .str (T b.2)]), .dat (.list (ts (M4 b))), .dat (.int c), .un]) (fun y => ∃ m, m ∈ M4 b ∧ y = .str (T m)) _ _ _ ⟨d2, hd2, rfl⟩ ?_ ?_
        · rintro z hz E ⟨d', hd', rfl⟩
          unfold turn
          simp only [walkA, C__law_tags_value_1, tk]
          refine take_ok hd' (by omega) (by omega) fun r d3 r0 r1 hd3 => ?_
          obtain ⟨m, hm, em⟩ := at_T (ls := M4 b) r0 r1
          simp only [walkA, em]
          exact ⟨⟨d3, hd3, rfl⟩, _, rfl, m, hm, rfl⟩
        · rintro ys E hy hp ⟨d', hd', rfl⟩
          have hyl : ys.length = (1 + n).toNat := by rw [hy]; simp [rngL]
          have hn : n = 0 ∨ n = 1 ∨ n = 2 := by omega
          have hms : ∃ ms : List (List Nat), ys = (ms.map T).map .str ∧ ms.length = (1 + n).toNat ∧ ∀ m ∈ ms, m ∈ M4 b := by
            clear hy
            have : ∀ ys : List PyData, (∀ y ∈ ys, ∃ m, m ∈ M4 b ∧ y = .str (T m)) → ∃ ms : List (List Nat), ys = (ms.map T).map .str ∧ ms.length = ys.length ∧ ∀ m ∈ ms, m ∈ M4 b := by
              intro ys
              induction ys with
              | nil => intro _; exact ⟨[], rfl, rfl, (fun _ h => nomatch h)⟩
              | cons y ys ih =>
                intro h
                obtain ⟨ms, a1, a2, a3⟩ := ih fun z hz => h z (List.mem_cons_of_mem _ hz)
                obtain ⟨m, hm, rfl⟩ := h y (List.mem_cons_self ..)
                exact ⟨m :: ms, by rw [a1]; rfl, by rw [List.length_cons, List.length_cons, a2], fun x hx => (List.mem_cons.mp hx).elim (fun e => e ▸ hm) (a3 x)⟩
            obtain ⟨ms, a1, a2, a3⟩ := this ys hp
            exact ⟨ms, a1, by rw [a2, hyl], a3⟩
          obtain ⟨ms, rfl, hmn, hmm⟩ := hms
          have fin : ∀ v, ([44, 32] : List Nat).intercalate ms = v → v ∈ TVL b → ((ms.map T).map (·.length)).sum + ms.length * 2 ≤ 16777216 := fun v _ _ => by
            have : ∀ ms : List (List Nat), (∀ m ∈ ms, m ∈ M4 b) → ((ms.map T).map (·.length)).sum ≤ 8 * ms.length := by
              intro ms
              induction ms with
              | nil => intro _; simp
              | cons m ms ih =>
                intro h
                have h1 := ih fun x hx => h x (List.mem_cons_of_mem _ hx)
                have h2 := hml m (h m (List.mem_cons_self ..))
                simp only [List.map_cons, List.sum_cons, T_len, List.length_cons]
                omega
            have := this ms hmm
            omega
          have key : ([44, 32] : List Nat).intercalate ms ∈ TVL b := by
            rcases hn with rfl | rfl | rfl
            · match ms, hmn, hmm with
              | [x], _, hmm =>
                have : ([44, 32] : List Nat).intercalate [x] = x := by simp [List.intercalate, List.intersperse]
                rw [this]
                exact List.mem_append_left _ (List.mem_append_left _ (List.mem_append_right _ (hmm x (List.mem_cons_self ..))))
            · match ms, hmn, hmm with
              | [x, y], _, hmm =>
                have : ([44, 32] : List Nat).intercalate [x, y] = x ++ [44, 32] ++ y := by simp [List.intercalate, List.intersperse]
                rw [this]
                exact List.mem_append_left _ (List.mem_append_right _ (List.mem_flatMap.mpr ⟨x, hmm x (List.mem_cons_self ..), List.mem_map.mpr ⟨y, hmm y (List.mem_cons_of_mem _ (List.mem_cons_self ..)), rfl⟩⟩))
            · match ms, hmn, hmm with
              | [x, y, z], _, hmm =>
                have : ([44, 32] : List Nat).intercalate [x, y, z] = x ++ [44, 32] ++ y ++ [44, 32] ++ z := by simp [List.intercalate, List.intersperse]
                rw [this]
                exact List.mem_append_right _ (List.mem_flatMap.mpr ⟨x, hmm x (List.mem_cons_self ..), List.mem_flatMap.mpr ⟨y, hmm y (List.mem_cons_of_mem _ (List.mem_cons_self ..)), List.mem_map.mpr ⟨z, hmm z (List.mem_cons_of_mem _ (List.mem_cons_of_mem _ (List.mem_cons_self ..))), rfl⟩⟩⟩)
          have hsz := fin _ rfl key
          simp only [walkA, gJoin_m, T_join, List.length_map]
          exact ⟨hsz, q d' _ hd' key⟩
  cases t with
  | none =>
    simp only [walkA, Y__law_tags_value, otD]
    exact ⟨by omega, tail⟩
  | some t =>
    have e : gIsN (tgD t) = some (.bool false) := rfl
    simp only [walkA, Y__law_tags_value, otD, e]
    exact tail
theorem time_ok {d : List PyData} (hd : DrawOk d) {Q : Sl → En → Prop} (q : ∀ d' p, DrawOk d' → p ∈ DTT → Q (.dat (.tuple [.str (T p.1), oD p.2])) [.own d']) : Ok (S__law_time [.own d]) Q := by
  have hs := sizeLine_eq
  unfold S__law_time
  rw [ok_runF]
  refine ⟨rfl, ?_⟩
  simp only [walkA, Y__law_time, tk]
  refine ⟨by omega, by omega, by omega, by omega, by omega, by omega, by omega, take_ok hd (by omega) (by omega) fun r d1 r0 r1 h1 => ?_⟩
  obtain ⟨p, hp, ep⟩ := at_M (f := fun p : List Nat × Option Int => PyData.tuple [.str (T p.1), oD p.2]) (ls := DTT) r0 r1
  simp only [DTT, oD, List.map_cons, List.map_nil] at ep
  simp only [walkA, ep]
  exact q d1 p h1 hp
end ownanswer_k62_conditions_judged
namespace ownanswer_k62_conditions_judged
open PySem PySem.Spec L2 Fw
local macro_rules | `(tactic| simp only [walkA, $xs,*] $[$l:location]?) => `(tactic| simp only [ok_some, ok_none, okV_some, okV_none, ↓okV_if, ↓ok_if, ↓ok_ret, ↓ok_bnd, ↓ok_lft, ↓ok_bin, ↓ok_una, ↓ok_binL, ↓ok_unaL, ↓ok_mny, ↓ok_rdD, ↓ok_rdO, ↓ok_rdA, ↓ok_toB, ↓ok_sAnd, ↓ok_sOr, ↓ok_sNot, ↓ok_vAnd, ↓ok_vOr, ↓ok_sIf, ↓ok_chn, ↓ok_sNil, ↓ok_sCons, ↓ok_dTup, ↓ok_dLst, ↓ok_m0S, ↓ok_m1S, ↓ok_m1L, ↓ok_ixO, ↓ok_sPart, ↓ok_sSl, ↓ok_tupO, ↓ok_sItems, ↓ok_sScr, ↓ok_sEnum, ↓ok_sRng1, ↓ok_sRng2, ↓ok_seqS, ↓ok_nxt, ↓ok_brkS, ↓ok_cntS, ↓ok_retN, ↓ok_drpS, ↓ok_asg, ↓ok_asgL, ↓ok_asgG, ↓ok_augS, ↓ok_ifS, ↓ok_retD, ↓ok_retL, ↓ok_retO, ↓ok_appO, ↓ok_setO, ↓ok_extO, ↓ok_popS, ↓ok_forS, ↓ok_forL_nil, ↓ok_lcS, ↓ok_lcL_nil, ↓okV_callD, ↓okV_callV, ↓ok_callM, ↓ok_asD, ↓ok_asL, ↓ok_callS, ↓ok_runF, ↓ok_rplS, ↓ok_tupA, ↓ok_strM, ↓ok_chn3, own?, toN, toT, toNs, wipE, bakE, stp_nx, stp_ct, stp_bk, stp_rt, Fw.collect, ok_yesS, List.getElem?_cons_zero, List.getElem?_cons_succ, List.set_cons_zero, List.set_cons_succ, List.map_cons, List.map_nil, List.length_cons, List.length_nil, List.cons_append, List.nil_append, List.replicate_succ, List.replicate_zero, Nat.reduceAdd, Nat.reduceSub, Nat.reduceLeDiff, Nat.reduceLT, Nat.reduceEqDiff, Int.reduceLT, Int.reduceLE, Int.reduceNeg, Int.reducePow, Int.reduceEq, Option.isSome_some, Option.map_some, Option.map_none, true_and, and_true, if_true, if_false, ite_true, ite_false, Bool.false_eq_true, reduceIte, reduceCtorEq, gAdd_ii, gAdd_ss, gAdd_tt, gSub_ii, gMul_ii, gDiv_ii, gMod_ii, gNeg_i, gLt_ii, gGt_ii, gGe_ii, gLe_ii, eqv_ii, eqv_ss, eqv_bb, eqv_nn, eqv_ni, eqv_in, eqv_ns, eqv_sn, eqv_nb, eqv_bn, eqv_is, eqv_si, eqv_nt, eqv_tn, eqv_nl, eqv_ln, eqv_tt, eqv_ll, eqvA_nn, eqvA_cc, eqvA_nc, eqvA_cn, gEq_ii, gEq_ss, gEq_bb, gEq_nn, gEq_in, gEq_ni, gEq_sn, gEq_ns, gEq_si, gEq_is, gNe_ii, gNe_ss, gNe_bb, gNe_nn, gNot_b, gIsN_n, gIsN_i, gIsN_b, gIsN_s, gIsN_t, gIsN_l, gNotN_n, gNotN_i, gNotN_b, gNotN_s, gNotN_t, gNotN_l, gIx_l, gIx_t, gIx_s, gLen_s, gLen_l, gLen_t, gAbs_i, gInt_i, gInt_b, gInt_s, gOrd_sign, gDivmod_ii, gStr_i, gStr_s, gTuple_l, gTuple_t, gStrip_s, gLstrip_s, gSplit_s, gPartition_s, gJoin_m, gCat_ll, gSl_s, gSl_t, gSl_l, itemsOf_l, itemsOf_t, itemsOf_s, ofString_inj, cMul_r, cMul_l, ixN_lit, atI_lit, atI_m1, cast_lit, String.reduceEq, decide_true, decide_false, Int.reduceSub, Int.reduceAdd, Int.reduceMul, Int.reduceToNat, T_toList, T_len, T_app, T_inj, T_sign, T_cut, T_signs, T_strip, T_empty, gIn_T, gNin_T, gLjust_T, lt_0, lt_1, lt_2, lt_3, lt_4, lt_5, lt_6, lt_7, lt_8, lt_9, lt_10, lt_11, lt_12, lt_13, lt_14, lt_15, lt_16, lt_17, lt_18, lt_19, lt_20, lt_21, lt_22, lt_23, lt_24, lt_25, lt_26, lt_27, lt_28, lt_29, lt_30, lt_31, lt_32, lt_33, lt_34, lt_35, lt_36, lt_37, lt_38, lt_39, lt_40, lt_41, lt_42, lt_43, lt_44, lt_45, lt_46, lt_47, lt_48, lt_49, lt_50, lt_51, lt_52, lt_53, lt_54, lt_55, lt_56, lt_57, lt_58, lt_59, $xs,*] $[$l:location]?)
local macro_rules | `(tactic| simp only [walkA] $[$l:location]?) => `(tactic| simp only [ok_some, ok_none, okV_some, okV_none, ↓okV_if, ↓ok_if, ↓ok_ret, ↓ok_bnd, ↓ok_lft, ↓ok_bin, ↓ok_una, ↓ok_binL, ↓ok_unaL, ↓ok_mny, ↓ok_rdD, ↓ok_rdO, ↓ok_rdA, ↓ok_toB, ↓ok_sAnd, ↓ok_sOr, ↓ok_sNot, ↓ok_vAnd, ↓ok_vOr, ↓ok_sIf, ↓ok_chn, ↓ok_sNil, ↓ok_sCons, ↓ok_dTup, ↓ok_dLst, ↓ok_m0S, ↓ok_m1S, ↓ok_m1L, ↓ok_ixO, ↓ok_sPart, ↓ok_sSl, ↓ok_tupO, ↓ok_sItems, ↓ok_sScr, ↓ok_sEnum, ↓ok_sRng1, ↓ok_sRng2, ↓ok_seqS, ↓ok_nxt, ↓ok_brkS, ↓ok_cntS, ↓ok_retN, ↓ok_drpS, ↓ok_asg, ↓ok_asgL, ↓ok_asgG, ↓ok_augS, ↓ok_ifS, ↓ok_retD, ↓ok_retL, ↓ok_retO, ↓ok_appO, ↓ok_setO, ↓ok_extO, ↓ok_popS, ↓ok_forS, ↓ok_forL_nil, ↓ok_lcS, ↓ok_lcL_nil, ↓okV_callD, ↓okV_callV, ↓ok_callM, ↓ok_asD, ↓ok_asL, ↓ok_callS, ↓ok_runF, ↓ok_rplS, ↓ok_tupA, ↓ok_strM, ↓ok_chn3, own?, toN, toT, toNs, wipE, bakE, stp_nx, stp_ct, stp_bk, stp_rt, Fw.collect, ok_yesS, List.getElem?_cons_zero, List.getElem?_cons_succ, List.set_cons_zero, List.set_cons_succ, List.map_cons, List.map_nil, List.length_cons, List.length_nil, List.cons_append, List.nil_append, List.replicate_succ, List.replicate_zero, Nat.reduceAdd, Nat.reduceSub, Nat.reduceLeDiff, Nat.reduceLT, Nat.reduceEqDiff, Int.reduceLT, Int.reduceLE, Int.reduceNeg, Int.reducePow, Int.reduceEq, Option.isSome_some, Option.map_some, Option.map_none, true_and, and_true, if_true, if_false, ite_true, ite_false, Bool.false_eq_true, reduceIte, reduceCtorEq, gAdd_ii, gAdd_ss, gAdd_tt, gSub_ii, gMul_ii, gDiv_ii, gMod_ii, gNeg_i, gLt_ii, gGt_ii, gGe_ii, gLe_ii, eqv_ii, eqv_ss, eqv_bb, eqv_nn, eqv_ni, eqv_in, eqv_ns, eqv_sn, eqv_nb, eqv_bn, eqv_is, eqv_si, eqv_nt, eqv_tn, eqv_nl, eqv_ln, eqv_tt, eqv_ll, eqvA_nn, eqvA_cc, eqvA_nc, eqvA_cn, gEq_ii, gEq_ss, gEq_bb, gEq_nn, gEq_in, gEq_ni, gEq_sn, gEq_ns, gEq_si, gEq_is, gNe_ii, gNe_ss, gNe_bb, gNe_nn, gNot_b, gIsN_n, gIsN_i, gIsN_b, gIsN_s, gIsN_t, gIsN_l, gNotN_n, gNotN_i, gNotN_b, gNotN_s, gNotN_t, gNotN_l, gIx_l, gIx_t, gIx_s, gLen_s, gLen_l, gLen_t, gAbs_i, gInt_i, gInt_b, gInt_s, gOrd_sign, gDivmod_ii, gStr_i, gStr_s, gTuple_l, gTuple_t, gStrip_s, gLstrip_s, gSplit_s, gPartition_s, gJoin_m, gCat_ll, gSl_s, gSl_t, gSl_l, itemsOf_l, itemsOf_t, itemsOf_s, ofString_inj, cMul_r, cMul_l, ixN_lit, atI_lit, atI_m1, cast_lit, String.reduceEq, decide_true, decide_false, Int.reduceSub, Int.reduceAdd, Int.reduceMul, Int.reduceToNat, T_toList, T_len, T_app, T_inj, T_sign, T_cut, T_signs, T_strip, T_empty, gIn_T, gNin_T, gLjust_T, lt_0, lt_1, lt_2, lt_3, lt_4, lt_5, lt_6, lt_7, lt_8, lt_9, lt_10, lt_11, lt_12, lt_13, lt_14, lt_15, lt_16, lt_17, lt_18, lt_19, lt_20, lt_21, lt_22, lt_23, lt_24, lt_25, lt_26, lt_27, lt_28, lt_29, lt_30, lt_31, lt_32, lt_33, lt_34, lt_35, lt_36, lt_37, lt_38, lt_39, lt_40, lt_41, lt_42, lt_43, lt_44, lt_45, lt_46, lt_47, lt_48, lt_49, lt_50, lt_51, lt_52, lt_53, lt_54, lt_55, lt_56, lt_57, lt_58, lt_59] $[$l:location]?)

open ownanswer_k51_lists_and_joined_values (ts pr Lo LoP valsOfV joinOfV vals_okV join_okV CU wW split_ok cutF cutF_len strOk_T trimL_mem shaped_lts gEq_lts)
def nIm : List Nat := [105, 102, 45, 109, 97, 116, 99, 104]
def nInm : List Nat := [105, 102, 45, 110, 111, 110, 101, 45, 109, 97, 116, 99, 104]
def nIus : List Nat := [105, 102, 45, 117, 110, 109, 111, 100, 105, 102, 105, 101, 100, 45, 115, 105, 110, 99, 101]
def nIms : List Nat := [105, 102, 45, 109, 111, 100, 105, 102, 105, 101, 100, 45, 115, 105, 110, 99, 101]
def nRg : List Nat := [114, 97, 110, 103, 101]
def nIr : List Nat := [105, 102, 45, 114, 97, 110, 103, 101]
def nAc : List Nat := [97, 99, 99, 101, 112, 116]
def vRg : List Nat := [98, 121, 116, 101, 115, 61, 48, 45]
structure Row (b : Tg) (p : Fd) : Prop where
  tg : p.1 = nIm ∨ p.1 = nInm → p.2 ∈ TVL b
  dt : p.1 = nIus ∨ p.1 = nIms → p.2 ∈ DT
  rg : p.1 = nRg → p.2 = vRg
  ir : p.1 = nIr → p.2 ∈ DT ∨ p.2 ∈ TVL b
  pl : p.2.length ≤ 60 ∧ Lo p.1 ∧ Lo p.2
def cnt (n : List Nat) (ps : List Fd) : Nat := (ps.filter fun p => decide (p.1 = n)).length
theorem cnt_app (n : List Nat) (ps qs : List Fd) : cnt n (ps ++ qs) = cnt n ps + cnt n qs := by
  unfold cnt
  rw [List.filter_append, List.length_append]
theorem cnt1 (n m l : List Nat) : cnt n [(m, l)] = if m = n then 1 else 0 := by
  unfold cnt
  by_cases h : m = n <;> simp [h]
theorem cnt0 {n : List Nat} {fs : List Fd} (h : ∀ p ∈ fs, p.1 ≠ n) : cnt n fs = 0 := by
  unfold cnt
  rw [List.filter_eq_nil_iff.mpr fun p hp => by simp [h p hp]]
  rfl
structure FI (b : Tg) (ns : List (List Nat)) (ps : List Fd) : Prop where
  len : ps.length ≤ 2 * ns.length
  nm : ∀ p ∈ ps, p.1 ∈ ns
  row : ∀ p ∈ ps, Row b p
  two : ∀ n, cnt n ps ≤ 2
  one : cnt nRg ps ≤ 1 ∧ cnt nIr ps ≤ 1
theorem FI.skip {b : Tg} {ns : List (List Nat)} {ps : List Fd} (h : FI b ns ps) (n : List Nat) : FI b (n :: ns) ps :=
  ⟨by have := h.len; rw [List.length_cons]; omega, fun p hp => List.mem_cons_of_mem _ (h.nm p hp), h.row, h.two, h.one⟩
theorem FI.app1 {b : Tg} {ns : List (List Nat)} {ps : List Fd} (h : FI b ns ps) {n l : List Nat} (hn : n ∉ ns) (hr : Row b (n, l)) : FI b (n :: ns) (ps ++ [(n, l)]) := by
  have h0 : cnt n ps = 0 := cnt0 fun p hp e => hn (by rw [← e]; exact h.nm p hp)
  refine ⟨?_, fun p hp => ?_, fun p hp => ?_, fun m => ?_, ?_⟩
  · have := h.len
    rw [List.length_append, List.length_cons]
    simp only [List.length_cons, List.length_nil]
    omega
  · exact (List.mem_append.mp hp).elim (fun hp => List.mem_cons_of_mem _ (h.nm p hp)) fun hp => by cases List.mem_singleton.mp hp; exact List.mem_cons_self ..
  · exact (List.mem_append.mp hp).elim (h.row p) fun hp => by cases List.mem_singleton.mp hp; exact hr
  · rw [cnt_app, cnt1]
    have := h.two m
    by_cases e : n = m
    · subst e; rw [if_pos rfl]; omega
    · rw [if_neg e]; omega
  · rw [cnt_app, cnt1, cnt_app, cnt1]
    have := h.one
    constructor
    · by_cases e : n = nRg
      · subst e; rw [if_pos rfl]; omega
      · rw [if_neg e]; omega
    · by_cases e : n = nIr
      · subst e; rw [if_pos rfl]; omega
      · rw [if_neg e]; omega
theorem FI.app2 {b : Tg} {ns : List (List Nat)} {ps : List Fd} (h : FI b ns ps) {n l l' : List Nat} (hn : n ∉ ns) (h1 : n ≠ nRg) (h2 : n ≠ nIr) (hr : Row b (n, l)) (hr' : Row b (n, l')) : FI b (n :: ns) (ps ++ [(n, l)] ++ [(n, l')]) := by
  have h0 : cnt n ps = 0 := cnt0 fun p hp e => hn (by rw [← e]; exact h.nm p hp)
  have ha := h.app1 hn hr
  refine ⟨?_, fun p hp => ?_, fun p hp => ?_, fun m => ?_, ?_⟩
  · have := h.len
    rw [List.length_append, List.length_append, List.length_cons]
    simp only [List.length_cons, List.length_nil]
    omega
  · exact (List.mem_append.mp hp).elim (ha.nm p) fun hp => by cases List.mem_singleton.mp hp; exact List.mem_cons_self ..
  · exact (List.mem_append.mp hp).elim (ha.row p) fun hp => by cases List.mem_singleton.mp hp; exact hr'
  · rw [cnt_app, cnt_app, cnt1, cnt1]
    have := h.two m
    by_cases e : n = m
    · subst e; rw [if_pos rfl]; omega
    · rw [if_neg e]; omega
  · exact ⟨by rw [cnt_app, cnt1, if_neg h1]; exact ha.one.1, by rw [cnt_app, cnt1, if_neg h2]; exact ha.one.2⟩
theorem FI.rot {b : Tg} {ns : List (List Nat)} {ps : List Fd} (h : FI b ns ps) (k : Nat) : FI b ns (ps.drop k ++ ps.take k) := by
  have e : ∀ n, cnt n (ps.drop k ++ ps.take k) = cnt n ps := fun n => by
    have := cnt_app n (ps.take k) (ps.drop k)
    rw [List.take_append_drop] at this
    rw [cnt_app]
    omega
  have hm : ∀ p, p ∈ ps.drop k ++ ps.take k → p ∈ ps := fun p hp => (List.mem_append.mp hp).elim List.mem_of_mem_drop List.mem_of_mem_take
  refine ⟨?_, fun p hp => h.nm p (hm p hp), fun p hp => h.row p (hm p hp), fun n => by rw [e]; exact h.two n, by rw [e, e]; exact h.one⟩
  have := h.len
  simp only [List.length_append, List.length_drop, List.length_take]
  omega
theorem dt_lo {v : List Nat} (h : v ∈ DT) : v.length ≤ 60 ∧ Lo v := by
  have := List.all_eq_true.mp dt_pl v h
  simp only [Bool.and_eq_true, decide_eq_true_eq, List.all_eq_true] at this
  exact ⟨this.1.2, Pl.lo this.1.1⟩
theorem row_tg {b : Tg} (hb : b ∈ BS) {n v : List Nat} (hn : n ∈ [nIm, nInm]) (hv : v ∈ TVL b) : Row b (n, v) := by
  have o := tv_ok hb hv
  have hne : ([nIm, nInm].all fun n => !decide (n = nIus) && !decide (n = nIms) && !decide (n = nRg) && !decide (n = nIr) && n.all fun c => decide (c < 128)) = true := by decide +kernel
  have := List.all_eq_true.mp hne n hn
  simp only [Bool.and_eq_true, Bool.not_eq_true', decide_eq_false_iff_not, List.all_eq_true, decide_eq_true_eq] at this
  exact ⟨fun _ => hv, fun z => absurd z (not_or.mpr ⟨this.1.1.1.1, this.1.1.1.2⟩), fun z => absurd z this.1.1.2, fun z => absurd z this.1.2, o.len, this.2, o.p.lo⟩
theorem row_dt {b : Tg} {n v : List Nat} (hn : n ∈ [nIus, nIms]) (hv : v ∈ DT) : Row b (n, v) := by
  have o := dt_lo hv
  have hne : ([nIus, nIms].all fun n => !decide (n = nIm) && !decide (n = nInm) && !decide (n = nRg) && !decide (n = nIr) && n.all fun c => decide (c < 128)) = true := by decide +kernel
  have := List.all_eq_true.mp hne n hn
  simp only [Bool.and_eq_true, Bool.not_eq_true', decide_eq_false_iff_not, List.all_eq_true, decide_eq_true_eq] at this
  exact ⟨fun z => absurd z (not_or.mpr ⟨this.1.1.1.1, this.1.1.1.2⟩), fun _ => hv, fun z => absurd z this.1.1.2, fun z => absurd z this.1.2, o.1, this.2, o.2⟩
theorem row_ir {b : Tg} (hb : b ∈ BS) {v : List Nat} (hv : v ∈ DT ∨ v ∈ TVL b) : Row b (nIr, v) := by
  have ho : v.length ≤ 60 ∧ Lo v := hv.elim dt_lo fun h => ⟨(tv_ok hb h).len, (tv_ok hb h).p.lo⟩
  exact ⟨fun z => absurd z (by show ¬ (nIr = nIm ∨ nIr = nInm); decide +kernel), fun z => absurd z (by show ¬ (nIr = nIus ∨ nIr = nIms); decide +kernel), fun z => absurd z (by show ¬ nIr = nRg; decide +kernel), fun _ => hv, ho.1, by show ∀ c ∈ nIr, c < 128; decide +kernel, ho.2⟩
theorem row_rg {b : Tg} : Row b (nRg, vRg) :=
  ⟨fun z => absurd z (by show ¬ (nRg = nIm ∨ nRg = nInm); decide +kernel), fun z => absurd z (by show ¬ (nRg = nIus ∨ nRg = nIms); decide +kernel), fun _ => rfl, fun z => absurd z (by show ¬ nRg = nIr; decide +kernel), by show vRg.length ≤ 60; decide, by show ∀ c ∈ nRg, c < 128; decide +kernel, by show ∀ c ∈ vRg, c < 128; decide +kernel⟩
theorem row_ac {b : Tg} : Row b (nAc, [42, 47, 42]) :=
  ⟨fun z => absurd z (by show ¬ (nAc = nIm ∨ nAc = nInm); decide +kernel), fun z => absurd z (by show ¬ (nAc = nIus ∨ nAc = nIms); decide +kernel), fun z => absurd z (by show ¬ nAc = nRg; decide +kernel), fun z => absurd z (by show ¬ nAc = nIr; decide +kernel), by show 3 ≤ 60; decide, by show ∀ c ∈ nAc, c < 128; decide +kernel, by show ∀ c ∈ ([42, 47, 42] : List Nat), c < 128; decide +kernel⟩
section
variable {t : Option Tg} {x4 x5 : Sl}
theorem itA (ht : t ∈ TGS) {ns : List (List Nat)} {n : List Nat} (hn : n ∉ ns) (hn2 : n ∈ [nIm, nInm]) (hns : ns.length ≤ 10) {d : List PyData} (hd : DrawOk d) {ps : List Fd} (hi : FI (bsF t) ns ps) {Q : Fl → En → Prop}
    (q : ∀ d' ps', DrawOk d' → FI (bsF t) (n :: ns) ps' → Q .nx [.own d', .dat (otD t), .own (pr ps'), .dat (.str (T n)), x4, x5]) :
    Ok (L__law_fields_1 [.own d, .dat (otD t), .own (pr ps), .dat (.str (T n)), x4, x5]) Q := by
  have hs := sizeLine_eq
  have hl := hi.len
  have hb := bs_in t ht
  have hne : n ≠ nRg ∧ n ≠ nIr := by
    have hne : ([nIm, nInm].all fun n => !decide (n = nRg) && !decide (n = nIr)) = true := by decide +kernel
    have := List.all_eq_true.mp hne n hn2
    simpa using this
  simp only [walkA, L__law_fields_1, tk]
  refine take_ok hd (by omega) (by omega) fun r d1 r0 r1 hd1 => ?_
  by_cases e : r = 0
  · simp only [walkA, e]
    refine tval_ok ht hd1 fun d2 v hd2 hv => ?_
    have hr := row_tg hb hn2 hv
    simp only [walkA, T__law_fields_1, tk, List.length_map]
    rw [pr_app]
    refine ⟨by omega, by omega, take_ok hd2 (by omega) (by omega) fun r d3 r0 r1 hd3 => ?_⟩
    by_cases e2 : r = 0
    · simp only [walkA, e2]
      refine tval_ok ht hd3 fun d4 w hd4 hw => ?_
      simp only [walkA, List.length_map, List.length_append, List.length_cons, List.length_nil]
      rw [pr_app]
      exact ⟨by omega, by omega, q d4 _ hd4 (hi.app2 hn hne.1 hne.2 hr (row_tg hb hn2 hw))⟩
    · simp only [walkA, e2]
      exact q d3 _ hd3 (hi.app1 hn hr)
  · simp only [walkA, e]
    exact q d1 _ hd1 (hi.skip n)
theorem itB {ns : List (List Nat)} {n : List Nat} (hn : n ∉ ns) (hn2 : n ∈ [nIus, nIms]) (hns : ns.length ≤ 10) {d : List PyData} (hd : DrawOk d) {ps : List Fd} (hi : FI (bsF t) ns ps) {Q : Fl → En → Prop}
    (q : ∀ d' ps', DrawOk d' → FI (bsF t) (n :: ns) ps' → Q .nx [.own d', .dat (otD t), .own (pr ps'), .dat (.str (T n)), x4, x5]) :
    Ok (L__law_fields_2 [.own d, .dat (otD t), .own (pr ps), .dat (.str (T n)), x4, x5]) Q := by
  have hs := sizeLine_eq
  have hl := hi.len
  have hne : n ≠ nRg ∧ n ≠ nIr := by
    have hne : ([nIus, nIms].all fun n => !decide (n = nRg) && !decide (n = nIr)) = true := by decide +kernel
    have := List.all_eq_true.mp hne n hn2
    simpa using this
  simp only [walkA, L__law_fields_2, tk]
  refine take_ok hd (by omega) (by omega) fun r d1 r0 r1 hd1 => ?_
  by_cases e : r = 0
  · simp only [walkA, e]
    refine time_ok hd1 fun d2 v hd2 hv => ?_
    have hr : Row (bsF t) (n, v.1) := row_dt hn2 (List.mem_map.mpr ⟨v, hv, rfl⟩)
    simp only [walkA, T__law_fields_2, tk, List.length_map]
    rw [pr_app]
    refine ⟨by omega, by omega, take_ok hd2 (by omega) (by omega) fun r d3 r0 r1 hd3 => ?_⟩
    by_cases e2 : r = 0
    · simp only [walkA, e2]
      refine time_ok hd3 fun d4 w hd4 hw => ?_
      simp only [walkA, List.length_map, List.length_append, List.length_cons, List.length_nil]
      rw [pr_app]
      exact ⟨by omega, by omega, q d4 _ hd4 (hi.app2 hn hne.1 hne.2 hr (row_dt hn2 (List.mem_map.mpr ⟨w, hw, rfl⟩)))⟩
    · simp only [walkA, e2]
      exact q d3 _ hd3 (hi.app1 hn hr)
  · simp only [walkA, e]
    exact q d1 _ hd1 (hi.skip n)
end
theorem rot {α : Type} (l : List α) (k : Nat) (h : k ≤ l.length) : cutL l (some (k : Int)) none = l.drop k ∧ cutL l none (some (k : Int)) = l.take k := by
  unfold cutL
  rw [sIx_nat, sIx_nat]
  have h1 : min k l.length = k := by omega
  rw [h1]
  refine ⟨?_, ?_⟩
  · show (l.drop k).take (l.length - k) = _
    exact List.take_of_length_le (by simp)
  · show (l.drop 0).take (k - 0) = _
    simp
def N7 : List (List Nat) := [nAc, nIr, nRg, nIms, nIus, nInm, nIm]
theorem fields_ok {t : Option Tg} (ht : t ∈ TGS) {d : List PyData} (hd : DrawOk d) {Q : Sl → En → Prop} (q : ∀ d' ps, DrawOk d' → FI (bsF t) N7 ps → Q (.dat (.tuple (pr ps))) [.own d', .un]) : Ok (S__law_fields [.own d, .dat (otD t)]) Q := by
  have hs := sizeLine_eq
  have hb := bs_in t ht
  have e1 : ([105, 102, 45, 109, 97, 116, 99, 104] : List Nat) = nIm := rfl
  have e2 : ([105, 102, 45, 110, 111, 110, 101, 45, 109, 97, 116, 99, 104] : List Nat) = nInm := rfl
  have e3 : ([105, 102, 45, 117, 110, 109, 111, 100, 105, 102, 105, 101, 100, 45, 115, 105, 110, 99, 101] : List Nat) = nIus := rfl
  have e4 : ([105, 102, 45, 109, 111, 100, 105, 102, 105, 101, 100, 45, 115, 105, 110, 99, 101] : List Nat) = nIms := rfl
  have e5 : ([114, 97, 110, 103, 101] : List Nat) = nRg := rfl
  have e6 : ([105, 102, 45, 114, 97, 110, 103, 101] : List Nat) = nIr := rfl
  have e7 : ([97, 99, 99, 101, 112, 116] : List Nat) = nAc := rfl
  have e8 : ([98, 121, 116, 101, 115, 61, 48, 45] : List Nat) = vRg := rfl
  have i0 : FI (bsF t) [] [] := ⟨by simp, (fun _ h => nomatch h), (fun _ h => nomatch h), fun n => by simp [cnt], by simp [cnt]⟩
  unfold S__law_fields
  rw [ok_runF]
  refine ⟨rfl, ?_⟩
  simp only [walkA, Y__law_fields, T__law_fields_10, e1, e2]
  refine ⟨by omega, by omega, ?_⟩
  rw [ok_forL_cons]
  show OkV (some [Sl.own d, .dat (otD t), .own [], .dat (.str (T nIm)), .un, .un]) _
  rw [okV_some]
  refine itA (ns := []) (ps := []) ht (by decide +kernel) (by decide +kernel) (by decide) hd i0 fun d1 p1 hd1 i1 => ?_
  show Ok (forL _ _ _ _) _
  rw [ok_forL_cons]
  show OkV (some [Sl.own d1, .dat (otD t), .own (pr p1), .dat (.str (T nInm)), .un, .un]) _
  rw [okV_some]
  refine itA (ns := [nIm]) ht (by decide +kernel) (by decide +kernel) (by decide) hd1 i1 fun d2 p2 hd2 i2 => ?_
  show Ok (forL _ _ _ _) _
  rw [ok_forL_nil]
  simp only [walkA, T__law_fields_9, e3, e4]
  refine ⟨by omega, ?_⟩
  rw [ok_forL_cons]
  show OkV (some [Sl.own d2, .dat (otD t), .own (pr p2), .dat (.str (T nIus)), .un, .un]) _
  rw [okV_some]
  refine itB (ns := [nInm, nIm]) (by decide +kernel) (by decide +kernel) (by decide) hd2 i2 fun d3 p3 hd3 i3 => ?_
  show Ok (forL _ _ _ _) _
  rw [ok_forL_cons]
  show OkV (some [Sl.own d3, .dat (otD t), .own (pr p3), .dat (.str (T nIms)), .un, .un]) _
  rw [okV_some]
  refine itB (ns := [nIus, nInm, nIm]) (by decide +kernel) (by decide +kernel) (by decide) hd3 i3 fun d4 p4 hd4 i4 => ?_
  show Ok (forL _ _ _ _) _
  rw [ok_forL_nil]
  have l4 := i4.len
  simp only [List.length_cons, List.length_nil] at l4
  simp only [walkA, T__law_fields_8, tk, e5, e8]
  refine take_ok hd4 (by omega) (by omega) fun r d5 r0 r1 hd5 => ?_
  have s7 : ∀ p5, FI (bsF t) [nRg, nIms, nIus, nInm, nIm] p5 → Ok (T__law_fields_7 [.own d5, .dat (otD t), .own (pr p5), .dat (.str (T nIms)), .un, .un]) fun fl E => match fl with
      | .rt s => OkV (Fw.collect [.own d, .dat (otD t)] E) fun outs => Q s outs
      | .nx => OkV (Fw.collect [.own d, .dat (otD t)] E) fun outs => Q (.dat .none) outs
      | _ => False := by
    intro p5 i5
    have l5 := i5.len
    simp only [List.length_cons, List.length_nil] at l5
    have s6 : ∀ d6 p6 x5, DrawOk d6 → FI (bsF t) [nIr, nRg, nIms, nIus, nInm, nIm] p6 → Ok (T__law_fields_6 [.own d6, .dat (otD t), .own (pr p6), .dat (.str (T nIms)), .un, x5]) fun fl E => match fl with
        | .rt s => OkV (Fw.collect [.own d, .dat (otD t)] E) fun outs => Q s outs
        | .nx => OkV (Fw.collect [.own d, .dat (otD t)] E) fun outs => Q (.dat .none) outs
        | _ => False := by
      intro d6 p6 x5 hd6 i6
      have l6 := i6.len
      simp only [List.length_cons, List.length_nil] at l6
      have i7 := i6.app1 (n := nAc) (by decide +kernel) row_ac
      have l7 : (p6 ++ [(nAc, [42, 47, 42])]).length ≤ 14 := i7.len
      have lpos : 0 < (p6 ++ [(nAc, ([42, 47, 42] : List Nat))]).length := by rw [List.length_append]; simp
      simp only [walkA, T__law_fields_6, e7, List.length_map]
      rw [pr_app]
      refine ⟨by omega, by omega, ?_⟩
      generalize p6 ++ [(nAc, ([42, 47, 42] : List Nat))] = p7 at i7 l7 lpos
      simp only [walkA, T__law_fields_5, List.length_map, tk]
      refine take_ok hd6 (by omega) (by omega) fun k d7 k0 k1 hd7 => ?_
      obtain ⟨n, rfl⟩ := Int.eq_ofNat_of_zero_le k0
      have hn : n ≤ p7.length := by omega
      have er := rot (pr p7) n (by rw [List.length_map]; exact hn)
      have eq2 : (pr p7).drop n ++ (pr p7).take n = pr (p7.drop n ++ p7.take n) := by unfold pr; rw [List.map_append, List.map_drop, List.map_take]
      simp only [walkA, T__law_fields_4, er.1, er.2, List.length_drop, List.length_take, List.length_map]
      refine ⟨by omega, ?_⟩
      rw [eq2]
      exact q d7 _ hd7 (i7.rot n)
    simp only [walkA, T__law_fields_7, tk]
    refine take_ok hd5 (by omega) (by omega) fun r d6 r0 r1 hd6 => ?_
    by_cases e : r = 0
    · simp only [walkA, e]
      refine time_ok hd6 fun d7 v hd7 hv => ?_
      simp only [walkA]
      refine tval_ok ht hd7 fun d8 w hd8 hw => ?_
      simp only [walkA, tk]
      refine ⟨by omega, take_ok hd8 (by omega) (by omega) fun r d9 r0 r1 hd9 => ?_⟩
      obtain ⟨x, hx, ex⟩ := at_T (ls := [v.1, w]) r0 r1
      simp only [ts, List.map_cons, List.map_nil] at ex
      simp only [walkA, ex, T__law_fields_3, e6, List.length_map]
      rw [pr_app]
      refine ⟨by omega, by omega, s6 _ _ _ hd9 (i5.app1 (by decide +kernel) (row_ir hb ?_))⟩
      simp only [List.mem_cons, List.not_mem_nil, or_false] at hx
      rcases hx with rfl | rfl
      · exact .inl (List.mem_map.mpr ⟨v, hv, rfl⟩)
      · exact .inr hw
    · simp only [walkA, e]
      exact s6 _ _ _ hd6 (i5.skip _)
  by_cases e : r = 0
  · simp only [walkA, e, List.length_map]
    rw [pr_app]
    exact ⟨by omega, by omega, s7 _ (i4.app1 (by decide +kernel) row_rg)⟩
  · simp only [walkA, e]
    exact s7 _ (i4.skip _)
end ownanswer_k62_conditions_judged
namespace ownanswer_k62_conditions_judged
open PySem PySem.Spec L2 Fw
local macro_rules | `(tactic| simp only [walkA, $xs,*] $[$l:location]?) => `(tactic| simp only [ok_some, ok_none, okV_some, okV_none, ↓okV_if, ↓ok_if, ↓ok_ret, ↓ok_bnd, ↓ok_lft, ↓ok_bin, ↓ok_una, ↓ok_binL, ↓ok_unaL, ↓ok_mny, ↓ok_rdD, ↓ok_rdO, ↓ok_rdA, ↓ok_toB, ↓ok_sAnd, ↓ok_sOr, ↓ok_sNot, ↓ok_vAnd, ↓ok_vOr, ↓ok_sIf, ↓ok_chn, ↓ok_sNil, ↓ok_sCons, ↓ok_dTup, ↓ok_dLst, ↓ok_m0S, ↓ok_m1S, ↓ok_m1L, ↓ok_ixO, ↓ok_sPart, ↓ok_sSl, ↓ok_tupO, ↓ok_sItems, ↓ok_sScr, ↓ok_sEnum, ↓ok_sRng1, ↓ok_sRng2, ↓ok_seqS, ↓ok_nxt, ↓ok_brkS, ↓ok_cntS, ↓ok_retN, ↓ok_drpS, ↓ok_asg, ↓ok_asgL, ↓ok_asgG, ↓ok_augS, ↓ok_ifS, ↓ok_retD, ↓ok_retL, ↓ok_retO, ↓ok_appO, ↓ok_setO, ↓ok_extO, ↓ok_popS, ↓ok_forS, ↓ok_forL_nil, ↓ok_lcS, ↓ok_lcL_nil, ↓okV_callD, ↓okV_callV, ↓ok_callM, ↓ok_asD, ↓ok_asL, ↓ok_callS, ↓ok_runF, ↓ok_rplS, ↓ok_tupA, ↓ok_strM, ↓ok_chn3, own?, toN, toT, toNs, wipE, bakE, stp_nx, stp_ct, stp_bk, stp_rt, Fw.collect, ok_yesS, List.getElem?_cons_zero, List.getElem?_cons_succ, List.set_cons_zero, List.set_cons_succ, List.map_cons, List.map_nil, List.length_cons, List.length_nil, List.cons_append, List.nil_append, List.replicate_succ, List.replicate_zero, Nat.reduceAdd, Nat.reduceSub, Nat.reduceLeDiff, Nat.reduceLT, Nat.reduceEqDiff, Int.reduceLT, Int.reduceLE, Int.reduceNeg, Int.reducePow, Int.reduceEq, Option.isSome_some, Option.map_some, Option.map_none, true_and, and_true, if_true, if_false, ite_true, ite_false, Bool.false_eq_true, reduceIte, reduceCtorEq, gAdd_ii, gAdd_ss, gAdd_tt, gSub_ii, gMul_ii, gDiv_ii, gMod_ii, gNeg_i, gLt_ii, gGt_ii, gGe_ii, gLe_ii, eqv_ii, eqv_ss, eqv_bb, eqv_nn, eqv_ni, eqv_in, eqv_ns, eqv_sn, eqv_nb, eqv_bn, eqv_is, eqv_si, eqv_nt, eqv_tn, eqv_nl, eqv_ln, eqv_tt, eqv_ll, eqvA_nn, eqvA_cc, eqvA_nc, eqvA_cn, gEq_ii, gEq_ss, gEq_bb, gEq_nn, gEq_in, gEq_ni, gEq_sn, gEq_ns, gEq_si, gEq_is, gNe_ii, gNe_ss, gNe_bb, gNe_nn, gNot_b, gIsN_n, gIsN_i, gIsN_b, gIsN_s, gIsN_t, gIsN_l, gNotN_n, gNotN_i, gNotN_b, gNotN_s, gNotN_t, gNotN_l, gIx_l, gIx_t, gIx_s, gLen_s, gLen_l, gLen_t, gAbs_i, gInt_i, gInt_b, gInt_s, gOrd_sign, gDivmod_ii, gStr_i, gStr_s, gTuple_l, gTuple_t, gStrip_s, gLstrip_s, gSplit_s, gPartition_s, gJoin_m, gCat_ll, gSl_s, gSl_t, gSl_l, itemsOf_l, itemsOf_t, itemsOf_s, ofString_inj, cMul_r, cMul_l, ixN_lit, atI_lit, atI_m1, cast_lit, String.reduceEq, decide_true, decide_false, Int.reduceSub, Int.reduceAdd, Int.reduceMul, Int.reduceToNat, T_toList, T_len, T_app, T_inj, T_sign, T_cut, T_signs, T_strip, T_empty, gIn_T, gNin_T, gLjust_T, lt_0, lt_1, lt_2, lt_3, lt_4, lt_5, lt_6, lt_7, lt_8, lt_9, lt_10, lt_11, lt_12, lt_13, lt_14, lt_15, lt_16, lt_17, lt_18, lt_19, lt_20, lt_21, lt_22, lt_23, lt_24, lt_25, lt_26, lt_27, lt_28, lt_29, lt_30, lt_31, lt_32, lt_33, lt_34, lt_35, lt_36, lt_37, lt_38, lt_39, lt_40, lt_41, lt_42, lt_43, lt_44, lt_45, lt_46, lt_47, lt_48, lt_49, lt_50, lt_51, lt_52, lt_53, lt_54, lt_55, lt_56, lt_57, lt_58, lt_59, $xs,*] $[$l:location]?)
local macro_rules | `(tactic| simp only [walkA] $[$l:location]?) => `(tactic| simp only [ok_some, ok_none, okV_some, okV_none, ↓okV_if, ↓ok_if, ↓ok_ret, ↓ok_bnd, ↓ok_lft, ↓ok_bin, ↓ok_una, ↓ok_binL, ↓ok_unaL, ↓ok_mny, ↓ok_rdD, ↓ok_rdO, ↓ok_rdA, ↓ok_toB, ↓ok_sAnd, ↓ok_sOr, ↓ok_sNot, ↓ok_vAnd, ↓ok_vOr, ↓ok_sIf, ↓ok_chn, ↓ok_sNil, ↓ok_sCons, ↓ok_dTup, ↓ok_dLst, ↓ok_m0S, ↓ok_m1S, ↓ok_m1L, ↓ok_ixO, ↓ok_sPart, ↓ok_sSl, ↓ok_tupO, ↓ok_sItems, ↓ok_sScr, ↓ok_sEnum, ↓ok_sRng1, ↓ok_sRng2, ↓ok_seqS, ↓ok_nxt, ↓ok_brkS, ↓ok_cntS, ↓ok_retN, ↓ok_drpS, ↓ok_asg, ↓ok_asgL, ↓ok_asgG, ↓ok_augS, ↓ok_ifS, ↓ok_retD, ↓ok_retL, ↓ok_retO, ↓ok_appO, ↓ok_setO, ↓ok_extO, ↓ok_popS, ↓ok_forS, ↓ok_forL_nil, ↓ok_lcS, ↓ok_lcL_nil, ↓okV_callD, ↓okV_callV, ↓ok_callM, ↓ok_asD, ↓ok_asL, ↓ok_callS, ↓ok_runF, ↓ok_rplS, ↓ok_tupA, ↓ok_strM, ↓ok_chn3, own?, toN, toT, toNs, wipE, bakE, stp_nx, stp_ct, stp_bk, stp_rt, Fw.collect, ok_yesS, List.getElem?_cons_zero, List.getElem?_cons_succ, List.set_cons_zero, List.set_cons_succ, List.map_cons, List.map_nil, List.length_cons, List.length_nil, List.cons_append, List.nil_append, List.replicate_succ, List.replicate_zero, Nat.reduceAdd, Nat.reduceSub, Nat.reduceLeDiff, Nat.reduceLT, Nat.reduceEqDiff, Int.reduceLT, Int.reduceLE, Int.reduceNeg, Int.reducePow, Int.reduceEq, Option.isSome_some, Option.map_some, Option.map_none, true_and, and_true, if_true, if_false, ite_true, ite_false, Bool.false_eq_true, reduceIte, reduceCtorEq, gAdd_ii, gAdd_ss, gAdd_tt, gSub_ii, gMul_ii, gDiv_ii, gMod_ii, gNeg_i, gLt_ii, gGt_ii, gGe_ii, gLe_ii, eqv_ii, eqv_ss, eqv_bb, eqv_nn, eqv_ni, eqv_in, eqv_ns, eqv_sn, eqv_nb, eqv_bn, eqv_is, eqv_si, eqv_nt, eqv_tn, eqv_nl, eqv_ln, eqv_tt, eqv_ll, eqvA_nn, eqvA_cc, eqvA_nc, eqvA_cn, gEq_ii, gEq_ss, gEq_bb, gEq_nn, gEq_in, gEq_ni, gEq_sn, gEq_ns, gEq_si, gEq_is, gNe_ii, gNe_ss, gNe_bb, gNe_nn, gNot_b, gIsN_n, gIsN_i, gIsN_b, gIsN_s, gIsN_t, gIsN_l, gNotN_n, gNotN_i, gNotN_b, gNotN_s, gNotN_t, gNotN_l, gIx_l, gIx_t, gIx_s, gLen_s, gLen_l, gLen_t, gAbs_i, gInt_i, gInt_b, gInt_s, gOrd_sign, gDivmod_ii, gStr_i, gStr_s, gTuple_l, gTuple_t, gStrip_s, gLstrip_s, gSplit_s, gPartition_s, gJoin_m, gCat_ll, gSl_s, gSl_t, gSl_l, itemsOf_l, itemsOf_t, itemsOf_s, ofString_inj, cMul_r, cMul_l, ixN_lit, atI_lit, atI_m1, cast_lit, String.reduceEq, decide_true, decide_false, Int.reduceSub, Int.reduceAdd, Int.reduceMul, Int.reduceToNat, T_toList, T_len, T_app, T_inj, T_sign, T_cut, T_signs, T_strip, T_empty, gIn_T, gNin_T, gLjust_T, lt_0, lt_1, lt_2, lt_3, lt_4, lt_5, lt_6, lt_7, lt_8, lt_9, lt_10, lt_11, lt_12, lt_13, lt_14, lt_15, lt_16, lt_17, lt_18, lt_19, lt_20, lt_21, lt_22, lt_23, lt_24, lt_25, lt_26, lt_27, lt_28, lt_29, lt_30, lt_31, lt_32, lt_33, lt_34, lt_35, lt_36, lt_37, lt_38, lt_39, lt_40, lt_41, lt_42, lt_43, lt_44, lt_45, lt_46, lt_47, lt_48, lt_49, lt_50, lt_51, lt_52, lt_53, lt_54, lt_55, lt_56, lt_57, lt_58, lt_59] $[$l:location]?)

open ownanswer_k51_lists_and_joined_values (ts pr Lo LoP valsOfV joinOfV vals_okV join_okV CU wW split_ok cutF cutF_len strOk_T trimL_mem shaped_lts gEq_lts join_boundV)
def jn (vs : List (List Nat)) : List Nat := ([44, 32] : List Nat).intercalate vs
def jo (vs : List (List Nat)) : Option (List Nat) := if vs = [] then none else some (jn vs)
def jnD : Option (List Nat) → PyData
  | none => .none
  | some J => .str (T J)
theorem join_jo (vs : List (List Nat)) : joinOfV vs = jnD (jo vs) := by
  unfold joinOfV jo
  split
  · rfl
  · rw [T_join]
    rfl
def N6 : List (List Nat) := [nIm, nInm, nIus, nIms, nRg, nIr]
def okT (r : Option PyData) (l : List Nat) : Bool := match r with
  | some (.str x) => decide (x.cps.toList = l)
  | _ => false
theorem okT_t {r : Option PyData} {l : List Nat} (h : okT r l = true) : r = some (PyData.str (T l)) := by
  unfold okT at h
  split at h
  · rename_i x
    rw [T_of x, of_decide_eq_true h]
  · cases h
theorem n6_low : ∀ n ∈ N6, gLower (T n) = some (.str (T n)) := by
  intro n hn
  exact okT_t (List.all_eq_true.mp (by decide +kernel : (N6.all fun n => okT (gLower (T n)) n) = true) n hn)
theorem vals_len (n : List Nat) (a : List Fd) : (valsOfV n a).length = cnt n a := by unfold valsOfV cnt; rw [List.length_map]
theorem vals_mem {n v : List Nat} {a : List Fd} (h : v ∈ valsOfV n a) : (n, v) ∈ a := by
  obtain ⟨p, hp, rfl⟩ := List.mem_map.mp h
  have := List.mem_filter.mp hp
  have e : p.1 = n := of_decide_eq_true this.2
  exact e ▸ this.1
section
variable {b : Tg} {ps : List Fd}
theorem FI.l14 (h : FI b N7 ps) : ps.length ≤ 14 := h.len
theorem joinv_ok (h : FI b N7 ps) {n : List Nat} (hn : n ∈ N6) {Q : Sl → En → Prop} (q : ∀ a c, Q (.dat (jnD (jo (valsOfV n ps)))) [a, c]) : Ok (S_join_values [.dat (.tuple (pr ps)), .dat (.str (T n))]) Q := by
  have hl := h.l14
  rw [jk]
  refine join_okV (n6_low n hn) (by omega) (fun p hp => by have := (h.row p hp).pl.1; omega) ?_
  rw [join_jo]
  exact q _ _
theorem ljoin_ok (h : FI b N7 ps) {n : List Nat} {Q : Sl → En → Prop} (q : ∀ a c, Q (.dat (jnD (jo (valsOfV n ps)))) [a, c]) : Ok (S__law_joined [.dat (.tuple (pr ps)), .dat (.str (T n))]) Q := by
  have hs := sizeLine_eq
  have hl := h.l14
  have h2 := h.two n
  rw [← vals_len] at h2
  unfold S__law_joined
  rw [ok_runF]
  refine ⟨rfl, ?_⟩
  simp only [walkA, Y__law_joined, List.length_map]
  refine ⟨by omega, ?_⟩
  refine lcL_map (fun p : Fd => PyData.tuple [.str (T p.1), .str (T p.2)]) (fun p => .str (T p.2)) (fun p => decide (p.1 = n)) ps _ (fun p hp => ?_) ?_
  · unfold turn
    simp only [walkA, C__law_joined_1, C__law_joined_2]
    by_cases hp1 : p.1 = n
    · simp only [walkA, hp1]
    · simp only [walkA, hp1]
  · have e1 : (ps.filter fun p => decide (p.1 = n)).map (fun p => PyData.str (T p.2)) = ts (valsOfV n ps) := by unfold valsOfV; simp [ts]
    rw [e1]
    have hlo : ∀ v ∈ valsOfV n ps, Lo v ∧ v.length ≤ 60 := fun v hv => ⟨(h.row _ (vals_mem hv)).pl.2.2, (h.row _ (vals_mem hv)).pl.1⟩
    have eN : gEq (.list (ts (valsOfV n ps))) (.list []) = some (.bool (decide (valsOfV n ps = []))) := gEq_lts (ys := []) (fun v hv => (hlo v hv).1) (fun _ h => nomatch h)
    unfold jo at q
    by_cases hv : valsOfV n ps = []
    · rw [if_pos hv] at q
      rw [decide_eq_true hv] at eN
      simp only [walkA, T__law_joined_1, eN]
      exact ⟨by omega, q _ _⟩
    · rw [if_neg hv] at q
      rw [decide_eq_false hv] at eN
      have hb := join_boundV (fun v hv => (hlo v hv).2) h2
      have e3 : ts (valsOfV n ps) = ((valsOfV n ps).map T).map .str := by rw [List.map_map]; rfl
      simp only [walkA, T__law_joined_1, eN]
      refine ⟨by omega, ?_⟩
      rw [e3]
      simp only [walkA, gJoin_m, T_join]
      exact ⟨by omega, q _ _⟩
theorem trim_44 {l : List Nat} (h : 44 ∈ l) : 44 ∈ trimL [32] l := by
  have dw : ∀ l : List Nat, 44 ∈ l → 44 ∈ l.dropWhile fun c => decide (c ∈ ([32] : List Nat)) := by
    intro l
    induction l with
    | nil => intro h; cases h
    | cons c l ih =>
      intro h
      rw [List.dropWhile_cons]
      split
      · rename_i hc
        rcases List.mem_cons.mp h with rfl | h
        · exact absurd hc (by decide)
        · exact ih h
      · exact h
  unfold trimL trimR
  exact List.mem_reverse.mpr (dw _ (List.mem_reverse.mpr (dw _ h)))
theorem nost_44 {l : List Nat} (h : 44 ∈ l) : NoSt l := by
  unfold NoSt
  rw [decide_eq_false (fun z => by have := trim_44 h; rw [z] at this; revert this; decide), decide_eq_false (fun z => by rw [z] at h; revert h; decide)]
theorem jn_1 (v : List Nat) : jn [v] = v := by simp [jn, List.intercalate, List.intersperse]
theorem jn_2 (v w : List Nat) : jn [v, w] = v ++ [44, 32] ++ w := by simp [jn, List.intercalate, List.intersperse]
structure JOk (J : List Nat) : Prop where
  p : Pl J
  len : J.length ≤ 130
  st : NoSt J
theorem pl_app {a c : List Nat} (ha : Pl a) (hc : Pl c) : Pl (a ++ c) := fun x hx => (List.mem_append.mp hx).elim (ha x) (hc x)
theorem pl_sep : Pl [44, 32] := by unfold Pl; decide
theorem tg_jo (hb : b ∈ BS) (h : FI b N7 ps) {n : List Nat} (hn : n = nIm ∨ n = nInm) {J : List Nat} (e : jo (valsOfV n ps) = some J) : JOk J := by
  have h2 := h.two n
  rw [← vals_len] at h2
  have hv : ∀ v ∈ valsOfV n ps, TvOk v := fun v hv => tv_ok hb ((h.row _ (vals_mem hv)).tg hn)
  unfold jo at e
  match hm : valsOfV n ps, h2, hv, e with
  | [], _, _, e => cases e
  | [v], _, hv, e =>
    have o := hv v (List.mem_cons_self ..)
    rw [if_neg (by simp), jn_1] at e
    cases e
    exact ⟨o.p, by have := o.len; omega, o.st⟩
  | [v, w], _, hv, e =>
    have o := hv v (List.mem_cons_self ..)
    have o2 := hv w (List.mem_cons_of_mem _ (List.mem_cons_self ..))
    rw [if_neg (by simp), jn_2] at e
    cases e
    refine ⟨pl_app (pl_app o.p pl_sep) o2.p, ?_, nost_44 (by simp)⟩
    have := o.len
    have := o2.len
    simp only [List.length_append, List.length_cons, List.length_nil]
    omega
theorem dt_jo (h : FI b N7 ps) {n : List Nat} (hn : n = nIus ∨ n = nIms) {J : List Nat} (e : jo (valsOfV n ps) = some J) : rdOk J = true := by
  have h2 := h.two n
  rw [← vals_len] at h2
  have hv : ∀ v ∈ valsOfV n ps, v ∈ DT := fun v hv => (h.row _ (vals_mem hv)).dt hn
  have hj : J ∈ DJ := by
    unfold jo at e
    match hm : valsOfV n ps, h2, hv, e with
    | [], _, _, e => cases e
    | [v], _, hv, e =>
      rw [if_neg (by simp), jn_1] at e
      have e := Option.some.inj e
      subst e
      exact List.mem_append_left _ (hv v (List.mem_cons_self ..))
    | [v, w], _, hv, e =>
      rw [if_neg (by simp), jn_2] at e
      cases e
      exact List.mem_append_right _ (List.mem_flatMap.mpr ⟨v, hv v (List.mem_cons_self ..), List.mem_map.mpr ⟨w, hv w (List.mem_cons_of_mem _ (List.mem_cons_self ..)), rfl⟩⟩)
  exact List.all_eq_true.mp dj_all J hj
theorem rg_jo (h : FI b N7 ps) {J : List Nat} (e : jo (valsOfV nRg ps) = some J) : J = vRg := by
  have h2 := h.one.1
  rw [← vals_len] at h2
  have hv : ∀ v ∈ valsOfV nRg ps, v = vRg := fun v hv => (h.row _ (vals_mem hv)).rg rfl
  unfold jo at e
  match hm : valsOfV nRg ps, h2, hv, e with
  | [], _, _, e => cases e
  | [v], _, hv, e =>
    rw [if_neg (by simp), jn_1] at e
    have e := Option.some.inj e
    subst e
    exact hv _ (List.mem_cons_self ..)
theorem ir_jo (hb : b ∈ BS) (h : FI b N7 ps) {J : List Nat} (e : jo (valsOfV nIr ps) = some J) : Pl J ∧ J.length ≤ 60 ∧ (rtF J = none → rdOk J = true) := by
  have h2 := h.one.2
  rw [← vals_len] at h2
  have hv : ∀ v ∈ valsOfV nIr ps, v ∈ DT ∨ v ∈ TVL b := fun v hv => (h.row _ (vals_mem hv)).ir rfl
  unfold jo at e
  match hm : valsOfV nIr ps, h2, hv, e with
  | [], _, _, e => cases e
  | [v], _, hv, e =>
    rw [if_neg (by simp), jn_1] at e
    have e := Option.some.inj e
    subst e
    rcases hv v (List.mem_cons_self ..) with hv | hv
    · have := List.all_eq_true.mp dt_pl v hv
      simp only [Bool.and_eq_true, decide_eq_true_eq, List.all_eq_true] at this
      exact ⟨this.1.1, this.1.2, fun _ => List.all_eq_true.mp dj_all v (List.mem_append_left _ hv)⟩
    · have o := tv_ok hb hv
      refine ⟨o.p, o.len, fun z => o.d.resolve_left ?_⟩
      rw [z]
      decide
theorem rd_now {J : List Nat} (h : rdOk J = true) {w : Int} (hw : w ∈ NOW) {Q : Sl → En → Prop} (q : ∀ E, Q (.dat (oD (dtF J))) E) : Ok (S_read_date [.dat (.str (T J)), .dat (.int w)]) Q := okO_t (List.all_eq_true.mp h w hw) q
def gF (n : List Nat) (ps : List Fd) : Tgs := match jo (valsOfV n ps) with
  | none => .none
  | some J => tgsF J
def lF (n : List Nat) (ps : List Fd) : Option Int := match jo (valsOfV n ps) with
  | none => none
  | some J => dtF J
theorem jtags_ok (hb : b ∈ BS) (h : FI b N7 ps) {n : List Nat} (hn : n = nIm ∨ n = nInm) {Q : Sl → En → Prop} (q : ∀ a c, Q (.dat (tgsD (gF n ps))) [a, c]) : Ok (S__joined_tags [.dat (.tuple (pr ps)), .dat (.str (T n))]) Q := by
  have hn6 : n ∈ N6 := by rcases hn with rfl | rfl <;> decide +kernel
  unfold S__joined_tags
  rw [ok_runF]
  refine ⟨rfl, ?_⟩
  simp only [walkA, Y__joined_tags]
  refine joinv_ok h hn6 fun a c => ?_
  unfold gF at q
  cases hj : jo (valsOfV n ps) with
  | none =>
    rw [hj] at q
    simp only [walkA, T__joined_tags_1, jnD]
    exact q _ _
  | some J =>
    rw [hj] at q
    have o := tg_jo hb h hn hj
    simp only [walkA, T__joined_tags_1, jnD]
    refine readtags_ok o.p (by have := o.len; omega) fun a => ?_
    exact q _ _
theorem jdate_ok (h : FI b N7 ps) {n : List Nat} (hn : n = nIus ∨ n = nIms) {w : Int} (hw : w ∈ NOW) {Q : Sl → En → Prop} (q : ∀ a c d, Q (.dat (oD (lF n ps))) [a, c, d]) : Ok (S__joined_date [.dat (.tuple (pr ps)), .dat (.str (T n)), .dat (.int w)]) Q := by
  have hn6 : n ∈ N6 := by rcases hn with rfl | rfl <;> decide +kernel
  unfold S__joined_date
  rw [ok_runF]
  refine ⟨rfl, ?_⟩
  simp only [walkA, Y__joined_date]
  refine joinv_ok h hn6 fun a c => ?_
  unfold lF at q
  cases hj : jo (valsOfV n ps) with
  | none =>
    rw [hj] at q
    simp only [walkA, T__joined_date_1, jnD]
    exact q _ _ _
  | some J =>
    rw [hj] at q
    simp only [walkA, T__joined_date_1, jnD]
    refine rd_now (dt_jo h hn hj) hw fun E => ?_
    exact q _ _ _
def DD : List (List Nat × Int) := [([83, 97, 116, 44, 32, 48, 52, 32, 77, 97, 114, 32, 50, 48, 49, 55, 32, 48, 53, 58, 48, 54, 58, 48, 55, 32, 71, 77, 84], 1488603967), ([83, 97, 116, 44, 32, 48, 52, 32, 77, 97, 114, 32, 50, 48, 49, 55, 32, 48, 53, 58, 48, 54, 58, 48, 56, 32, 71, 77, 84], 1488603968), ([83, 97, 116, 44, 32, 48, 52, 32, 77, 97, 114, 32, 50, 48, 49, 55, 32, 48, 53, 58, 48, 54, 58, 48, 54, 32, 71, 77, 84], 1488603966), ([83, 97, 116, 32, 77, 97, 114, 32, 32, 52, 32, 48, 53, 58, 48, 54, 58, 48, 55, 32, 50, 48, 49, 55], 1488603967)]
def ddD : List PyData := DD.map fun p => .tuple [.str (T p.1), .int p.2]
theorem dtF_DD (J : List Nat) : dtF J = (DD.find? fun p => decide (p.1 = J)).map (·.2) := by
  by_cases a1 : ([83, 97, 116, 44, 32, 48, 52, 32, 77, 97, 114, 32, 50, 48, 49, 55, 32, 48, 53, 58, 48, 54, 58, 48, 55, 32, 71, 77, 84] : List Nat) = J
  · subst a1; decide +kernel
  by_cases a2 : ([83, 97, 116, 44, 32, 48, 52, 32, 77, 97, 114, 32, 50, 48, 49, 55, 32, 48, 53, 58, 48, 54, 58, 48, 56, 32, 71, 77, 84] : List Nat) = J
  · subst a2; decide +kernel
  by_cases a3 : ([83, 97, 116, 44, 32, 48, 52, 32, 77, 97, 114, 32, 50, 48, 49, 55, 32, 48, 53, 58, 48, 54, 58, 48, 54, 32, 71, 77, 84] : List Nat) = J
  · subst a3; decide +kernel
  by_cases a4 : ([83, 97, 116, 32, 77, 97, 114, 32, 32, 52, 32, 48, 53, 58, 48, 54, 58, 48, 55, 32, 50, 48, 49, 55] : List Nat) = J
  · subst a4; decide +kernel
  by_cases a5 : ([77, 111, 110, 44, 32, 48, 52, 32, 77, 97, 114, 32, 50, 48, 49, 55, 32, 48, 53, 58, 48, 54, 58, 48, 55, 32, 71, 77, 84] : List Nat) = J
  · subst a5; decide +kernel
  by_cases a6 : ([115, 111, 111, 110] : List Nat) = J
  · subst a6; decide +kernel
  unfold dtF DTT DD
  simp only [List.find?_cons, List.find?_nil, decide_eq_false a1, decide_eq_false a2, decide_eq_false a3, decide_eq_false a4, decide_eq_false a5, decide_eq_false a6, Option.map_none]
theorem ldate_ok (h : FI b N7 ps) {n : List Nat} {Q : Sl → En → Prop} (q : ∀ a c d, Q (.dat (oD (lF n ps))) [a, c, d]) : Ok (S__law_date [.dat (.tuple (pr ps)), .dat (.str (T n)), .dat (.list ddD)]) Q := by
  have hs := sizeLine_eq
  unfold S__law_date
  rw [ok_runF]
  refine ⟨rfl, ?_⟩
  simp only [walkA, Y__law_date]
  refine ljoin_ok h fun a c => ?_
  unfold lF at q
  have loop : ∀ (L : List (List Nat × Int)) (o : Option (List Nat)) (x4 x5 : Sl), (∀ a c d, Q (.dat (oD (match o with | none => none | some J => (L.find? fun p => decide (p.1 = J)).map (·.2)))) [a, c, d]) → Ok (forL (toT [4, 5]) L__law_date_1 (L.map fun p => .tuple [.str (T p.1), .int p.2]) [.dat (.tuple (pr ps)), .dat (.str (T n)), .dat (.list ddD), .dat (jnD o), x4, x5]) fun fl E1 => match fl with
      | .nx => Ok (T__law_date_1 E1) fun fl E => match fl with
        | .rt s => OkV (Fw.collect [.dat (.tuple (pr ps)), .dat (.str (T n)), .dat (.list ddD)] E) fun outs => Q s outs
        | .nx => OkV (Fw.collect [.dat (.tuple (pr ps)), .dat (.str (T n)), .dat (.list ddD)] E) fun outs => Q (.dat .none) outs
        | _ => False
      | .rt s => OkV (Fw.collect [.dat (.tuple (pr ps)), .dat (.str (T n)), .dat (.list ddD)] E1) fun outs => Q s outs
      | _ => False := by
    intro L
    induction L with
    | nil =>
      intro o x4 x5 q
      rw [List.map_nil, ok_forL_nil]
      simp only [walkA, T__law_date_1]
      cases o <;> exact q _ _ _
    | cons p L ih =>
      intro o x4 x5 q
      rw [List.map_cons, ok_forL_cons]
      cases o with
      | none =>
        simp only [walkA, L__law_date_1, jnD]
        exact ih none _ _ q
      | some J =>
        simp only [walkA, L__law_date_1, jnD]
        by_cases hJ : p.1 = J
        · simp only [List.find?_cons, decide_eq_true hJ, Option.map_some] at q
          simp only [walkA, decide_eq_true hJ.symm]
          exact q _ _ _
        · simp only [List.find?_cons, decide_eq_false hJ] at q
          simp only [walkA, decide_eq_false (fun z : J = p.1 => hJ z.symm)]
          exact ih (some J) _ _ q
  have hq : ∀ a c d, Q (.dat (oD (match jo (valsOfV n ps) with | none => none | some J => (DD.find? fun p => decide (p.1 = J)).map (·.2)))) [a, c, d] := by
    intro a c d
    have := q a c d
    cases hj : jo (valsOfV n ps) with
    | none => rw [hj] at this; exact this
    | some J =>
      rw [hj] at this
      simp only at this ⊢
      rw [← dtF_DD]
      exact this
  have hl := loop DD (jo (valsOfV n ps)) .un .un hq
  cases hj : jo (valsOfV n ps) with
  | none =>
    rw [hj] at hl
    simp only [walkA, jnD, T__law_date_2] at hl ⊢
    refine hl.imp fun fl E h => ?_
    cases fl <;> exact h
  | some J =>
    rw [hj] at hl
    simp only [walkA, jnD, T__law_date_2] at hl ⊢
    refine hl.imp fun fl E h => ?_
    cases fl <;> exact h
end
end ownanswer_k62_conditions_judged
namespace ownanswer_k62_conditions_judged
open PySem PySem.Spec L2 Fw
local macro_rules | `(tactic| simp only [walkA, $xs,*] $[$l:location]?) => `(tactic| simp only [ok_some, ok_none, okV_some, okV_none, ↓okV_if, ↓ok_if, ↓ok_ret, ↓ok_bnd, ↓ok_lft, ↓ok_bin, ↓ok_una, ↓ok_binL, ↓ok_unaL, ↓ok_mny, ↓ok_rdD, ↓ok_rdO, ↓ok_rdA, ↓ok_toB, ↓ok_sAnd, ↓ok_sOr, ↓ok_sNot, ↓ok_vAnd, ↓ok_vOr, ↓ok_sIf, ↓ok_chn, ↓ok_sNil, ↓ok_sCons, ↓ok_dTup, ↓ok_dLst, ↓ok_m0S, ↓ok_m1S, ↓ok_m1L, ↓ok_ixO, ↓ok_sPart, ↓ok_sSl, ↓ok_tupO, ↓ok_sItems, ↓ok_sScr, ↓ok_sEnum, ↓ok_sRng1, ↓ok_sRng2, ↓ok_seqS, ↓ok_nxt, ↓ok_brkS, ↓ok_cntS, ↓ok_retN, ↓ok_drpS, ↓ok_asg, ↓ok_asgL, ↓ok_asgG, ↓ok_augS, ↓ok_ifS, ↓ok_retD, ↓ok_retL, ↓ok_retO, ↓ok_appO, ↓ok_setO, ↓ok_extO, ↓ok_popS, ↓ok_forS, ↓ok_forL_nil, ↓ok_lcS, ↓ok_lcL_nil, ↓okV_callD, ↓okV_callV, ↓ok_callM, ↓ok_asD, ↓ok_asL, ↓ok_callS, ↓ok_runF, ↓ok_rplS, ↓ok_tupA, ↓ok_strM, ↓ok_chn3, own?, toN, toT, toNs, wipE, bakE, stp_nx, stp_ct, stp_bk, stp_rt, Fw.collect, ok_yesS, List.getElem?_cons_zero, List.getElem?_cons_succ, List.set_cons_zero, List.set_cons_succ, List.map_cons, List.map_nil, List.length_cons, List.length_nil, List.cons_append, List.nil_append, List.replicate_succ, List.replicate_zero, Nat.reduceAdd, Nat.reduceSub, Nat.reduceLeDiff, Nat.reduceLT, Nat.reduceEqDiff, Int.reduceLT, Int.reduceLE, Int.reduceNeg, Int.reducePow, Int.reduceEq, Option.isSome_some, Option.map_some, Option.map_none, true_and, and_true, if_true, if_false, ite_true, ite_false, Bool.false_eq_true, reduceIte, reduceCtorEq, gAdd_ii, gAdd_ss, gAdd_tt, gSub_ii, gMul_ii, gDiv_ii, gMod_ii, gNeg_i, gLt_ii, gGt_ii, gGe_ii, gLe_ii, eqv_ii, eqv_ss, eqv_bb, eqv_nn, eqv_ni, eqv_in, eqv_ns, eqv_sn, eqv_nb, eqv_bn, eqv_is, eqv_si, eqv_nt, eqv_tn, eqv_nl, eqv_ln, eqv_tt, eqv_ll, eqvA_nn, eqvA_cc, eqvA_nc, eqvA_cn, gEq_ii, gEq_ss, gEq_bb, gEq_nn, gEq_in, gEq_ni, gEq_sn, gEq_ns, gEq_si, gEq_is, gNe_ii, gNe_ss, gNe_bb, gNe_nn, gNot_b, gIsN_n, gIsN_i, gIsN_b, gIsN_s, gIsN_t, gIsN_l, gNotN_n, gNotN_i, gNotN_b, gNotN_s, gNotN_t, gNotN_l, gIx_l, gIx_t, gIx_s, gLen_s, gLen_l, gLen_t, gAbs_i, gInt_i, gInt_b, gInt_s, gOrd_sign, gDivmod_ii, gStr_i, gStr_s, gTuple_l, gTuple_t, gStrip_s, gLstrip_s, gSplit_s, gPartition_s, gJoin_m, gCat_ll, gSl_s, gSl_t, gSl_l, itemsOf_l, itemsOf_t, itemsOf_s, ofString_inj, cMul_r, cMul_l, ixN_lit, atI_lit, atI_m1, cast_lit, String.reduceEq, decide_true, decide_false, Int.reduceSub, Int.reduceAdd, Int.reduceMul, Int.reduceToNat, T_toList, T_len, T_app, T_inj, T_sign, T_cut, T_signs, T_strip, T_empty, gIn_T, gNin_T, gLjust_T, lt_0, lt_1, lt_2, lt_3, lt_4, lt_5, lt_6, lt_7, lt_8, lt_9, lt_10, lt_11, lt_12, lt_13, lt_14, lt_15, lt_16, lt_17, lt_18, lt_19, lt_20, lt_21, lt_22, lt_23, lt_24, lt_25, lt_26, lt_27, lt_28, lt_29, lt_30, lt_31, lt_32, lt_33, lt_34, lt_35, lt_36, lt_37, lt_38, lt_39, lt_40, lt_41, lt_42, lt_43, lt_44, lt_45, lt_46, lt_47, lt_48, lt_49, lt_50, lt_51, lt_52, lt_53, lt_54, lt_55, lt_56, lt_57, lt_58, lt_59, $xs,*] $[$l:location]?)
local macro_rules | `(tactic| simp only [walkA] $[$l:location]?) => `(tactic| simp only [ok_some, ok_none, okV_some, okV_none, ↓okV_if, ↓ok_if, ↓ok_ret, ↓ok_bnd, ↓ok_lft, ↓ok_bin, ↓ok_una, ↓ok_binL, ↓ok_unaL, ↓ok_mny, ↓ok_rdD, ↓ok_rdO, ↓ok_rdA, ↓ok_toB, ↓ok_sAnd, ↓ok_sOr, ↓ok_sNot, ↓ok_vAnd, ↓ok_vOr, ↓ok_sIf, ↓ok_chn, ↓ok_sNil, ↓ok_sCons, ↓ok_dTup, ↓ok_dLst, ↓ok_m0S, ↓ok_m1S, ↓ok_m1L, ↓ok_ixO, ↓ok_sPart, ↓ok_sSl, ↓ok_tupO, ↓ok_sItems, ↓ok_sScr, ↓ok_sEnum, ↓ok_sRng1, ↓ok_sRng2, ↓ok_seqS, ↓ok_nxt, ↓ok_brkS, ↓ok_cntS, ↓ok_retN, ↓ok_drpS, ↓ok_asg, ↓ok_asgL, ↓ok_asgG, ↓ok_augS, ↓ok_ifS, ↓ok_retD, ↓ok_retL, ↓ok_retO, ↓ok_appO, ↓ok_setO, ↓ok_extO, ↓ok_popS, ↓ok_forS, ↓ok_forL_nil, ↓ok_lcS, ↓ok_lcL_nil, ↓okV_callD, ↓okV_callV, ↓ok_callM, ↓ok_asD, ↓ok_asL, ↓ok_callS, ↓ok_runF, ↓ok_rplS, ↓ok_tupA, ↓ok_strM, ↓ok_chn3, own?, toN, toT, toNs, wipE, bakE, stp_nx, stp_ct, stp_bk, stp_rt, Fw.collect, ok_yesS, List.getElem?_cons_zero, List.getElem?_cons_succ, List.set_cons_zero, List.set_cons_succ, List.map_cons, List.map_nil, List.length_cons, List.length_nil, List.cons_append, List.nil_append, List.replicate_succ, List.replicate_zero, Nat.reduceAdd, Nat.reduceSub, Nat.reduceLeDiff, Nat.reduceLT, Nat.reduceEqDiff, Int.reduceLT, Int.reduceLE, Int.reduceNeg, Int.reducePow, Int.reduceEq, Option.isSome_some, Option.map_some, Option.map_none, true_and, and_true, if_true, if_false, ite_true, ite_false, Bool.false_eq_true, reduceIte, reduceCtorEq, gAdd_ii, gAdd_ss, gAdd_tt, gSub_ii, gMul_ii, gDiv_ii, gMod_ii, gNeg_i, gLt_ii, gGt_ii, gGe_ii, gLe_ii, eqv_ii, eqv_ss, eqv_bb, eqv_nn, eqv_ni, eqv_in, eqv_ns, eqv_sn, eqv_nb, eqv_bn, eqv_is, eqv_si, eqv_nt, eqv_tn, eqv_nl, eqv_ln, eqv_tt, eqv_ll, eqvA_nn, eqvA_cc, eqvA_nc, eqvA_cn, gEq_ii, gEq_ss, gEq_bb, gEq_nn, gEq_in, gEq_ni, gEq_sn, gEq_ns, gEq_si, gEq_is, gNe_ii, gNe_ss, gNe_bb, gNe_nn, gNot_b, gIsN_n, gIsN_i, gIsN_b, gIsN_s, gIsN_t, gIsN_l, gNotN_n, gNotN_i, gNotN_b, gNotN_s, gNotN_t, gNotN_l, gIx_l, gIx_t, gIx_s, gLen_s, gLen_l, gLen_t, gAbs_i, gInt_i, gInt_b, gInt_s, gOrd_sign, gDivmod_ii, gStr_i, gStr_s, gTuple_l, gTuple_t, gStrip_s, gLstrip_s, gSplit_s, gPartition_s, gJoin_m, gCat_ll, gSl_s, gSl_t, gSl_l, itemsOf_l, itemsOf_t, itemsOf_s, ofString_inj, cMul_r, cMul_l, ixN_lit, atI_lit, atI_m1, cast_lit, String.reduceEq, decide_true, decide_false, Int.reduceSub, Int.reduceAdd, Int.reduceMul, Int.reduceToNat, T_toList, T_len, T_app, T_inj, T_sign, T_cut, T_signs, T_strip, T_empty, gIn_T, gNin_T, gLjust_T, lt_0, lt_1, lt_2, lt_3, lt_4, lt_5, lt_6, lt_7, lt_8, lt_9, lt_10, lt_11, lt_12, lt_13, lt_14, lt_15, lt_16, lt_17, lt_18, lt_19, lt_20, lt_21, lt_22, lt_23, lt_24, lt_25, lt_26, lt_27, lt_28, lt_29, lt_30, lt_31, lt_32, lt_33, lt_34, lt_35, lt_36, lt_37, lt_38, lt_39, lt_40, lt_41, lt_42, lt_43, lt_44, lt_45, lt_46, lt_47, lt_48, lt_49, lt_50, lt_51, lt_52, lt_53, lt_54, lt_55, lt_56, lt_57, lt_58, lt_59] $[$l:location]?)

open ownanswer_k51_lists_and_joined_values (ts pr Lo LoP valsOfV joinOfV vals_okV join_okV CU wW split_ok cutF cutF_len strOk_T trimL_mem shaped_lts gEq_lts join_boundV)
theorem optAll_len : ∀ (l : List (Option Tg)) (t : List Tg), optAll l = some t → t.length = l.length := fun l t h => by
  have := optAll_some l t h
  rw [this, List.length_map]
theorem tgs_len {l : List Nat} {t : List Tg} (e : tgsF l = .ls t) : t.length ≤ l.length + 1 := by
  unfold tgsF at e
  split at e
  · cases e
  · split at e
    · cases e
    · split at e
      · rename_i u hu
        cases e
        have := optAll_len _ _ hu
        rw [this, List.length_map]
        exact pcs_len l
      · cases e
def ctl (lt : Int → Int → Bool) (l om : Option Int) : Bool := match l, om with
  | some l, some m => lt m l
  | _, _ => false
def gtB (m l : Int) : Bool := decide (m > l)
def leB (m l : Int) : Bool := decide (m ≤ l)
def FZ (ps : List Fd) (t : Option Tg) (om : Option Int) : Bool := match jo (valsOfV nIm ps) with
  | some J => !mZ (tgsF J) t true
  | none => ctl gtB (lF nIus ps) om
def rdB (m : List Nat) : Bool := decide (m ∈ ([[71, 69, 84], [72, 69, 65, 68]] : List (List Nat)))
def isNone : Tgs → Bool
  | .none => true
  | _ => false
def KZ (m : List Nat) (ps : List Fd) (t : Option Tg) (om : Option Int) : Bool := if isNone (gF nInm ps) then rdB m && ctl leB (lF nIms ps) om else mZ (gF nInm ps) t false
def sm (w : Tg) (t : Option Tg) : Bool := match t with
  | some t => mS w t
  | none => false
def eqM (l om : Option Int) : Bool := match l with
  | some l => decide (some l = om)
  | none => false
def IZ (ps : List Fd) (t : Option Tg) (om : Option Int) : Bool := match jo (valsOfV nIr ps) with
  | none => true
  | some J => match rtF J with
    | some w => sm w t
    | none => eqM (dtF J) om
def WZ (m : List Nat) (ps : List Fd) (t : Option Tg) (om : Option Int) : Bool := decide (m = [71, 69, 84]) && ((jo (valsOfV nRg ps)).isSome && IZ ps t om)
def JZ (m : List Nat) (ps : List Fd) (t : Option Tg) (om : Option Int) : Int × Bool := if FZ ps t om then (412, true) else if KZ m ps t om then (if rdB m then 304 else 412, true) else (0, !WZ m ps t om)
theorem gIn_rd (m : List Nat) : gIn (.str (T m)) (.tuple [.str (T [71, 69, 84]), .str (T [72, 69, 65, 68])]) = some (.bool (rdB m)) ∧ gIn (.str (T m)) (.list [.str (T [71, 69, 84]), .str (T [72, 69, 65, 68])]) = some (.bool (rdB m)) := by
  have e : ([PyData.str (T [71, 69, 84]), .str (T [72, 69, 65, 68])].any fun y => PyData.eqv y (.str (T m))) = rdB m := by
    simp only [List.any_cons, List.any_nil, eqv_ss, T_inj, Bool.or_false]
    by_cases h1 : ([71, 69, 84] : List Nat) = m
    · subst h1; decide +kernel
    by_cases h2 : ([72, 69, 65, 68] : List Nat) = m
    · subst h2; decide +kernel
    unfold rdB
    rw [decide_eq_false h1, decide_eq_false h2, decide_eq_false]
    · rfl
    · simp only [List.mem_cons, List.not_mem_nil, or_false]
      exact not_or.mpr ⟨fun z => h1 z.symm, fun z => h2 z.symm⟩
  exact ⟨by rw [gIn_tf rfl rfl, e], by rw [gIn_lf rfl rfl, e]⟩
section
variable {t : Option Tg} {ps : List Fd} {om : Option Int} {w : Int} {m : List Nat}
theorem hg_ok (hb : bsF t ∈ BS) (h : FI (bsF t) N7 ps) {n : List Nat} (hn : n = nIm ∨ n = nInm) : ∀ l, gF n ps = .ls l → l.length ≤ 1000 ∧ ∀ x ∈ l, LoT x := by
  intro l e
  unfold gF at e
  cases hj : jo (valsOfV n ps) with
  | none => rw [hj] at e; cases e
  | some J =>
    rw [hj] at e
    have o := tg_jo hb h hn hj
    have := tgs_len e
    have := o.len
    exact ⟨by omega, tgs_ls o.p e⟩
theorem fails_ok (ht : t ∈ TGS) (h : FI (bsF t) N7 ps) (hw : w ∈ NOW) {Q : Sl → En → Prop} (q : ∀ a b c d, Q (.dat (.bool (FZ ps t om))) [a, b, c, d]) : Ok (S__fails [.dat (.tuple (pr ps)), .dat (otD t), .dat (oD om), .dat (.int w)]) Q := by
  have hs := sizeLine_eq
  have hb := bs_in t ht
  have e1 : ([105, 102, 45, 109, 97, 116, 99, 104] : List Nat) = nIm := rfl
  have e2 : ([105, 102, 45, 117, 110, 109, 111, 100, 105, 102, 105, 101, 100, 45, 115, 105, 110, 99, 101] : List Nat) = nIus := rfl
  unfold S__fails
  rw [ok_runF]
  refine ⟨rfl, ?_⟩
  simp only [walkA, Y__fails, e1]
  refine joinv_ok h (by decide +kernel) fun a c => ?_
  unfold FZ at q
  have hgg := hg_ok hb h (n := nIm) (.inl rfl)
  cases hj : jo (valsOfV nIm ps) with
  | some J =>
    rw [hj] at q
    simp only [walkA, jnD, e1]
    refine jtags_ok hb h (.inl rfl) fun a c => ?_
    simp only [walkA]
    refine matches_ok hgg fun a b c => ?_
    have eg : gF nIm ps = tgsF J := by unfold gF; rw [hj]
    rw [eg]
    simp only [walkA]
    exact q _ _ _ _
  | none =>
    rw [hj] at q
    simp only [walkA, jnD, T__fails_2, e2]
    refine jdate_ok h (.inl rfl) hw fun a b c => ?_
    simp only [walkA, T__fails_1]
    cases hl : lF nIus ps with
    | none =>
      rw [hl] at q
      simp only [walkA, oD]
      exact q _ _ _ _
    | some l =>
      rw [hl] at q
      cases om with
      | none => simp only [walkA, oD]; exact q _ _ _ _
      | some m => simp only [walkA, oD]; exact q _ _ _ _
theorem known_ok (ht : t ∈ TGS) (h : FI (bsF t) N7 ps) (hw : w ∈ NOW) {Q : Sl → En → Prop} (q : ∀ a b c d e, Q (.dat (.bool (KZ m ps t om))) [a, b, c, d, e]) : Ok (S__is_known [.dat (.str (T m)), .dat (.tuple (pr ps)), .dat (otD t), .dat (oD om), .dat (.int w)]) Q := by
  have hs := sizeLine_eq
  have hb := bs_in t ht
  have e1 : ([105, 102, 45, 110, 111, 110, 101, 45, 109, 97, 116, 99, 104] : List Nat) = nInm := rfl
  have e2 : ([105, 102, 45, 109, 111, 100, 105, 102, 105, 101, 100, 45, 115, 105, 110, 99, 101] : List Nat) = nIms := rfl
  have hgg := hg_ok hb h (n := nInm) (.inr rfl)
  unfold S__is_known
  rw [ok_runF]
  refine ⟨rfl, ?_⟩
  simp only [walkA, Y__is_known, e1]
  refine jtags_ok hb h (.inr rfl) fun a c => ?_
  unfold KZ at q
  have mt : isNone (gF nInm ps) = false → Ok (S__matches [.dat (tgsD (gF nInm ps)), .dat (otD t), .dat (.bool false)]) fun s E => s = .dat (.bool (mZ (gF nInm ps) t false)) := fun _ => matches_ok hgg fun a b c => rfl
  cases hg : gF nInm ps with
  | none =>
    rw [hg] at q
    simp only [isNone, if_true] at q
    simp only [walkA, tgsD, T__is_known_3, T__is_known_2, e2]
    refine jdate_ok h (.inr rfl) hw fun a b c => ?_
    simp only [walkA, T__is_known_1, (gIn_rd m).1]
    cases hr : rdB m with
    | false =>
      rw [hr] at q
      simp only [walkA]
      exact q _ _ _ _ _
    | true =>
      rw [hr] at q
      simp only [walkA]
      cases hl : lF nIms ps with
      | none => rw [hl] at q; simp only [walkA, oD]; exact q _ _ _ _ _
      | some l =>
        rw [hl] at q
        cases om with
        | none => simp only [walkA, oD]; exact q _ _ _ _ _
        | some m => simp only [walkA, oD]; exact q _ _ _ _ _
  | star =>
    rw [hg] at q hgg
    simp only [isNone, Bool.false_eq_true, if_false] at q
    simp only [walkA, tgsD, T__is_known_3]
    refine matches_ok (g := .star) hgg fun a b c => ?_
    simp only [walkA]
    exact q _ _ _ _ _
  | ls l =>
    rw [hg] at q hgg
    simp only [isNone, Bool.false_eq_true, if_false] at q
    simp only [walkA, tgsD, T__is_known_3]
    refine matches_ok (g := .ls l) hgg fun a b c => ?_
    simp only [walkA]
    exact q _ _ _ _ _
def okNN (r : Option (Sl × En)) : Bool := match r with
  | some (.dat (.none), _) => false
  | some (.dat (.list _), _) => true
  | some (.own _, _) => true
  | _ => false
theorem rg_ok : okNN (S_read_ranges [.dat (.str (T vRg)), .dat (.int 0)]) = true := by decide +kernel
theorem wants_ok (ht : t ∈ TGS) (h : FI (bsF t) N7 ps) (hw : w ∈ NOW) {Q : Sl → En → Prop} (q : ∀ a b c d e, Q (.dat (.bool (WZ m ps t om))) [a, b, c, d, e]) : Ok (S__wants_part [.dat (.str (T m)), .dat (.tuple (pr ps)), .dat (otD t), .dat (oD om), .dat (.int w)]) Q := by
  have hs := sizeLine_eq
  have hb := bs_in t ht
  have e1 : ([114, 97, 110, 103, 101] : List Nat) = nRg := rfl
  have e2 : ([105, 102, 45, 114, 97, 110, 103, 101] : List Nat) = nIr := rfl
  unfold S__wants_part
  rw [ok_runF]
  refine ⟨rfl, ?_⟩
  simp only [walkA, Y__wants_part, e1]
  refine joinv_ok h (by decide +kernel) fun a c => ?_
  unfold WZ at q
  simp only [walkA, T__wants_part_7]
  by_cases hm : m = [71, 69, 84]
  · have hm' : decide (m = ([71, 69, 84] : List Nat)) = true := decide_eq_true hm
    simp only [hm', Bool.true_and] at q
    simp only [walkA, hm', Bool.not_true]
    cases hj : jo (valsOfV nRg ps) with
    | none =>
      rw [hj] at q
      simp only [walkA, jnD]
      exact q _ _ _ _ _
    | some J =>
      rw [hj] at q
      have eJ := rg_jo h hj
      subst eJ
      simp only [Option.isSome_some, Bool.true_and] at q
      simp only [walkA, jnD]
      have hr := rg_ok
      have tail : Ok (T__wants_part_6 [.dat (.str (T m)), .dat (.tuple (pr ps)), .dat (otD t), .dat (oD om), .dat (.int w), .dat (.str (T vRg)), .un, .un, .un]) fun fl E => match fl with
          | .rt s => OkV (Fw.collect [.dat (.str (T m)), .dat (.tuple (pr ps)), .dat (otD t), .dat (oD om), .dat (.int w)] E) fun outs => Q s outs
          | .nx => OkV (Fw.collect [.dat (.str (T m)), .dat (.tuple (pr ps)), .dat (otD t), .dat (oD om), .dat (.int w)] E) fun outs => Q (.dat .none) outs
          | _ => False := by
        simp only [walkA, T__wants_part_6, e2]
        refine joinv_ok h (by decide +kernel) fun a c => ?_
        unfold IZ at q
        cases hi : jo (valsOfV nIr ps) with
        | none =>
          rw [hi] at q
          simp only [walkA, jnD, T__wants_part_5]
          exact q _ _ _ _ _
        | some J =>
          rw [hi] at q
          obtain ⟨o1, o2, o3⟩ := ir_jo hb h hi
          simp only [walkA, jnD, T__wants_part_5, T__wants_part_4]
          refine readtag_ok o1 (by omega) fun a => ?_
          cases hrt : rtF J with
          | some w' =>
            rw [show (match some J with | none => true | some J => match rtF J with | some w => sm w t | none => eqM (dtF J) om) = sm w' t by simp only [hrt]] at q
            have eN : gNotN (tgD w') = some (.bool true) := rfl
            cases t with
            | none => simp only [walkA, otD, T__wants_part_3, eN]; exact q _ _ _ _ _
            | some t' =>
              have eT : gNotN (tgD t') = some (.bool true) := rfl
              simp only [walkA, otD, T__wants_part_3, eN, eT]
              refine strong_ok ?_
              simp only [walkA]
              exact q _ _ _ _ _
          | none =>
            rw [show (match some J with | none => true | some J => match rtF J with | some w => sm w t | none => eqM (dtF J) om) = eqM (dtF J) om by simp only [hrt]] at q
            simp only [walkA, otD, T__wants_part_3, T__wants_part_2]
            refine rd_now (o3 hrt) hw fun E => ?_
            cases hd : dtF J with
            | none => rw [hd] at q; simp only [walkA, oD, T__wants_part_1]; exact q _ _ _ _ _
            | some l =>
              rw [hd] at q
              cases om with
              | none =>
                simp only [walkA, oD, T__wants_part_1]
                exact q _ _ _ _ _
              | some k =>
                simp only [walkA, oD, T__wants_part_1]
                have : eqM (some l) (some k) = decide (l = k) := by unfold eqM; simp
                rw [this] at q
                exact q _ _ _ _ _
      unfold okNN at hr
      split at hr
      · cases hr
      · rename_i x E e
        rw [e]
        refine ⟨_, _, rfl, ?_⟩
        simp only [walkA]
        exact tail
      · rename_i x E e
        rw [e]
        refine ⟨_, _, rfl, ?_⟩
        simp only [walkA]
        exact tail
      · cases hr
  · have hm' : decide (m = ([71, 69, 84] : List Nat)) = false := decide_eq_false hm
    simp only [hm', Bool.false_and] at q
    simp only [walkA, hm', Bool.not_false]
    exact q _ _ _ _ _
theorem judge_ok (ht : t ∈ TGS) (h : FI (bsF t) N7 ps) (hw : w ∈ NOW) {Q : Sl → En → Prop} (q : ∀ a b c d e, Q (.dat (.tuple [.int (JZ m ps t om).1, .bool (JZ m ps t om).2])) [a, b, c, d, e]) : Ok (S_judge [.dat (.str (T m)), .dat (.tuple (pr ps)), .dat (otD t), .dat (oD om), .dat (.int w)]) Q := by
  have hs := sizeLine_eq
  unfold S_judge
  rw [ok_runF]
  refine ⟨rfl, ?_⟩
  unfold JZ at q
  simp only [walkA, Y_judge]
  refine fails_ok ht h hw fun a b c d => ?_
  cases hF : FZ ps t om with
  | true =>
    rw [hF] at q
    simp only [walkA]
    exact q _ _ _ _ _
  | false =>
    rw [hF] at q
    simp only [Bool.false_eq_true, if_false] at q
    simp only [walkA, T_judge_2]
    refine known_ok ht h hw fun a b c d e => ?_
    cases hK : KZ m ps t om with
    | true =>
      rw [hK] at q
      simp only [if_true] at q
      simp only [walkA, (gIn_rd m).1]
      cases hr : rdB m with
      | true => rw [hr] at q; simp only [walkA]; exact q _ _ _ _ _
      | false => rw [hr] at q; simp only [walkA]; exact q _ _ _ _ _
    | false =>
      rw [hK] at q
      simp only [Bool.false_eq_true, if_false] at q
      simp only [walkA, T_judge_1]
      refine wants_ok ht h hw fun a b c d e => ?_
      simp only [walkA]
      exact ⟨by omega, q _ _ _ _ _⟩
end
end ownanswer_k62_conditions_judged
namespace ownanswer_k62_conditions_judged
open PySem PySem.Spec L2 Fw
local macro_rules | `(tactic| simp only [walkA, $xs,*] $[$l:location]?) => `(tactic| simp only [ok_some, ok_none, okV_some, okV_none, ↓okV_if, ↓ok_if, ↓ok_ret, ↓ok_bnd, ↓ok_lft, ↓ok_bin, ↓ok_una, ↓ok_binL, ↓ok_unaL, ↓ok_mny, ↓ok_rdD, ↓ok_rdO, ↓ok_rdA, ↓ok_toB, ↓ok_sAnd, ↓ok_sOr, ↓ok_sNot, ↓ok_vAnd, ↓ok_vOr, ↓ok_sIf, ↓ok_chn, ↓ok_sNil, ↓ok_sCons, ↓ok_dTup, ↓ok_dLst, ↓ok_m0S, ↓ok_m1S, ↓ok_m1L, ↓ok_ixO, ↓ok_sPart, ↓ok_sSl, ↓ok_tupO, ↓ok_sItems, ↓ok_sScr, ↓ok_sEnum, ↓ok_sRng1, ↓ok_sRng2, ↓ok_seqS, ↓ok_nxt, ↓ok_brkS, ↓ok_cntS, ↓ok_retN, ↓ok_drpS, ↓ok_asg, ↓ok_asgL, ↓ok_asgG, ↓ok_augS, ↓ok_ifS, ↓ok_retD, ↓ok_retL, ↓ok_retO, ↓ok_appO, ↓ok_setO, ↓ok_extO, ↓ok_popS, ↓ok_forS, ↓ok_forL_nil, ↓ok_lcS, ↓ok_lcL_nil, ↓okV_callD, ↓okV_callV, ↓ok_callM, ↓ok_asD, ↓ok_asL, ↓ok_callS, ↓ok_runF, ↓ok_rplS, ↓ok_tupA, ↓ok_strM, ↓ok_chn3, own?, toN, toT, toNs, wipE, bakE, stp_nx, stp_ct, stp_bk, stp_rt, Fw.collect, ok_yesS, List.getElem?_cons_zero, List.getElem?_cons_succ, List.set_cons_zero, List.set_cons_succ, List.map_cons, List.map_nil, List.length_cons, List.length_nil, List.cons_append, List.nil_append, List.replicate_succ, List.replicate_zero, Nat.reduceAdd, Nat.reduceSub, Nat.reduceLeDiff, Nat.reduceLT, Nat.reduceEqDiff, Int.reduceLT, Int.reduceLE, Int.reduceNeg, Int.reducePow, Int.reduceEq, Option.isSome_some, Option.map_some, Option.map_none, true_and, and_true, if_true, if_false, ite_true, ite_false, Bool.false_eq_true, reduceIte, reduceCtorEq, gAdd_ii, gAdd_ss, gAdd_tt, gSub_ii, gMul_ii, gDiv_ii, gMod_ii, gNeg_i, gLt_ii, gGt_ii, gGe_ii, gLe_ii, eqv_ii, eqv_ss, eqv_bb, eqv_nn, eqv_ni, eqv_in, eqv_ns, eqv_sn, eqv_nb, eqv_bn, eqv_is, eqv_si, eqv_nt, eqv_tn, eqv_nl, eqv_ln, eqv_tt, eqv_ll, eqvA_nn, eqvA_cc, eqvA_nc, eqvA_cn, gEq_ii, gEq_ss, gEq_bb, gEq_nn, gEq_in, gEq_ni, gEq_sn, gEq_ns, gEq_si, gEq_is, gNe_ii, gNe_ss, gNe_bb, gNe_nn, gNot_b, gIsN_n, gIsN_i, gIsN_b, gIsN_s, gIsN_t, gIsN_l, gNotN_n, gNotN_i, gNotN_b, gNotN_s, gNotN_t, gNotN_l, gIx_l, gIx_t, gIx_s, gLen_s, gLen_l, gLen_t, gAbs_i, gInt_i, gInt_b, gInt_s, gOrd_sign, gDivmod_ii, gStr_i, gStr_s, gTuple_l, gTuple_t, gStrip_s, gLstrip_s, gSplit_s, gPartition_s, gJoin_m, gCat_ll, gSl_s, gSl_t, gSl_l, itemsOf_l, itemsOf_t, itemsOf_s, ofString_inj, cMul_r, cMul_l, ixN_lit, atI_lit, atI_m1, cast_lit, String.reduceEq, decide_true, decide_false, Int.reduceSub, Int.reduceAdd, Int.reduceMul, Int.reduceToNat, T_toList, T_len, T_app, T_inj, T_sign, T_cut, T_signs, T_strip, T_empty, gIn_T, gNin_T, gLjust_T, lt_0, lt_1, lt_2, lt_3, lt_4, lt_5, lt_6, lt_7, lt_8, lt_9, lt_10, lt_11, lt_12, lt_13, lt_14, lt_15, lt_16, lt_17, lt_18, lt_19, lt_20, lt_21, lt_22, lt_23, lt_24, lt_25, lt_26, lt_27, lt_28, lt_29, lt_30, lt_31, lt_32, lt_33, lt_34, lt_35, lt_36, lt_37, lt_38, lt_39, lt_40, lt_41, lt_42, lt_43, lt_44, lt_45, lt_46, lt_47, lt_48, lt_49, lt_50, lt_51, lt_52, lt_53, lt_54, lt_55, lt_56, lt_57, lt_58, lt_59, $xs,*] $[$l:location]?)
local macro_rules | `(tactic| simp only [walkA] $[$l:location]?) => `(tactic| simp only [ok_some, ok_none, okV_some, okV_none, ↓okV_if, ↓ok_if, ↓ok_ret, ↓ok_bnd, ↓ok_lft, ↓ok_bin, ↓ok_una, ↓ok_binL, ↓ok_unaL, ↓ok_mny, ↓ok_rdD, ↓ok_rdO, ↓ok_rdA, ↓ok_toB, ↓ok_sAnd, ↓ok_sOr, ↓ok_sNot, ↓ok_vAnd, ↓ok_vOr, ↓ok_sIf, ↓ok_chn, ↓ok_sNil, ↓ok_sCons, ↓ok_dTup, ↓ok_dLst, ↓ok_m0S, ↓ok_m1S, ↓ok_m1L, ↓ok_ixO, ↓ok_sPart, ↓ok_sSl, ↓ok_tupO, ↓ok_sItems, ↓ok_sScr, ↓ok_sEnum, ↓ok_sRng1, ↓ok_sRng2, ↓ok_seqS, ↓ok_nxt, ↓ok_brkS, ↓ok_cntS, ↓ok_retN, ↓ok_drpS, ↓ok_asg, ↓ok_asgL, ↓ok_asgG, ↓ok_augS, ↓ok_ifS, ↓ok_retD, ↓ok_retL, ↓ok_retO, ↓ok_appO, ↓ok_setO, ↓ok_extO, ↓ok_popS, ↓ok_forS, ↓ok_forL_nil, ↓ok_lcS, ↓ok_lcL_nil, ↓okV_callD, ↓okV_callV, ↓ok_callM, ↓ok_asD, ↓ok_asL, ↓ok_callS, ↓ok_runF, ↓ok_rplS, ↓ok_tupA, ↓ok_strM, ↓ok_chn3, own?, toN, toT, toNs, wipE, bakE, stp_nx, stp_ct, stp_bk, stp_rt, Fw.collect, ok_yesS, List.getElem?_cons_zero, List.getElem?_cons_succ, List.set_cons_zero, List.set_cons_succ, List.map_cons, List.map_nil, List.length_cons, List.length_nil, List.cons_append, List.nil_append, List.replicate_succ, List.replicate_zero, Nat.reduceAdd, Nat.reduceSub, Nat.reduceLeDiff, Nat.reduceLT, Nat.reduceEqDiff, Int.reduceLT, Int.reduceLE, Int.reduceNeg, Int.reducePow, Int.reduceEq, Option.isSome_some, Option.map_some, Option.map_none, true_and, and_true, if_true, if_false, ite_true, ite_false, Bool.false_eq_true, reduceIte, reduceCtorEq, gAdd_ii, gAdd_ss, gAdd_tt, gSub_ii, gMul_ii, gDiv_ii, gMod_ii, gNeg_i, gLt_ii, gGt_ii, gGe_ii, gLe_ii, eqv_ii, eqv_ss, eqv_bb, eqv_nn, eqv_ni, eqv_in, eqv_ns, eqv_sn, eqv_nb, eqv_bn, eqv_is, eqv_si, eqv_nt, eqv_tn, eqv_nl, eqv_ln, eqv_tt, eqv_ll, eqvA_nn, eqvA_cc, eqvA_nc, eqvA_cn, gEq_ii, gEq_ss, gEq_bb, gEq_nn, gEq_in, gEq_ni, gEq_sn, gEq_ns, gEq_si, gEq_is, gNe_ii, gNe_ss, gNe_bb, gNe_nn, gNot_b, gIsN_n, gIsN_i, gIsN_b, gIsN_s, gIsN_t, gIsN_l, gNotN_n, gNotN_i, gNotN_b, gNotN_s, gNotN_t, gNotN_l, gIx_l, gIx_t, gIx_s, gLen_s, gLen_l, gLen_t, gAbs_i, gInt_i, gInt_b, gInt_s, gOrd_sign, gDivmod_ii, gStr_i, gStr_s, gTuple_l, gTuple_t, gStrip_s, gLstrip_s, gSplit_s, gPartition_s, gJoin_m, gCat_ll, gSl_s, gSl_t, gSl_l, itemsOf_l, itemsOf_t, itemsOf_s, ofString_inj, cMul_r, cMul_l, ixN_lit, atI_lit, atI_m1, cast_lit, String.reduceEq, decide_true, decide_false, Int.reduceSub, Int.reduceAdd, Int.reduceMul, Int.reduceToNat, T_toList, T_len, T_app, T_inj, T_sign, T_cut, T_signs, T_strip, T_empty, gIn_T, gNin_T, gLjust_T, lt_0, lt_1, lt_2, lt_3, lt_4, lt_5, lt_6, lt_7, lt_8, lt_9, lt_10, lt_11, lt_12, lt_13, lt_14, lt_15, lt_16, lt_17, lt_18, lt_19, lt_20, lt_21, lt_22, lt_23, lt_24, lt_25, lt_26, lt_27, lt_28, lt_29, lt_30, lt_31, lt_32, lt_33, lt_34, lt_35, lt_36, lt_37, lt_38, lt_39, lt_40, lt_41, lt_42, lt_43, lt_44, lt_45, lt_46, lt_47, lt_48, lt_49, lt_50, lt_51, lt_52, lt_53, lt_54, lt_55, lt_56, lt_57, lt_58, lt_59] $[$l:location]?)

open ownanswer_k51_lists_and_joined_values (ts pr Lo LoP valsOfV joinOfV vals_okV join_okV CU wW split_ok cutF cutF_len strOk_T trimL_mem shaped_lts gEq_lts join_boundV shaped_pr eqvAll_pr)
theorem gNotN_tgs (g : Tgs) : gNotN (tgsD g) = some (.bool (!isNone g)) := by cases g <;> rfl
theorem gIsN_tgs (g : Tgs) : gIsN (tgsD g) = some (.bool (isNone g)) := by cases g <;> rfl
section
variable {t : Option Tg} {ps : List Fd} {om : Option Int} {w : Int} {m : List Nat}
theorem lwhole_ok (ht : t ∈ TGS) (h : FI (bsF t) N7 ps) {Q : Sl → En → Prop} (q : ∀ a b c d e, Q (.dat (.bool (!WZ m ps t om))) [a, b, c, d, e]) : Ok (S__law_whole [.dat (.str (T m)), .dat (.tuple (pr ps)), .dat (otD t), .dat (oD om), .dat (.list ddD)]) Q := by
  have hs := sizeLine_eq
  have hb := bs_in t ht
  have e1 : ([114, 97, 110, 103, 101] : List Nat) = nRg := rfl
  have e2 : ([105, 102, 45, 114, 97, 110, 103, 101] : List Nat) = nIr := rfl
  unfold S__law_whole
  rw [ok_runF]
  refine ⟨rfl, ?_⟩
  simp only [walkA, Y__law_whole]
  unfold WZ at q
  by_cases hm : m = [71, 69, 84]
  · have hm' : decide (m = ([71, 69, 84] : List Nat)) = true := decide_eq_true hm
    simp only [hm', Bool.true_and] at q
    simp only [walkA, hm', Bool.not_true, e1]
    refine ljoin_ok h fun a c => ?_
    cases hj : jo (valsOfV nRg ps) with
    | none =>
      rw [hj] at q
      simp only [walkA, jnD]
      exact q _ _ _ _ _
    | some J =>
      rw [hj] at q
      simp only [Option.isSome_some, Bool.true_and] at q
      simp only [walkA, jnD, T__law_whole_6, e2]
      refine ljoin_ok h fun a c => ?_
      cases hi : jo (valsOfV nIr ps) with
      | none =>
        have hI : IZ ps t om = true := by unfold IZ; rw [hi]
        rw [hI] at q
        simp only [walkA, jnD, T__law_whole_5]
        exact q _ _ _ _ _
      | some J =>
        obtain ⟨o1, o2, o3⟩ := ir_jo hb h hi
        simp only [walkA, jnD, T__law_whole_5, T__law_whole_4]
        refine lreadtag_ok o1 (by omega) fun a => ?_
        cases hrt : rtF J with
        | some w' =>
          rw [show IZ ps t om = sm w' t by unfold IZ; rw [hi]; simp only [hrt]] at q
          have eN : gNotN (tgD w') = some (.bool true) := rfl
          cases t with
          | none => simp only [walkA, otD, T__law_whole_3, eN]; exact q _ _ _ _ _
          | some t' =>
            have eT : gIsN (tgD t') = some (.bool false) := rfl
            simp only [walkA, otD, T__law_whole_3, eN, eT]
            refine lstrong_ok ?_
            simp only [walkA]
            exact q _ _ _ _ _
        | none =>
          rw [show IZ ps t om = eqM (dtF J) om by unfold IZ; rw [hi]; simp only [hrt]] at q
          simp only [walkA, otD, T__law_whole_3, T__law_whole_2, e2]
          refine ldate_ok h fun a b c => ?_
          have el : lF nIr ps = dtF J := by unfold lF; rw [hi]
          rw [el]
          cases hd : dtF J with
          | none => rw [hd] at q; simp only [walkA, oD, T__law_whole_1]; exact q _ _ _ _ _
          | some l =>
            rw [hd] at q
            cases om with
            | none =>
              have hne : gNe .none (.int l) = some (.bool true) := rfl
              simp only [walkA, oD, T__law_whole_1, hne]
              exact q _ _ _ _ _
            | some k =>
              simp only [walkA, oD, T__law_whole_1]
              have : eqM (some l) (some k) = decide (k = l) := by unfold eqM; simp [eq_comm]
              rw [this] at q
              exact q _ _ _ _ _
  · have hm' : decide (m = ([71, 69, 84] : List Nat)) = false := decide_eq_false hm
    simp only [hm', Bool.false_and] at q
    simp only [walkA, hm', Bool.not_false]
    exact q _ _ _ _ _
theorem ljudge_ok (ht : t ∈ TGS) (h : FI (bsF t) N7 ps) {Q : Sl → En → Prop} (q : ∀ a b c d e, Q (.dat (.tuple [.int (JZ m ps t om).1, .bool (JZ m ps t om).2])) [a, b, c, d, e]) : Ok (S__law_judge [.dat (.str (T m)), .dat (.tuple (pr ps)), .dat (otD t), .dat (oD om), .dat (.list ddD)]) Q := by
  have hs := sizeLine_eq
  have hb := bs_in t ht
  have e1 : ([105, 102, 45, 109, 97, 116, 99, 104] : List Nat) = nIm := rfl
  have e2 : ([105, 102, 45, 110, 111, 110, 101, 45, 109, 97, 116, 99, 104] : List Nat) = nInm := rfl
  have e3 : ([105, 102, 45, 117, 110, 109, 111, 100, 105, 102, 105, 101, 100, 45, 115, 105, 110, 99, 101] : List Nat) = nIus := rfl
  have e4 : ([105, 102, 45, 109, 111, 100, 105, 102, 105, 101, 100, 45, 115, 105, 110, 99, 101] : List Nat) = nIms := rfl
  unfold S__law_judge
  rw [ok_runF]
  refine ⟨rfl, ?_⟩
  unfold JZ at q
  simp only [walkA, Y__law_judge, (gIn_rd m).2, T__law_judge_9, e1]
  refine ⟨by omega, ?_⟩
  refine ljoin_ok h fun a c => ?_
  have t7 : FZ ps t om = false → ∀ x6 x8 x9, Ok (T__law_judge_7 [.dat (.str (T m)), .dat (.tuple (pr ps)), .dat (otD t), .dat (oD om), .dat (.list ddD), .dat (.bool (rdB m)), x6, .un, x8, x9]) fun fl E => match fl with
      | .rt s => OkV (Fw.collect [.dat (.str (T m)), .dat (.tuple (pr ps)), .dat (otD t), .dat (oD om), .dat (.list ddD)] E) fun outs => Q s outs
      | .nx => OkV (Fw.collect [.dat (.str (T m)), .dat (.tuple (pr ps)), .dat (otD t), .dat (oD om), .dat (.list ddD)] E) fun outs => Q (.dat .none) outs
      | _ => False := by
    intro hF x6 x8 x9
    rw [hF] at q
    simp only [Bool.false_eq_true, if_false] at q
    have last : KZ m ps t om = false → ∀ x7 x8 x9, Ok (T__law_judge_4 [.dat (.str (T m)), .dat (.tuple (pr ps)), .dat (otD t), .dat (oD om), .dat (.list ddD), .dat (.bool (rdB m)), x6, x7, x8, x9]) fun fl E => match fl with
        | .rt s => OkV (Fw.collect [.dat (.str (T m)), .dat (.tuple (pr ps)), .dat (otD t), .dat (oD om), .dat (.list ddD)] E) fun outs => Q s outs
        | .nx => OkV (Fw.collect [.dat (.str (T m)), .dat (.tuple (pr ps)), .dat (otD t), .dat (oD om), .dat (.list ddD)] E) fun outs => Q (.dat .none) outs
        | _ => False := by
      intro hK x7 x8 x9
      rw [hK] at q
      simp only [Bool.false_eq_true, if_false] at q
      simp only [walkA, T__law_judge_4]
      refine lwhole_ok ht h fun a b c d e => ?_
      simp only [walkA]
      exact ⟨by omega, q _ _ _ _ _⟩
    simp only [walkA, T__law_judge_7, e2]
    refine ljoin_ok h fun a c => ?_
    have hgg := hg_ok hb h (n := nInm) (.inr rfl)
    have t5 : ∀ x7, Ok (T__law_judge_5 [.dat (.str (T m)), .dat (.tuple (pr ps)), .dat (otD t), .dat (oD om), .dat (.list ddD), .dat (.bool (rdB m)), x6, x7, .dat (tgsD (gF nInm ps)), x9]) fun fl E => match fl with
        | .rt s => OkV (Fw.collect [.dat (.str (T m)), .dat (.tuple (pr ps)), .dat (otD t), .dat (oD om), .dat (.list ddD)] E) fun outs => Q s outs
        | .nx => OkV (Fw.collect [.dat (.str (T m)), .dat (.tuple (pr ps)), .dat (otD t), .dat (oD om), .dat (.list ddD)] E) fun outs => Q (.dat .none) outs
        | _ => False := by
      intro x7
      cases hn : isNone (gF nInm ps) with
      | true =>
        have hK : KZ m ps t om = (rdB m && ctl leB (lF nIms ps) om) := by unfold KZ; rw [hn]; rfl
        simp only [walkA, T__law_judge_5, gNotN_tgs, hn, Bool.not_true, e4]
        refine ldate_ok h fun a b c => ?_
        cases hr : rdB m with
        | false =>
          rw [hr, Bool.false_and] at hK
          have := last hK
          rw [hr] at this
          simp only [walkA, T__law_judge_3]
          exact this _ _ _
        | true =>
          rw [hr, Bool.true_and] at hK
          rw [hr] at last q
          cases hl : lF nIms ps with
          | none =>
            rw [hl] at hK
            have := last hK
            simp only [walkA, T__law_judge_3, oD]
            exact this _ _ _
          | some l =>
            rw [hl] at hK
            cases om with
            | none =>
              have := last hK
              simp only [walkA, T__law_judge_3, oD] at this ⊢
              exact this _ _ _
            | some k =>
              by_cases hle : k ≤ l
              · have hK' : KZ m ps t (some k) = true := by rw [hK]; exact decide_eq_true hle
                rw [hK'] at q
                simp only [if_true] at q
                simp only [walkA, T__law_judge_3, oD, decide_eq_true hle]
                exact ⟨by omega, q _ _ _ _ _⟩
              · have hK' : KZ m ps t (some k) = false := by rw [hK]; exact decide_eq_false hle
                have := last hK'
                simp only [walkA, T__law_judge_3, oD, decide_eq_false hle] at this ⊢
                exact this _ _ _
      | false =>
        have hK : KZ m ps t om = mZ (gF nInm ps) t false := by unfold KZ; rw [hn]; rfl
        simp only [walkA, T__law_judge_5, gNotN_tgs, hn, Bool.not_false]
        refine among_ok (fun z => by rw [z] at hn; cases hn) hgg fun a b c => ?_
        cases hmz : mZ (gF nInm ps) t false with
        | true =>
          rw [hK, hmz] at q
          simp only [if_true] at q
          simp only [walkA]
          cases hr : rdB m with
          | true => rw [hr] at q; simp only [walkA]; exact ⟨by omega, q _ _ _ _ _⟩
          | false => rw [hr] at q; simp only [walkA]; exact ⟨by omega, q _ _ _ _ _⟩
        | false =>
          rw [hmz] at hK
          have := last hK
          simp only [walkA]
          exact this _ _ _
    cases hj : jo (valsOfV nInm ps) with
    | none =>
      have eg : gF nInm ps = .none := by unfold gF; rw [hj]
      rw [eg] at t5
      simp only [tgsD] at t5
      simp only [walkA, T__law_judge_6, jnD]
      exact t5 _
    | some J =>
      have eg : gF nInm ps = tgsF J := by unfold gF; rw [hj]
      rw [eg] at t5
      have o := tg_jo hb h (.inr rfl) hj
      simp only [walkA, T__law_judge_6, jnD]
      refine lreadtags_ok o.p o.st (by have := o.len; omega) fun a => ?_
      simp only [walkA]
      exact t5 _
  have hgg := hg_ok hb h (n := nIm) (.inl rfl)
  cases hj : jo (valsOfV nIm ps) with
  | some J =>
    have hFZ : FZ ps t om = !mZ (tgsF J) t true := by unfold FZ; rw [hj]
    have eg : gF nIm ps = tgsF J := by unfold gF; rw [hj]
    rw [eg] at hgg
    have o := tg_jo hb h (.inl rfl) hj
    simp only [walkA, T__law_judge_8, jnD]
    refine lreadtags_ok o.p o.st (by have := o.len; omega) fun a => ?_
    cases hn : isNone (tgsF J) with
    | true =>
      have : mZ (tgsF J) t true = false := by
        revert hn
        cases tgsF J <;> intro hn
        · rfl
        · cases hn
        · cases hn
      rw [hFZ, this] at q
      simp only [Bool.not_false, if_true] at q
      simp only [walkA, T__law_judge_1, gIsN_tgs, hn]
      exact ⟨by omega, q _ _ _ _ _⟩
    | false =>
      simp only [walkA, T__law_judge_1, gIsN_tgs, hn]
      refine among_ok (fun z => by rw [z] at hn; cases hn) hgg fun a b c => ?_
      cases hmz : mZ (tgsF J) t true with
      | true =>
        rw [hmz] at hFZ
        simp only [walkA, Bool.not_true]
        exact t7 hFZ _ _ _
      | false =>
        rw [hFZ, hmz] at q
        simp only [Bool.not_false, if_true] at q
        simp only [walkA, Bool.not_false]
        exact ⟨by omega, q _ _ _ _ _⟩
  | none =>
    have hFZ : FZ ps t om = ctl gtB (lF nIus ps) om := by unfold FZ; rw [hj]
    simp only [walkA, T__law_judge_8, jnD, e3]
    refine ldate_ok h fun a b c => ?_
    cases hl : lF nIus ps with
    | none =>
      rw [hl] at hFZ
      have := t7 hFZ
      simp only [walkA, T__law_judge_2, oD]
      exact this _ _ _
    | some l =>
      rw [hl] at hFZ
      cases om with
      | none =>
        have := t7 hFZ
        simp only [walkA, T__law_judge_2, oD] at this ⊢
        exact this _ _ _
      | some k =>
        by_cases hgt : k > l
        · have hF' : FZ ps t (some k) = true := by rw [hFZ]; exact decide_eq_true hgt
          rw [hF'] at q
          simp only [if_true] at q
          simp only [walkA, T__law_judge_2, oD, decide_eq_true hgt]
          exact ⟨by omega, q _ _ _ _ _⟩
        · have hF' : FZ ps t (some k) = false := by rw [hFZ]; exact decide_eq_false hgt
          have := t7 hF'
          simp only [walkA, T__law_judge_2, oD, decide_eq_false hgt] at this ⊢
          exact this _ _ _
end
def ML6 : List (List Nat) := [[71, 69, 84], [71, 69, 84], [72, 69, 65, 68], [80, 85, 84], [80, 79, 83, 84], [68, 69, 76, 69, 84, 69]]
def OM : List (Option Int) := [some 1488603967, some 1488603967, some 1488603890, none]
theorem isi_bool (b : Bool) : gIsi "bool" (.bool b) = some (.bool true) := rfl
theorem gNe_jz (i : Int) (b : Bool) : gNe (.tuple [.int i, .bool b]) (.tuple [.int i, .bool b]) = some (.bool false) := by
  have sh : SeqAt.shaped (.tuple [.int i, .bool b]) = true := by simp [SeqAt.shaped, PyData.canLay0, PyData.canLayAll0, PyData.depth, PyData.depthAll]
  rw [gNe_tt, if_pos (by rw [sh]; rfl)]
  simp [eqvA_cc, eqvA_nn, eqv_ii, eqv_bb]
theorem gNe_pr {ps : List Fd} (h : LoP ps) : gNe (.tuple (pr ps)) (.tuple (pr ps)) = some (.bool false) := by
  rw [gNe_tt, if_pos (by rw [shaped_pr h]; rfl), eqvAll_pr]
  rfl
theorem law_true (ns : List Int) (h : ns.length ≤ 63) : ∃ outs, S_law [.scr ns] = some (.dat (.bool true), outs) := by
  have goal : Ok (S_law [.scr ns]) fun r _ => r = .dat (.bool true) := by
    have hs := sizeLine_eq
    unfold S_law
    rw [ok_runF]
    refine ⟨rfl, ?_⟩
    simp only [walkA, Y_law, dk]
    refine draw_ok h fun d hd => ?_
    simp only [walkA, T_law_12, T_law_11]
    refine ⟨by omega, by omega, by omega, by omega, by omega, by omega, by omega, ?_⟩
    simp only [walkA, T_law_10]
    refine forL_inv' (fun E => ∃ d' a3 a4 a5 a6 a7 a8 a9 a10 a11, DrawOk d' ∧ E = [.scr ns, .own d', .dat (.list ddD), a3, a4, a5, a6, a7, a8, a9, a10, a11]) _ _ _ ⟨d, .un, .un, .un, .un, .un, .un, .un, .un, .un, hd, rfl⟩ ?_ ?_
    · rintro z hz E ⟨d', a3, a4, a5, a6, a7, a8, a9, a10, a11, hd', rfl⟩
      simp only [walkA, L_law_1, tk]
      refine ⟨by omega, take_ok hd' (by omega) (by omega) fun r d1 r0 r1 hd1 => ?_⟩
      obtain ⟨m, hm, em⟩ := at_T (ls := ML6) r0 r1
      simp only [ML6, ts, List.map_cons, List.map_nil] at em
      simp only [walkA, em, T_law_8, tk]
      refine ⟨by omega, by omega, by omega, by omega, by omega, take_ok hd1 (by omega) (by omega) fun r d2 r0 r1 hd2 => ?_⟩
      obtain ⟨t, ht, et⟩ := at_M (f := otD) (ls := TGS) r0 r1
      rw [show TGS.map otD = [.tuple [.bool false, .str (T [97])], .tuple [.bool true, .str (T [97])], .tuple [.bool false, .str (T [])], .tuple [.bool false, .str (T [120, 44, 121])], .none] from rfl] at et
      simp only [walkA, et, T_law_7, tk]
      refine ⟨by omega, take_ok hd2 (by omega) (by omega) fun r d3 r0 r1 hd3 => ?_⟩
      obtain ⟨om, hom, eo⟩ := at_M (f := oD) (ls := OM) r0 r1
      rw [show OM.map oD = [.int 1488603967, .int 1488603967, .int 1488603890, .none] from rfl] at eo
      simp only [walkA, eo, T_law_6]
      refine fields_ok ht hd3 fun d4 ps hd4 hi => ?_
      have hl := hi.l14
      have hgl : gList (.tuple (pr ps)) = some (pr ps) := rfl
      simp only [walkA, T_law_5, hgl, T_law_4, tk]
      refine ⟨by omega, take_ok hd4 (by omega) (by omega) fun r d5 r0 r1 hd5 => ?_⟩
      obtain ⟨w, hw, ew⟩ := at_I (ls := NOW) r0 r1
      rw [show NOW.map PyData.int = [.int 0, .int 1488603967, .int 2000000000] from rfl] at ew
      simp only [walkA, ew, T_law_3]
      refine judge_ok ht hi hw fun a b c d e => ?_
      simp only [walkA, T_law_2]
      refine ljudge_ok ht hi fun a b c d e => ?_
      have hlo : LoP ps := fun p hp => (hi.row p hp).pl.2
      simp only [walkA, T_law_1, gNe_jz, isi_bool, gNe_pr hlo, Bool.not_true, stp]
      exact ⟨_, _, _, _, _, _, _, _, _, _, hd5, rfl⟩
    · rintro E ⟨d', a3, a4, a5, a6, a7, a8, a9, a10, a11, hd', rfl⟩
      simp only [walkA, T_law_9]
  obtain ⟨a, E, e, rfl⟩ := goal
  exact ⟨E, e⟩
end ownanswer_k62_conditions_judged
namespace ownanswer_k62_conditions_judged
open PySem PySem.Spec L2 Fw
open PyProof.Rows hiding St
def topS (i : Nat) : Stmt := PySem.Challenge.pw_ownanswer_k62_conditions_judged.main.body.getD i (.Pass ⟨0, 0, 0, 0⟩)
structure Blt (mg : Str → Option Value) : Prop where
  z : True
  b_abs : mg "abs" = none
  b_all : mg "all" = none
  b_any : mg "any" = none
  b_bool : mg "bool" = none
  b_divmod : mg "divmod" = none
  b_enumerate : mg "enumerate" = none
  b_int : mg "int" = none
  b_isinstance : mg "isinstance" = none
  b_len : mg "len" = none
  b_list : mg "list" = none
  b_max : mg "max" = none
  b_min : mg "min" = none
  b_ord : mg "ord" = none
  b_range : mg "range" = none
  b_tuple : mg "tuple" = none
structure Cns (K : PySem.W.Frag) (mg : Str → Option Value) : Prop where
  z : True
  c_DIGITS : Cn K mg "DIGITS" (.str "0123456789")
  c_LEAPS_BEFORE_FIRST : Cn K mg "LEAPS_BEFORE_FIRST" (.int 477)
  c_FIRST_YEAR : Cn K mg "FIRST_YEAR" (.int 1970)
  c_QUOTE : Cn K mg "QUOTE" (.str "\"")
  c_BACKSLASH : Cn K mg "BACKSLASH" (.str "\\")
  c_MONTH_DAYS : Cn K mg "MONTH_DAYS" (.tuple [(.int 31), (.int 28), (.int 31), (.int 30), (.int 31), (.int 30), (.int 31), (.int 31), (.int 30), (.int 31), (.int 30), (.int 31)])
  c_MOST_DIGITS : Cn K mg "MOST_DIGITS" (.int 15)
  c_STAR : Cn K mg "STAR" (.str "*")
  c_DAY : Cn K mg "DAY" (.int 86400)
  c_WEEKDAYS : Cn K mg "WEEKDAYS" (.tuple [(.str "Monday"), (.str "Tuesday"), (.str "Wednesday"), (.str "Thursday"), (.str "Friday"), (.str "Saturday"), (.str "Sunday")])
  c_FIRST_WEEKDAY : Cn K mg "FIRST_WEEKDAY" (.int 3)
  c_MONTHS : Cn K mg "MONTHS" (.tuple [(.str "Jan"), (.str "Feb"), (.str "Mar"), (.str "Apr"), (.str "May"), (.str "Jun"), (.str "Jul"), (.str "Aug"), (.str "Sep"), (.str "Oct"), (.str "Nov"), (.str "Dec")])
  c_LAST_YEAR : Cn K mg "LAST_YEAR" (.int 9999)
  c_WEAK : Cn K mg "WEAK" (.str "W/")
  c_UNIT : Cn K mg "UNIT" (.str "bytes=")
  c_MOST_RANGES : Cn K mg "MOST_RANGES" (.int 20)
  c_READING : Cn K mg "READING" (.tuple [(.str "GET"), (.str "HEAD")])
  c_FAILED : Cn K mg "FAILED" (.tuple [(.int 412), (.bool true)])
  c_UNCHANGED : Cn K mg "UNCHANGED" (.tuple [(.int 304), (.bool true)])
  t_MONTHS : CnT K mg "MONTHS" [(.str "Jan"), (.str "Feb"), (.str "Mar"), (.str "Apr"), (.str "May"), (.str "Jun"), (.str "Jul"), (.str "Aug"), (.str "Sep"), (.str "Oct"), (.str "Nov"), (.str "Dec")]
section
variable {P : Program} {w : World} {K : PySem.W.Frag} {mg : Str → Option Value} {base : Heap}
abbrev s_is_value_sign : Stmt := topS 2
theorem sc_is_value_sign : FnScope N_is_value_sign ["octet"] (defScope s_is_value_sign) := ⟨rfl, rfl, rfl, by decide +kernel, rfl, by decide +kernel, by decide +kernel⟩
theorem body_is_value_sign (B : Blt mg) (C : Cns K mg) (f : Addr) (cdv : Value) (A : Around) (outer : List Env) (s : Shared) (H : Hp) (E : XK) (hr : Room 0 (A.deeper (envOfC "is_value_sign" (defScope s_is_value_sign) s.heap.objs.size f cdv))) : PXS (cxOf CX0 P w K mg base N_is_value_sign "is_value_sign" (defScope s_is_value_sign) f cdv A outer s H E).nox 1 (defBody s_is_value_sign) Y_is_value_sign :=
  (pxs_one (pxs_ret (px_or (px_eq hr (px_var (pv 0)) px_int (.inl rfl)) (px_one (px_and (px_chle px_int (px_var (pv 0)) px_int) (px_one (px_ne hr (px_var (pv 0)) px_int (.inl rfl))))))))
theorem cl_is_value_sign (B : Blt mg) (C : Cns K mg) (h : Fx K mg "is_value_sign" s_is_value_sign ["octet"]) : Cl P w K mg base 1 "is_value_sign" 1 S_is_value_sign :=
  h.cl fun f fd F => fn_ok F sc_is_value_sign fun cdv A outer s H E hr => body_is_value_sign B C  f cdv A outer s H E hr
abbrev s_is_digits : Stmt := topS 3
theorem sc_is_digits : FnScope N_is_digits ["text"] (defScope s_is_digits) := ⟨rfl, rfl, rfl, by decide +kernel, rfl, by decide +kernel, by decide +kernel⟩
theorem body_is_digits (B : Blt mg) (C : Cns K mg) (f : Addr) (cdv : Value) (A : Around) (outer : List Env) (s : Shared) (H : Hp) (E : XK) (hr : Room 0 (A.deeper (envOfC "is_digits" (defScope s_is_digits) s.heap.objs.size f cdv))) : PXS (cxOf CX0 P w K mg base N_is_digits "is_digits" (defScope s_is_digits) f cdv A outer s H E).nox 1 (defBody s_is_digits) Y_is_digits :=
  (pxs_one (pxs_ret (px_and (px_gt (px_call1 call_len vu_len (by rfl) B.b_len Fw.boot_len (px_var (pv 0))) px_int (.inl rfl)) (px_one (px_call1 (cr_all rfl) vu_all (by rfl) B.b_all Fw.boot_all (PL.px (pl_lc (own := [("sign", 1)]) (ts := [1]) rfl sc_is_digits.nd (blkOk_by (N := N_is_digits) (sc := defScope s_is_digits) (by decide +kernel)) (pxi_data (px_var (pv 0))) (fun _ _ _ _ _ => (pxg_name sc_is_digits.nd rfl (by first | exact Or.inl rfl | exact Or.inr rfl))) (fun _ _ _ _ _ => pts_nil') (fun _ _ _ _ _ => (px_in hr (px_var (pv 1)) (px_gc (by rfl) C.c_DIGITS) (.inl rfl))) (by decide))))))))
theorem cl_is_digits (B : Blt mg) (C : Cns K mg) (h : Fx K mg "is_digits" s_is_digits ["text"]) : Cl P w K mg base 1 "is_digits" 1 S_is_digits :=
  h.cl fun f fd F => fn_ok F sc_is_digits fun cdv A outer s H E hr => body_is_digits B C  f cdv A outer s H E hr
abbrev s_lower : Stmt := topS 4
theorem sc_lower : FnScope N_lower ["text"] (defScope s_lower) := ⟨rfl, rfl, rfl, by decide +kernel, rfl, by decide +kernel, by decide +kernel⟩
theorem body_lower (B : Blt mg) (C : Cns K mg) (f : Addr) (cdv : Value) (A : Around) (outer : List Env) (s : Shared) (H : Hp) (E : XK) (hr : Room 0 (A.deeper (envOfC "lower" (defScope s_lower) s.heap.objs.size f cdv))) : PXS (cxOf CX0 P w K mg base N_lower "lower" (defScope s_lower) f cdv A outer s H E).nox 1 (defBody s_lower) Y_lower :=
  (pxs_one (pxs_ret (px_lower (px_var (pv 0)))))
theorem cl_lower (B : Blt mg) (C : Cns K mg) (h : Fx K mg "lower" s_lower ["text"]) : Cl P w K mg base 1 "lower" 1 S_lower :=
  h.cl fun f fd F => fn_ok F sc_lower fun cdv A outer s H E hr => body_lower B C  f cdv A outer s H E hr
abbrev s_trimmed : Stmt := topS 5
theorem sc_trimmed : FnScope N_trimmed ["text"] (defScope s_trimmed) := ⟨rfl, rfl, rfl, by decide +kernel, rfl, by decide +kernel, by decide +kernel⟩
theorem body_trimmed (B : Blt mg) (C : Cns K mg) (f : Addr) (cdv : Value) (A : Around) (outer : List Env) (s : Shared) (H : Hp) (E : XK) (hr : Room 0 (A.deeper (envOfC "trimmed" (defScope s_trimmed) s.heap.objs.size f cdv))) : PXS (cxOf CX0 P w K mg base N_trimmed "trimmed" (defScope s_trimmed) f cdv A outer s H E).nox 1 (defBody s_trimmed) Y_trimmed :=
  (pxs_one (pxs_ret (px_strip (px_var (pv 0)) px_str)))
theorem cl_trimmed (B : Blt mg) (C : Cns K mg) (h : Fx K mg "trimmed" s_trimmed ["text"]) : Cl P w K mg base 1 "trimmed" 1 S_trimmed :=
  h.cl fun f fd F => fn_ok F sc_trimmed fun cdv A outer s H E hr => body_trimmed B C  f cdv A outer s H E hr
abbrev s__is_leap : Stmt := topS 16
theorem sc__is_leap : FnScope N__is_leap ["year"] (defScope s__is_leap) := ⟨rfl, rfl, rfl, by decide +kernel, rfl, by decide +kernel, by decide +kernel⟩
theorem body__is_leap (B : Blt mg) (C : Cns K mg) (f : Addr) (cdv : Value) (A : Around) (outer : List Env) (s : Shared) (H : Hp) (E : XK) (hr : Room 0 (A.deeper (envOfC "_is_leap" (defScope s__is_leap) s.heap.objs.size f cdv))) : PXS (cxOf CX0 P w K mg base N__is_leap "_is_leap" (defScope s__is_leap) f cdv A outer s H E).nox 1 (defBody s__is_leap) Y__is_leap :=
  (pxs_one (pxs_ret (px_and (px_eq hr (px_mod (px_var (pv 0)) px_int) px_int (.inl rfl)) (px_one (px_or (px_ne hr (px_mod (px_var (pv 0)) px_int) px_int (.inl rfl)) (px_one (px_eq hr (px_mod (px_var (pv 0)) px_int) px_int (.inl rfl))))))))
theorem cl__is_leap (B : Blt mg) (C : Cns K mg) (h : Fx K mg "_is_leap" s__is_leap ["year"]) : Cl P w K mg base 1 "_is_leap" 1 S__is_leap :=
  h.cl fun f fd F => fn_ok F sc__is_leap fun cdv A outer s H E hr => body__is_leap B C  f cdv A outer s H E hr
abbrev s__days_ahead : Stmt := topS 18
theorem sc__days_ahead : FnScope N__days_ahead ["year"] (defScope s__days_ahead) := ⟨rfl, rfl, rfl, by decide +kernel, rfl, by decide +kernel, by decide +kernel⟩
theorem body__days_ahead (B : Blt mg) (C : Cns K mg) (f : Addr) (cdv : Value) (A : Around) (outer : List Env) (s : Shared) (H : Hp) (E : XK) (hr : Room 0 (A.deeper (envOfC "_days_ahead" (defScope s__days_ahead) s.heap.objs.size f cdv))) : PXS (cxOf CX0 P w K mg base N__days_ahead "_days_ahead" (defScope s__days_ahead) f cdv A outer s H E).nox 1 (defBody s__days_ahead) Y__days_ahead :=
  (pxs_cons (pxs_asg sc__days_ahead.nd rfl (by first | exact Or.inl rfl | exact Or.inr rfl) (px_sub (px_var (pv 0)) px_int))
  (pxs_cons (pxs_asg sc__days_ahead.nd rfl (by first | exact Or.inl rfl | exact Or.inr rfl) (px_sub (px_add (px_sub (px_div (px_var (pv 1)) px_int) (px_div (px_var (pv 1)) px_int)) (px_div (px_var (pv 1)) px_int)) (px_gc (by rfl) C.c_LEAPS_BEFORE_FIRST)))
  (pxs_one (pxs_ret (px_add (px_mul (px_sub (px_var (pv 0)) (px_gc (by rfl) C.c_FIRST_YEAR)) px_int) (px_var (pv 2)))))))
theorem cl__days_ahead (B : Blt mg) (C : Cns K mg) (h : Fx K mg "_days_ahead" s__days_ahead ["year"]) : Cl P w K mg base 1 "_days_ahead" 1 S__days_ahead :=
  h.cl fun f fd F => fn_ok F sc__days_ahead fun cdv A outer s H E hr => body__days_ahead B C  f cdv A outer s H E hr
abbrev s__clock : Stmt := topS 20
theorem sc__clock : FnScope N__clock ["second"] (defScope s__clock) := ⟨rfl, rfl, rfl, by decide +kernel, rfl, by decide +kernel, by decide +kernel⟩
theorem body__clock (B : Blt mg) (C : Cns K mg) (f : Addr) (cdv : Value) (A : Around) (outer : List Env) (s : Shared) (H : Hp) (E : XK) (hr : Room 0 (A.deeper (envOfC "_clock" (defScope s__clock) s.heap.objs.size f cdv))) : PXS (cxOf CX0 P w K mg base N__clock "_clock" (defScope s__clock) f cdv A outer s H E).nox 1 (defBody s__clock) Y__clock :=
  (pxs_cons (pxs_asgG (px_callN call_divmod va_divmod (by rfl) B.b_divmod Fw.boot_divmod (pxa_cons (px_var (pv 0)) (pxa_cons px_int pxa_nil))) (pxg_tup (is := [1, 2]) rfl (pgs_cons (pg_name (i := 1) sc__clock.nd rfl (by first | exact Or.inl rfl | exact Or.inr rfl)) (pgs_cons (pg_name (i := 2) sc__clock.nd rfl (by first | exact Or.inl rfl | exact Or.inr rfl)) pgs_nil)) rfl))
  (pxs_cons (pxs_asgG (px_callN call_divmod va_divmod (by rfl) B.b_divmod Fw.boot_divmod (pxa_cons (px_var (pv 1)) (pxa_cons px_int pxa_nil))) (pxg_tup (is := [3, 1]) rfl (pgs_cons (pg_name (i := 3) sc__clock.nd rfl (by first | exact Or.inl rfl | exact Or.inr rfl)) (pgs_cons (pg_name (i := 1) sc__clock.nd rfl (by first | exact Or.inl rfl | exact Or.inr rfl)) pgs_nil)) rfl))
  (pxs_one (pxs_ret (px_joined (.cons (px_spec (px_var (pv 3)) (px_joined1 px_str)) (.cons px_str (.cons (px_spec (px_var (pv 1)) (px_joined1 px_str)) (.cons px_str (.cons (px_spec (px_var (pv 2)) (px_joined1 px_str)) .nil))))))))))
theorem cl__clock (B : Blt mg) (C : Cns K mg) (h : Fx K mg "_clock" s__clock ["second"]) : Cl P w K mg base 1 "_clock" 1 S__clock :=
  h.cl fun f fd F => fn_ok F sc__clock fun cdv A outer s H E hr => body__clock B C  f cdv A outer s H E hr
abbrev s__cut : Stmt := topS 35
theorem sc__cut : FnScope N__cut ["text", "mark"] (defScope s__cut) := ⟨rfl, rfl, rfl, by decide +kernel, rfl, by decide +kernel, by decide +kernel⟩
theorem body__cut (B : Blt mg) (C : Cns K mg) (f : Addr) (cdv : Value) (A : Around) (outer : List Env) (s : Shared) (H : Hp) (E : XK) (hr : Room 0 (A.deeper (envOfC "_cut" (defScope s__cut) s.heap.objs.size f cdv))) : PXS (cxOf CX0 P w K mg base N__cut "_cut" (defScope s__cut) f cdv A outer s H E).nox 2 (defBody s__cut) Y__cut :=
  (pxs_cons (pxs_asgL (by decide) sc__cut.nd rfl (by first | exact Or.inl rfl | exact Or.inr rfl) (pl_lst pxa_nil))
  (pxs_cons (pxs_asg sc__cut.nd rfl (by first | exact Or.inl rfl | exact Or.inr rfl) px_int)
  (pxs_cons (pxs_asg sc__cut.nd rfl (by first | exact Or.inl rfl | exact Or.inr rfl) px_bl)
  (pxs_cons (pxs_asg sc__cut.nd rfl (by first | exact Or.inl rfl | exact Or.inr rfl) px_bl)
  (pxs_cons (pxs_for (ts := [6, 7]) PassesOwn.never rfl (pxi_enum (by rfl) B.b_enumerate (px_var (pv 0))) (pxg_tup (is := [6, 7]) rfl (pgs_cons (pg_name (i := 6) sc__cut.nd rfl (by first | exact Or.inl rfl | exact Or.inr rfl)) (pgs_cons (pg_name (i := 7) sc__cut.nd rfl (by first | exact Or.inl rfl | exact Or.inr rfl)) pgs_nil)) rfl) (pxs_one (pxs_if (pt_of_px (px_var (pv 5))) (pxs_one (pxs_asg sc__cut.nd rfl (by first | exact Or.inl rfl | exact Or.inr rfl) px_bl)) (pxs_one (pxs_if (pt_eq' hr (px_var (pv 7)) (px_gc (by rfl) C.c_QUOTE) (.inl rfl)) (pxs_one (pxs_asg sc__cut.nd rfl (by first | exact Or.inl rfl | exact Or.inr rfl) (px_not (px_var (pv 4))))) (pxs_one (pxs_if (pt_eq' hr (px_var (pv 7)) (px_gc (by rfl) C.c_BACKSLASH) (.inl rfl)) (pxs_one (pxs_asg sc__cut.nd rfl (by first | exact Or.inl rfl | exact Or.inr rfl) (px_var (pv 4)))) (pxs_one (pxs_if (PXW.pt (pw_and' (pt_eq' hr (px_var (pv 7)) (px_var (pv 1)) (.inl rfl)) (pw_and1' (pt_not' (pt_of_px (px_var (pv 4))))))) (pxs_cons (pxs_appO (pv 2) (px_sl (px_var (pv 0)) (pxo_some (px_var (pv 3))) (pxo_some (px_var (pv 6)))))
  (pxs_one (pxs_asg sc__cut.nd rfl (by first | exact Or.inl rfl | exact Or.inr rfl) (px_add (px_var (pv 6)) px_int)))) pxs_nil)))))))))
  (pxs_cons (pxs_appO (pv 2) (px_sl (px_var (pv 0)) (pxo_some (px_var (pv 3))) pxo_none))
  (pxs_one (pxs_ret (px_if (pt_of_px (px_var (pv 4))) px_non (px_any (pv 2)))))))))))
theorem cl__cut (B : Blt mg) (C : Cns K mg) (h : Fx K mg "_cut" s__cut ["text", "mark"]) : Cl P w K mg base 1 "_cut" 2 S__cut :=
  h.cl fun f fd F => fn_ok F sc__cut fun cdv A outer s H E hr => body__cut B C  f cdv A outer s H E hr
abbrev s_strong_match : Stmt := topS 52
theorem sc_strong_match : FnScope N_strong_match ["a", "b"] (defScope s_strong_match) := ⟨rfl, rfl, rfl, by decide +kernel, rfl, by decide +kernel, by decide +kernel⟩
theorem body_strong_match (B : Blt mg) (C : Cns K mg) (f : Addr) (cdv : Value) (A : Around) (outer : List Env) (s : Shared) (H : Hp) (E : XK) (hr : Room 0 (A.deeper (envOfC "strong_match" (defScope s_strong_match) s.heap.objs.size f cdv))) : PXS (cxOf CX0 P w K mg base N_strong_match "strong_match" (defScope s_strong_match) f cdv A outer s H E).nox 2 (defBody s_strong_match) Y_strong_match :=
  (pxs_one (pxs_ret (px_and (px_eq hr (px_ix (px_var (pv 0)) px_int) (px_ix (px_var (pv 1)) px_int) (.inl rfl)) (px_and (px_not (px_ix (px_var (pv 0)) px_int)) (px_one (px_not (px_ix (px_var (pv 1)) px_int)))))))
theorem cl_strong_match (B : Blt mg) (C : Cns K mg) (h : Fx K mg "strong_match" s_strong_match ["a", "b"]) : Cl P w K mg base 1 "strong_match" 2 S_strong_match :=
  h.cl fun f fd F => fn_ok F sc_strong_match fun cdv A outer s H E hr => body_strong_match B C  f cdv A outer s H E hr
abbrev s_weak_match : Stmt := topS 53
theorem sc_weak_match : FnScope N_weak_match ["a", "b"] (defScope s_weak_match) := ⟨rfl, rfl, rfl, by decide +kernel, rfl, by decide +kernel, by decide +kernel⟩
theorem body_weak_match (B : Blt mg) (C : Cns K mg) (f : Addr) (cdv : Value) (A : Around) (outer : List Env) (s : Shared) (H : Hp) (E : XK) (hr : Room 0 (A.deeper (envOfC "weak_match" (defScope s_weak_match) s.heap.objs.size f cdv))) : PXS (cxOf CX0 P w K mg base N_weak_match "weak_match" (defScope s_weak_match) f cdv A outer s H E).nox 2 (defBody s_weak_match) Y_weak_match :=
  (pxs_one (pxs_ret (px_eq hr (px_ix (px_var (pv 0)) px_int) (px_ix (px_var (pv 1)) px_int) (.inl rfl))))
theorem cl_weak_match (B : Blt mg) (C : Cns K mg) (h : Fx K mg "weak_match" s_weak_match ["a", "b"]) : Cl P w K mg base 1 "weak_match" 2 S_weak_match :=
  h.cl fun f fd F => fn_ok F sc_weak_match fun cdv A outer s H E hr => body_weak_match B C  f cdv A outer s H E hr
abbrev s__law_draw : Stmt := topS 66
theorem sc__law_draw : FnScope N__law_draw ["script"] (defScope s__law_draw) := ⟨rfl, rfl, rfl, by decide +kernel, rfl, by decide +kernel, by decide +kernel⟩
theorem body__law_draw (B : Blt mg) (C : Cns K mg) (f : Addr) (cdv : Value) (A : Around) (outer : List Env) (s : Shared) (H : Hp) (E : XK) (hr : Room 0 (A.deeper (envOfC "_law_draw" (defScope s__law_draw) s.heap.objs.size f cdv))) : PXS (cxOf CX0 P w K mg base N__law_draw "_law_draw" (defScope s__law_draw) f cdv A outer s H E).nox 1 (defBody s__law_draw) Y__law_draw :=
  (pxs_cons (pxs_asg sc__law_draw.nd rfl (by first | exact Or.inl rfl | exact Or.inr rfl) px_int)
  (pxs_cons (pxs_for (ts := [2]) PassesOwn.never rfl (pxi_scr (pv 0)) (pxg_name sc__law_draw.nd rfl (by first | exact Or.inl rfl | exact Or.inr rfl)) (pxs_one (pxs_asg sc__law_draw.nd rfl (by first | exact Or.inl rfl | exact Or.inr rfl) (px_mod (px_callT1 cr_intA vu_int (by rfl) B.b_int Fw.boot_int (px_add (px_add (px_mul (px_var (pv 1)) px_int) (px_mod (px_call1 call_abs vu_abs (by rfl) B.b_abs Fw.boot_abs (px_callT1 cr_intA vu_int (by rfl) B.b_int Fw.boot_int (px_var (pv 2)))) px_int)) px_int)) px_int))))
  (pxs_one (pxs_retL (pl_lst (pxa_cons (PL.px (pl_lc (own := [("cell", 2)]) (ts := [2]) rfl sc__law_draw.nd (blkOk_by (N := N__law_draw) (sc := defScope s__law_draw) (by decide +kernel)) (pxi_scr (pv 0)) (fun _ _ _ _ _ => (pxg_name sc__law_draw.nd rfl (by first | exact Or.inl rfl | exact Or.inr rfl))) (fun _ _ _ _ _ => pts_nil') (fun _ _ _ _ _ => (px_call1 call_abs vu_abs (by rfl) B.b_abs Fw.boot_abs (px_callT1 cr_intA vu_int (by rfl) B.b_int Fw.boot_int (px_var (pv 2))))) (by decide))) (pxa_cons (px_neg px_int) (pxa_cons px_int (pxa_cons (px_var (pv 1)) pxa_nil)))))))))
theorem cl__law_draw (B : Blt mg) (C : Cns K mg) (h : Fx K mg "_law_draw" s__law_draw ["script"]) : Cl P w K mg base 1 "_law_draw" 1 S__law_draw :=
  h.cl fun f fd F => fn_ok F sc__law_draw fun cdv A outer s H E hr => body__law_draw B C  f cdv A outer s H E hr
abbrev s__law_take : Stmt := topS 67
theorem sc__law_take : FnScope N__law_take ["draw", "many"] (defScope s__law_take) := ⟨rfl, rfl, rfl, by decide +kernel, rfl, by decide +kernel, by decide +kernel⟩
theorem body__law_take (B : Blt mg) (C : Cns K mg) (f : Addr) (cdv : Value) (A : Around) (outer : List Env) (s : Shared) (H : Hp) (E : XK) (hr : Room 0 (A.deeper (envOfC "_law_take" (defScope s__law_take) s.heap.objs.size f cdv))) : PXS (cxOf CX0 P w K mg base N__law_take "_law_take" (defScope s__law_take) f cdv A outer s H E).nox 2 (defBody s__law_take) Y__law_take :=
  (pxs_cons (pxs_if (pt_eq' hr (px_ixO (pv 0) px_int) px_int (.inl rfl)) (pxs_cons (pxs_setO (px_add (px_ixO (pv 0) px_int) px_int) (pv 0) px_int)
  (pxs_cons (pxs_if (pt_lt' (px_ixO (pv 0) px_int) (px_call1 call_len vu_len (by rfl) B.b_len Fw.boot_len (px_ixO (pv 0) px_int)) (.inl rfl)) (pxs_one (pxs_setO (px_ix (px_ixO (pv 0) px_int) (px_ixO (pv 0) px_int)) (pv 0) px_int)) pxs_nil)
  (pxs_one (pxs_if (pt_eq' hr (px_ixO (pv 0) px_int) px_int (.inl rfl)) (pxs_cons (pxs_setO (px_mod (px_callT1 cr_intA vu_int (by rfl) B.b_int Fw.boot_int (px_add (px_mul (px_ixO (pv 0) px_int) px_int) px_int)) px_int) (pv 0) px_int)
  (pxs_one (pxs_setO (px_ixO (pv 0) px_int) (pv 0) px_int))) pxs_nil)))) pxs_nil)
  (pxs_cons (pxs_asg sc__law_take.nd rfl (by first | exact Or.inl rfl | exact Or.inr rfl) (px_mod (px_callT1 cr_intA vu_int (by rfl) B.b_int Fw.boot_int (px_ixO (pv 0) px_int)) (px_var (pv 1))))
  (pxs_cons (pxs_setO (px_div (px_ixO (pv 0) px_int) (px_var (pv 1))) (pv 0) px_int)
  (pxs_one (pxs_ret (px_var (pv 2)))))))
theorem cl__law_take (B : Blt mg) (C : Cns K mg) (h : Fx K mg "_law_take" s__law_take ["draw", "many"]) : Cl P w K mg base 1 "_law_take" 2 S__law_take :=
  h.cl fun f fd F => fn_ok F sc__law_take fun cdv A outer s H E hr => body__law_take B C  f cdv A outer s H E hr
abbrev s__law_tag_text : Stmt := topS 68
theorem sc__law_tag_text : FnScope N__law_tag_text ["tag"] (defScope s__law_tag_text) := ⟨rfl, rfl, rfl, by decide +kernel, rfl, by decide +kernel, by decide +kernel⟩
theorem body__law_tag_text (B : Blt mg) (C : Cns K mg) (f : Addr) (cdv : Value) (A : Around) (outer : List Env) (s : Shared) (H : Hp) (E : XK) (hr : Room 0 (A.deeper (envOfC "_law_tag_text" (defScope s__law_tag_text) s.heap.objs.size f cdv))) : PXS (cxOf CX0 P w K mg base N__law_tag_text "_law_tag_text" (defScope s__law_tag_text) f cdv A outer s H E).nox 1 (defBody s__law_tag_text) Y__law_tag_text :=
  (pxs_one (pxs_ret (px_add (px_add (px_add (px_if (pt_of_px (px_ix (px_var (pv 0)) px_int)) px_str px_str) px_str) (px_ix (px_var (pv 0)) px_int)) px_str)))
theorem cl__law_tag_text (B : Blt mg) (C : Cns K mg) (h : Fx K mg "_law_tag_text" s__law_tag_text ["tag"]) : Cl P w K mg base 1 "_law_tag_text" 1 S__law_tag_text :=
  h.cl fun f fd F => fn_ok F sc__law_tag_text fun cdv A outer s H E hr => body__law_tag_text B C  f cdv A outer s H E hr
abbrev s__law_strong : Stmt := topS 69
theorem sc__law_strong : FnScope N__law_strong ["a", "b"] (defScope s__law_strong) := ⟨rfl, rfl, rfl, by decide +kernel, rfl, by decide +kernel, by decide +kernel⟩
theorem body__law_strong (B : Blt mg) (C : Cns K mg) (f : Addr) (cdv : Value) (A : Around) (outer : List Env) (s : Shared) (H : Hp) (E : XK) (hr : Room 0 (A.deeper (envOfC "_law_strong" (defScope s__law_strong) s.heap.objs.size f cdv))) : PXS (cxOf CX0 P w K mg base N__law_strong "_law_strong" (defScope s__law_strong) f cdv A outer s H E).nox 2 (defBody s__law_strong) Y__law_strong :=
  (pxs_one (pxs_ret (px_and (px_not (px_ix (px_var (pv 0)) px_int)) (px_and (px_not (px_ix (px_var (pv 1)) px_int)) (px_one (px_eq hr (px_ix (px_var (pv 0)) px_int) (px_ix (px_var (pv 1)) px_int) (.inl rfl)))))))
theorem cl__law_strong (B : Blt mg) (C : Cns K mg) (h : Fx K mg "_law_strong" s__law_strong ["a", "b"]) : Cl P w K mg base 1 "_law_strong" 2 S__law_strong :=
  h.cl fun f fd F => fn_ok F sc__law_strong fun cdv A outer s H E hr => body__law_strong B C  f cdv A outer s H E hr
abbrev s__law_joined : Stmt := topS 70
theorem sc__law_joined : FnScope N__law_joined ["fields", "name"] (defScope s__law_joined) := ⟨rfl, rfl, rfl, by decide +kernel, rfl, by decide +kernel, by decide +kernel⟩
theorem body__law_joined (B : Blt mg) (C : Cns K mg) (f : Addr) (cdv : Value) (A : Around) (outer : List Env) (s : Shared) (H : Hp) (E : XK) (hr : Room 0 (A.deeper (envOfC "_law_joined" (defScope s__law_joined) s.heap.objs.size f cdv))) : PXS (cxOf CX0 P w K mg base N__law_joined "_law_joined" (defScope s__law_joined) f cdv A outer s H E).nox 2 (defBody s__law_joined) Y__law_joined :=
  (pxs_cons (by first | exact pxs_lcD (own := [("key", 3), ("value", 4)]) (ts := [3, 4]) rfl sc__law_joined.nd rfl rfl (sw_true rfl rfl rfl (by decide +kernel)) (blkOk_by (N := N__law_joined) (sc := defScope s__law_joined) (by decide +kernel)) (pxi_data (px_var (pv 0))) (fun _ _ _ _ _ => (pxg_tup (is := [3, 4]) rfl (pgs_cons (pg_name (i := 3) sc__law_joined.nd rfl (by first | exact Or.inl rfl | exact Or.inr rfl)) (pgs_cons (pg_name (i := 4) sc__law_joined.nd rfl (by first | exact Or.inl rfl | exact Or.inr rfl)) pgs_nil)) rfl)) (fun _ _ _ _ _ => pts_one' (pt_eq' hr (px_var (pv 3)) (px_var (pv 1)) (.inl rfl))) (fun _ _ _ _ _ => (px_var (pv 4))) (by decide) | exact pxs_asg sc__law_joined.nd rfl (by first | exact Or.inl rfl | exact Or.inr rfl) (PL.px (pl_lc (own := [("key", 3), ("value", 4)]) (ts := [3, 4]) rfl sc__law_joined.nd (blkOk_by (N := N__law_joined) (sc := defScope s__law_joined) (by decide +kernel)) (pxi_data (px_var (pv 0))) (fun _ _ _ _ _ => (pxg_tup (is := [3, 4]) rfl (pgs_cons (pg_name (i := 3) sc__law_joined.nd rfl (by first | exact Or.inl rfl | exact Or.inr rfl)) (pgs_cons (pg_name (i := 4) sc__law_joined.nd rfl (by first | exact Or.inl rfl | exact Or.inr rfl)) pgs_nil)) rfl)) (fun _ _ _ _ _ => pts_one' (pt_eq' hr (px_var (pv 3)) (px_var (pv 1)) (.inl rfl))) (fun _ _ _ _ _ => (px_var (pv 4))) (by decide))))
  (pxs_one (pxs_ret (px_if (pt_eq' hr (px_var (pv 2)) (PL.px (pl_lst pxa_nil)) (.inl rfl)) px_non (px_join px_str (px_var (pv 2)))))))
theorem cl__law_joined (B : Blt mg) (C : Cns K mg) (h : Fx K mg "_law_joined" s__law_joined ["fields", "name"]) : Cl P w K mg base 1 "_law_joined" 2 S__law_joined :=
  h.cl fun f fd F => fn_ok F sc__law_joined fun cdv A outer s H E hr => body__law_joined B C  f cdv A outer s H E hr
abbrev s__law_read_tag : Stmt := topS 71
theorem sc__law_read_tag : FnScope N__law_read_tag ["text"] (defScope s__law_read_tag) := ⟨rfl, rfl, rfl, by decide +kernel, rfl, by decide +kernel, by decide +kernel⟩
theorem body__law_read_tag (B : Blt mg) (C : Cns K mg) (f : Addr) (cdv : Value) (A : Around) (outer : List Env) (s : Shared) (H : Hp) (E : XK) (hr : Room 0 (A.deeper (envOfC "_law_read_tag" (defScope s__law_read_tag) s.heap.objs.size f cdv))) : PXS (cxOf CX0 P w K mg base N__law_read_tag "_law_read_tag" (defScope s__law_read_tag) f cdv A outer s H E).nox 1 (defBody s__law_read_tag) Y__law_read_tag :=
  (pxs_cons (pxs_asg sc__law_read_tag.nd rfl (by first | exact Or.inl rfl | exact Or.inr rfl) (px_eq hr (px_sl (px_var (pv 0)) pxo_none (pxo_some px_int)) px_str (.inl rfl)))
  (pxs_cons (pxs_if (pt_of_px (px_var (pv 1))) (pxs_one (pxs_asg sc__law_read_tag.nd rfl (by first | exact Or.inl rfl | exact Or.inr rfl) (px_sl (px_var (pv 0)) (pxo_some px_int) pxo_none))) pxs_nil)
  (pxs_cons (pxs_if (PXW.pt (pw_or' (pt_lt' (px_call1 call_len vu_len (by rfl) B.b_len Fw.boot_len (px_var (pv 0))) px_int (.inl rfl)) (pw_or' (pt_ne' hr (px_ix (px_var (pv 0)) px_int) px_str (.inl rfl)) (pw_or1' (pt_ne' hr (px_ix (px_var (pv 0)) (px_neg px_int)) px_str (.inl rfl)))))) (pxs_one (pxs_ret px_non)) pxs_nil)
  (pxs_cons (pxs_for (ts := [2]) PassesOwn.never rfl (pxi_data (px_sl (px_var (pv 0)) (pxo_some px_int) (pxo_some (px_neg px_int)))) (pxg_name sc__law_read_tag.nd rfl (by first | exact Or.inl rfl | exact Or.inr rfl)) (pxs_one (pxs_if (pt_in' hr (px_var (pv 2)) px_str (.inl rfl)) (pxs_one (pxs_ret px_non)) pxs_nil)))
  (pxs_one (pxs_ret (px_tup (pxa_cons (px_var (pv 1)) (pxa_cons (px_sl (px_var (pv 0)) (pxo_some px_int) (pxo_some (px_neg px_int))) pxa_nil)))))))))
theorem cl__law_read_tag (B : Blt mg) (C : Cns K mg) (h : Fx K mg "_law_read_tag" s__law_read_tag ["text"]) : Cl P w K mg base 1 "_law_read_tag" 1 S__law_read_tag :=
  h.cl fun f fd F => fn_ok F sc__law_read_tag fun cdv A outer s H E hr => body__law_read_tag B C  f cdv A outer s H E hr
abbrev s__law_pieces : Stmt := topS 72
theorem sc__law_pieces : FnScope N__law_pieces ["value"] (defScope s__law_pieces) := ⟨rfl, rfl, rfl, by decide +kernel, rfl, by decide +kernel, by decide +kernel⟩
theorem body__law_pieces (B : Blt mg) (C : Cns K mg) (f : Addr) (cdv : Value) (A : Around) (outer : List Env) (s : Shared) (H : Hp) (E : XK) (hr : Room 0 (A.deeper (envOfC "_law_pieces" (defScope s__law_pieces) s.heap.objs.size f cdv))) : PXS (cxOf CX0 P w K mg base N__law_pieces "_law_pieces" (defScope s__law_pieces) f cdv A outer s H E).nox 1 (defBody s__law_pieces) Y__law_pieces :=
  (pxs_cons (pxs_asgL (by decide) sc__law_pieces.nd rfl (by first | exact Or.inl rfl | exact Or.inr rfl) (pl_lst (pxa_cons px_str pxa_nil)))
  (pxs_cons (pxs_asg sc__law_pieces.nd rfl (by first | exact Or.inl rfl | exact Or.inr rfl) px_bl)
  (pxs_cons (pxs_for (ts := [3]) PassesOwn.never rfl (pxi_data (px_var (pv 0))) (pxg_name sc__law_pieces.nd rfl (by first | exact Or.inl rfl | exact Or.inr rfl)) (pxs_one (pxs_if (PXW.pt (pw_and' (pt_eq' hr (px_var (pv 3)) px_str (.inl rfl)) (pw_and1' (pt_not' (pt_of_px (px_var (pv 2))))))) (pxs_one (pxs_appO (pv 1) px_str)) (pxs_cons (pxs_setO (px_add (px_ixO (pv 1) (px_neg px_int)) (px_var (pv 3))) (pv 1) (px_neg px_int))
  (pxs_one (pxs_if (pt_eq' hr (px_var (pv 3)) px_str (.inl rfl)) (pxs_one (pxs_asg sc__law_pieces.nd rfl (by first | exact Or.inl rfl | exact Or.inr rfl) (px_not (px_var (pv 2))))) pxs_nil))))))
  (pxs_one (pxs_ret (px_if (pt_of_px (px_var (pv 2))) px_non (PL.px (pl_lc (own := [("one", 4)]) (ts := [4]) rfl sc__law_pieces.nd (blkOk_by (N := N__law_pieces) (sc := defScope s__law_pieces) (by decide +kernel)) (pxi_data (px_any (pv 1))) (fun _ _ _ _ _ => (pxg_name sc__law_pieces.nd rfl (by first | exact Or.inl rfl | exact Or.inr rfl))) (fun _ _ _ _ _ => pts_one' (pt_ne' hr (px_strip (px_var (pv 4)) px_str) px_str (.inl rfl))) (fun _ _ _ _ _ => (px_strip (px_var (pv 4)) px_str)) (by decide)))))))))
theorem cl__law_pieces (B : Blt mg) (C : Cns K mg) (h : Fx K mg "_law_pieces" s__law_pieces ["value"]) : Cl P w K mg base 1 "_law_pieces" 1 S__law_pieces :=
  h.cl fun f fd F => fn_ok F sc__law_pieces fun cdv A outer s H E hr => body__law_pieces B C  f cdv A outer s H E hr
abbrev s_values : Stmt := topS 6
theorem sc_values : FnScope N_values ["fields", "name"] (defScope s_values) := ⟨rfl, rfl, rfl, by decide +kernel, rfl, by decide +kernel, by decide +kernel⟩
theorem body_values (B : Blt mg) (C : Cns K mg) (c_lower : Cl P w K mg base 1 "lower" 1 S_lower) (f : Addr) (cdv : Value) (A : Around) (outer : List Env) (s : Shared) (H : Hp) (E : XK) (hr : Room 1 (A.deeper (envOfC "values" (defScope s_values) s.heap.objs.size f cdv))) : PXS (cxOf CX0 P w K mg base N_values "values" (defScope s_values) f cdv A outer s H E).nox 2 (defBody s_values) Y_values :=
  (pxs_cons (pxs_asg sc_values.nd rfl (by first | exact Or.inl rfl | exact Or.inr rfl) (px_call c_lower (fun _ _ => run_len) hr (by decide) (by rfl) (pxa_cons (px_var (pv 1)) pxa_nil)))
  (pxs_one (pxs_retL (pl_lc (own := [("key", 3), ("value", 4)]) (ts := [3, 4]) rfl sc_values.nd (blkOk_by (N := N_values) (sc := defScope s_values) (by decide +kernel)) (pxi_data (px_var (pv 0))) (fun _ _ _ _ _ => (pxg_tup (is := [3, 4]) rfl (pgs_cons (pg_name (i := 3) sc_values.nd rfl (by first | exact Or.inl rfl | exact Or.inr rfl)) (pgs_cons (pg_name (i := 4) sc_values.nd rfl (by first | exact Or.inl rfl | exact Or.inr rfl)) pgs_nil)) rfl)) (fun _ _ _ _ _ => pts_one' (pt_eq' hr (px_var (pv 3)) (px_var (pv 2)) (.inl rfl))) (fun _ _ _ _ _ => (px_var (pv 4))) (by decide)))))
theorem cl_values (B : Blt mg) (C : Cns K mg) (h : Fx K mg "values" s_values ["fields", "name"]) (c_lower : Cl P w K mg base 1 "lower" 1 S_lower) : Cl P w K mg base 2 "values" 2 S_values :=
  h.cl fun f fd F => fn_ok F sc_values fun cdv A outer s H E hr => body_values B C c_lower f cdv A outer s H E hr
abbrev s__days_of_month : Stmt := topS 17
theorem sc__days_of_month : FnScope N__days_of_month ["year", "month"] (defScope s__days_of_month) := ⟨rfl, rfl, rfl, by decide +kernel, rfl, by decide +kernel, by decide +kernel⟩
theorem body__days_of_month (B : Blt mg) (C : Cns K mg) (c__is_leap : Cl P w K mg base 1 "_is_leap" 1 S__is_leap) (f : Addr) (cdv : Value) (A : Around) (outer : List Env) (s : Shared) (H : Hp) (E : XK) (hr : Room 1 (A.deeper (envOfC "_days_of_month" (defScope s__days_of_month) s.heap.objs.size f cdv))) : PXS (cxOf CX0 P w K mg base N__days_of_month "_days_of_month" (defScope s__days_of_month) f cdv A outer s H E).nox 2 (defBody s__days_of_month) Y__days_of_month :=
  (pxs_one (pxs_ret (px_if (PXW.pt (pw_and' (pt_eq' hr (px_var (pv 1)) px_int (.inl rfl)) (pw_and1' (pt_of_px (px_call c__is_leap (fun _ _ => run_len) hr (by decide) (by rfl) (pxa_cons (px_var (pv 0)) pxa_nil)))))) px_int (px_ix (px_gc (by rfl) C.c_MONTH_DAYS) (px_var (pv 1))))))
theorem cl__days_of_month (B : Blt mg) (C : Cns K mg) (h : Fx K mg "_days_of_month" s__days_of_month ["year", "month"]) (c__is_leap : Cl P w K mg base 1 "_is_leap" 1 S__is_leap) : Cl P w K mg base 2 "_days_of_month" 2 S__days_of_month :=
  h.cl fun f fd F => fn_ok F sc__days_of_month fun cdv A outer s H E hr => body__days_of_month B C c__is_leap f cdv A outer s H E hr
abbrev s__year_of : Stmt := topS 19
theorem sc__year_of : FnScope N__year_of ["days"] (defScope s__year_of) := ⟨rfl, rfl, rfl, by decide +kernel, rfl, by decide +kernel, by decide +kernel⟩
theorem body__year_of (B : Blt mg) (C : Cns K mg) (c__days_ahead : Cl P w K mg base 1 "_days_ahead" 1 S__days_ahead) (f : Addr) (cdv : Value) (A : Around) (outer : List Env) (s : Shared) (H : Hp) (E : XK) (hr : Room 1 (A.deeper (envOfC "_year_of" (defScope s__year_of) s.heap.objs.size f cdv))) : PXS (cxOf CX0 P w K mg base N__year_of "_year_of" (defScope s__year_of) f cdv A outer s H E).nox 1 (defBody s__year_of) Y__year_of :=
  (pxs_cons (pxs_asg sc__year_of.nd rfl (by first | exact Or.inl rfl | exact Or.inr rfl) (px_add (px_gc (by rfl) C.c_FIRST_YEAR) (px_div (px_var (pv 0)) px_int)))
  (pxs_cons (pxs_while PassesOwn.never (pt_le' (px_call c__days_ahead (fun _ _ => run_len) hr (by decide) (by rfl) (pxa_cons (px_add (px_var (pv 1)) px_int) pxa_nil)) (px_var (pv 0)) (.inl rfl)) (pxs_one (pxs_aug ip_add sc__year_of.nd rfl (by first | exact Or.inl rfl | exact Or.inr rfl) px_int)))
  (pxs_one (pxs_ret (px_var (pv 1))))))
theorem cl__year_of (B : Blt mg) (C : Cns K mg) (h : Fx K mg "_year_of" s__year_of ["days"]) (c__days_ahead : Cl P w K mg base 1 "_days_ahead" 1 S__days_ahead) : Cl P w K mg base 2 "_year_of" 1 S__year_of :=
  h.cl fun f fd F => fn_ok F sc__year_of fun cdv A outer s H E hr => body__year_of B C c__days_ahead f cdv A outer s H E hr
abbrev s__read_clock : Stmt := topS 25
theorem sc__read_clock : FnScope N__read_clock ["text"] (defScope s__read_clock) := ⟨rfl, rfl, rfl, by decide +kernel, rfl, by decide +kernel, by decide +kernel⟩
theorem body__read_clock (B : Blt mg) (C : Cns K mg) (c_is_digits : Cl P w K mg base 1 "is_digits" 1 S_is_digits) (f : Addr) (cdv : Value) (A : Around) (outer : List Env) (s : Shared) (H : Hp) (E : XK) (hr : Room 1 (A.deeper (envOfC "_read_clock" (defScope s__read_clock) s.heap.objs.size f cdv))) : PXS (cxOf CX0 P w K mg base N__read_clock "_read_clock" (defScope s__read_clock) f cdv A outer s H E).nox 1 (defBody s__read_clock) Y__read_clock :=
  (pxs_cons (pxs_asg sc__read_clock.nd rfl (by first | exact Or.inl rfl | exact Or.inr rfl) (PL.px (pl_split (px_var (pv 0)) px_str)))
  (pxs_cons (pxs_if (PXW.pt (pw_or' (pt_ne' hr (px_call1 call_len vu_len (by rfl) B.b_len Fw.boot_len (px_var (pv 1))) px_int (.inl rfl)) (pw_or1' (pt_not' (pt_of_px (px_call1 (cr_all rfl) vu_all (by rfl) B.b_all Fw.boot_all (PL.px (pl_lc (own := [("part", 5)]) (ts := [5]) rfl sc__read_clock.nd (blkOk_by (N := N__read_clock) (sc := defScope s__read_clock) (by decide +kernel)) (pxi_data (px_var (pv 1))) (fun _ _ _ _ _ => (pxg_name sc__read_clock.nd rfl (by first | exact Or.inl rfl | exact Or.inr rfl))) (fun _ _ _ _ _ => pts_nil') (fun _ _ _ _ _ => (px_call c_is_digits (fun _ _ => run_len) hr (by decide) (by rfl) (pxa_cons (px_var (pv 5)) pxa_nil))) (by decide))))))))) (pxs_one (pxs_ret px_non)) pxs_nil)
  (pxs_cons (pxs_asg sc__read_clock.nd rfl (by first | exact Or.inl rfl | exact Or.inr rfl) (px_callT1 cr_intA vu_int (by rfl) B.b_int Fw.boot_int (px_ix (px_var (pv 1)) px_int)))
  (pxs_cons (pxs_asg sc__read_clock.nd rfl (by first | exact Or.inl rfl | exact Or.inr rfl) (px_callT1 cr_intA vu_int (by rfl) B.b_int Fw.boot_int (px_ix (px_var (pv 1)) px_int)))
  (pxs_cons (pxs_asg sc__read_clock.nd rfl (by first | exact Or.inl rfl | exact Or.inr rfl) (px_callT1 cr_intA vu_int (by rfl) B.b_int Fw.boot_int (px_ix (px_var (pv 1)) px_int)))
  (pxs_cons (pxs_if (PXW.pt (pw_or' (pt_gt' (px_var (pv 2)) px_int (.inl rfl)) (pw_or' (pt_gt' (px_var (pv 3)) px_int (.inl rfl)) (pw_or1' (pt_gt' (px_var (pv 4)) px_int (.inl rfl)))))) (pxs_one (pxs_ret px_non)) pxs_nil)
  (pxs_one (pxs_ret (px_add (px_add (px_mul (px_var (pv 2)) px_int) (px_mul (px_var (pv 3)) px_int)) (px_var (pv 4)))))))))))
theorem cl__read_clock (B : Blt mg) (C : Cns K mg) (h : Fx K mg "_read_clock" s__read_clock ["text"]) (c_is_digits : Cl P w K mg base 1 "is_digits" 1 S_is_digits) : Cl P w K mg base 2 "_read_clock" 1 S__read_clock :=
  h.cl fun f fd F => fn_ok F sc__read_clock fun cdv A outer s H E hr => body__read_clock B C c_is_digits f cdv A outer s H E hr
abbrev s_split_list : Stmt := topS 36
theorem sc_split_list : FnScope N_split_list ["value"] (defScope s_split_list) := ⟨rfl, rfl, rfl, by decide +kernel, rfl, by decide +kernel, by decide +kernel⟩
theorem body_split_list (B : Blt mg) (C : Cns K mg) (c__cut : Cl P w K mg base 1 "_cut" 2 S__cut) (c_trimmed : Cl P w K mg base 1 "trimmed" 1 S_trimmed) (f : Addr) (cdv : Value) (A : Around) (outer : List Env) (s : Shared) (H : Hp) (E : XK) (hr : Room 1 (A.deeper (envOfC "split_list" (defScope s_split_list) s.heap.objs.size f cdv))) : PXS (cxOf CX0 P w K mg base N_split_list "split_list" (defScope s_split_list) f cdv A outer s H E).nox 1 (defBody s_split_list) Y_split_list :=
  (pxs_cons (pxs_asg sc_split_list.nd rfl (by first | exact Or.inl rfl | exact Or.inr rfl) (px_call c__cut (fun _ _ => run_len) hr (by decide) (by rfl) (pxa_cons (px_var (pv 0)) (pxa_cons px_str pxa_nil))))
  (pxs_cons (pxs_if (pt_isN' (px_var (pv 1))) (pxs_one (pxs_ret px_non)) pxs_nil)
  (pxs_cons (by first | exact pxs_lcD (own := [("part", 3)]) (ts := [3]) rfl sc_split_list.nd rfl rfl (sw_true rfl rfl rfl (by decide +kernel)) (blkOk_by (N := N_split_list) (sc := defScope s_split_list) (by decide +kernel)) (pxi_data (px_var (pv 1))) (fun _ _ _ _ _ => (pxg_name sc_split_list.nd rfl (by first | exact Or.inl rfl | exact Or.inr rfl))) (fun _ _ _ _ _ => pts_nil') (fun _ _ _ _ _ => (px_call c_trimmed (fun _ _ => run_len) hr (by decide) (by rfl) (pxa_cons (px_var (pv 3)) pxa_nil))) (by decide) | exact pxs_asg sc_split_list.nd rfl (by first | exact Or.inl rfl | exact Or.inr rfl) (PL.px (pl_lc (own := [("part", 3)]) (ts := [3]) rfl sc_split_list.nd (blkOk_by (N := N_split_list) (sc := defScope s_split_list) (by decide +kernel)) (pxi_data (px_var (pv 1))) (fun _ _ _ _ _ => (pxg_name sc_split_list.nd rfl (by first | exact Or.inl rfl | exact Or.inr rfl))) (fun _ _ _ _ _ => pts_nil') (fun _ _ _ _ _ => (px_call c_trimmed (fun _ _ => run_len) hr (by decide) (by rfl) (pxa_cons (px_var (pv 3)) pxa_nil))) (by decide))))
  (pxs_one (pxs_retL (pl_lc (own := [("part", 3)]) (ts := [3]) rfl sc_split_list.nd (blkOk_by (N := N_split_list) (sc := defScope s_split_list) (by decide +kernel)) (pxi_data (px_var (pv 2))) (fun _ _ _ _ _ => (pxg_name sc_split_list.nd rfl (by first | exact Or.inl rfl | exact Or.inr rfl))) (fun _ _ _ _ _ => pts_one' (pt_ne' hr (px_var (pv 3)) px_str (.inl rfl))) (fun _ _ _ _ _ => (px_var (pv 3))) (by decide)))))))
theorem cl_split_list (B : Blt mg) (C : Cns K mg) (h : Fx K mg "split_list" s_split_list ["value"]) (c__cut : Cl P w K mg base 1 "_cut" 2 S__cut) (c_trimmed : Cl P w K mg base 1 "trimmed" 1 S_trimmed) : Cl P w K mg base 2 "split_list" 1 S_split_list :=
  h.cl fun f fd F => fn_ok F sc_split_list fun cdv A outer s H E hr => body_split_list B C c__cut c_trimmed f cdv A outer s H E hr
abbrev s__number : Stmt := topS 42
theorem sc__number : FnScope N__number ["text"] (defScope s__number) := ⟨rfl, rfl, rfl, by decide +kernel, rfl, by decide +kernel, by decide +kernel⟩
theorem body__number (B : Blt mg) (C : Cns K mg) (c_is_digits : Cl P w K mg base 1 "is_digits" 1 S_is_digits) (f : Addr) (cdv : Value) (A : Around) (outer : List Env) (s : Shared) (H : Hp) (E : XK) (hr : Room 1 (A.deeper (envOfC "_number" (defScope s__number) s.heap.objs.size f cdv))) : PXS (cxOf CX0 P w K mg base N__number "_number" (defScope s__number) f cdv A outer s H E).nox 1 (defBody s__number) Y__number :=
  (pxs_one (pxs_ret (px_if (PXW.pt (pw_and' (pt_of_px (px_call c_is_digits (fun _ _ => run_len) hr (by decide) (by rfl) (pxa_cons (px_var (pv 0)) pxa_nil))) (pw_and1' (pt_le' (px_call1 call_len vu_len (by rfl) B.b_len Fw.boot_len (px_var (pv 0))) (px_gc (by rfl) C.c_MOST_DIGITS) (.inl rfl))))) (px_callT1 cr_intA vu_int (by rfl) B.b_int Fw.boot_int (px_var (pv 0))) px_non)))
theorem cl__number (B : Blt mg) (C : Cns K mg) (h : Fx K mg "_number" s__number ["text"]) (c_is_digits : Cl P w K mg base 1 "is_digits" 1 S_is_digits) : Cl P w K mg base 2 "_number" 1 S__number :=
  h.cl fun f fd F => fn_ok F sc__number fun cdv A outer s H E hr => body__number B C c_is_digits f cdv A outer s H E hr
abbrev s_is_tag_text : Stmt := topS 49
theorem sc_is_tag_text : FnScope N_is_tag_text ["text"] (defScope s_is_tag_text) := ⟨rfl, rfl, rfl, by decide +kernel, rfl, by decide +kernel, by decide +kernel⟩
theorem body_is_tag_text (B : Blt mg) (C : Cns K mg) (c_is_value_sign : Cl P w K mg base 1 "is_value_sign" 1 S_is_value_sign) (f : Addr) (cdv : Value) (A : Around) (outer : List Env) (s : Shared) (H : Hp) (E : XK) (hr : Room 1 (A.deeper (envOfC "is_tag_text" (defScope s_is_tag_text) s.heap.objs.size f cdv))) : PXS (cxOf CX0 P w K mg base N_is_tag_text "is_tag_text" (defScope s_is_tag_text) f cdv A outer s H E).nox 1 (defBody s_is_tag_text) Y_is_tag_text :=
  (pxs_cons (by first | exact pxs_lcD (own := [("sign", 2)]) (ts := [2]) rfl sc_is_tag_text.nd rfl rfl (sw_true rfl rfl rfl (by decide +kernel)) (blkOk_by (N := N_is_tag_text) (sc := defScope s_is_tag_text) (by decide +kernel)) (pxi_data (px_var (pv 0))) (fun _ _ _ _ _ => (pxg_name sc_is_tag_text.nd rfl (by first | exact Or.inl rfl | exact Or.inr rfl))) (fun _ _ _ _ _ => pts_nil') (fun _ _ _ _ _ => (px_and (px_gts (px_var (pv 2)) px_str (.inl rfl)) (px_and (px_ne hr (px_var (pv 2)) (px_gc (by rfl) C.c_QUOTE) (.inl rfl)) (px_and (px_ne hr (px_var (pv 2)) (px_gc (by rfl) C.c_BACKSLASH) (.inl rfl)) (px_one (px_call c_is_value_sign (fun _ _ => run_len) hr (by decide) (by rfl) (pxa_cons (px_call1 call_ord vu_ord (by rfl) B.b_ord Fw.boot_ord (px_var (pv 2))) pxa_nil))))))) (by decide) | exact pxs_asg sc_is_tag_text.nd rfl (by first | exact Or.inl rfl | exact Or.inr rfl) (PL.px (pl_lc (own := [("sign", 2)]) (ts := [2]) rfl sc_is_tag_text.nd (blkOk_by (N := N_is_tag_text) (sc := defScope s_is_tag_text) (by decide +kernel)) (pxi_data (px_var (pv 0))) (fun _ _ _ _ _ => (pxg_name sc_is_tag_text.nd rfl (by first | exact Or.inl rfl | exact Or.inr rfl))) (fun _ _ _ _ _ => pts_nil') (fun _ _ _ _ _ => (px_and (px_gts (px_var (pv 2)) px_str (.inl rfl)) (px_and (px_ne hr (px_var (pv 2)) (px_gc (by rfl) C.c_QUOTE) (.inl rfl)) (px_and (px_ne hr (px_var (pv 2)) (px_gc (by rfl) C.c_BACKSLASH) (.inl rfl)) (px_one (px_call c_is_value_sign (fun _ _ => run_len) hr (by decide) (by rfl) (pxa_cons (px_call1 call_ord vu_ord (by rfl) B.b_ord Fw.boot_ord (px_var (pv 2))) pxa_nil))))))) (by decide))))
  (pxs_one (pxs_ret (px_call1 (cr_all rfl) vu_all (by rfl) B.b_all Fw.boot_all (px_var (pv 1))))))
theorem cl_is_tag_text (B : Blt mg) (C : Cns K mg) (h : Fx K mg "is_tag_text" s_is_tag_text ["text"]) (c_is_value_sign : Cl P w K mg base 1 "is_value_sign" 1 S_is_value_sign) : Cl P w K mg base 2 "is_tag_text" 1 S_is_tag_text :=
  h.cl fun f fd F => fn_ok F sc_is_tag_text fun cdv A outer s H E hr => body_is_tag_text B C c_is_value_sign f cdv A outer s H E hr
abbrev s__matches : Stmt := topS 60
theorem sc__matches : FnScope N__matches ["tags", "tag", "strong"] (defScope s__matches) := ⟨rfl, rfl, rfl, by decide +kernel, rfl, by decide +kernel, by decide +kernel⟩
theorem body__matches (B : Blt mg) (C : Cns K mg) (c_strong_match : Cl P w K mg base 1 "strong_match" 2 S_strong_match) (c_weak_match : Cl P w K mg base 1 "weak_match" 2 S_weak_match) (f : Addr) (cdv : Value) (A : Around) (outer : List Env) (s : Shared) (H : Hp) (E : XK) (hr : Room 1 (A.deeper (envOfC "_matches" (defScope s__matches) s.heap.objs.size f cdv))) : PXS (cxOf CX0 P w K mg base N__matches "_matches" (defScope s__matches) f cdv A outer s H E).nox 3 (defBody s__matches) Y__matches :=
  (pxs_cons (pxs_if (PXW.pt (pw_or' (pt_isN' (px_var (pv 0))) (pw_or1' (pt_isN' (px_var (pv 1)))))) (pxs_one (pxs_ret px_bl)) pxs_nil)
  (pxs_cons (pxs_if (pt_eq' hr (px_var (pv 0)) (px_gc (by rfl) C.c_STAR) (.inl rfl)) (pxs_one (pxs_ret px_bl)) pxs_nil)
  (pxs_one (pxs_ret (px_call1 (cr_any rfl) vu_any (by rfl) B.b_any Fw.boot_any (PL.px (pl_lc (own := [("wanted", 3)]) (ts := [3]) rfl sc__matches.nd (blkOk_by (N := N__matches) (sc := defScope s__matches) (by decide +kernel)) (pxi_data (px_var (pv 0))) (fun _ _ _ _ _ => (pxg_name sc__matches.nd rfl (by first | exact Or.inl rfl | exact Or.inr rfl))) (fun _ _ _ _ _ => pts_nil') (fun _ _ _ _ _ => (px_if (pt_of_px (px_var (pv 2))) (px_call c_strong_match (fun _ _ => run_len) hr (by decide) (by rfl) (pxa_cons (px_var (pv 3)) (pxa_cons (px_var (pv 1)) pxa_nil))) (px_call c_weak_match (fun _ _ => run_len) hr (by decide) (by rfl) (pxa_cons (px_var (pv 3)) (pxa_cons (px_var (pv 1)) pxa_nil))))) (by decide))))))))
theorem cl__matches (B : Blt mg) (C : Cns K mg) (h : Fx K mg "_matches" s__matches ["tags", "tag", "strong"]) (c_strong_match : Cl P w K mg base 1 "strong_match" 2 S_strong_match) (c_weak_match : Cl P w K mg base 1 "weak_match" 2 S_weak_match) : Cl P w K mg base 2 "_matches" 3 S__matches :=
  h.cl fun f fd F => fn_ok F sc__matches fun cdv A outer s H E hr => body__matches B C c_strong_match c_weak_match f cdv A outer s H E hr
abbrev s__law_read_tags : Stmt := topS 73
theorem sc__law_read_tags : FnScope N__law_read_tags ["value"] (defScope s__law_read_tags) := ⟨rfl, rfl, rfl, by decide +kernel, rfl, by decide +kernel, by decide +kernel⟩
theorem body__law_read_tags (B : Blt mg) (C : Cns K mg) (c__law_pieces : Cl P w K mg base 1 "_law_pieces" 1 S__law_pieces) (c__law_read_tag : Cl P w K mg base 1 "_law_read_tag" 1 S__law_read_tag) (f : Addr) (cdv : Value) (A : Around) (outer : List Env) (s : Shared) (H : Hp) (E : XK) (hr : Room 1 (A.deeper (envOfC "_law_read_tags" (defScope s__law_read_tags) s.heap.objs.size f cdv))) : PXS (cxOf CX0 P w K mg base N__law_read_tags "_law_read_tags" (defScope s__law_read_tags) f cdv A outer s H E).nox 1 (defBody s__law_read_tags) Y__law_read_tags :=
  (pxs_cons (pxs_if (pt_eq' hr (px_strip (px_var (pv 0)) px_str) px_str (.inl rfl)) (pxs_one (pxs_ret px_str)) pxs_nil)
  (pxs_cons (pxs_asg sc__law_read_tags.nd rfl (by first | exact Or.inl rfl | exact Or.inr rfl) (px_call c__law_pieces (fun _ _ => run_len) hr (by decide) (by rfl) (pxa_cons (px_var (pv 0)) pxa_nil)))
  (pxs_cons (pxs_if (PXW.pt (pw_or' (pt_isN' (px_var (pv 1))) (pw_or1' (pt_eq' hr (px_var (pv 1)) (PL.px (pl_lst pxa_nil)) (.inl rfl))))) (pxs_one (pxs_ret px_non)) pxs_nil)
  (pxs_cons (by first | exact pxs_lcD (own := [("one", 3)]) (ts := [3]) rfl sc__law_read_tags.nd rfl rfl (sw_true rfl rfl rfl (by decide +kernel)) (blkOk_by (N := N__law_read_tags) (sc := defScope s__law_read_tags) (by decide +kernel)) (pxi_data (px_var (pv 1))) (fun _ _ _ _ _ => (pxg_name sc__law_read_tags.nd rfl (by first | exact Or.inl rfl | exact Or.inr rfl))) (fun _ _ _ _ _ => pts_nil') (fun _ _ _ _ _ => (px_call c__law_read_tag (fun _ _ => run_len) hr (by decide) (by rfl) (pxa_cons (px_var (pv 3)) pxa_nil))) (by decide) | exact pxs_asg sc__law_read_tags.nd rfl (by first | exact Or.inl rfl | exact Or.inr rfl) (PL.px (pl_lc (own := [("one", 3)]) (ts := [3]) rfl sc__law_read_tags.nd (blkOk_by (N := N__law_read_tags) (sc := defScope s__law_read_tags) (by decide +kernel)) (pxi_data (px_var (pv 1))) (fun _ _ _ _ _ => (pxg_name sc__law_read_tags.nd rfl (by first | exact Or.inl rfl | exact Or.inr rfl))) (fun _ _ _ _ _ => pts_nil') (fun _ _ _ _ _ => (px_call c__law_read_tag (fun _ _ => run_len) hr (by decide) (by rfl) (pxa_cons (px_var (pv 3)) pxa_nil))) (by decide))))
  (pxs_one (pxs_ret (px_if (pt_in' hr px_non (px_var (pv 2)) (.inl rfl)) px_non (px_var (pv 2)))))))))
theorem cl__law_read_tags (B : Blt mg) (C : Cns K mg) (h : Fx K mg "_law_read_tags" s__law_read_tags ["value"]) (c__law_pieces : Cl P w K mg base 1 "_law_pieces" 1 S__law_pieces) (c__law_read_tag : Cl P w K mg base 1 "_law_read_tag" 1 S__law_read_tag) : Cl P w K mg base 2 "_law_read_tags" 1 S__law_read_tags :=
  h.cl fun f fd F => fn_ok F sc__law_read_tags fun cdv A outer s H E hr => body__law_read_tags B C c__law_pieces c__law_read_tag f cdv A outer s H E hr
abbrev s__law_among : Stmt := topS 74
theorem sc__law_among : FnScope N__law_among ["tags", "tag", "strong"] (defScope s__law_among) := ⟨rfl, rfl, rfl, by decide +kernel, rfl, by decide +kernel, by decide +kernel⟩
theorem body__law_among (B : Blt mg) (C : Cns K mg) (c__law_strong : Cl P w K mg base 1 "_law_strong" 2 S__law_strong) (f : Addr) (cdv : Value) (A : Around) (outer : List Env) (s : Shared) (H : Hp) (E : XK) (hr : Room 1 (A.deeper (envOfC "_law_among" (defScope s__law_among) s.heap.objs.size f cdv))) : PXS (cxOf CX0 P w K mg base N__law_among "_law_among" (defScope s__law_among) f cdv A outer s H E).nox 3 (defBody s__law_among) Y__law_among :=
  (pxs_cons (pxs_if (pt_isN' (px_var (pv 1))) (pxs_one (pxs_ret px_bl)) pxs_nil)
  (pxs_cons (pxs_if (pt_eq' hr (px_var (pv 0)) px_str (.inl rfl)) (pxs_one (pxs_ret px_bl)) pxs_nil)
  (pxs_cons (pxs_for (ts := [3]) PassesOwn.never rfl (pxi_data (px_var (pv 0))) (pxg_name sc__law_among.nd rfl (by first | exact Or.inl rfl | exact Or.inr rfl)) (pxs_one (pxs_if (PXW.pt (pw_or' (pt_of_px (px_call c__law_strong (fun _ _ => run_len) hr (by decide) (by rfl) (pxa_cons (px_var (pv 3)) (pxa_cons (px_var (pv 1)) pxa_nil)))) (pw_or1' (PXW.pt (pw_and' (pt_not' (pt_of_px (px_var (pv 2)))) (pw_and1' (pt_eq' hr (px_ix (px_var (pv 3)) px_int) (px_ix (px_var (pv 1)) px_int) (.inl rfl)))))))) (pxs_one (pxs_ret px_bl)) pxs_nil)))
  (pxs_one (pxs_ret px_bl)))))
theorem cl__law_among (B : Blt mg) (C : Cns K mg) (h : Fx K mg "_law_among" s__law_among ["tags", "tag", "strong"]) (c__law_strong : Cl P w K mg base 1 "_law_strong" 2 S__law_strong) : Cl P w K mg base 2 "_law_among" 3 S__law_among :=
  h.cl fun f fd F => fn_ok F sc__law_among fun cdv A outer s H E hr => body__law_among B C c__law_strong f cdv A outer s H E hr
abbrev s__law_date : Stmt := topS 75
theorem sc__law_date : FnScope N__law_date ["fields", "name", "dates"] (defScope s__law_date) := ⟨rfl, rfl, rfl, by decide +kernel, rfl, by decide +kernel, by decide +kernel⟩
theorem body__law_date (B : Blt mg) (C : Cns K mg) (c__law_joined : Cl P w K mg base 1 "_law_joined" 2 S__law_joined) (f : Addr) (cdv : Value) (A : Around) (outer : List Env) (s : Shared) (H : Hp) (E : XK) (hr : Room 1 (A.deeper (envOfC "_law_date" (defScope s__law_date) s.heap.objs.size f cdv))) : PXS (cxOf CX0 P w K mg base N__law_date "_law_date" (defScope s__law_date) f cdv A outer s H E).nox 3 (defBody s__law_date) Y__law_date :=
  (pxs_cons (pxs_asg sc__law_date.nd rfl (by first | exact Or.inl rfl | exact Or.inr rfl) (px_call c__law_joined (fun _ _ => run_len) hr (by decide) (by rfl) (pxa_cons (px_var (pv 0)) (pxa_cons (px_var (pv 1)) pxa_nil))))
  (pxs_cons (pxs_for (ts := [4, 5]) PassesOwn.never rfl (pxi_data (px_var (pv 2))) (pxg_tup (is := [4, 5]) rfl (pgs_cons (pg_name (i := 4) sc__law_date.nd rfl (by first | exact Or.inl rfl | exact Or.inr rfl)) (pgs_cons (pg_name (i := 5) sc__law_date.nd rfl (by first | exact Or.inl rfl | exact Or.inr rfl)) pgs_nil)) rfl) (pxs_one (pxs_if (pt_eq' hr (px_var (pv 3)) (px_var (pv 4)) (.inl rfl)) (pxs_one (pxs_ret (px_var (pv 5)))) pxs_nil)))
  (pxs_one (pxs_ret px_non))))
theorem cl__law_date (B : Blt mg) (C : Cns K mg) (h : Fx K mg "_law_date" s__law_date ["fields", "name", "dates"]) (c__law_joined : Cl P w K mg base 1 "_law_joined" 2 S__law_joined) : Cl P w K mg base 2 "_law_date" 3 S__law_date :=
  h.cl fun f fd F => fn_ok F sc__law_date fun cdv A outer s H E hr => body__law_date B C c__law_joined f cdv A outer s H E hr
abbrev s__law_time : Stmt := topS 78
theorem sc__law_time : FnScope N__law_time ["draw"] (defScope s__law_time) := ⟨rfl, rfl, rfl, by decide +kernel, rfl, by decide +kernel, by decide +kernel⟩
theorem body__law_time (B : Blt mg) (C : Cns K mg) (c__law_take : Cl P w K mg base 1 "_law_take" 2 S__law_take) (f : Addr) (cdv : Value) (A : Around) (outer : List Env) (s : Shared) (H : Hp) (E : XK) (hr : Room 1 (A.deeper (envOfC "_law_time" (defScope s__law_time) s.heap.objs.size f cdv))) : PXS (cxOf CX0 P w K mg base N__law_time "_law_time" (defScope s__law_time) f cdv A outer s H E).nox 1 (defBody s__law_time) Y__law_time :=
  (pxs_one (pxs_ret (px_ix (PL.px (pl_lst (pxa_cons (px_tup (pxa_cons px_str (pxa_cons px_int pxa_nil))) (pxa_cons (px_tup (pxa_cons px_str (pxa_cons px_int pxa_nil))) (pxa_cons (px_tup (pxa_cons px_str (pxa_cons px_int pxa_nil))) (pxa_cons (px_tup (pxa_cons px_str (pxa_cons px_int pxa_nil))) (pxa_cons (px_tup (pxa_cons px_str (pxa_cons px_non pxa_nil))) (pxa_cons (px_tup (pxa_cons px_str (pxa_cons px_non pxa_nil))) pxa_nil)))))))) (px_callM c__law_take (fun _ _ => run_len) hr (by decide) (by rfl) (pv 0) (pxa_cons px_int pxa_nil)))))
theorem cl__law_time (B : Blt mg) (C : Cns K mg) (h : Fx K mg "_law_time" s__law_time ["draw"]) (c__law_take : Cl P w K mg base 1 "_law_take" 2 S__law_take) : Cl P w K mg base 2 "_law_time" 1 S__law_time :=
  h.cl fun f fd F => fn_ok F sc__law_time fun cdv A outer s H E hr => body__law_time B C c__law_take f cdv A outer s H E hr
abbrev s__law_tags_value : Stmt := topS 79
theorem sc__law_tags_value : FnScope N__law_tags_value ["draw", "tag"] (defScope s__law_tags_value) := ⟨rfl, rfl, rfl, by decide +kernel, rfl, by decide +kernel, by decide +kernel⟩
theorem body__law_tags_value (B : Blt mg) (C : Cns K mg) (c__law_take : Cl P w K mg base 1 "_law_take" 2 S__law_take) (c__law_tag_text : Cl P w K mg base 1 "_law_tag_text" 1 S__law_tag_text) (f : Addr) (cdv : Value) (A : Around) (outer : List Env) (s : Shared) (H : Hp) (E : XK) (hr : Room 1 (A.deeper (envOfC "_law_tags_value" (defScope s__law_tags_value) s.heap.objs.size f cdv))) : PXS (cxOf CX0 P w K mg base N__law_tags_value "_law_tags_value" (defScope s__law_tags_value) f cdv A outer s H E).nox 2 (defBody s__law_tags_value) Y__law_tags_value :=
  (pxs_cons (pxs_asg sc__law_tags_value.nd rfl (by first | exact Or.inl rfl | exact Or.inr rfl) (px_if (pt_isN' (px_var (pv 1))) (px_tup (pxa_cons px_bl (pxa_cons px_str pxa_nil))) (px_var (pv 1))))
  (pxs_cons (pxs_asg sc__law_tags_value.nd rfl (by first | exact Or.inl rfl | exact Or.inr rfl) (PL.px (pl_lst (pxa_cons (px_call c__law_tag_text (fun _ _ => run_len) hr (by decide) (by rfl) (pxa_cons (px_var (pv 2)) pxa_nil)) (pxa_cons (px_add (px_add (px_add px_str px_str) (px_ix (px_var (pv 2)) px_int)) px_str) (pxa_cons px_str (pxa_cons (px_add (px_add px_str (px_ix (px_var (pv 2)) px_int)) px_str) pxa_nil)))))))
  (pxs_cons (pxs_asg sc__law_tags_value.nd rfl (by first | exact Or.inl rfl | exact Or.inr rfl) (px_callM c__law_take (fun _ _ => run_len) hr (by decide) (by rfl) (pv 0) (pxa_cons px_int pxa_nil)))
  (pxs_cons (pxs_if (pt_eq' hr (px_var (pv 4)) px_int (.inl rfl)) (pxs_one (pxs_ret px_str)) pxs_nil)
  (pxs_cons (pxs_if (pt_eq' hr (px_var (pv 4)) px_int (.inl rfl)) (pxs_one (pxs_ret (px_ix (PL.px (pl_lst (pxa_cons px_str (pxa_cons px_str (pxa_cons px_str (pxa_cons px_str (pxa_cons px_str pxa_nil))))))) (px_callM c__law_take (fun _ _ => run_len) hr (by decide) (by rfl) (pv 0) (pxa_cons px_int pxa_nil))))) pxs_nil)
  (pxs_one (pxs_ret (px_join px_str (PL.px (pl_lc (own := [("k", 5)]) (ts := [5]) rfl sc__law_tags_value.nd (blkOk_by (N := N__law_tags_value) (sc := defScope s__law_tags_value) (by decide +kernel)) (pxi_rng1 (by rfl) B.b_range (px_add px_int (px_callM c__law_take (fun _ _ => run_len) hr (by decide) (by rfl) (pv 0) (pxa_cons px_int pxa_nil)))) (fun _ _ _ _ _ => (pxg_name sc__law_tags_value.nd rfl (by first | exact Or.inl rfl | exact Or.inr rfl))) (fun _ _ _ _ _ => pts_nil') (fun _ _ _ _ _ => (px_ix (px_var (pv 3)) (px_callM c__law_take (fun _ _ => run_len) hr (by decide) (by rfl) (pv 0) (pxa_cons px_int pxa_nil)))) (by decide)))))))))))
theorem cl__law_tags_value (B : Blt mg) (C : Cns K mg) (h : Fx K mg "_law_tags_value" s__law_tags_value ["draw", "tag"]) (c__law_take : Cl P w K mg base 1 "_law_take" 2 S__law_take) (c__law_tag_text : Cl P w K mg base 1 "_law_tag_text" 1 S__law_tag_text) : Cl P w K mg base 2 "_law_tags_value" 2 S__law_tags_value :=
  h.cl fun f fd F => fn_ok F sc__law_tags_value fun cdv A outer s H E hr => body__law_tags_value B C c__law_take c__law_tag_text f cdv A outer s H E hr
abbrev s__parts : Stmt := topS 21
theorem sc__parts : FnScope N__parts ["time"] (defScope s__parts) := ⟨rfl, rfl, rfl, by decide +kernel, rfl, by decide +kernel, by decide +kernel⟩
theorem body__parts (B : Blt mg) (C : Cns K mg) (c__year_of : Cl P w K mg base 2 "_year_of" 1 S__year_of) (c__days_ahead : Cl P w K mg base 1 "_days_ahead" 1 S__days_ahead) (c__days_of_month : Cl P w K mg base 2 "_days_of_month" 2 S__days_of_month) (c__clock : Cl P w K mg base 1 "_clock" 1 S__clock) (f : Addr) (cdv : Value) (A : Around) (outer : List Env) (s : Shared) (H : Hp) (E : XK) (hr : Room 2 (A.deeper (envOfC "_parts" (defScope s__parts) s.heap.objs.size f cdv))) : PXS (cxOf CX0 P w K mg base N__parts "_parts" (defScope s__parts) f cdv A outer s H E).nox 1 (defBody s__parts) Y__parts :=
  (pxs_cons (pxs_asg sc__parts.nd rfl (by first | exact Or.inl rfl | exact Or.inr rfl) (px_div (px_var (pv 0)) (px_gc (by rfl) C.c_DAY)))
  (pxs_cons (pxs_asg sc__parts.nd rfl (by first | exact Or.inl rfl | exact Or.inr rfl) (px_call c__year_of (fun _ _ => run_len) hr (by decide) (by rfl) (pxa_cons (px_var (pv 1)) pxa_nil)))
  (pxs_cons (pxs_asg sc__parts.nd rfl (by first | exact Or.inl rfl | exact Or.inr rfl) (px_sub (px_var (pv 1)) (px_call c__days_ahead (fun _ _ => run_len) hr (by decide) (by rfl) (pxa_cons (px_var (pv 2)) pxa_nil))))
  (pxs_cons (pxs_asg sc__parts.nd rfl (by first | exact Or.inl rfl | exact Or.inr rfl) px_int)
  (pxs_cons (pxs_while PassesOwn.never (pt_ge' (px_var (pv 3)) (px_call c__days_of_month (fun _ _ => run_len) hr (by decide) (by rfl) (pxa_cons (px_var (pv 2)) (pxa_cons (px_var (pv 4)) pxa_nil))) (.inl rfl)) (pxs_cons (pxs_aug ip_sub sc__parts.nd rfl (by first | exact Or.inl rfl | exact Or.inr rfl) (px_call c__days_of_month (fun _ _ => run_len) hr (by decide) (by rfl) (pxa_cons (px_var (pv 2)) (pxa_cons (px_var (pv 4)) pxa_nil))))
  (pxs_one (pxs_aug ip_add sc__parts.nd rfl (by first | exact Or.inl rfl | exact Or.inr rfl) px_int))))
  (pxs_cons (pxs_asg sc__parts.nd rfl (by first | exact Or.inl rfl | exact Or.inr rfl) (px_sub (px_var (pv 0)) (px_mul (px_var (pv 1)) (px_gc (by rfl) C.c_DAY))))
  (pxs_one (pxs_ret (px_tup (pxa_cons (px_ix (px_gc (by rfl) C.c_WEEKDAYS) (px_mod (px_add (px_var (pv 1)) (px_gc (by rfl) C.c_FIRST_WEEKDAY)) px_int)) (pxa_cons (px_var (pv 2)) (pxa_cons (px_var (pv 4)) (pxa_cons (px_add (px_var (pv 3)) px_int) (pxa_cons (px_call c__clock (fun _ _ => run_len) hr (by decide) (by rfl) (pxa_cons (px_var (pv 5)) pxa_nil)) pxa_nil))))))))))))))
theorem cl__parts (B : Blt mg) (C : Cns K mg) (h : Fx K mg "_parts" s__parts ["time"]) (c__year_of : Cl P w K mg base 2 "_year_of" 1 S__year_of) (c__days_ahead : Cl P w K mg base 1 "_days_ahead" 1 S__days_ahead) (c__days_of_month : Cl P w K mg base 2 "_days_of_month" 2 S__days_of_month) (c__clock : Cl P w K mg base 1 "_clock" 1 S__clock) : Cl P w K mg base 3 "_parts" 1 S__parts :=
  h.cl fun f fd F => fn_ok F sc__parts fun cdv A outer s H E hr => body__parts B C c__year_of c__days_ahead c__days_of_month c__clock f cdv A outer s H E hr
abbrev s__read_time : Stmt := topS 26
theorem sc__read_time : FnScope N__read_time ["year", "month", "day", "clock"] (defScope s__read_time) := ⟨rfl, rfl, rfl, by decide +kernel, rfl, by decide +kernel, by decide +kernel⟩
theorem body__read_time (B : Blt mg) (C : Cns K mg) (c__read_clock : Cl P w K mg base 2 "_read_clock" 1 S__read_clock) (c__days_of_month : Cl P w K mg base 2 "_days_of_month" 2 S__days_of_month) (c_is_digits : Cl P w K mg base 1 "is_digits" 1 S_is_digits) (c__days_ahead : Cl P w K mg base 1 "_days_ahead" 1 S__days_ahead) (f : Addr) (cdv : Value) (A : Around) (outer : List Env) (s : Shared) (H : Hp) (E : XK) (hr : Room 2 (A.deeper (envOfC "_read_time" (defScope s__read_time) s.heap.objs.size f cdv))) : PXS (cxOf CX0 P w K mg base N__read_time "_read_time" (defScope s__read_time) f cdv A outer s H E).nox 4 (defBody s__read_time) Y__read_time :=
  (pxs_cons (pxs_asg sc__read_time.nd rfl (by first | exact Or.inl rfl | exact Or.inr rfl) (px_call c__read_clock (fun _ _ => run_len) hr (by decide) (by rfl) (pxa_cons (px_var (pv 3)) pxa_nil)))
  (pxs_cons (pxs_if (PXW.pt (pw_or' (pt_isN' (px_var (pv 4))) (pw_or' (pt_nin' hr (px_var (pv 1)) (px_gc (by rfl) C.c_MONTHS) (.inl rfl)) (pw_or1' (pt_not' (pt_of_px (px_call c_is_digits (fun _ _ => run_len) hr (by decide) (by rfl) (pxa_cons (px_var (pv 2)) pxa_nil)))))))) (pxs_one (pxs_ret px_non)) pxs_nil)
  (pxs_cons (pxs_if (PXW.pt (pw_or' (pt_lt' (px_var (pv 0)) (px_gc (by rfl) C.c_FIRST_YEAR) (.inl rfl)) (pw_or1' (pt_gt' (px_var (pv 0)) (px_gc (by rfl) C.c_LAST_YEAR) (.inl rfl))))) (pxs_one (pxs_ret px_non)) pxs_nil)
  (pxs_cons (pxs_asg sc__read_time.nd rfl (by first | exact Or.inl rfl | exact Or.inr rfl) (px_tidx (by rfl) C.t_MONTHS (px_var (pv 1))))
  (pxs_cons (pxs_if (PXW.pt (pw_or' (pt_lt' (px_callT1 cr_intA vu_int (by rfl) B.b_int Fw.boot_int (px_var (pv 2))) px_int (.inl rfl)) (pw_or1' (pt_gt' (px_callT1 cr_intA vu_int (by rfl) B.b_int Fw.boot_int (px_var (pv 2))) (px_call c__days_of_month (fun _ _ => run_len) hr (by decide) (by rfl) (pxa_cons (px_var (pv 0)) (pxa_cons (px_var (pv 5)) pxa_nil))) (.inl rfl))))) (pxs_one (pxs_ret px_non)) pxs_nil)
  (pxs_cons (pxs_asg sc__read_time.nd rfl (by first | exact Or.inl rfl | exact Or.inr rfl) (px_sub (px_add (px_call c__days_ahead (fun _ _ => run_len) hr (by decide) (by rfl) (pxa_cons (px_var (pv 0)) pxa_nil)) (px_callT1 cr_intA vu_int (by rfl) B.b_int Fw.boot_int (px_var (pv 2)))) px_int))
  (pxs_cons (pxs_for (ts := [7]) PassesOwn.never rfl (pxi_rng1 (by rfl) B.b_range (px_var (pv 5))) (pxg_name sc__read_time.nd rfl (by first | exact Or.inl rfl | exact Or.inr rfl)) (pxs_one (pxs_aug ip_add sc__read_time.nd rfl (by first | exact Or.inl rfl | exact Or.inr rfl) (px_call c__days_of_month (fun _ _ => run_len) hr (by decide) (by rfl) (pxa_cons (px_var (pv 0)) (pxa_cons (px_var (pv 7)) pxa_nil))))))
  (pxs_one (pxs_ret (px_add (px_mul (px_var (pv 6)) (px_gc (by rfl) C.c_DAY)) (px_var (pv 4))))))))))))
theorem cl__read_time (B : Blt mg) (C : Cns K mg) (h : Fx K mg "_read_time" s__read_time ["year", "month", "day", "clock"]) (c__read_clock : Cl P w K mg base 2 "_read_clock" 1 S__read_clock) (c__days_of_month : Cl P w K mg base 2 "_days_of_month" 2 S__days_of_month) (c_is_digits : Cl P w K mg base 1 "is_digits" 1 S_is_digits) (c__days_ahead : Cl P w K mg base 1 "_days_ahead" 1 S__days_ahead) : Cl P w K mg base 3 "_read_time" 4 S__read_time :=
  h.cl fun f fd F => fn_ok F sc__read_time fun cdv A outer s H E hr => body__read_time B C c__read_clock c__days_of_month c_is_digits c__days_ahead f cdv A outer s H E hr
abbrev s__full_year : Stmt := topS 27
theorem sc__full_year : FnScope N__full_year ["last_two", "now"] (defScope s__full_year) := ⟨rfl, rfl, rfl, by decide +kernel, rfl, by decide +kernel, by decide +kernel⟩
theorem body__full_year (B : Blt mg) (C : Cns K mg) (c__year_of : Cl P w K mg base 2 "_year_of" 1 S__year_of) (f : Addr) (cdv : Value) (A : Around) (outer : List Env) (s : Shared) (H : Hp) (E : XK) (hr : Room 2 (A.deeper (envOfC "_full_year" (defScope s__full_year) s.heap.objs.size f cdv))) : PXS (cxOf CX0 P w K mg base N__full_year "_full_year" (defScope s__full_year) f cdv A outer s H E).nox 2 (defBody s__full_year) Y__full_year :=
  (pxs_cons (pxs_asg sc__full_year.nd rfl (by first | exact Or.inl rfl | exact Or.inr rfl) (px_add (px_call c__year_of (fun _ _ => run_len) hr (by decide) (by rfl) (pxa_cons (px_div (px_var (pv 1)) (px_gc (by rfl) C.c_DAY)) pxa_nil)) px_int))
  (pxs_one (pxs_ret (px_sub (px_var (pv 2)) (px_mod (px_sub (px_var (pv 2)) (px_var (pv 0))) px_int)))))
theorem cl__full_year (B : Blt mg) (C : Cns K mg) (h : Fx K mg "_full_year" s__full_year ["last_two", "now"]) (c__year_of : Cl P w K mg base 2 "_year_of" 1 S__year_of) : Cl P w K mg base 3 "_full_year" 2 S__full_year :=
  h.cl fun f fd F => fn_ok F sc__full_year fun cdv A outer s H E hr => body__full_year B C c__year_of f cdv A outer s H E hr
abbrev s_join_values : Stmt := topS 37
theorem sc_join_values : FnScope N_join_values ["fields", "name"] (defScope s_join_values) := ⟨rfl, rfl, rfl, by decide +kernel, rfl, by decide +kernel, by decide +kernel⟩
theorem body_join_values (B : Blt mg) (C : Cns K mg) (c_values : Cl P w K mg base 2 "values" 2 S_values) (f : Addr) (cdv : Value) (A : Around) (outer : List Env) (s : Shared) (H : Hp) (E : XK) (hr : Room 2 (A.deeper (envOfC "join_values" (defScope s_join_values) s.heap.objs.size f cdv))) : PXS (cxOf CX0 P w K mg base N_join_values "join_values" (defScope s_join_values) f cdv A outer s H E).nox 2 (defBody s_join_values) Y_join_values :=
  (pxs_cons (pxs_asg sc_join_values.nd rfl (by first | exact Or.inl rfl | exact Or.inr rfl) (px_call c_values (fun _ _ => run_len) hr (by decide) (by rfl) (pxa_cons (px_var (pv 0)) (pxa_cons (px_var (pv 1)) pxa_nil))))
  (pxs_one (pxs_ret (px_if (pt_eq' hr (px_call1 call_len vu_len (by rfl) B.b_len Fw.boot_len (px_var (pv 2))) px_int (.inl rfl)) px_non (px_join px_str (px_var (pv 2)))))))
theorem cl_join_values (B : Blt mg) (C : Cns K mg) (h : Fx K mg "join_values" s_join_values ["fields", "name"]) (c_values : Cl P w K mg base 2 "values" 2 S_values) : Cl P w K mg base 3 "join_values" 2 S_join_values :=
  h.cl fun f fd F => fn_ok F sc_join_values fun cdv A outer s H E hr => body_join_values B C c_values f cdv A outer s H E hr
abbrev s__read_last : Stmt := topS 43
theorem sc__read_last : FnScope N__read_last ["digits", "size"] (defScope s__read_last) := ⟨rfl, rfl, rfl, by decide +kernel, rfl, by decide +kernel, by decide +kernel⟩
theorem body__read_last (B : Blt mg) (C : Cns K mg) (c__number : Cl P w K mg base 2 "_number" 1 S__number) (f : Addr) (cdv : Value) (A : Around) (outer : List Env) (s : Shared) (H : Hp) (E : XK) (hr : Room 2 (A.deeper (envOfC "_read_last" (defScope s__read_last) s.heap.objs.size f cdv))) : PXS (cxOf CX0 P w K mg base N__read_last "_read_last" (defScope s__read_last) f cdv A outer s H E).nox 2 (defBody s__read_last) Y__read_last :=
  (pxs_cons (pxs_asg sc__read_last.nd rfl (by first | exact Or.inl rfl | exact Or.inr rfl) (px_call c__number (fun _ _ => run_len) hr (by decide) (by rfl) (pxa_cons (px_var (pv 0)) pxa_nil)))
  (pxs_one (pxs_ret (px_if (pt_isN' (px_var (pv 2))) px_non (px_tup (pxa_cons (px_callN (call_max2 rfl) va_max (by rfl) B.b_max Fw.boot_max (pxa_cons (px_sub (px_var (pv 1)) (px_var (pv 2))) (pxa_cons px_int pxa_nil))) (pxa_cons (px_sub (px_var (pv 1)) px_int) pxa_nil)))))))
theorem cl__read_last (B : Blt mg) (C : Cns K mg) (h : Fx K mg "_read_last" s__read_last ["digits", "size"]) (c__number : Cl P w K mg base 2 "_number" 1 S__number) : Cl P w K mg base 3 "_read_last" 2 S__read_last :=
  h.cl fun f fd F => fn_ok F sc__read_last fun cdv A outer s H E hr => body__read_last B C c__number f cdv A outer s H E hr
abbrev s_read_tag : Stmt := topS 50
theorem sc_read_tag : FnScope N_read_tag ["text"] (defScope s_read_tag) := ⟨rfl, rfl, rfl, by decide +kernel, rfl, by decide +kernel, by decide +kernel⟩
theorem body_read_tag (B : Blt mg) (C : Cns K mg) (c_is_tag_text : Cl P w K mg base 2 "is_tag_text" 1 S_is_tag_text) (f : Addr) (cdv : Value) (A : Around) (outer : List Env) (s : Shared) (H : Hp) (E : XK) (hr : Room 2 (A.deeper (envOfC "read_tag" (defScope s_read_tag) s.heap.objs.size f cdv))) : PXS (cxOf CX0 P w K mg base N_read_tag "read_tag" (defScope s_read_tag) f cdv A outer s H E).nox 1 (defBody s_read_tag) Y_read_tag :=
  (pxs_cons (pxs_asg sc_read_tag.nd rfl (by first | exact Or.inl rfl | exact Or.inr rfl) (px_starts (px_var (pv 0)) (pxa_cons (px_gc (by rfl) C.c_WEAK) pxa_nil)))
  (pxs_cons (pxs_asg sc_read_tag.nd rfl (by first | exact Or.inl rfl | exact Or.inr rfl) (px_if (pt_of_px (px_var (pv 1))) (px_sl (px_var (pv 0)) (pxo_some (px_call1 call_len vu_len (by rfl) B.b_len Fw.boot_len (px_gc (by rfl) C.c_WEAK))) pxo_none) (px_var (pv 0))))
  (pxs_cons (pxs_if (PXW.pt (pw_or' (pt_lt' (px_call1 call_len vu_len (by rfl) B.b_len Fw.boot_len (px_var (pv 2))) px_int (.inl rfl)) (pw_or' (pt_ne' hr (px_ix (px_var (pv 2)) px_int) (px_gc (by rfl) C.c_QUOTE) (.inl rfl)) (pw_or1' (pt_ne' hr (px_ix (px_var (pv 2)) (px_neg px_int)) (px_gc (by rfl) C.c_QUOTE) (.inl rfl)))))) (pxs_one (pxs_ret px_non)) pxs_nil)
  (pxs_one (pxs_ret (px_if (pt_of_px (px_call c_is_tag_text (fun _ _ => run_len) hr (by decide) (by rfl) (pxa_cons (px_sl (px_var (pv 2)) (pxo_some px_int) (pxo_some (px_neg px_int))) pxa_nil))) (px_tup (pxa_cons (px_var (pv 1)) (pxa_cons (px_sl (px_var (pv 2)) (pxo_some px_int) (pxo_some (px_neg px_int))) pxa_nil))) px_non))))))
theorem cl_read_tag (B : Blt mg) (C : Cns K mg) (h : Fx K mg "read_tag" s_read_tag ["text"]) (c_is_tag_text : Cl P w K mg base 2 "is_tag_text" 1 S_is_tag_text) : Cl P w K mg base 3 "read_tag" 1 S_read_tag :=
  h.cl fun f fd F => fn_ok F sc_read_tag fun cdv A outer s H E hr => body_read_tag B C c_is_tag_text f cdv A outer s H E hr
abbrev s__law_whole : Stmt := topS 77
theorem sc__law_whole : FnScope N__law_whole ["method", "fields", "tag", "modified", "dates"] (defScope s__law_whole) := ⟨rfl, rfl, rfl, by decide +kernel, rfl, by decide +kernel, by decide +kernel⟩
theorem body__law_whole (B : Blt mg) (C : Cns K mg) (c__law_joined : Cl P w K mg base 1 "_law_joined" 2 S__law_joined) (c__law_read_tag : Cl P w K mg base 1 "_law_read_tag" 1 S__law_read_tag) (c__law_date : Cl P w K mg base 2 "_law_date" 3 S__law_date) (c__law_strong : Cl P w K mg base 1 "_law_strong" 2 S__law_strong) (f : Addr) (cdv : Value) (A : Around) (outer : List Env) (s : Shared) (H : Hp) (E : XK) (hr : Room 2 (A.deeper (envOfC "_law_whole" (defScope s__law_whole) s.heap.objs.size f cdv))) : PXS (cxOf CX0 P w K mg base N__law_whole "_law_whole" (defScope s__law_whole) f cdv A outer s H E).nox 5 (defBody s__law_whole) Y__law_whole :=
  (pxs_cons (pxs_if (PXW.pt (pw_or' (pt_ne' hr (px_var (pv 0)) px_str (.inl rfl)) (pw_or1' (pt_isN' (px_call c__law_joined (fun _ _ => run_len) hr (by decide) (by rfl) (pxa_cons (px_var (pv 1)) (pxa_cons px_str pxa_nil))))))) (pxs_one (pxs_ret px_bl)) pxs_nil)
  (pxs_cons (pxs_asg sc__law_whole.nd rfl (by first | exact Or.inl rfl | exact Or.inr rfl) (px_call c__law_joined (fun _ _ => run_len) hr (by decide) (by rfl) (pxa_cons (px_var (pv 1)) (pxa_cons px_str pxa_nil))))
  (pxs_cons (pxs_if (pt_isN' (px_var (pv 5))) (pxs_one (pxs_ret px_bl)) pxs_nil)
  (pxs_cons (pxs_asg sc__law_whole.nd rfl (by first | exact Or.inl rfl | exact Or.inr rfl) (px_call c__law_read_tag (fun _ _ => run_len) hr (by decide) (by rfl) (pxa_cons (px_var (pv 5)) pxa_nil)))
  (pxs_cons (pxs_if (pt_notN' (px_var (pv 6))) (pxs_one (pxs_ret (px_or (px_isN (px_var (pv 2))) (px_one (px_not (px_call c__law_strong (fun _ _ => run_len) hr (by decide) (by rfl) (pxa_cons (px_var (pv 6)) (pxa_cons (px_var (pv 2)) pxa_nil)))))))) pxs_nil)
  (pxs_cons (pxs_asg sc__law_whole.nd rfl (by first | exact Or.inl rfl | exact Or.inr rfl) (px_call c__law_date (fun _ _ => run_len) hr (by decide) (by rfl) (pxa_cons (px_var (pv 1)) (pxa_cons px_str (pxa_cons (px_var (pv 4)) pxa_nil)))))
  (pxs_one (pxs_ret (px_or (px_isN (px_var (pv 7))) (px_one (px_ne hr (px_var (pv 3)) (px_var (pv 7)) (.inl rfl))))))))))))
theorem cl__law_whole (B : Blt mg) (C : Cns K mg) (h : Fx K mg "_law_whole" s__law_whole ["method", "fields", "tag", "modified", "dates"]) (c__law_joined : Cl P w K mg base 1 "_law_joined" 2 S__law_joined) (c__law_read_tag : Cl P w K mg base 1 "_law_read_tag" 1 S__law_read_tag) (c__law_date : Cl P w K mg base 2 "_law_date" 3 S__law_date) (c__law_strong : Cl P w K mg base 1 "_law_strong" 2 S__law_strong) : Cl P w K mg base 3 "_law_whole" 5 S__law_whole :=
  h.cl fun f fd F => fn_ok F sc__law_whole fun cdv A outer s H E hr => body__law_whole B C c__law_joined c__law_read_tag c__law_date c__law_strong f cdv A outer s H E hr
abbrev s__law_fields : Stmt := topS 80
theorem sc__law_fields : FnScope N__law_fields ["draw", "tag"] (defScope s__law_fields) := ⟨rfl, rfl, rfl, by decide +kernel, rfl, by decide +kernel, by decide +kernel⟩
theorem body__law_fields (B : Blt mg) (C : Cns K mg) (c__law_take : Cl P w K mg base 1 "_law_take" 2 S__law_take) (c__law_tags_value : Cl P w K mg base 2 "_law_tags_value" 2 S__law_tags_value) (c__law_time : Cl P w K mg base 2 "_law_time" 1 S__law_time) (f : Addr) (cdv : Value) (A : Around) (outer : List Env) (s : Shared) (H : Hp) (E : XK) (hr : Room 2 (A.deeper (envOfC "_law_fields" (defScope s__law_fields) s.heap.objs.size f cdv))) : PXS (cxOf CX0 P w K mg base N__law_fields "_law_fields" (defScope s__law_fields) f cdv A outer s H E).nox 2 (defBody s__law_fields) Y__law_fields :=
  (pxs_cons (pxs_asgL (by decide) sc__law_fields.nd rfl (by first | exact Or.inl rfl | exact Or.inr rfl) (pl_lst pxa_nil))
  (pxs_cons (pxs_for (ts := [3]) PassesOwn.never rfl (pxi_data (PL.px (pl_lst (pxa_cons px_str (pxa_cons px_str pxa_nil))))) (pxg_name sc__law_fields.nd rfl (by first | exact Or.inl rfl | exact Or.inr rfl)) (pxs_one (pxs_if (pt_eq' hr (px_callM c__law_take (fun _ _ => run_len) hr (by decide) (by rfl) (pv 0) (pxa_cons px_int pxa_nil)) px_int (.inl rfl)) (pxs_cons (pxs_appO (pv 2) (px_tup (pxa_cons (px_var (pv 3)) (pxa_cons (px_callM c__law_tags_value (fun _ _ => run_len) hr (by decide) (by rfl) (pv 0) (pxa_cons (px_var (pv 1)) pxa_nil)) pxa_nil))))
  (pxs_one (pxs_if (pt_eq' hr (px_callM c__law_take (fun _ _ => run_len) hr (by decide) (by rfl) (pv 0) (pxa_cons px_int pxa_nil)) px_int (.inl rfl)) (pxs_one (pxs_appO (pv 2) (px_tup (pxa_cons (px_var (pv 3)) (pxa_cons (px_callM c__law_tags_value (fun _ _ => run_len) hr (by decide) (by rfl) (pv 0) (pxa_cons (px_var (pv 1)) pxa_nil)) pxa_nil))))) pxs_nil))) pxs_nil)))
  (pxs_cons (pxs_for (ts := [3]) PassesOwn.never rfl (pxi_data (PL.px (pl_lst (pxa_cons px_str (pxa_cons px_str pxa_nil))))) (pxg_name sc__law_fields.nd rfl (by first | exact Or.inl rfl | exact Or.inr rfl)) (pxs_one (pxs_if (pt_eq' hr (px_callM c__law_take (fun _ _ => run_len) hr (by decide) (by rfl) (pv 0) (pxa_cons px_int pxa_nil)) px_int (.inl rfl)) (pxs_cons (pxs_appO (pv 2) (px_tup (pxa_cons (px_var (pv 3)) (pxa_cons (px_ix (px_callM c__law_time (fun _ _ => run_len) hr (by decide) (by rfl) (pv 0) pxa_nil) px_int) pxa_nil))))
  (pxs_one (pxs_if (pt_eq' hr (px_callM c__law_take (fun _ _ => run_len) hr (by decide) (by rfl) (pv 0) (pxa_cons px_int pxa_nil)) px_int (.inl rfl)) (pxs_one (pxs_appO (pv 2) (px_tup (pxa_cons (px_var (pv 3)) (pxa_cons (px_ix (px_callM c__law_time (fun _ _ => run_len) hr (by decide) (by rfl) (pv 0) pxa_nil) px_int) pxa_nil))))) pxs_nil))) pxs_nil)))
  (pxs_cons (pxs_if (pt_eq' hr (px_callM c__law_take (fun _ _ => run_len) hr (by decide) (by rfl) (pv 0) (pxa_cons px_int pxa_nil)) px_int (.inl rfl)) (pxs_one (pxs_appO (pv 2) (px_tup (pxa_cons px_str (pxa_cons px_str pxa_nil))))) pxs_nil)
  (pxs_cons (pxs_if (pt_eq' hr (px_callM c__law_take (fun _ _ => run_len) hr (by decide) (by rfl) (pv 0) (pxa_cons px_int pxa_nil)) px_int (.inl rfl)) (pxs_cons (pxs_asg sc__law_fields.nd rfl (by first | exact Or.inl rfl | exact Or.inr rfl) (px_ix (PL.px (pl_lst (pxa_cons (px_ix (px_callM c__law_time (fun _ _ => run_len) hr (by decide) (by rfl) (pv 0) pxa_nil) px_int) (pxa_cons (px_callM c__law_tags_value (fun _ _ => run_len) hr (by decide) (by rfl) (pv 0) (pxa_cons (px_var (pv 1)) pxa_nil)) pxa_nil)))) (px_callM c__law_take (fun _ _ => run_len) hr (by decide) (by rfl) (pv 0) (pxa_cons px_int pxa_nil))))
  (pxs_one (pxs_appO (pv 2) (px_tup (pxa_cons px_str (pxa_cons (px_var (pv 5)) pxa_nil)))))) pxs_nil)
  (pxs_cons (pxs_appO (pv 2) (px_tup (pxa_cons px_str (pxa_cons px_str pxa_nil))))
  (pxs_cons (pxs_asg sc__law_fields.nd rfl (by first | exact Or.inl rfl | exact Or.inr rfl) (px_callM c__law_take (fun _ _ => run_len) hr (by decide) (by rfl) (pv 0) (pxa_cons (px_call1 call_len vu_len (by rfl) B.b_len Fw.boot_len (px_own (pv 2))) pxa_nil)))
  (pxs_one (pxs_ret (px_callT1 call_tuple_of vu_tuple (by rfl) B.b_tuple Fw.boot_tuple (PL.px (pl_cat (px_sl (px_any (pv 2)) (pxo_some (px_var (pv 4))) pxo_none) (px_sl (px_any (pv 2)) pxo_none (pxo_some (px_var (pv 4))))))))))))))))
theorem cl__law_fields (B : Blt mg) (C : Cns K mg) (h : Fx K mg "_law_fields" s__law_fields ["draw", "tag"]) (c__law_take : Cl P w K mg base 1 "_law_take" 2 S__law_take) (c__law_tags_value : Cl P w K mg base 2 "_law_tags_value" 2 S__law_tags_value) (c__law_time : Cl P w K mg base 2 "_law_time" 1 S__law_time) : Cl P w K mg base 3 "_law_fields" 2 S__law_fields :=
  h.cl fun f fd F => fn_ok F sc__law_fields fun cdv A outer s H E hr => body__law_fields B C c__law_take c__law_tags_value c__law_time f cdv A outer s H E hr
abbrev s_write_date : Stmt := topS 22
theorem sc_write_date : FnScope N_write_date ["time"] (defScope s_write_date) := ⟨rfl, rfl, rfl, by decide +kernel, rfl, by decide +kernel, by decide +kernel⟩
theorem body_write_date (B : Blt mg) (C : Cns K mg) (c__parts : Cl P w K mg base 3 "_parts" 1 S__parts) (f : Addr) (cdv : Value) (A : Around) (outer : List Env) (s : Shared) (H : Hp) (E : XK) (hr : Room 3 (A.deeper (envOfC "write_date" (defScope s_write_date) s.heap.objs.size f cdv))) : PXS (cxOf CX0 P w K mg base N_write_date "write_date" (defScope s_write_date) f cdv A outer s H E).nox 1 (defBody s_write_date) Y_write_date :=
  (pxs_cons (pxs_asgG (px_call c__parts (fun _ _ => run_len) hr (by decide) (by rfl) (pxa_cons (px_var (pv 0)) pxa_nil)) (pxg_tup (is := [1, 2, 3, 4, 5]) rfl (pgs_cons (pg_name (i := 1) sc_write_date.nd rfl (by first | exact Or.inl rfl | exact Or.inr rfl)) (pgs_cons (pg_name (i := 2) sc_write_date.nd rfl (by first | exact Or.inl rfl | exact Or.inr rfl)) (pgs_cons (pg_name (i := 3) sc_write_date.nd rfl (by first | exact Or.inl rfl | exact Or.inr rfl)) (pgs_cons (pg_name (i := 4) sc_write_date.nd rfl (by first | exact Or.inl rfl | exact Or.inr rfl)) (pgs_cons (pg_name (i := 5) sc_write_date.nd rfl (by first | exact Or.inl rfl | exact Or.inr rfl)) pgs_nil))))) rfl))
  (pxs_one (pxs_ret (px_joined (.cons (px_fmt (px_sl (px_var (pv 1)) pxo_none (pxo_some px_int))) (.cons px_str (.cons (px_spec (px_var (pv 4)) (px_joined1 px_str)) (.cons px_str (.cons (px_fmt (px_ix (px_gc (by rfl) C.c_MONTHS) (px_var (pv 3)))) (.cons px_str (.cons (px_fmt (px_var (pv 2))) (.cons px_str (.cons (px_fmt (px_var (pv 5))) (.cons px_str .nil))))))))))))))
theorem cl_write_date (B : Blt mg) (C : Cns K mg) (h : Fx K mg "write_date" s_write_date ["time"]) (c__parts : Cl P w K mg base 3 "_parts" 1 S__parts) : Cl P w K mg base 4 "write_date" 1 S_write_date :=
  h.cl fun f fd F => fn_ok F sc_write_date fun cdv A outer s H E hr => body_write_date B C c__parts f cdv A outer s H E hr
abbrev s__write_dashed : Stmt := topS 23
theorem sc__write_dashed : FnScope N__write_dashed ["time"] (defScope s__write_dashed) := ⟨rfl, rfl, rfl, by decide +kernel, rfl, by decide +kernel, by decide +kernel⟩
theorem body__write_dashed (B : Blt mg) (C : Cns K mg) (c__parts : Cl P w K mg base 3 "_parts" 1 S__parts) (f : Addr) (cdv : Value) (A : Around) (outer : List Env) (s : Shared) (H : Hp) (E : XK) (hr : Room 3 (A.deeper (envOfC "_write_dashed" (defScope s__write_dashed) s.heap.objs.size f cdv))) : PXS (cxOf CX0 P w K mg base N__write_dashed "_write_dashed" (defScope s__write_dashed) f cdv A outer s H E).nox 1 (defBody s__write_dashed) Y__write_dashed :=
  (pxs_cons (pxs_asgG (px_call c__parts (fun _ _ => run_len) hr (by decide) (by rfl) (pxa_cons (px_var (pv 0)) pxa_nil)) (pxg_tup (is := [2, 3, 4, 5, 6]) rfl (pgs_cons (pg_name (i := 2) sc__write_dashed.nd rfl (by first | exact Or.inl rfl | exact Or.inr rfl)) (pgs_cons (pg_name (i := 3) sc__write_dashed.nd rfl (by first | exact Or.inl rfl | exact Or.inr rfl)) (pgs_cons (pg_name (i := 4) sc__write_dashed.nd rfl (by first | exact Or.inl rfl | exact Or.inr rfl)) (pgs_cons (pg_name (i := 5) sc__write_dashed.nd rfl (by first | exact Or.inl rfl | exact Or.inr rfl)) (pgs_cons (pg_name (i := 6) sc__write_dashed.nd rfl (by first | exact Or.inl rfl | exact Or.inr rfl)) pgs_nil))))) rfl))
  (pxs_cons (pxs_asg sc__write_dashed.nd rfl (by first | exact Or.inl rfl | exact Or.inr rfl) (px_mod (px_var (pv 3)) px_int))
  (pxs_one (pxs_ret (px_joined (.cons (px_fmt (px_var (pv 2))) (.cons px_str (.cons (px_spec (px_var (pv 5)) (px_joined1 px_str)) (.cons px_str (.cons (px_fmt (px_ix (px_gc (by rfl) C.c_MONTHS) (px_var (pv 4)))) (.cons px_str (.cons (px_spec (px_var (pv 1)) (px_joined1 px_str)) (.cons px_str (.cons (px_fmt (px_var (pv 6))) (.cons px_str .nil)))))))))))))))
theorem cl__write_dashed (B : Blt mg) (C : Cns K mg) (h : Fx K mg "_write_dashed" s__write_dashed ["time"]) (c__parts : Cl P w K mg base 3 "_parts" 1 S__parts) : Cl P w K mg base 4 "_write_dashed" 1 S__write_dashed :=
  h.cl fun f fd F => fn_ok F sc__write_dashed fun cdv A outer s H E hr => body__write_dashed B C c__parts f cdv A outer s H E hr
abbrev s__write_spaced : Stmt := topS 24
theorem sc__write_spaced : FnScope N__write_spaced ["time"] (defScope s__write_spaced) := ⟨rfl, rfl, rfl, by decide +kernel, rfl, by decide +kernel, by decide +kernel⟩
theorem body__write_spaced (B : Blt mg) (C : Cns K mg) (c__parts : Cl P w K mg base 3 "_parts" 1 S__parts) (f : Addr) (cdv : Value) (A : Around) (outer : List Env) (s : Shared) (H : Hp) (E : XK) (hr : Room 3 (A.deeper (envOfC "_write_spaced" (defScope s__write_spaced) s.heap.objs.size f cdv))) : PXS (cxOf CX0 P w K mg base N__write_spaced "_write_spaced" (defScope s__write_spaced) f cdv A outer s H E).nox 1 (defBody s__write_spaced) Y__write_spaced :=
  (pxs_cons (pxs_asgG (px_call c__parts (fun _ _ => run_len) hr (by decide) (by rfl) (pxa_cons (px_var (pv 0)) pxa_nil)) (pxg_tup (is := [1, 2, 3, 4, 5]) rfl (pgs_cons (pg_name (i := 1) sc__write_spaced.nd rfl (by first | exact Or.inl rfl | exact Or.inr rfl)) (pgs_cons (pg_name (i := 2) sc__write_spaced.nd rfl (by first | exact Or.inl rfl | exact Or.inr rfl)) (pgs_cons (pg_name (i := 3) sc__write_spaced.nd rfl (by first | exact Or.inl rfl | exact Or.inr rfl)) (pgs_cons (pg_name (i := 4) sc__write_spaced.nd rfl (by first | exact Or.inl rfl | exact Or.inr rfl)) (pgs_cons (pg_name (i := 5) sc__write_spaced.nd rfl (by first | exact Or.inl rfl | exact Or.inr rfl)) pgs_nil))))) rfl))
  (pxs_one (pxs_ret (px_joined (.cons (px_fmt (px_sl (px_var (pv 1)) pxo_none (pxo_some px_int))) (.cons px_str (.cons (px_fmt (px_ix (px_gc (by rfl) C.c_MONTHS) (px_var (pv 3)))) (.cons px_str (.cons (px_spec (px_var (pv 4)) (px_joined1 px_str)) (.cons px_str (.cons (px_fmt (px_var (pv 5))) (.cons px_str (.cons (px_fmt (px_var (pv 2))) .nil)))))))))))))
theorem cl__write_spaced (B : Blt mg) (C : Cns K mg) (h : Fx K mg "_write_spaced" s__write_spaced ["time"]) (c__parts : Cl P w K mg base 3 "_parts" 1 S__parts) : Cl P w K mg base 4 "_write_spaced" 1 S__write_spaced :=
  h.cl fun f fd F => fn_ok F sc__write_spaced fun cdv A outer s H E hr => body__write_spaced B C c__parts f cdv A outer s H E hr
abbrev s__read_range : Stmt := topS 44
theorem sc__read_range : FnScope N__read_range ["element", "size"] (defScope s__read_range) := ⟨rfl, rfl, rfl, by decide +kernel, rfl, by decide +kernel, by decide +kernel⟩
theorem body__read_range (B : Blt mg) (C : Cns K mg) (c__number : Cl P w K mg base 2 "_number" 1 S__number) (c__read_last : Cl P w K mg base 3 "_read_last" 2 S__read_last) (f : Addr) (cdv : Value) (A : Around) (outer : List Env) (s : Shared) (H : Hp) (E : XK) (hr : Room 3 (A.deeper (envOfC "_read_range" (defScope s__read_range) s.heap.objs.size f cdv))) : PXS (cxOf CX0 P w K mg base N__read_range "_read_range" (defScope s__read_range) f cdv A outer s H E).nox 2 (defBody s__read_range) Y__read_range :=
  (pxs_cons (pxs_asgG (px_partition (px_var (pv 0)) px_str) (pxg_tup (is := [4, 5, 6]) rfl (pgs_cons (pg_name (i := 4) sc__read_range.nd rfl (by first | exact Or.inl rfl | exact Or.inr rfl)) (pgs_cons (pg_name (i := 5) sc__read_range.nd rfl (by first | exact Or.inl rfl | exact Or.inr rfl)) (pgs_cons (pg_name (i := 6) sc__read_range.nd rfl (by first | exact Or.inl rfl | exact Or.inr rfl)) pgs_nil))) rfl))
  (pxs_cons (pxs_if (pt_eq' hr (px_var (pv 4)) px_str (.inl rfl)) (pxs_one (pxs_ret (px_call c__read_last (fun _ _ => run_len) hr (by decide) (by rfl) (pxa_cons (px_var (pv 6)) (pxa_cons (px_var (pv 1)) pxa_nil))))) pxs_nil)
  (pxs_cons (pxs_asg sc__read_range.nd rfl (by first | exact Or.inl rfl | exact Or.inr rfl) (px_call c__number (fun _ _ => run_len) hr (by decide) (by rfl) (pxa_cons (px_var (pv 4)) pxa_nil)))
  (pxs_cons (pxs_asg sc__read_range.nd rfl (by first | exact Or.inl rfl | exact Or.inr rfl) (px_if (pt_eq' hr (px_var (pv 6)) px_str (.inl rfl)) (px_sub (px_var (pv 1)) px_int) (px_call c__number (fun _ _ => run_len) hr (by decide) (by rfl) (pxa_cons (px_var (pv 6)) pxa_nil))))
  (pxs_cons (pxs_if (PXW.pt (pw_or' (pt_eq' hr (px_var (pv 5)) px_str (.inl rfl)) (pw_or' (pt_isN' (px_var (pv 2))) (pw_or1' (pt_isN' (px_var (pv 3))))))) (pxs_one (pxs_ret px_non)) pxs_nil)
  (pxs_cons (pxs_if (PXW.pt (pw_and' (pt_ne' hr (px_var (pv 6)) px_str (.inl rfl)) (pw_and1' (pt_lt' (px_var (pv 3)) (px_var (pv 2)) (.inl rfl))))) (pxs_one (pxs_ret px_non)) pxs_nil)
  (pxs_one (pxs_ret (px_tup (pxa_cons (px_var (pv 2)) (pxa_cons (px_callN (call_min2 rfl) va_min (by rfl) B.b_min Fw.boot_min (pxa_cons (px_var (pv 3)) (pxa_cons (px_sub (px_var (pv 1)) px_int) pxa_nil))) pxa_nil)))))))))))
theorem cl__read_range (B : Blt mg) (C : Cns K mg) (h : Fx K mg "_read_range" s__read_range ["element", "size"]) (c__number : Cl P w K mg base 2 "_number" 1 S__number) (c__read_last : Cl P w K mg base 3 "_read_last" 2 S__read_last) : Cl P w K mg base 4 "_read_range" 2 S__read_range :=
  h.cl fun f fd F => fn_ok F sc__read_range fun cdv A outer s H E hr => body__read_range B C c__number c__read_last f cdv A outer s H E hr
abbrev s_read_tags : Stmt := topS 51
theorem sc_read_tags : FnScope N_read_tags ["value"] (defScope s_read_tags) := ⟨rfl, rfl, rfl, by decide +kernel, rfl, by decide +kernel, by decide +kernel⟩
theorem body_read_tags (B : Blt mg) (C : Cns K mg) (c_split_list : Cl P w K mg base 2 "split_list" 1 S_split_list) (c_read_tag : Cl P w K mg base 3 "read_tag" 1 S_read_tag) (f : Addr) (cdv : Value) (A : Around) (outer : List Env) (s : Shared) (H : Hp) (E : XK) (hr : Room 3 (A.deeper (envOfC "read_tags" (defScope s_read_tags) s.heap.objs.size f cdv))) : PXS (cxOf CX0 P w K mg base N_read_tags "read_tags" (defScope s_read_tags) f cdv A outer s H E).nox 1 (defBody s_read_tags) Y_read_tags :=
  (pxs_cons (pxs_if (pt_eq' hr (px_var (pv 0)) (px_gc (by rfl) C.c_STAR) (.inl rfl)) (pxs_one (pxs_ret (px_gc (by rfl) C.c_STAR))) pxs_nil)
  (pxs_cons (pxs_asg sc_read_tags.nd rfl (by first | exact Or.inl rfl | exact Or.inr rfl) (px_call c_split_list (fun _ _ => run_len) hr (by decide) (by rfl) (pxa_cons (px_var (pv 0)) pxa_nil)))
  (pxs_cons (pxs_if (PXW.pt (pw_or' (pt_isN' (px_var (pv 1))) (pw_or1' (pt_eq' hr (px_call1 call_len vu_len (by rfl) B.b_len Fw.boot_len (px_var (pv 1))) px_int (.inl rfl))))) (pxs_one (pxs_ret px_non)) pxs_nil)
  (pxs_cons (by first | exact pxs_lcD (own := [("part", 3)]) (ts := [3]) rfl sc_read_tags.nd rfl rfl (sw_true rfl rfl rfl (by decide +kernel)) (blkOk_by (N := N_read_tags) (sc := defScope s_read_tags) (by decide +kernel)) (pxi_data (px_var (pv 1))) (fun _ _ _ _ _ => (pxg_name sc_read_tags.nd rfl (by first | exact Or.inl rfl | exact Or.inr rfl))) (fun _ _ _ _ _ => pts_nil') (fun _ _ _ _ _ => (px_call c_read_tag (fun _ _ => run_len) hr (by decide) (by rfl) (pxa_cons (px_var (pv 3)) pxa_nil))) (by decide) | exact pxs_asg sc_read_tags.nd rfl (by first | exact Or.inl rfl | exact Or.inr rfl) (PL.px (pl_lc (own := [("part", 3)]) (ts := [3]) rfl sc_read_tags.nd (blkOk_by (N := N_read_tags) (sc := defScope s_read_tags) (by decide +kernel)) (pxi_data (px_var (pv 1))) (fun _ _ _ _ _ => (pxg_name sc_read_tags.nd rfl (by first | exact Or.inl rfl | exact Or.inr rfl))) (fun _ _ _ _ _ => pts_nil') (fun _ _ _ _ _ => (px_call c_read_tag (fun _ _ => run_len) hr (by decide) (by rfl) (pxa_cons (px_var (pv 3)) pxa_nil))) (by decide))))
  (pxs_one (pxs_ret (px_if (pt_in' hr px_non (px_var (pv 2)) (.inl rfl)) px_non (px_var (pv 2)))))))))
theorem cl_read_tags (B : Blt mg) (C : Cns K mg) (h : Fx K mg "read_tags" s_read_tags ["value"]) (c_split_list : Cl P w K mg base 2 "split_list" 1 S_split_list) (c_read_tag : Cl P w K mg base 3 "read_tag" 1 S_read_tag) : Cl P w K mg base 4 "read_tags" 1 S_read_tags :=
  h.cl fun f fd F => fn_ok F sc_read_tags fun cdv A outer s H E hr => body_read_tags B C c_split_list c_read_tag f cdv A outer s H E hr
abbrev s__law_judge : Stmt := topS 76
theorem sc__law_judge : FnScope N__law_judge ["method", "fields", "tag", "modified", "dates"] (defScope s__law_judge) := ⟨rfl, rfl, rfl, by decide +kernel, rfl, by decide +kernel, by decide +kernel⟩
theorem body__law_judge (B : Blt mg) (C : Cns K mg) (c__law_joined : Cl P w K mg base 1 "_law_joined" 2 S__law_joined) (c__law_read_tags : Cl P w K mg base 2 "_law_read_tags" 1 S__law_read_tags) (c__law_date : Cl P w K mg base 2 "_law_date" 3 S__law_date) (c__law_among : Cl P w K mg base 2 "_law_among" 3 S__law_among) (c__law_whole : Cl P w K mg base 3 "_law_whole" 5 S__law_whole) (f : Addr) (cdv : Value) (A : Around) (outer : List Env) (s : Shared) (H : Hp) (E : XK) (hr : Room 3 (A.deeper (envOfC "_law_judge" (defScope s__law_judge) s.heap.objs.size f cdv))) : PXS (cxOf CX0 P w K mg base N__law_judge "_law_judge" (defScope s__law_judge) f cdv A outer s H E).nox 5 (defBody s__law_judge) Y__law_judge :=
  (pxs_cons (pxs_asg sc__law_judge.nd rfl (by first | exact Or.inl rfl | exact Or.inr rfl) (px_in hr (px_var (pv 0)) (PL.px (pl_lst (pxa_cons px_str (pxa_cons px_str pxa_nil)))) (.inl rfl)))
  (pxs_cons (pxs_asg sc__law_judge.nd rfl (by first | exact Or.inl rfl | exact Or.inr rfl) (px_call c__law_joined (fun _ _ => run_len) hr (by decide) (by rfl) (pxa_cons (px_var (pv 1)) (pxa_cons px_str pxa_nil))))
  (pxs_cons (pxs_if (pt_notN' (px_var (pv 6))) (pxs_cons (pxs_asg sc__law_judge.nd rfl (by first | exact Or.inl rfl | exact Or.inr rfl) (px_call c__law_read_tags (fun _ _ => run_len) hr (by decide) (by rfl) (pxa_cons (px_var (pv 6)) pxa_nil)))
  (pxs_one (pxs_if (PXW.pt (pw_or' (pt_isN' (px_var (pv 8))) (pw_or1' (pt_not' (pt_of_px (px_call c__law_among (fun _ _ => run_len) hr (by decide) (by rfl) (pxa_cons (px_var (pv 8)) (pxa_cons (px_var (pv 2)) (pxa_cons px_bl pxa_nil))))))))) (pxs_one (pxs_ret (px_tup (pxa_cons px_int (pxa_cons px_bl pxa_nil))))) pxs_nil))) (pxs_cons (pxs_asg sc__law_judge.nd rfl (by first | exact Or.inl rfl | exact Or.inr rfl) (px_call c__law_date (fun _ _ => run_len) hr (by decide) (by rfl) (pxa_cons (px_var (pv 1)) (pxa_cons px_str (pxa_cons (px_var (pv 4)) pxa_nil)))))
  (pxs_one (pxs_if (PXW.pt (pw_and' (pt_notN' (px_var (pv 9))) (pw_and' (pt_notN' (px_var (pv 3))) (pw_and1' (pt_gt' (px_var (pv 3)) (px_var (pv 9)) (.inl rfl)))))) (pxs_one (pxs_ret (px_tup (pxa_cons px_int (pxa_cons px_bl pxa_nil))))) pxs_nil))))
  (pxs_cons (pxs_asg sc__law_judge.nd rfl (by first | exact Or.inl rfl | exact Or.inr rfl) (px_call c__law_joined (fun _ _ => run_len) hr (by decide) (by rfl) (pxa_cons (px_var (pv 1)) (pxa_cons px_str pxa_nil))))
  (pxs_cons (pxs_asg sc__law_judge.nd rfl (by first | exact Or.inl rfl | exact Or.inr rfl) (px_if (pt_isN' (px_var (pv 7))) px_non (px_call c__law_read_tags (fun _ _ => run_len) hr (by decide) (by rfl) (pxa_cons (px_var (pv 7)) pxa_nil))))
  (pxs_cons (pxs_if (pt_notN' (px_var (pv 8))) (pxs_one (pxs_if (pt_of_px (px_call c__law_among (fun _ _ => run_len) hr (by decide) (by rfl) (pxa_cons (px_var (pv 8)) (pxa_cons (px_var (pv 2)) (pxa_cons px_bl pxa_nil))))) (pxs_one (pxs_ret (px_if (pt_of_px (px_var (pv 5))) (px_tup (pxa_cons px_int (pxa_cons px_bl pxa_nil))) (px_tup (pxa_cons px_int (pxa_cons px_bl pxa_nil)))))) pxs_nil)) (pxs_cons (pxs_asg sc__law_judge.nd rfl (by first | exact Or.inl rfl | exact Or.inr rfl) (px_call c__law_date (fun _ _ => run_len) hr (by decide) (by rfl) (pxa_cons (px_var (pv 1)) (pxa_cons px_str (pxa_cons (px_var (pv 4)) pxa_nil)))))
  (pxs_one (pxs_if (PXW.pt (pw_and' (pt_of_px (px_var (pv 5))) (pw_and' (pt_notN' (px_var (pv 9))) (pw_and' (pt_notN' (px_var (pv 3))) (pw_and1' (pt_le' (px_var (pv 3)) (px_var (pv 9)) (.inl rfl))))))) (pxs_one (pxs_ret (px_tup (pxa_cons px_int (pxa_cons px_bl pxa_nil))))) pxs_nil))))
  (pxs_one (pxs_ret (px_tup (pxa_cons px_int (pxa_cons (px_call c__law_whole (fun _ _ => run_len) hr (by decide) (by rfl) (pxa_cons (px_var (pv 0)) (pxa_cons (px_var (pv 1)) (pxa_cons (px_var (pv 2)) (pxa_cons (px_var (pv 3)) (pxa_cons (px_var (pv 4)) pxa_nil)))))) pxa_nil)))))))))))
theorem cl__law_judge (B : Blt mg) (C : Cns K mg) (h : Fx K mg "_law_judge" s__law_judge ["method", "fields", "tag", "modified", "dates"]) (c__law_joined : Cl P w K mg base 1 "_law_joined" 2 S__law_joined) (c__law_read_tags : Cl P w K mg base 2 "_law_read_tags" 1 S__law_read_tags) (c__law_date : Cl P w K mg base 2 "_law_date" 3 S__law_date) (c__law_among : Cl P w K mg base 2 "_law_among" 3 S__law_among) (c__law_whole : Cl P w K mg base 3 "_law_whole" 5 S__law_whole) : Cl P w K mg base 4 "_law_judge" 5 S__law_judge :=
  h.cl fun f fd F => fn_ok F sc__law_judge fun cdv A outer s H E hr => body__law_judge B C c__law_joined c__law_read_tags c__law_date c__law_among c__law_whole f cdv A outer s H E hr
abbrev s__read_fixed : Stmt := topS 28
theorem sc__read_fixed : FnScope N__read_fixed ["text"] (defScope s__read_fixed) := ⟨rfl, rfl, rfl, by decide +kernel, rfl, by decide +kernel, by decide +kernel⟩
theorem body__read_fixed (B : Blt mg) (C : Cns K mg) (c__read_time : Cl P w K mg base 3 "_read_time" 4 S__read_time) (c_is_digits : Cl P w K mg base 1 "is_digits" 1 S_is_digits) (c_write_date : Cl P w K mg base 4 "write_date" 1 S_write_date) (f : Addr) (cdv : Value) (A : Around) (outer : List Env) (s : Shared) (H : Hp) (E : XK) (hr : Room 4 (A.deeper (envOfC "_read_fixed" (defScope s__read_fixed) s.heap.objs.size f cdv))) : PXS (cxOf CX0 P w K mg base N__read_fixed "_read_fixed" (defScope s__read_fixed) f cdv A outer s H E).nox 1 (defBody s__read_fixed) Y__read_fixed :=
  (pxs_cons (pxs_if (pt_not' (pt_of_px (px_call c_is_digits (fun _ _ => run_len) hr (by decide) (by rfl) (pxa_cons (px_sl (px_var (pv 0)) (pxo_some px_int) (pxo_some px_int)) pxa_nil)))) (pxs_one (pxs_ret px_non)) pxs_nil)
  (pxs_cons (pxs_asg sc__read_fixed.nd rfl (by first | exact Or.inl rfl | exact Or.inr rfl) (px_call c__read_time (fun _ _ => run_len) hr (by decide) (by rfl) (pxa_cons (px_callT1 cr_intA vu_int (by rfl) B.b_int Fw.boot_int (px_sl (px_var (pv 0)) (pxo_some px_int) (pxo_some px_int))) (pxa_cons (px_sl (px_var (pv 0)) (pxo_some px_int) (pxo_some px_int)) (pxa_cons (px_sl (px_var (pv 0)) (pxo_some px_int) (pxo_some px_int)) (pxa_cons (px_sl (px_var (pv 0)) (pxo_some px_int) (pxo_some px_int)) pxa_nil))))))
  (pxs_one (pxs_ret (px_if (PXW.pt (pw_and' (pt_notN' (px_var (pv 1))) (pw_and1' (pt_eq' hr (px_call c_write_date (fun _ _ => run_len) hr (by decide) (by rfl) (pxa_cons (px_var (pv 1)) pxa_nil)) (px_var (pv 0)) (.inl rfl))))) (px_var (pv 1)) px_non)))))
theorem cl__read_fixed (B : Blt mg) (C : Cns K mg) (h : Fx K mg "_read_fixed" s__read_fixed ["text"]) (c__read_time : Cl P w K mg base 3 "_read_time" 4 S__read_time) (c_is_digits : Cl P w K mg base 1 "is_digits" 1 S_is_digits) (c_write_date : Cl P w K mg base 4 "write_date" 1 S_write_date) : Cl P w K mg base 5 "_read_fixed" 1 S__read_fixed :=
  h.cl fun f fd F => fn_ok F sc__read_fixed fun cdv A outer s H E hr => body__read_fixed B C c__read_time c_is_digits c_write_date f cdv A outer s H E hr
abbrev s__read_dashed : Stmt := topS 29
theorem sc__read_dashed : FnScope N__read_dashed ["text", "now"] (defScope s__read_dashed) := ⟨rfl, rfl, rfl, by decide +kernel, rfl, by decide +kernel, by decide +kernel⟩
theorem body__read_dashed (B : Blt mg) (C : Cns K mg) (c__read_time : Cl P w K mg base 3 "_read_time" 4 S__read_time) (c_is_digits : Cl P w K mg base 1 "is_digits" 1 S_is_digits) (c__full_year : Cl P w K mg base 3 "_full_year" 2 S__full_year) (c__write_dashed : Cl P w K mg base 4 "_write_dashed" 1 S__write_dashed) (f : Addr) (cdv : Value) (A : Around) (outer : List Env) (s : Shared) (H : Hp) (E : XK) (hr : Room 4 (A.deeper (envOfC "_read_dashed" (defScope s__read_dashed) s.heap.objs.size f cdv))) : PXS (cxOf CX0 P w K mg base N__read_dashed "_read_dashed" (defScope s__read_dashed) f cdv A outer s H E).nox 2 (defBody s__read_dashed) Y__read_dashed :=
  (pxs_cons (pxs_asg sc__read_dashed.nd rfl (by first | exact Or.inl rfl | exact Or.inr rfl) (px_ix (px_partition (px_var (pv 0)) px_str) px_int))
  (pxs_cons (pxs_if (pt_not' (pt_of_px (px_call c_is_digits (fun _ _ => run_len) hr (by decide) (by rfl) (pxa_cons (px_sl (px_var (pv 2)) (pxo_some px_int) (pxo_some px_int)) pxa_nil)))) (pxs_one (pxs_ret px_non)) pxs_nil)
  (pxs_cons (pxs_asg sc__read_dashed.nd rfl (by first | exact Or.inl rfl | exact Or.inr rfl) (px_call c__read_time (fun _ _ => run_len) hr (by decide) (by rfl) (pxa_cons (px_call c__full_year (fun _ _ => run_len) hr (by decide) (by rfl) (pxa_cons (px_callT1 cr_intA vu_int (by rfl) B.b_int Fw.boot_int (px_sl (px_var (pv 2)) (pxo_some px_int) (pxo_some px_int))) (pxa_cons (px_var (pv 1)) pxa_nil))) (pxa_cons (px_sl (px_var (pv 2)) (pxo_some px_int) (pxo_some px_int)) (pxa_cons (px_sl (px_var (pv 2)) pxo_none (pxo_some px_int)) (pxa_cons (px_sl (px_var (pv 2)) (pxo_some px_int) (pxo_some px_int)) pxa_nil))))))
  (pxs_one (pxs_ret (px_if (PXW.pt (pw_and' (pt_notN' (px_var (pv 3))) (pw_and1' (pt_eq' hr (px_call c__write_dashed (fun _ _ => run_len) hr (by decide) (by rfl) (pxa_cons (px_var (pv 3)) pxa_nil)) (px_var (pv 0)) (.inl rfl))))) (px_var (pv 3)) px_non))))))
theorem cl__read_dashed (B : Blt mg) (C : Cns K mg) (h : Fx K mg "_read_dashed" s__read_dashed ["text", "now"]) (c__read_time : Cl P w K mg base 3 "_read_time" 4 S__read_time) (c_is_digits : Cl P w K mg base 1 "is_digits" 1 S_is_digits) (c__full_year : Cl P w K mg base 3 "_full_year" 2 S__full_year) (c__write_dashed : Cl P w K mg base 4 "_write_dashed" 1 S__write_dashed) : Cl P w K mg base 5 "_read_dashed" 2 S__read_dashed :=
  h.cl fun f fd F => fn_ok F sc__read_dashed fun cdv A outer s H E hr => body__read_dashed B C c__read_time c_is_digits c__full_year c__write_dashed f cdv A outer s H E hr
abbrev s__read_spaced : Stmt := topS 30
theorem sc__read_spaced : FnScope N__read_spaced ["text"] (defScope s__read_spaced) := ⟨rfl, rfl, rfl, by decide +kernel, rfl, by decide +kernel, by decide +kernel⟩
theorem body__read_spaced (B : Blt mg) (C : Cns K mg) (c__read_time : Cl P w K mg base 3 "_read_time" 4 S__read_time) (c_is_digits : Cl P w K mg base 1 "is_digits" 1 S_is_digits) (c__write_spaced : Cl P w K mg base 4 "_write_spaced" 1 S__write_spaced) (f : Addr) (cdv : Value) (A : Around) (outer : List Env) (s : Shared) (H : Hp) (E : XK) (hr : Room 4 (A.deeper (envOfC "_read_spaced" (defScope s__read_spaced) s.heap.objs.size f cdv))) : PXS (cxOf CX0 P w K mg base N__read_spaced "_read_spaced" (defScope s__read_spaced) f cdv A outer s H E).nox 1 (defBody s__read_spaced) Y__read_spaced :=
  (pxs_cons (pxs_if (pt_not' (pt_of_px (px_call c_is_digits (fun _ _ => run_len) hr (by decide) (by rfl) (pxa_cons (px_sl (px_var (pv 0)) (pxo_some px_int) (pxo_some px_int)) pxa_nil)))) (pxs_one (pxs_ret px_non)) pxs_nil)
  (pxs_cons (pxs_asg sc__read_spaced.nd rfl (by first | exact Or.inl rfl | exact Or.inr rfl) (px_call c__read_time (fun _ _ => run_len) hr (by decide) (by rfl) (pxa_cons (px_callT1 cr_intA vu_int (by rfl) B.b_int Fw.boot_int (px_sl (px_var (pv 0)) (pxo_some px_int) (pxo_some px_int))) (pxa_cons (px_sl (px_var (pv 0)) (pxo_some px_int) (pxo_some px_int)) (pxa_cons (px_lstrip (px_sl (px_var (pv 0)) (pxo_some px_int) (pxo_some px_int)) px_str) (pxa_cons (px_sl (px_var (pv 0)) (pxo_some px_int) (pxo_some px_int)) pxa_nil))))))
  (pxs_one (pxs_ret (px_if (PXW.pt (pw_and' (pt_notN' (px_var (pv 1))) (pw_and1' (pt_eq' hr (px_call c__write_spaced (fun _ _ => run_len) hr (by decide) (by rfl) (pxa_cons (px_var (pv 1)) pxa_nil)) (px_var (pv 0)) (.inl rfl))))) (px_var (pv 1)) px_non)))))
theorem cl__read_spaced (B : Blt mg) (C : Cns K mg) (h : Fx K mg "_read_spaced" s__read_spaced ["text"]) (c__read_time : Cl P w K mg base 3 "_read_time" 4 S__read_time) (c_is_digits : Cl P w K mg base 1 "is_digits" 1 S_is_digits) (c__write_spaced : Cl P w K mg base 4 "_write_spaced" 1 S__write_spaced) : Cl P w K mg base 5 "_read_spaced" 1 S__read_spaced :=
  h.cl fun f fd F => fn_ok F sc__read_spaced fun cdv A outer s H E hr => body__read_spaced B C c__read_time c_is_digits c__write_spaced f cdv A outer s H E hr
abbrev s_read_ranges : Stmt := topS 45
theorem sc_read_ranges : FnScope N_read_ranges ["value", "size"] (defScope s_read_ranges) := ⟨rfl, rfl, rfl, by decide +kernel, rfl, by decide +kernel, by decide +kernel⟩
theorem body_read_ranges (B : Blt mg) (C : Cns K mg) (c_split_list : Cl P w K mg base 2 "split_list" 1 S_split_list) (c_lower : Cl P w K mg base 1 "lower" 1 S_lower) (c__read_range : Cl P w K mg base 4 "_read_range" 2 S__read_range) (f : Addr) (cdv : Value) (A : Around) (outer : List Env) (s : Shared) (H : Hp) (E : XK) (hr : Room 4 (A.deeper (envOfC "read_ranges" (defScope s_read_ranges) s.heap.objs.size f cdv))) : PXS (cxOf CX0 P w K mg base N_read_ranges "read_ranges" (defScope s_read_ranges) f cdv A outer s H E).nox 2 (defBody s_read_ranges) Y_read_ranges :=
  (pxs_cons (pxs_if (pt_ne' hr (px_call c_lower (fun _ _ => run_len) hr (by decide) (by rfl) (pxa_cons (px_sl (px_var (pv 0)) pxo_none (pxo_some (px_call1 call_len vu_len (by rfl) B.b_len Fw.boot_len (px_gc (by rfl) C.c_UNIT)))) pxa_nil)) (px_gc (by rfl) C.c_UNIT) (.inl rfl)) (pxs_one (pxs_ret px_non)) pxs_nil)
  (pxs_cons (pxs_asg sc_read_ranges.nd rfl (by first | exact Or.inl rfl | exact Or.inr rfl) (px_call c_split_list (fun _ _ => run_len) hr (by decide) (by rfl) (pxa_cons (px_sl (px_var (pv 0)) (pxo_some (px_call1 call_len vu_len (by rfl) B.b_len Fw.boot_len (px_gc (by rfl) C.c_UNIT))) pxo_none) pxa_nil)))
  (pxs_cons (pxs_if (PXW.pt (pw_or' (pt_isN' (px_var (pv 2))) (pw_or1' (pt_not' (pt_chle px_int (px_call1 call_len vu_len (by rfl) B.b_len Fw.boot_len (px_var (pv 2))) (px_gc (by rfl) C.c_MOST_RANGES)))))) (pxs_one (pxs_ret px_non)) pxs_nil)
  (pxs_cons (by first | exact pxs_lcD (own := [("part", 4)]) (ts := [4]) rfl sc_read_ranges.nd rfl rfl (sw_true rfl rfl rfl (by decide +kernel)) (blkOk_by (N := N_read_ranges) (sc := defScope s_read_ranges) (by decide +kernel)) (pxi_data (px_var (pv 2))) (fun _ _ _ _ _ => (pxg_name sc_read_ranges.nd rfl (by first | exact Or.inl rfl | exact Or.inr rfl))) (fun _ _ _ _ _ => pts_nil') (fun _ _ _ _ _ => (px_call c__read_range (fun _ _ => run_len) hr (by decide) (by rfl) (pxa_cons (px_var (pv 4)) (pxa_cons (px_var (pv 1)) pxa_nil)))) (by decide) | exact pxs_asg sc_read_ranges.nd rfl (by first | exact Or.inl rfl | exact Or.inr rfl) (PL.px (pl_lc (own := [("part", 4)]) (ts := [4]) rfl sc_read_ranges.nd (blkOk_by (N := N_read_ranges) (sc := defScope s_read_ranges) (by decide +kernel)) (pxi_data (px_var (pv 2))) (fun _ _ _ _ _ => (pxg_name sc_read_ranges.nd rfl (by first | exact Or.inl rfl | exact Or.inr rfl))) (fun _ _ _ _ _ => pts_nil') (fun _ _ _ _ _ => (px_call c__read_range (fun _ _ => run_len) hr (by decide) (by rfl) (pxa_cons (px_var (pv 4)) (pxa_cons (px_var (pv 1)) pxa_nil)))) (by decide))))
  (pxs_one (pxs_ret (px_if (pt_in' hr px_non (px_var (pv 3)) (.inl rfl)) px_non (PL.px (pl_lc (own := [("first", 5), ("last", 6)]) (ts := [5, 6]) rfl sc_read_ranges.nd (blkOk_by (N := N_read_ranges) (sc := defScope s_read_ranges) (by decide +kernel)) (pxi_data (px_var (pv 3))) (fun _ _ _ _ _ => (pxg_tup (is := [5, 6]) rfl (pgs_cons (pg_name (i := 5) sc_read_ranges.nd rfl (by first | exact Or.inl rfl | exact Or.inr rfl)) (pgs_cons (pg_name (i := 6) sc_read_ranges.nd rfl (by first | exact Or.inl rfl | exact Or.inr rfl)) pgs_nil)) rfl)) (fun _ _ _ _ _ => pts_one' (pt_lt' (px_var (pv 5)) (px_var (pv 1)) (.inl rfl))) (fun _ _ _ _ _ => (px_tup (pxa_cons (px_var (pv 5)) (pxa_cons (px_var (pv 6)) pxa_nil)))) (by decide))))))))))
theorem cl_read_ranges (B : Blt mg) (C : Cns K mg) (h : Fx K mg "read_ranges" s_read_ranges ["value", "size"]) (c_split_list : Cl P w K mg base 2 "split_list" 1 S_split_list) (c_lower : Cl P w K mg base 1 "lower" 1 S_lower) (c__read_range : Cl P w K mg base 4 "_read_range" 2 S__read_range) : Cl P w K mg base 5 "read_ranges" 2 S_read_ranges :=
  h.cl fun f fd F => fn_ok F sc_read_ranges fun cdv A outer s H E hr => body_read_ranges B C c_split_list c_lower c__read_range f cdv A outer s H E hr
abbrev s__joined_tags : Stmt := topS 58
theorem sc__joined_tags : FnScope N__joined_tags ["fields", "name"] (defScope s__joined_tags) := ⟨rfl, rfl, rfl, by decide +kernel, rfl, by decide +kernel, by decide +kernel⟩
theorem body__joined_tags (B : Blt mg) (C : Cns K mg) (c_join_values : Cl P w K mg base 3 "join_values" 2 S_join_values) (c_read_tags : Cl P w K mg base 4 "read_tags" 1 S_read_tags) (f : Addr) (cdv : Value) (A : Around) (outer : List Env) (s : Shared) (H : Hp) (E : XK) (hr : Room 4 (A.deeper (envOfC "_joined_tags" (defScope s__joined_tags) s.heap.objs.size f cdv))) : PXS (cxOf CX0 P w K mg base N__joined_tags "_joined_tags" (defScope s__joined_tags) f cdv A outer s H E).nox 2 (defBody s__joined_tags) Y__joined_tags :=
  (pxs_cons (pxs_asg sc__joined_tags.nd rfl (by first | exact Or.inl rfl | exact Or.inr rfl) (px_call c_join_values (fun _ _ => run_len) hr (by decide) (by rfl) (pxa_cons (px_var (pv 0)) (pxa_cons (px_var (pv 1)) pxa_nil))))
  (pxs_one (pxs_ret (px_if (pt_isN' (px_var (pv 2))) px_non (px_call c_read_tags (fun _ _ => run_len) hr (by decide) (by rfl) (pxa_cons (px_var (pv 2)) pxa_nil))))))
theorem cl__joined_tags (B : Blt mg) (C : Cns K mg) (h : Fx K mg "_joined_tags" s__joined_tags ["fields", "name"]) (c_join_values : Cl P w K mg base 3 "join_values" 2 S_join_values) (c_read_tags : Cl P w K mg base 4 "read_tags" 1 S_read_tags) : Cl P w K mg base 5 "_joined_tags" 2 S__joined_tags :=
  h.cl fun f fd F => fn_ok F sc__joined_tags fun cdv A outer s H E hr => body__joined_tags B C c_join_values c_read_tags f cdv A outer s H E hr
abbrev s_read_date : Stmt := topS 31
theorem sc_read_date : FnScope N_read_date ["text", "now"] (defScope s_read_date) := ⟨rfl, rfl, rfl, by decide +kernel, rfl, by decide +kernel, by decide +kernel⟩
theorem body_read_date (B : Blt mg) (C : Cns K mg) (c__read_dashed : Cl P w K mg base 5 "_read_dashed" 2 S__read_dashed) (c__read_fixed : Cl P w K mg base 5 "_read_fixed" 1 S__read_fixed) (c__read_spaced : Cl P w K mg base 5 "_read_spaced" 1 S__read_spaced) (f : Addr) (cdv : Value) (A : Around) (outer : List Env) (s : Shared) (H : Hp) (E : XK) (hr : Room 5 (A.deeper (envOfC "read_date" (defScope s_read_date) s.heap.objs.size f cdv))) : PXS (cxOf CX0 P w K mg base N_read_date "read_date" (defScope s_read_date) f cdv A outer s H E).nox 2 (defBody s_read_date) Y_read_date :=
  (pxs_cons (pxs_if (pt_eq' hr (px_sl (px_var (pv 0)) (pxo_some px_int) (pxo_some px_int)) px_str (.inl rfl)) (pxs_one (pxs_ret (px_call c__read_fixed (fun _ _ => run_len) hr (by decide) (by rfl) (pxa_cons (px_var (pv 0)) pxa_nil)))) pxs_nil)
  (pxs_cons (pxs_if (pt_eq' hr (px_sl (px_var (pv 0)) (pxo_some px_int) (pxo_some px_int)) px_str (.inl rfl)) (pxs_one (pxs_ret (px_call c__read_spaced (fun _ _ => run_len) hr (by decide) (by rfl) (pxa_cons (px_var (pv 0)) pxa_nil)))) pxs_nil)
  (pxs_one (pxs_ret (px_call c__read_dashed (fun _ _ => run_len) hr (by decide) (by rfl) (pxa_cons (px_var (pv 0)) (pxa_cons (px_var (pv 1)) pxa_nil)))))))
theorem cl_read_date (B : Blt mg) (C : Cns K mg) (h : Fx K mg "read_date" s_read_date ["text", "now"]) (c__read_dashed : Cl P w K mg base 5 "_read_dashed" 2 S__read_dashed) (c__read_fixed : Cl P w K mg base 5 "_read_fixed" 1 S__read_fixed) (c__read_spaced : Cl P w K mg base 5 "_read_spaced" 1 S__read_spaced) : Cl P w K mg base 6 "read_date" 2 S_read_date :=
  h.cl fun f fd F => fn_ok F sc_read_date fun cdv A outer s H E hr => body_read_date B C c__read_dashed c__read_fixed c__read_spaced f cdv A outer s H E hr
abbrev s__joined_date : Stmt := topS 59
theorem sc__joined_date : FnScope N__joined_date ["fields", "name", "now"] (defScope s__joined_date) := ⟨rfl, rfl, rfl, by decide +kernel, rfl, by decide +kernel, by decide +kernel⟩
theorem body__joined_date (B : Blt mg) (C : Cns K mg) (c_join_values : Cl P w K mg base 3 "join_values" 2 S_join_values) (c_read_date : Cl P w K mg base 6 "read_date" 2 S_read_date) (f : Addr) (cdv : Value) (A : Around) (outer : List Env) (s : Shared) (H : Hp) (E : XK) (hr : Room 6 (A.deeper (envOfC "_joined_date" (defScope s__joined_date) s.heap.objs.size f cdv))) : PXS (cxOf CX0 P w K mg base N__joined_date "_joined_date" (defScope s__joined_date) f cdv A outer s H E).nox 3 (defBody s__joined_date) Y__joined_date :=
  (pxs_cons (pxs_asg sc__joined_date.nd rfl (by first | exact Or.inl rfl | exact Or.inr rfl) (px_call c_join_values (fun _ _ => run_len) hr (by decide) (by rfl) (pxa_cons (px_var (pv 0)) (pxa_cons (px_var (pv 1)) pxa_nil))))
  (pxs_one (pxs_ret (px_if (pt_isN' (px_var (pv 3))) px_non (px_call c_read_date (fun _ _ => run_len) hr (by decide) (by rfl) (pxa_cons (px_var (pv 3)) (pxa_cons (px_var (pv 2)) pxa_nil)))))))
theorem cl__joined_date (B : Blt mg) (C : Cns K mg) (h : Fx K mg "_joined_date" s__joined_date ["fields", "name", "now"]) (c_join_values : Cl P w K mg base 3 "join_values" 2 S_join_values) (c_read_date : Cl P w K mg base 6 "read_date" 2 S_read_date) : Cl P w K mg base 7 "_joined_date" 3 S__joined_date :=
  h.cl fun f fd F => fn_ok F sc__joined_date fun cdv A outer s H E hr => body__joined_date B C c_join_values c_read_date f cdv A outer s H E hr
abbrev s__wants_part : Stmt := topS 63
theorem sc__wants_part : FnScope N__wants_part ["method", "fields", "tag", "modified", "now"] (defScope s__wants_part) := ⟨rfl, rfl, rfl, by decide +kernel, rfl, by decide +kernel, by decide +kernel⟩
theorem body__wants_part (B : Blt mg) (C : Cns K mg) (c_join_values : Cl P w K mg base 3 "join_values" 2 S_join_values) (c_read_tag : Cl P w K mg base 3 "read_tag" 1 S_read_tag) (c_read_date : Cl P w K mg base 6 "read_date" 2 S_read_date) (c_read_ranges : Cl P w K mg base 5 "read_ranges" 2 S_read_ranges) (c_strong_match : Cl P w K mg base 1 "strong_match" 2 S_strong_match) (f : Addr) (cdv : Value) (A : Around) (outer : List Env) (s : Shared) (H : Hp) (E : XK) (hr : Room 6 (A.deeper (envOfC "_wants_part" (defScope s__wants_part) s.heap.objs.size f cdv))) : PXS (cxOf CX0 P w K mg base N__wants_part "_wants_part" (defScope s__wants_part) f cdv A outer s H E).nox 5 (defBody s__wants_part) Y__wants_part :=
  (pxs_cons (pxs_asg sc__wants_part.nd rfl (by first | exact Or.inl rfl | exact Or.inr rfl) (px_call c_join_values (fun _ _ => run_len) hr (by decide) (by rfl) (pxa_cons (px_var (pv 1)) (pxa_cons px_str pxa_nil))))
  (pxs_cons (pxs_if (PXW.pt (pw_or' (pt_ne' hr (px_var (pv 0)) px_str (.inl rfl)) (pw_or' (pt_isN' (px_var (pv 5))) (pw_or1' (pt_isN' (px_call c_read_ranges (fun _ _ => run_len) hr (by decide) (by rfl) (pxa_cons (px_var (pv 5)) (pxa_cons px_int pxa_nil)))))))) (pxs_one (pxs_ret px_bl)) pxs_nil)
  (pxs_cons (pxs_asg sc__wants_part.nd rfl (by first | exact Or.inl rfl | exact Or.inr rfl) (px_call c_join_values (fun _ _ => run_len) hr (by decide) (by rfl) (pxa_cons (px_var (pv 1)) (pxa_cons px_str pxa_nil))))
  (pxs_cons (pxs_if (pt_isN' (px_var (pv 6))) (pxs_one (pxs_ret px_bl)) pxs_nil)
  (pxs_cons (pxs_asg sc__wants_part.nd rfl (by first | exact Or.inl rfl | exact Or.inr rfl) (px_call c_read_tag (fun _ _ => run_len) hr (by decide) (by rfl) (pxa_cons (px_var (pv 6)) pxa_nil)))
  (pxs_cons (pxs_if (pt_notN' (px_var (pv 7))) (pxs_one (pxs_ret (px_and (px_notN (px_var (pv 2))) (px_one (px_call c_strong_match (fun _ _ => run_len) hr (by decide) (by rfl) (pxa_cons (px_var (pv 7)) (pxa_cons (px_var (pv 2)) pxa_nil))))))) pxs_nil)
  (pxs_cons (pxs_asg sc__wants_part.nd rfl (by first | exact Or.inl rfl | exact Or.inr rfl) (px_call c_read_date (fun _ _ => run_len) hr (by decide) (by rfl) (pxa_cons (px_var (pv 6)) (pxa_cons (px_var (pv 4)) pxa_nil))))
  (pxs_one (pxs_ret (px_and (px_notN (px_var (pv 8))) (px_one (px_eq hr (px_var (pv 8)) (px_var (pv 3)) (.inl rfl)))))))))))))
theorem cl__wants_part (B : Blt mg) (C : Cns K mg) (h : Fx K mg "_wants_part" s__wants_part ["method", "fields", "tag", "modified", "now"]) (c_join_values : Cl P w K mg base 3 "join_values" 2 S_join_values) (c_read_tag : Cl P w K mg base 3 "read_tag" 1 S_read_tag) (c_read_date : Cl P w K mg base 6 "read_date" 2 S_read_date) (c_read_ranges : Cl P w K mg base 5 "read_ranges" 2 S_read_ranges) (c_strong_match : Cl P w K mg base 1 "strong_match" 2 S_strong_match) : Cl P w K mg base 7 "_wants_part" 5 S__wants_part :=
  h.cl fun f fd F => fn_ok F sc__wants_part fun cdv A outer s H E hr => body__wants_part B C c_join_values c_read_tag c_read_date c_read_ranges c_strong_match f cdv A outer s H E hr
abbrev s__fails : Stmt := topS 61
theorem sc__fails : FnScope N__fails ["fields", "tag", "modified", "now"] (defScope s__fails) := ⟨rfl, rfl, rfl, by decide +kernel, rfl, by decide +kernel, by decide +kernel⟩
theorem body__fails (B : Blt mg) (C : Cns K mg) (c__joined_date : Cl P w K mg base 7 "_joined_date" 3 S__joined_date) (c_join_values : Cl P w K mg base 3 "join_values" 2 S_join_values) (c__matches : Cl P w K mg base 2 "_matches" 3 S__matches) (c__joined_tags : Cl P w K mg base 5 "_joined_tags" 2 S__joined_tags) (f : Addr) (cdv : Value) (A : Around) (outer : List Env) (s : Shared) (H : Hp) (E : XK) (hr : Room 7 (A.deeper (envOfC "_fails" (defScope s__fails) s.heap.objs.size f cdv))) : PXS (cxOf CX0 P w K mg base N__fails "_fails" (defScope s__fails) f cdv A outer s H E).nox 4 (defBody s__fails) Y__fails :=
  (pxs_cons (pxs_if (pt_notN' (px_call c_join_values (fun _ _ => run_len) hr (by decide) (by rfl) (pxa_cons (px_var (pv 0)) (pxa_cons px_str pxa_nil)))) (pxs_one (pxs_ret (px_not (px_call c__matches (fun _ _ => run_len) hr (by decide) (by rfl) (pxa_cons (px_call c__joined_tags (fun _ _ => run_len) hr (by decide) (by rfl) (pxa_cons (px_var (pv 0)) (pxa_cons px_str pxa_nil))) (pxa_cons (px_var (pv 1)) (pxa_cons px_bl pxa_nil))))))) pxs_nil)
  (pxs_cons (pxs_asg sc__fails.nd rfl (by first | exact Or.inl rfl | exact Or.inr rfl) (px_call c__joined_date (fun _ _ => run_len) hr (by decide) (by rfl) (pxa_cons (px_var (pv 0)) (pxa_cons px_str (pxa_cons (px_var (pv 3)) pxa_nil)))))
  (pxs_one (pxs_ret (px_and (px_notN (px_var (pv 4))) (px_and (px_notN (px_var (pv 2))) (px_one (px_gt (px_var (pv 2)) (px_var (pv 4)) (.inl rfl)))))))))
theorem cl__fails (B : Blt mg) (C : Cns K mg) (h : Fx K mg "_fails" s__fails ["fields", "tag", "modified", "now"]) (c__joined_date : Cl P w K mg base 7 "_joined_date" 3 S__joined_date) (c_join_values : Cl P w K mg base 3 "join_values" 2 S_join_values) (c__matches : Cl P w K mg base 2 "_matches" 3 S__matches) (c__joined_tags : Cl P w K mg base 5 "_joined_tags" 2 S__joined_tags) : Cl P w K mg base 8 "_fails" 4 S__fails :=
  h.cl fun f fd F => fn_ok F sc__fails fun cdv A outer s H E hr => body__fails B C c__joined_date c_join_values c__matches c__joined_tags f cdv A outer s H E hr
abbrev s__is_known : Stmt := topS 62
theorem sc__is_known : FnScope N__is_known ["method", "fields", "tag", "modified", "now"] (defScope s__is_known) := ⟨rfl, rfl, rfl, by decide +kernel, rfl, by decide +kernel, by decide +kernel⟩
theorem body__is_known (B : Blt mg) (C : Cns K mg) (c__joined_tags : Cl P w K mg base 5 "_joined_tags" 2 S__joined_tags) (c__joined_date : Cl P w K mg base 7 "_joined_date" 3 S__joined_date) (c__matches : Cl P w K mg base 2 "_matches" 3 S__matches) (f : Addr) (cdv : Value) (A : Around) (outer : List Env) (s : Shared) (H : Hp) (E : XK) (hr : Room 7 (A.deeper (envOfC "_is_known" (defScope s__is_known) s.heap.objs.size f cdv))) : PXS (cxOf CX0 P w K mg base N__is_known "_is_known" (defScope s__is_known) f cdv A outer s H E).nox 5 (defBody s__is_known) Y__is_known :=
  (pxs_cons (pxs_asg sc__is_known.nd rfl (by first | exact Or.inl rfl | exact Or.inr rfl) (px_call c__joined_tags (fun _ _ => run_len) hr (by decide) (by rfl) (pxa_cons (px_var (pv 1)) (pxa_cons px_str pxa_nil))))
  (pxs_cons (pxs_if (pt_notN' (px_var (pv 5))) (pxs_one (pxs_ret (px_call c__matches (fun _ _ => run_len) hr (by decide) (by rfl) (pxa_cons (px_var (pv 5)) (pxa_cons (px_var (pv 2)) (pxa_cons px_bl pxa_nil)))))) pxs_nil)
  (pxs_cons (pxs_asg sc__is_known.nd rfl (by first | exact Or.inl rfl | exact Or.inr rfl) (px_call c__joined_date (fun _ _ => run_len) hr (by decide) (by rfl) (pxa_cons (px_var (pv 1)) (pxa_cons px_str (pxa_cons (px_var (pv 4)) pxa_nil)))))
  (pxs_one (pxs_ret (px_and (px_in hr (px_var (pv 0)) (px_gc (by rfl) C.c_READING) (.inl rfl)) (px_and (px_notN (px_var (pv 6))) (px_and (px_notN (px_var (pv 3))) (px_one (px_le (px_var (pv 3)) (px_var (pv 6)) (.inl rfl)))))))))))
theorem cl__is_known (B : Blt mg) (C : Cns K mg) (h : Fx K mg "_is_known" s__is_known ["method", "fields", "tag", "modified", "now"]) (c__joined_tags : Cl P w K mg base 5 "_joined_tags" 2 S__joined_tags) (c__joined_date : Cl P w K mg base 7 "_joined_date" 3 S__joined_date) (c__matches : Cl P w K mg base 2 "_matches" 3 S__matches) : Cl P w K mg base 8 "_is_known" 5 S__is_known :=
  h.cl fun f fd F => fn_ok F sc__is_known fun cdv A outer s H E hr => body__is_known B C c__joined_tags c__joined_date c__matches f cdv A outer s H E hr
abbrev s_judge : Stmt := topS 64
theorem sc_judge : FnScope N_judge ["method", "fields", "tag", "modified", "now"] (defScope s_judge) := ⟨rfl, rfl, rfl, by decide +kernel, rfl, by decide +kernel, by decide +kernel⟩
theorem body_judge (B : Blt mg) (C : Cns K mg) (c__fails : Cl P w K mg base 8 "_fails" 4 S__fails) (c__is_known : Cl P w K mg base 8 "_is_known" 5 S__is_known) (c__wants_part : Cl P w K mg base 7 "_wants_part" 5 S__wants_part) (f : Addr) (cdv : Value) (A : Around) (outer : List Env) (s : Shared) (H : Hp) (E : XK) (hr : Room 8 (A.deeper (envOfC "judge" (defScope s_judge) s.heap.objs.size f cdv))) : PXS (cxOf CX0 P w K mg base N_judge "judge" (defScope s_judge) f cdv A outer s H E).nox 5 (defBody s_judge) Y_judge :=
  (pxs_cons (pxs_if (pt_of_px (px_call c__fails (fun _ _ => run_len) hr (by decide) (by rfl) (pxa_cons (px_var (pv 1)) (pxa_cons (px_var (pv 2)) (pxa_cons (px_var (pv 3)) (pxa_cons (px_var (pv 4)) pxa_nil)))))) (pxs_one (pxs_ret (px_gc (by rfl) C.c_FAILED))) pxs_nil)
  (pxs_cons (pxs_if (pt_of_px (px_call c__is_known (fun _ _ => run_len) hr (by decide) (by rfl) (pxa_cons (px_var (pv 0)) (pxa_cons (px_var (pv 1)) (pxa_cons (px_var (pv 2)) (pxa_cons (px_var (pv 3)) (pxa_cons (px_var (pv 4)) pxa_nil))))))) (pxs_one (pxs_ret (px_if (pt_in' hr (px_var (pv 0)) (px_gc (by rfl) C.c_READING) (.inl rfl)) (px_gc (by rfl) C.c_UNCHANGED) (px_gc (by rfl) C.c_FAILED)))) pxs_nil)
  (pxs_one (pxs_ret (px_tup (pxa_cons px_int (pxa_cons (px_not (px_call c__wants_part (fun _ _ => run_len) hr (by decide) (by rfl) (pxa_cons (px_var (pv 0)) (pxa_cons (px_var (pv 1)) (pxa_cons (px_var (pv 2)) (pxa_cons (px_var (pv 3)) (pxa_cons (px_var (pv 4)) pxa_nil))))))) pxa_nil)))))))
theorem cl_judge (B : Blt mg) (C : Cns K mg) (h : Fx K mg "judge" s_judge ["method", "fields", "tag", "modified", "now"]) (c__fails : Cl P w K mg base 8 "_fails" 4 S__fails) (c__is_known : Cl P w K mg base 8 "_is_known" 5 S__is_known) (c__wants_part : Cl P w K mg base 7 "_wants_part" 5 S__wants_part) : Cl P w K mg base 9 "judge" 5 S_judge :=
  h.cl fun f fd F => fn_ok F sc_judge fun cdv A outer s H E hr => body_judge B C c__fails c__is_known c__wants_part f cdv A outer s H E hr
abbrev s_law : Stmt := topS 81
theorem sc_law : FnScope N_law ["script"] (defScope s_law) := ⟨rfl, rfl, rfl, by decide +kernel, rfl, by decide +kernel, by decide +kernel⟩
theorem body_law (B : Blt mg) (C : Cns K mg) (c__law_draw : Cl P w K mg base 1 "_law_draw" 1 S__law_draw) (c__law_fields : Cl P w K mg base 3 "_law_fields" 2 S__law_fields) (c_judge : Cl P w K mg base 9 "judge" 5 S_judge) (c__law_judge : Cl P w K mg base 4 "_law_judge" 5 S__law_judge) (c__law_take : Cl P w K mg base 1 "_law_take" 2 S__law_take) (f : Addr) (cdv : Value) (A : Around) (outer : List Env) (s : Shared) (H : Hp) (E : XK) (hr : Room 9 (A.deeper (envOfC "law" (defScope s_law) s.heap.objs.size f cdv))) : PXS (cxOf CX0 P w K mg base N_law "law" (defScope s_law) f cdv A outer s H E).nox 1 (defBody s_law) Y_law :=
  (pxs_cons (pxs_asgL (by decide) sc_law.nd rfl (by first | exact Or.inl rfl | exact Or.inr rfl) (pl_callS c__law_draw hr (by decide) (by rfl) (pv 0)))
  (pxs_cons (pxs_asg sc_law.nd rfl (by first | exact Or.inl rfl | exact Or.inr rfl) (PL.px (pl_lst (pxa_cons (px_tup (pxa_cons px_str (pxa_cons px_int pxa_nil))) (pxa_cons (px_tup (pxa_cons px_str (pxa_cons px_int pxa_nil))) pxa_nil)))))
  (pxs_cons (pxs_asg sc_law.nd rfl (by first | exact Or.inl rfl | exact Or.inr rfl) (PL.px (pl_cat (px_var (pv 2)) (PL.px (pl_lst (pxa_cons (px_tup (pxa_cons px_str (pxa_cons px_int pxa_nil))) (pxa_cons (px_tup (pxa_cons px_str (pxa_cons px_int pxa_nil))) pxa_nil)))))))
  (pxs_cons (pxs_for (ts := [3]) PassesOwn.never rfl (pxi_rng1 (by rfl) B.b_range px_int) (pxg_name sc_law.nd rfl (by first | exact Or.inl rfl | exact Or.inr rfl)) (pxs_cons (pxs_asg sc_law.nd rfl (by first | exact Or.inl rfl | exact Or.inr rfl) (px_ix (PL.px (pl_lst (pxa_cons px_str (pxa_cons px_str (pxa_cons px_str (pxa_cons px_str (pxa_cons px_str (pxa_cons px_str pxa_nil)))))))) (px_callM c__law_take (fun _ _ => run_len) hr (by decide) (by rfl) (pv 1) (pxa_cons px_int pxa_nil))))
  (pxs_cons (pxs_asg sc_law.nd rfl (by first | exact Or.inl rfl | exact Or.inr rfl) (px_ix (PL.px (pl_lst (pxa_cons (px_tup (pxa_cons px_bl (pxa_cons px_str pxa_nil))) (pxa_cons (px_tup (pxa_cons px_bl (pxa_cons px_str pxa_nil))) (pxa_cons (px_tup (pxa_cons px_bl (pxa_cons px_str pxa_nil))) (pxa_cons (px_tup (pxa_cons px_bl (pxa_cons px_str pxa_nil))) (pxa_cons px_non pxa_nil))))))) (px_callM c__law_take (fun _ _ => run_len) hr (by decide) (by rfl) (pv 1) (pxa_cons px_int pxa_nil))))
  (pxs_cons (pxs_asg sc_law.nd rfl (by first | exact Or.inl rfl | exact Or.inr rfl) (px_ix (PL.px (pl_lst (pxa_cons px_int (pxa_cons px_int (pxa_cons px_int (pxa_cons px_non pxa_nil)))))) (px_callM c__law_take (fun _ _ => run_len) hr (by decide) (by rfl) (pv 1) (pxa_cons px_int pxa_nil))))
  (pxs_cons (pxs_asg sc_law.nd rfl (by first | exact Or.inl rfl | exact Or.inr rfl) (px_callM c__law_fields (fun _ _ => run_len) hr (by decide) (by rfl) (pv 1) (pxa_cons (px_var (pv 5)) pxa_nil)))
  (pxs_cons (pxs_asg sc_law.nd rfl (by first | exact Or.inl rfl | exact Or.inr rfl) (px_callT1 call_tuple_of vu_tuple (by rfl) B.b_tuple Fw.boot_tuple (PL.px (pl_list (by rfl) B.b_list (px_var (pv 7))))))
  (pxs_cons (pxs_asg sc_law.nd rfl (by first | exact Or.inl rfl | exact Or.inr rfl) (px_ix (PL.px (pl_lst (pxa_cons px_int (pxa_cons px_int (pxa_cons px_int pxa_nil))))) (px_callM c__law_take (fun _ _ => run_len) hr (by decide) (by rfl) (pv 1) (pxa_cons px_int pxa_nil))))
  (pxs_cons (pxs_asg sc_law.nd rfl (by first | exact Or.inl rfl | exact Or.inr rfl) (px_call c_judge (fun _ _ => run_len) hr (by decide) (by rfl) (pxa_cons (px_var (pv 4)) (pxa_cons (px_var (pv 7)) (pxa_cons (px_var (pv 5)) (pxa_cons (px_var (pv 6)) (pxa_cons (px_var (pv 9)) pxa_nil)))))))
  (pxs_cons (pxs_asg sc_law.nd rfl (by first | exact Or.inl rfl | exact Or.inr rfl) (px_call c__law_judge (fun _ _ => run_len) hr (by decide) (by rfl) (pxa_cons (px_var (pv 4)) (pxa_cons (px_var (pv 7)) (pxa_cons (px_var (pv 5)) (pxa_cons (px_var (pv 6)) (pxa_cons (px_var (pv 2)) pxa_nil)))))))
  (pxs_one (pxs_if (PXW.pt (pw_or' (pt_ne' hr (px_var (pv 10)) (px_var (pv 11)) (.inl rfl)) (pw_or' (pt_not' (pt_of_px (px_isi (u := "bool") (T := "bool") (by rfl) B.b_isinstance (pe_bltn (v := .ty "bool") (by rfl) B.b_bool Fw.boot_bool rfl) (px_ix (px_var (pv 10)) px_int)))) (pw_or1' (pt_ne' hr (px_var (pv 7)) (px_var (pv 8)) (.inl rfl)))))) (pxs_one (pxs_ret px_bl)) pxs_nil)))))))))))
  (pxs_one (pxs_ret px_bl))))))
theorem cl_law (B : Blt mg) (C : Cns K mg) (h : Fx K mg "law" s_law ["script"]) (c__law_draw : Cl P w K mg base 1 "_law_draw" 1 S__law_draw) (c__law_fields : Cl P w K mg base 3 "_law_fields" 2 S__law_fields) (c_judge : Cl P w K mg base 9 "judge" 5 S_judge) (c__law_judge : Cl P w K mg base 4 "_law_judge" 5 S__law_judge) (c__law_take : Cl P w K mg base 1 "_law_take" 2 S__law_take) : Cl P w K mg base 10 "law" 1 S_law :=
  h.cl fun f fd F => fn_ok F sc_law fun cdv A outer s H E hr => body_law B C c__law_draw c__law_fields c_judge c__law_judge c__law_take f cdv A outer s H E hr
end
end ownanswer_k62_conditions_judged
open PySem PySem.W
open PyProof.Rows hiding St
namespace ownanswer_k62_conditions_judged
open PySem PySem.Spec L2 Fw
theorem all_mk {P : Program} {w : World} {K : PySem.W.Frag} {h : Heap} {mg : Str → Option Value} {fa : Addr} (X : K.In h) (G : h.Ns mainGlobals mg) (hfa : mg "law" = some (.ref fa))
    {f0 : Addr} {oc0 : Value} {od0 an0 : Option Addr} {sl0 : Array (Option Value)} {kV0 dc0 pm0 cd0 ct0 : Value}
    {f1 : Addr} {oc1 : Value} {od1 an1 : Option Addr} {sl1 : Array (Option Value)} {kV1 dc1 pm1 cd1 ct1 : Value}
    {f2 : Addr} {oc2 : Value} {od2 an2 : Option Addr} {sl2 : Array (Option Value)} {kV2 dc2 pm2 cd2 ct2 : Value}
    {f3 : Addr} {oc3 : Value} {od3 an3 : Option Addr} {sl3 : Array (Option Value)} {kV3 dc3 pm3 cd3 ct3 : Value}
    {f4 : Addr} {oc4 : Value} {od4 an4 : Option Addr} {sl4 : Array (Option Value)} {kV4 dc4 pm4 cd4 ct4 : Value}
    {f5 : Addr} {oc5 : Value} {od5 an5 : Option Addr} {sl5 : Array (Option Value)} {kV5 dc5 pm5 cd5 ct5 : Value}
    {f6 : Addr} {oc6 : Value} {od6 an6 : Option Addr} {sl6 : Array (Option Value)} {kV6 dc6 pm6 cd6 ct6 : Value}
    {f7 : Addr} {oc7 : Value} {od7 an7 : Option Addr} {sl7 : Array (Option Value)} {kV7 dc7 pm7 cd7 ct7 : Value}
    {f8 : Addr} {oc8 : Value} {od8 an8 : Option Addr} {sl8 : Array (Option Value)} {kV8 dc8 pm8 cd8 ct8 : Value}
    {f9 : Addr} {oc9 : Value} {od9 an9 : Option Addr} {sl9 : Array (Option Value)} {kV9 dc9 pm9 cd9 ct9 : Value}
    {f10 : Addr} {oc10 : Value} {od10 an10 : Option Addr} {sl10 : Array (Option Value)} {kV10 dc10 pm10 cd10 ct10 : Value}
    {f11 : Addr} {oc11 : Value} {od11 an11 : Option Addr} {sl11 : Array (Option Value)} {kV11 dc11 pm11 cd11 ct11 : Value}
    {f12 : Addr} {oc12 : Value} {od12 an12 : Option Addr} {sl12 : Array (Option Value)} {kV12 dc12 pm12 cd12 ct12 : Value}
    {f13 : Addr} {oc13 : Value} {od13 an13 : Option Addr} {sl13 : Array (Option Value)} {kV13 dc13 pm13 cd13 ct13 : Value}
    {f14 : Addr} {oc14 : Value} {od14 an14 : Option Addr} {sl14 : Array (Option Value)} {kV14 dc14 pm14 cd14 ct14 : Value}
    {f15 : Addr} {oc15 : Value} {od15 an15 : Option Addr} {sl15 : Array (Option Value)} {kV15 dc15 pm15 cd15 ct15 : Value}
    {f16 : Addr} {oc16 : Value} {od16 an16 : Option Addr} {sl16 : Array (Option Value)} {kV16 dc16 pm16 cd16 ct16 : Value}
    {f17 : Addr} {oc17 : Value} {od17 an17 : Option Addr} {sl17 : Array (Option Value)} {kV17 dc17 pm17 cd17 ct17 : Value}
    {f18 : Addr} {oc18 : Value} {od18 an18 : Option Addr} {sl18 : Array (Option Value)} {kV18 dc18 pm18 cd18 ct18 : Value}
    {f19 : Addr} {oc19 : Value} {od19 an19 : Option Addr} {sl19 : Array (Option Value)} {kV19 dc19 pm19 cd19 ct19 : Value}
    {f20 : Addr} {oc20 : Value} {od20 an20 : Option Addr} {sl20 : Array (Option Value)} {kV20 dc20 pm20 cd20 ct20 : Value}
    {f21 : Addr} {oc21 : Value} {od21 an21 : Option Addr} {sl21 : Array (Option Value)} {kV21 dc21 pm21 cd21 ct21 : Value}
    {f22 : Addr} {oc22 : Value} {od22 an22 : Option Addr} {sl22 : Array (Option Value)} {kV22 dc22 pm22 cd22 ct22 : Value}
    {f23 : Addr} {oc23 : Value} {od23 an23 : Option Addr} {sl23 : Array (Option Value)} {kV23 dc23 pm23 cd23 ct23 : Value}
    {f24 : Addr} {oc24 : Value} {od24 an24 : Option Addr} {sl24 : Array (Option Value)} {kV24 dc24 pm24 cd24 ct24 : Value}
    {f25 : Addr} {oc25 : Value} {od25 an25 : Option Addr} {sl25 : Array (Option Value)} {kV25 dc25 pm25 cd25 ct25 : Value}
    {f26 : Addr} {oc26 : Value} {od26 an26 : Option Addr} {sl26 : Array (Option Value)} {kV26 dc26 pm26 cd26 ct26 : Value}
    {f27 : Addr} {oc27 : Value} {od27 an27 : Option Addr} {sl27 : Array (Option Value)} {kV27 dc27 pm27 cd27 ct27 : Value}
    {f28 : Addr} {oc28 : Value} {od28 an28 : Option Addr} {sl28 : Array (Option Value)} {kV28 dc28 pm28 cd28 ct28 : Value}
    {f29 : Addr} {oc29 : Value} {od29 an29 : Option Addr} {sl29 : Array (Option Value)} {kV29 dc29 pm29 cd29 ct29 : Value}
    {f30 : Addr} {oc30 : Value} {od30 an30 : Option Addr} {sl30 : Array (Option Value)} {kV30 dc30 pm30 cd30 ct30 : Value}
    {f31 : Addr} {oc31 : Value} {od31 an31 : Option Addr} {sl31 : Array (Option Value)} {kV31 dc31 pm31 cd31 ct31 : Value}
    {f32 : Addr} {oc32 : Value} {od32 an32 : Option Addr} {sl32 : Array (Option Value)} {kV32 dc32 pm32 cd32 ct32 : Value}
    {f33 : Addr} {oc33 : Value} {od33 an33 : Option Addr} {sl33 : Array (Option Value)} {kV33 dc33 pm33 cd33 ct33 : Value}
    {f34 : Addr} {oc34 : Value} {od34 an34 : Option Addr} {sl34 : Array (Option Value)} {kV34 dc34 pm34 cd34 ct34 : Value}
    {f35 : Addr} {oc35 : Value} {od35 an35 : Option Addr} {sl35 : Array (Option Value)} {kV35 dc35 pm35 cd35 ct35 : Value}
    {f36 : Addr} {oc36 : Value} {od36 an36 : Option Addr} {sl36 : Array (Option Value)} {kV36 dc36 pm36 cd36 ct36 : Value}
    {f37 : Addr} {oc37 : Value} {od37 an37 : Option Addr} {sl37 : Array (Option Value)} {kV37 dc37 pm37 cd37 ct37 : Value}
    {f38 : Addr} {oc38 : Value} {od38 an38 : Option Addr} {sl38 : Array (Option Value)} {kV38 dc38 pm38 cd38 ct38 : Value}
    {f39 : Addr} {oc39 : Value} {od39 an39 : Option Addr} {sl39 : Array (Option Value)} {kV39 dc39 pm39 cd39 ct39 : Value}
    {f40 : Addr} {oc40 : Value} {od40 an40 : Option Addr} {sl40 : Array (Option Value)} {kV40 dc40 pm40 cd40 ct40 : Value}
    {f41 : Addr} {oc41 : Value} {od41 an41 : Option Addr} {sl41 : Array (Option Value)} {kV41 dc41 pm41 cd41 ct41 : Value}
    {f42 : Addr} {oc42 : Value} {od42 an42 : Option Addr} {sl42 : Array (Option Value)} {kV42 dc42 pm42 cd42 ct42 : Value}
    {f43 : Addr} {oc43 : Value} {od43 an43 : Option Addr} {sl43 : Array (Option Value)} {kV43 dc43 pm43 cd43 ct43 : Value}
    {f44 : Addr} {oc44 : Value} {od44 an44 : Option Addr} {sl44 : Array (Option Value)} {kV44 dc44 pm44 cd44 ct44 : Value}
    {f45 : Addr} {oc45 : Value} {od45 an45 : Option Addr} {sl45 : Array (Option Value)} {kV45 dc45 pm45 cd45 ct45 : Value}
    {f46 : Addr} {oc46 : Value} {od46 an46 : Option Addr} {sl46 : Array (Option Value)} {kV46 dc46 pm46 cd46 ct46 : Value}
    {f47 : Addr} {oc47 : Value} {od47 an47 : Option Addr} {sl47 : Array (Option Value)} {kV47 dc47 pm47 cd47 ct47 : Value}
    {f48 : Addr} {oc48 : Value} {od48 an48 : Option Addr} {sl48 : Array (Option Value)} {kV48 dc48 pm48 cd48 ct48 : Value}
    {f49 : Addr} {oc49 : Value} {od49 an49 : Option Addr} {sl49 : Array (Option Value)} {kV49 dc49 pm49 cd49 ct49 : Value}
    {f50 : Addr} {oc50 : Value} {od50 an50 : Option Addr} {sl50 : Array (Option Value)} {kV50 dc50 pm50 cd50 ct50 : Value}
    {f51 : Addr} {oc51 : Value} {od51 an51 : Option Addr} {sl51 : Array (Option Value)} {kV51 dc51 pm51 cd51 ct51 : Value}
    {f52 : Addr} {oc52 : Value} {od52 an52 : Option Addr} {sl52 : Array (Option Value)} {kV52 dc52 pm52 cd52 ct52 : Value}
    {f53 : Addr} {oc53 : Value} {od53 an53 : Option Addr} {sl53 : Array (Option Value)} {kV53 dc53 pm53 cd53 ct53 : Value}
    {f54 : Addr} {oc54 : Value} {od54 an54 : Option Addr} {sl54 : Array (Option Value)} {kV54 dc54 pm54 cd54 ct54 : Value}
    {f55 : Addr} {oc55 : Value} {od55 an55 : Option Addr} {sl55 : Array (Option Value)} {kV55 dc55 pm55 cd55 ct55 : Value}
    {t0 : Tok}
    {t1 : Tok}
    {t2 : Tok}
    {t3 : Tok}
    {t4 : Tok}
    {g5 : Addr} {dd5 : Option Addr} {it5 : Array Value} {m5 : Nat} {sg5 : Array (Option Value)} {vs5 : List V}
    {t6 : Tok}
    {t7 : Tok}
    {t8 : Tok}
    {g9 : Addr} {dd9 : Option Addr} {it9 : Array Value} {m9 : Nat} {sg9 : Array (Option Value)} {vs9 : List V}
    {t10 : Tok}
    {g11 : Addr} {it11 : Array Value} {m11 : Nat} {sg11 : Array (Option Value)} {vs11 : List V}
    {t12 : Tok}
    {t13 : Tok}
    {t14 : Tok}
    {t15 : Tok}
    {g16 : Addr} {dd16 : Option Addr} {it16 : Array Value} {m16 : Nat} {sg16 : Array (Option Value)} {vs16 : List V}
    {g17 : Addr} {dd17 : Option Addr} {it17 : Array Value} {m17 : Nat} {sg17 : Array (Option Value)} {vs17 : List V}
    {g18 : Addr} {dd18 : Option Addr} {it18 : Array Value} {m18 : Nat} {sg18 : Array (Option Value)} {vs18 : List V}
    (a0 : PySem.W.nsIn K mainGlobals "is_value_sign" = some (some (.ref f0))) (l0 : K.lookup f0 = some ⟨oc0, od0, .func (PySem.W.fnOf "is_value_sign" "is_value_sign" (defArgs s_is_value_sign) (defBody s_is_value_sign) (defScope s_is_value_sign) .none kV0 dc0 pm0 an0 cd0 ct0), sl0⟩) (c0 : PySem.W.codeIn K cd0 "is_value_sign" = true) (k0 : PySem.W.keepIn K (.ref f0) = true)
    (a1 : PySem.W.nsIn K mainGlobals "is_digits" = some (some (.ref f1))) (l1 : K.lookup f1 = some ⟨oc1, od1, .func (PySem.W.fnOf "is_digits" "is_digits" (defArgs s_is_digits) (defBody s_is_digits) (defScope s_is_digits) .none kV1 dc1 pm1 an1 cd1 ct1), sl1⟩) (c1 : PySem.W.codeIn K cd1 "is_digits" = true) (k1 : PySem.W.keepIn K (.ref f1) = true)
    (a2 : PySem.W.nsIn K mainGlobals "lower" = some (some (.ref f2))) (l2 : K.lookup f2 = some ⟨oc2, od2, .func (PySem.W.fnOf "lower" "lower" (defArgs s_lower) (defBody s_lower) (defScope s_lower) .none kV2 dc2 pm2 an2 cd2 ct2), sl2⟩) (c2 : PySem.W.codeIn K cd2 "lower" = true) (k2 : PySem.W.keepIn K (.ref f2) = true)
    (a3 : PySem.W.nsIn K mainGlobals "trimmed" = some (some (.ref f3))) (l3 : K.lookup f3 = some ⟨oc3, od3, .func (PySem.W.fnOf "trimmed" "trimmed" (defArgs s_trimmed) (defBody s_trimmed) (defScope s_trimmed) .none kV3 dc3 pm3 an3 cd3 ct3), sl3⟩) (c3 : PySem.W.codeIn K cd3 "trimmed" = true) (k3 : PySem.W.keepIn K (.ref f3) = true)
    (a4 : PySem.W.nsIn K mainGlobals "_is_leap" = some (some (.ref f4))) (l4 : K.lookup f4 = some ⟨oc4, od4, .func (PySem.W.fnOf "_is_leap" "_is_leap" (defArgs s__is_leap) (defBody s__is_leap) (defScope s__is_leap) .none kV4 dc4 pm4 an4 cd4 ct4), sl4⟩) (c4 : PySem.W.codeIn K cd4 "_is_leap" = true) (k4 : PySem.W.keepIn K (.ref f4) = true)
    (a5 : PySem.W.nsIn K mainGlobals "_days_ahead" = some (some (.ref f5))) (l5 : K.lookup f5 = some ⟨oc5, od5, .func (PySem.W.fnOf "_days_ahead" "_days_ahead" (defArgs s__days_ahead) (defBody s__days_ahead) (defScope s__days_ahead) .none kV5 dc5 pm5 an5 cd5 ct5), sl5⟩) (c5 : PySem.W.codeIn K cd5 "_days_ahead" = true) (k5 : PySem.W.keepIn K (.ref f5) = true)
    (a6 : PySem.W.nsIn K mainGlobals "_clock" = some (some (.ref f6))) (l6 : K.lookup f6 = some ⟨oc6, od6, .func (PySem.W.fnOf "_clock" "_clock" (defArgs s__clock) (defBody s__clock) (defScope s__clock) .none kV6 dc6 pm6 an6 cd6 ct6), sl6⟩) (c6 : PySem.W.codeIn K cd6 "_clock" = true) (k6 : PySem.W.keepIn K (.ref f6) = true)
    (a7 : PySem.W.nsIn K mainGlobals "_cut" = some (some (.ref f7))) (l7 : K.lookup f7 = some ⟨oc7, od7, .func (PySem.W.fnOf "_cut" "_cut" (defArgs s__cut) (defBody s__cut) (defScope s__cut) .none kV7 dc7 pm7 an7 cd7 ct7), sl7⟩) (c7 : PySem.W.codeIn K cd7 "_cut" = true) (k7 : PySem.W.keepIn K (.ref f7) = true)
    (a8 : PySem.W.nsIn K mainGlobals "strong_match" = some (some (.ref f8))) (l8 : K.lookup f8 = some ⟨oc8, od8, .func (PySem.W.fnOf "strong_match" "strong_match" (defArgs s_strong_match) (defBody s_strong_match) (defScope s_strong_match) .none kV8 dc8 pm8 an8 cd8 ct8), sl8⟩) (c8 : PySem.W.codeIn K cd8 "strong_match" = true) (k8 : PySem.W.keepIn K (.ref f8) = true)
    (a9 : PySem.W.nsIn K mainGlobals "weak_match" = some (some (.ref f9))) (l9 : K.lookup f9 = some ⟨oc9, od9, .func (PySem.W.fnOf "weak_match" "weak_match" (defArgs s_weak_match) (defBody s_weak_match) (defScope s_weak_match) .none kV9 dc9 pm9 an9 cd9 ct9), sl9⟩) (c9 : PySem.W.codeIn K cd9 "weak_match" = true) (k9 : PySem.W.keepIn K (.ref f9) = true)
    (a10 : PySem.W.nsIn K mainGlobals "_law_draw" = some (some (.ref f10))) (l10 : K.lookup f10 = some ⟨oc10, od10, .func (PySem.W.fnOf "_law_draw" "_law_draw" (defArgs s__law_draw) (defBody s__law_draw) (defScope s__law_draw) .none kV10 dc10 pm10 an10 cd10 ct10), sl10⟩) (c10 : PySem.W.codeIn K cd10 "_law_draw" = true) (k10 : PySem.W.keepIn K (.ref f10) = true)
    (a11 : PySem.W.nsIn K mainGlobals "_law_take" = some (some (.ref f11))) (l11 : K.lookup f11 = some ⟨oc11, od11, .func (PySem.W.fnOf "_law_take" "_law_take" (defArgs s__law_take) (defBody s__law_take) (defScope s__law_take) .none kV11 dc11 pm11 an11 cd11 ct11), sl11⟩) (c11 : PySem.W.codeIn K cd11 "_law_take" = true) (k11 : PySem.W.keepIn K (.ref f11) = true)
    (a12 : PySem.W.nsIn K mainGlobals "_law_tag_text" = some (some (.ref f12))) (l12 : K.lookup f12 = some ⟨oc12, od12, .func (PySem.W.fnOf "_law_tag_text" "_law_tag_text" (defArgs s__law_tag_text) (defBody s__law_tag_text) (defScope s__law_tag_text) .none kV12 dc12 pm12 an12 cd12 ct12), sl12⟩) (c12 : PySem.W.codeIn K cd12 "_law_tag_text" = true) (k12 : PySem.W.keepIn K (.ref f12) = true)
    (a13 : PySem.W.nsIn K mainGlobals "_law_strong" = some (some (.ref f13))) (l13 : K.lookup f13 = some ⟨oc13, od13, .func (PySem.W.fnOf "_law_strong" "_law_strong" (defArgs s__law_strong) (defBody s__law_strong) (defScope s__law_strong) .none kV13 dc13 pm13 an13 cd13 ct13), sl13⟩) (c13 : PySem.W.codeIn K cd13 "_law_strong" = true) (k13 : PySem.W.keepIn K (.ref f13) = true)
    (a14 : PySem.W.nsIn K mainGlobals "_law_joined" = some (some (.ref f14))) (l14 : K.lookup f14 = some ⟨oc14, od14, .func (PySem.W.fnOf "_law_joined" "_law_joined" (defArgs s__law_joined) (defBody s__law_joined) (defScope s__law_joined) .none kV14 dc14 pm14 an14 cd14 ct14), sl14⟩) (c14 : PySem.W.codeIn K cd14 "_law_joined" = true) (k14 : PySem.W.keepIn K (.ref f14) = true)
    (a15 : PySem.W.nsIn K mainGlobals "_law_read_tag" = some (some (.ref f15))) (l15 : K.lookup f15 = some ⟨oc15, od15, .func (PySem.W.fnOf "_law_read_tag" "_law_read_tag" (defArgs s__law_read_tag) (defBody s__law_read_tag) (defScope s__law_read_tag) .none kV15 dc15 pm15 an15 cd15 ct15), sl15⟩) (c15 : PySem.W.codeIn K cd15 "_law_read_tag" = true) (k15 : PySem.W.keepIn K (.ref f15) = true)
    (a16 : PySem.W.nsIn K mainGlobals "_law_pieces" = some (some (.ref f16))) (l16 : K.lookup f16 = some ⟨oc16, od16, .func (PySem.W.fnOf "_law_pieces" "_law_pieces" (defArgs s__law_pieces) (defBody s__law_pieces) (defScope s__law_pieces) .none kV16 dc16 pm16 an16 cd16 ct16), sl16⟩) (c16 : PySem.W.codeIn K cd16 "_law_pieces" = true) (k16 : PySem.W.keepIn K (.ref f16) = true)
    (a17 : PySem.W.nsIn K mainGlobals "values" = some (some (.ref f17))) (l17 : K.lookup f17 = some ⟨oc17, od17, .func (PySem.W.fnOf "values" "values" (defArgs s_values) (defBody s_values) (defScope s_values) .none kV17 dc17 pm17 an17 cd17 ct17), sl17⟩) (c17 : PySem.W.codeIn K cd17 "values" = true) (k17 : PySem.W.keepIn K (.ref f17) = true)
    (a18 : PySem.W.nsIn K mainGlobals "_days_of_month" = some (some (.ref f18))) (l18 : K.lookup f18 = some ⟨oc18, od18, .func (PySem.W.fnOf "_days_of_month" "_days_of_month" (defArgs s__days_of_month) (defBody s__days_of_month) (defScope s__days_of_month) .none kV18 dc18 pm18 an18 cd18 ct18), sl18⟩) (c18 : PySem.W.codeIn K cd18 "_days_of_month" = true) (k18 : PySem.W.keepIn K (.ref f18) = true)
    (a19 : PySem.W.nsIn K mainGlobals "_year_of" = some (some (.ref f19))) (l19 : K.lookup f19 = some ⟨oc19, od19, .func (PySem.W.fnOf "_year_of" "_year_of" (defArgs s__year_of) (defBody s__year_of) (defScope s__year_of) .none kV19 dc19 pm19 an19 cd19 ct19), sl19⟩) (c19 : PySem.W.codeIn K cd19 "_year_of" = true) (k19 : PySem.W.keepIn K (.ref f19) = true)
    (a20 : PySem.W.nsIn K mainGlobals "_read_clock" = some (some (.ref f20))) (l20 : K.lookup f20 = some ⟨oc20, od20, .func (PySem.W.fnOf "_read_clock" "_read_clock" (defArgs s__read_clock) (defBody s__read_clock) (defScope s__read_clock) .none kV20 dc20 pm20 an20 cd20 ct20), sl20⟩) (c20 : PySem.W.codeIn K cd20 "_read_clock" = true) (k20 : PySem.W.keepIn K (.ref f20) = true)
    (a21 : PySem.W.nsIn K mainGlobals "split_list" = some (some (.ref f21))) (l21 : K.lookup f21 = some ⟨oc21, od21, .func (PySem.W.fnOf "split_list" "split_list" (defArgs s_split_list) (defBody s_split_list) (defScope s_split_list) .none kV21 dc21 pm21 an21 cd21 ct21), sl21⟩) (c21 : PySem.W.codeIn K cd21 "split_list" = true) (k21 : PySem.W.keepIn K (.ref f21) = true)
    (a22 : PySem.W.nsIn K mainGlobals "_number" = some (some (.ref f22))) (l22 : K.lookup f22 = some ⟨oc22, od22, .func (PySem.W.fnOf "_number" "_number" (defArgs s__number) (defBody s__number) (defScope s__number) .none kV22 dc22 pm22 an22 cd22 ct22), sl22⟩) (c22 : PySem.W.codeIn K cd22 "_number" = true) (k22 : PySem.W.keepIn K (.ref f22) = true)
    (a23 : PySem.W.nsIn K mainGlobals "is_tag_text" = some (some (.ref f23))) (l23 : K.lookup f23 = some ⟨oc23, od23, .func (PySem.W.fnOf "is_tag_text" "is_tag_text" (defArgs s_is_tag_text) (defBody s_is_tag_text) (defScope s_is_tag_text) .none kV23 dc23 pm23 an23 cd23 ct23), sl23⟩) (c23 : PySem.W.codeIn K cd23 "is_tag_text" = true) (k23 : PySem.W.keepIn K (.ref f23) = true)
    (a24 : PySem.W.nsIn K mainGlobals "_matches" = some (some (.ref f24))) (l24 : K.lookup f24 = some ⟨oc24, od24, .func (PySem.W.fnOf "_matches" "_matches" (defArgs s__matches) (defBody s__matches) (defScope s__matches) .none kV24 dc24 pm24 an24 cd24 ct24), sl24⟩) (c24 : PySem.W.codeIn K cd24 "_matches" = true) (k24 : PySem.W.keepIn K (.ref f24) = true)
    (a25 : PySem.W.nsIn K mainGlobals "_law_read_tags" = some (some (.ref f25))) (l25 : K.lookup f25 = some ⟨oc25, od25, .func (PySem.W.fnOf "_law_read_tags" "_law_read_tags" (defArgs s__law_read_tags) (defBody s__law_read_tags) (defScope s__law_read_tags) .none kV25 dc25 pm25 an25 cd25 ct25), sl25⟩) (c25 : PySem.W.codeIn K cd25 "_law_read_tags" = true) (k25 : PySem.W.keepIn K (.ref f25) = true)
    (a26 : PySem.W.nsIn K mainGlobals "_law_among" = some (some (.ref f26))) (l26 : K.lookup f26 = some ⟨oc26, od26, .func (PySem.W.fnOf "_law_among" "_law_among" (defArgs s__law_among) (defBody s__law_among) (defScope s__law_among) .none kV26 dc26 pm26 an26 cd26 ct26), sl26⟩) (c26 : PySem.W.codeIn K cd26 "_law_among" = true) (k26 : PySem.W.keepIn K (.ref f26) = true)
    (a27 : PySem.W.nsIn K mainGlobals "_law_date" = some (some (.ref f27))) (l27 : K.lookup f27 = some ⟨oc27, od27, .func (PySem.W.fnOf "_law_date" "_law_date" (defArgs s__law_date) (defBody s__law_date) (defScope s__law_date) .none kV27 dc27 pm27 an27 cd27 ct27), sl27⟩) (c27 : PySem.W.codeIn K cd27 "_law_date" = true) (k27 : PySem.W.keepIn K (.ref f27) = true)
    (a28 : PySem.W.nsIn K mainGlobals "_law_time" = some (some (.ref f28))) (l28 : K.lookup f28 = some ⟨oc28, od28, .func (PySem.W.fnOf "_law_time" "_law_time" (defArgs s__law_time) (defBody s__law_time) (defScope s__law_time) .none kV28 dc28 pm28 an28 cd28 ct28), sl28⟩) (c28 : PySem.W.codeIn K cd28 "_law_time" = true) (k28 : PySem.W.keepIn K (.ref f28) = true)
    (a29 : PySem.W.nsIn K mainGlobals "_law_tags_value" = some (some (.ref f29))) (l29 : K.lookup f29 = some ⟨oc29, od29, .func (PySem.W.fnOf "_law_tags_value" "_law_tags_value" (defArgs s__law_tags_value) (defBody s__law_tags_value) (defScope s__law_tags_value) .none kV29 dc29 pm29 an29 cd29 ct29), sl29⟩) (c29 : PySem.W.codeIn K cd29 "_law_tags_value" = true) (k29 : PySem.W.keepIn K (.ref f29) = true)
    (a30 : PySem.W.nsIn K mainGlobals "_parts" = some (some (.ref f30))) (l30 : K.lookup f30 = some ⟨oc30, od30, .func (PySem.W.fnOf "_parts" "_parts" (defArgs s__parts) (defBody s__parts) (defScope s__parts) .none kV30 dc30 pm30 an30 cd30 ct30), sl30⟩) (c30 : PySem.W.codeIn K cd30 "_parts" = true) (k30 : PySem.W.keepIn K (.ref f30) = true)
    (a31 : PySem.W.nsIn K mainGlobals "_read_time" = some (some (.ref f31))) (l31 : K.lookup f31 = some ⟨oc31, od31, .func (PySem.W.fnOf "_read_time" "_read_time" (defArgs s__read_time) (defBody s__read_time) (defScope s__read_time) .none kV31 dc31 pm31 an31 cd31 ct31), sl31⟩) (c31 : PySem.W.codeIn K cd31 "_read_time" = true) (k31 : PySem.W.keepIn K (.ref f31) = true)
    (a32 : PySem.W.nsIn K mainGlobals "_full_year" = some (some (.ref f32))) (l32 : K.lookup f32 = some ⟨oc32, od32, .func (PySem.W.fnOf "_full_year" "_full_year" (defArgs s__full_year) (defBody s__full_year) (defScope s__full_year) .none kV32 dc32 pm32 an32 cd32 ct32), sl32⟩) (c32 : PySem.W.codeIn K cd32 "_full_year" = true) (k32 : PySem.W.keepIn K (.ref f32) = true)
    (a33 : PySem.W.nsIn K mainGlobals "join_values" = some (some (.ref f33))) (l33 : K.lookup f33 = some ⟨oc33, od33, .func (PySem.W.fnOf "join_values" "join_values" (defArgs s_join_values) (defBody s_join_values) (defScope s_join_values) .none kV33 dc33 pm33 an33 cd33 ct33), sl33⟩) (c33 : PySem.W.codeIn K cd33 "join_values" = true) (k33 : PySem.W.keepIn K (.ref f33) = true)
    (a34 : PySem.W.nsIn K mainGlobals "_read_last" = some (some (.ref f34))) (l34 : K.lookup f34 = some ⟨oc34, od34, .func (PySem.W.fnOf "_read_last" "_read_last" (defArgs s__read_last) (defBody s__read_last) (defScope s__read_last) .none kV34 dc34 pm34 an34 cd34 ct34), sl34⟩) (c34 : PySem.W.codeIn K cd34 "_read_last" = true) (k34 : PySem.W.keepIn K (.ref f34) = true)
    (a35 : PySem.W.nsIn K mainGlobals "read_tag" = some (some (.ref f35))) (l35 : K.lookup f35 = some ⟨oc35, od35, .func (PySem.W.fnOf "read_tag" "read_tag" (defArgs s_read_tag) (defBody s_read_tag) (defScope s_read_tag) .none kV35 dc35 pm35 an35 cd35 ct35), sl35⟩) (c35 : PySem.W.codeIn K cd35 "read_tag" = true) (k35 : PySem.W.keepIn K (.ref f35) = true)
    (a36 : PySem.W.nsIn K mainGlobals "_law_whole" = some (some (.ref f36))) (l36 : K.lookup f36 = some ⟨oc36, od36, .func (PySem.W.fnOf "_law_whole" "_law_whole" (defArgs s__law_whole) (defBody s__law_whole) (defScope s__law_whole) .none kV36 dc36 pm36 an36 cd36 ct36), sl36⟩) (c36 : PySem.W.codeIn K cd36 "_law_whole" = true) (k36 : PySem.W.keepIn K (.ref f36) = true)
    (a37 : PySem.W.nsIn K mainGlobals "_law_fields" = some (some (.ref f37))) (l37 : K.lookup f37 = some ⟨oc37, od37, .func (PySem.W.fnOf "_law_fields" "_law_fields" (defArgs s__law_fields) (defBody s__law_fields) (defScope s__law_fields) .none kV37 dc37 pm37 an37 cd37 ct37), sl37⟩) (c37 : PySem.W.codeIn K cd37 "_law_fields" = true) (k37 : PySem.W.keepIn K (.ref f37) = true)
    (a38 : PySem.W.nsIn K mainGlobals "write_date" = some (some (.ref f38))) (l38 : K.lookup f38 = some ⟨oc38, od38, .func (PySem.W.fnOf "write_date" "write_date" (defArgs s_write_date) (defBody s_write_date) (defScope s_write_date) .none kV38 dc38 pm38 an38 cd38 ct38), sl38⟩) (c38 : PySem.W.codeIn K cd38 "write_date" = true) (k38 : PySem.W.keepIn K (.ref f38) = true)
    (a39 : PySem.W.nsIn K mainGlobals "_write_dashed" = some (some (.ref f39))) (l39 : K.lookup f39 = some ⟨oc39, od39, .func (PySem.W.fnOf "_write_dashed" "_write_dashed" (defArgs s__write_dashed) (defBody s__write_dashed) (defScope s__write_dashed) .none kV39 dc39 pm39 an39 cd39 ct39), sl39⟩) (c39 : PySem.W.codeIn K cd39 "_write_dashed" = true) (k39 : PySem.W.keepIn K (.ref f39) = true)
    (a40 : PySem.W.nsIn K mainGlobals "_write_spaced" = some (some (.ref f40))) (l40 : K.lookup f40 = some ⟨oc40, od40, .func (PySem.W.fnOf "_write_spaced" "_write_spaced" (defArgs s__write_spaced) (defBody s__write_spaced) (defScope s__write_spaced) .none kV40 dc40 pm40 an40 cd40 ct40), sl40⟩) (c40 : PySem.W.codeIn K cd40 "_write_spaced" = true) (k40 : PySem.W.keepIn K (.ref f40) = true)
    (a41 : PySem.W.nsIn K mainGlobals "_read_range" = some (some (.ref f41))) (l41 : K.lookup f41 = some ⟨oc41, od41, .func (PySem.W.fnOf "_read_range" "_read_range" (defArgs s__read_range) (defBody s__read_range) (defScope s__read_range) .none kV41 dc41 pm41 an41 cd41 ct41), sl41⟩) (c41 : PySem.W.codeIn K cd41 "_read_range" = true) (k41 : PySem.W.keepIn K (.ref f41) = true)
    (a42 : PySem.W.nsIn K mainGlobals "read_tags" = some (some (.ref f42))) (l42 : K.lookup f42 = some ⟨oc42, od42, .func (PySem.W.fnOf "read_tags" "read_tags" (defArgs s_read_tags) (defBody s_read_tags) (defScope s_read_tags) .none kV42 dc42 pm42 an42 cd42 ct42), sl42⟩) (c42 : PySem.W.codeIn K cd42 "read_tags" = true) (k42 : PySem.W.keepIn K (.ref f42) = true)
    (a43 : PySem.W.nsIn K mainGlobals "_law_judge" = some (some (.ref f43))) (l43 : K.lookup f43 = some ⟨oc43, od43, .func (PySem.W.fnOf "_law_judge" "_law_judge" (defArgs s__law_judge) (defBody s__law_judge) (defScope s__law_judge) .none kV43 dc43 pm43 an43 cd43 ct43), sl43⟩) (c43 : PySem.W.codeIn K cd43 "_law_judge" = true) (k43 : PySem.W.keepIn K (.ref f43) = true)
    (a44 : PySem.W.nsIn K mainGlobals "_read_fixed" = some (some (.ref f44))) (l44 : K.lookup f44 = some ⟨oc44, od44, .func (PySem.W.fnOf "_read_fixed" "_read_fixed" (defArgs s__read_fixed) (defBody s__read_fixed) (defScope s__read_fixed) .none kV44 dc44 pm44 an44 cd44 ct44), sl44⟩) (c44 : PySem.W.codeIn K cd44 "_read_fixed" = true) (k44 : PySem.W.keepIn K (.ref f44) = true)
    (a45 : PySem.W.nsIn K mainGlobals "_read_dashed" = some (some (.ref f45))) (l45 : K.lookup f45 = some ⟨oc45, od45, .func (PySem.W.fnOf "_read_dashed" "_read_dashed" (defArgs s__read_dashed) (defBody s__read_dashed) (defScope s__read_dashed) .none kV45 dc45 pm45 an45 cd45 ct45), sl45⟩) (c45 : PySem.W.codeIn K cd45 "_read_dashed" = true) (k45 : PySem.W.keepIn K (.ref f45) = true)
    (a46 : PySem.W.nsIn K mainGlobals "_read_spaced" = some (some (.ref f46))) (l46 : K.lookup f46 = some ⟨oc46, od46, .func (PySem.W.fnOf "_read_spaced" "_read_spaced" (defArgs s__read_spaced) (defBody s__read_spaced) (defScope s__read_spaced) .none kV46 dc46 pm46 an46 cd46 ct46), sl46⟩) (c46 : PySem.W.codeIn K cd46 "_read_spaced" = true) (k46 : PySem.W.keepIn K (.ref f46) = true)
    (a47 : PySem.W.nsIn K mainGlobals "read_ranges" = some (some (.ref f47))) (l47 : K.lookup f47 = some ⟨oc47, od47, .func (PySem.W.fnOf "read_ranges" "read_ranges" (defArgs s_read_ranges) (defBody s_read_ranges) (defScope s_read_ranges) .none kV47 dc47 pm47 an47 cd47 ct47), sl47⟩) (c47 : PySem.W.codeIn K cd47 "read_ranges" = true) (k47 : PySem.W.keepIn K (.ref f47) = true)
    (a48 : PySem.W.nsIn K mainGlobals "_joined_tags" = some (some (.ref f48))) (l48 : K.lookup f48 = some ⟨oc48, od48, .func (PySem.W.fnOf "_joined_tags" "_joined_tags" (defArgs s__joined_tags) (defBody s__joined_tags) (defScope s__joined_tags) .none kV48 dc48 pm48 an48 cd48 ct48), sl48⟩) (c48 : PySem.W.codeIn K cd48 "_joined_tags" = true) (k48 : PySem.W.keepIn K (.ref f48) = true)
    (a49 : PySem.W.nsIn K mainGlobals "read_date" = some (some (.ref f49))) (l49 : K.lookup f49 = some ⟨oc49, od49, .func (PySem.W.fnOf "read_date" "read_date" (defArgs s_read_date) (defBody s_read_date) (defScope s_read_date) .none kV49 dc49 pm49 an49 cd49 ct49), sl49⟩) (c49 : PySem.W.codeIn K cd49 "read_date" = true) (k49 : PySem.W.keepIn K (.ref f49) = true)
    (a50 : PySem.W.nsIn K mainGlobals "_joined_date" = some (some (.ref f50))) (l50 : K.lookup f50 = some ⟨oc50, od50, .func (PySem.W.fnOf "_joined_date" "_joined_date" (defArgs s__joined_date) (defBody s__joined_date) (defScope s__joined_date) .none kV50 dc50 pm50 an50 cd50 ct50), sl50⟩) (c50 : PySem.W.codeIn K cd50 "_joined_date" = true) (k50 : PySem.W.keepIn K (.ref f50) = true)
    (a51 : PySem.W.nsIn K mainGlobals "_wants_part" = some (some (.ref f51))) (l51 : K.lookup f51 = some ⟨oc51, od51, .func (PySem.W.fnOf "_wants_part" "_wants_part" (defArgs s__wants_part) (defBody s__wants_part) (defScope s__wants_part) .none kV51 dc51 pm51 an51 cd51 ct51), sl51⟩) (c51 : PySem.W.codeIn K cd51 "_wants_part" = true) (k51 : PySem.W.keepIn K (.ref f51) = true)
    (a52 : PySem.W.nsIn K mainGlobals "_fails" = some (some (.ref f52))) (l52 : K.lookup f52 = some ⟨oc52, od52, .func (PySem.W.fnOf "_fails" "_fails" (defArgs s__fails) (defBody s__fails) (defScope s__fails) .none kV52 dc52 pm52 an52 cd52 ct52), sl52⟩) (c52 : PySem.W.codeIn K cd52 "_fails" = true) (k52 : PySem.W.keepIn K (.ref f52) = true)
    (a53 : PySem.W.nsIn K mainGlobals "_is_known" = some (some (.ref f53))) (l53 : K.lookup f53 = some ⟨oc53, od53, .func (PySem.W.fnOf "_is_known" "_is_known" (defArgs s__is_known) (defBody s__is_known) (defScope s__is_known) .none kV53 dc53 pm53 an53 cd53 ct53), sl53⟩) (c53 : PySem.W.codeIn K cd53 "_is_known" = true) (k53 : PySem.W.keepIn K (.ref f53) = true)
    (a54 : PySem.W.nsIn K mainGlobals "judge" = some (some (.ref f54))) (l54 : K.lookup f54 = some ⟨oc54, od54, .func (PySem.W.fnOf "judge" "judge" (defArgs s_judge) (defBody s_judge) (defScope s_judge) .none kV54 dc54 pm54 an54 cd54 ct54), sl54⟩) (c54 : PySem.W.codeIn K cd54 "judge" = true) (k54 : PySem.W.keepIn K (.ref f54) = true)
    (a55 : PySem.W.nsIn K mainGlobals "law" = some (some (.ref f55))) (l55 : K.lookup f55 = some ⟨oc55, od55, .func (PySem.W.fnOf "law" "law" (defArgs s_law) (defBody s_law) (defScope s_law) .none kV55 dc55 pm55 an55 cd55 ct55), sl55⟩) (c55 : PySem.W.codeIn K cd55 "law" = true) (k55 : PySem.W.keepIn K (.ref f55) = true)
    (b0 : PySem.W.nsIn K mainGlobals "abs" = some none)
    (b1 : PySem.W.nsIn K mainGlobals "all" = some none)
    (b2 : PySem.W.nsIn K mainGlobals "any" = some none)
    (b3 : PySem.W.nsIn K mainGlobals "bool" = some none)
    (b4 : PySem.W.nsIn K mainGlobals "divmod" = some none)
    (b5 : PySem.W.nsIn K mainGlobals "enumerate" = some none)
    (b6 : PySem.W.nsIn K mainGlobals "int" = some none)
    (b7 : PySem.W.nsIn K mainGlobals "isinstance" = some none)
    (b8 : PySem.W.nsIn K mainGlobals "len" = some none)
    (b9 : PySem.W.nsIn K mainGlobals "list" = some none)
    (b10 : PySem.W.nsIn K mainGlobals "max" = some none)
    (b11 : PySem.W.nsIn K mainGlobals "min" = some none)
    (b12 : PySem.W.nsIn K mainGlobals "ord" = some none)
    (b13 : PySem.W.nsIn K mainGlobals "range" = some none)
    (b14 : PySem.W.nsIn K mainGlobals "tuple" = some none)
    (n0 : PySem.W.nsIn K mainGlobals "DIGITS" = some (some (.str "0123456789" t0)))
    (n1 : PySem.W.nsIn K mainGlobals "LEAPS_BEFORE_FIRST" = some (some (.int 477 t1)))
    (n2 : PySem.W.nsIn K mainGlobals "FIRST_YEAR" = some (some (.int 1970 t2)))
    (n3 : PySem.W.nsIn K mainGlobals "QUOTE" = some (some (.str "\"" t3)))
    (n4 : PySem.W.nsIn K mainGlobals "BACKSLASH" = some (some (.str "\\" t4)))
    (n5 : PySem.W.nsIn K mainGlobals "MONTH_DAYS" = some (some (.ref g5))) (o5 : K.lookup g5 = some ⟨.type "tuple", dd5, .seq it5 m5, sg5⟩) (e5 : flatsOf it5.toList = some (vs5, [PyData.int 31, PyData.int 28, PyData.int 31, PyData.int 30, PyData.int 31, PyData.int 30, PyData.int 31, PyData.int 31, PyData.int 30, PyData.int 31, PyData.int 30, PyData.int 31])) (z5 : it5.size ≤ sizeLine)
    (n6 : PySem.W.nsIn K mainGlobals "MOST_DIGITS" = some (some (.int 15 t6)))
    (n7 : PySem.W.nsIn K mainGlobals "STAR" = some (some (.str "*" t7)))
    (n8 : PySem.W.nsIn K mainGlobals "DAY" = some (some (.int 86400 t8)))
    (n9 : PySem.W.nsIn K mainGlobals "WEEKDAYS" = some (some (.ref g9))) (o9 : K.lookup g9 = some ⟨.type "tuple", dd9, .seq it9 m9, sg9⟩) (e9 : flatsOf it9.toList = some (vs9, [PyData.str "Monday", PyData.str "Tuesday", PyData.str "Wednesday", PyData.str "Thursday", PyData.str "Friday", PyData.str "Saturday", PyData.str "Sunday"])) (z9 : it9.size ≤ sizeLine)
    (n10 : PySem.W.nsIn K mainGlobals "FIRST_WEEKDAY" = some (some (.int 3 t10)))
    (n11 : PySem.W.nsIn K mainGlobals "MONTHS" = some (some (.ref g11))) (o11 : K.lookup g11 = some ⟨.type "tuple", none, .seq it11 m11, sg11⟩) (e11 : flatsOf it11.toList = some (vs11, [PyData.str "Jan", PyData.str "Feb", PyData.str "Mar", PyData.str "Apr", PyData.str "May", PyData.str "Jun", PyData.str "Jul", PyData.str "Aug", PyData.str "Sep", PyData.str "Oct", PyData.str "Nov", PyData.str "Dec"])) (z11 : it11.size ≤ sizeLine)
    (n12 : PySem.W.nsIn K mainGlobals "LAST_YEAR" = some (some (.int 9999 t12)))
    (n13 : PySem.W.nsIn K mainGlobals "WEAK" = some (some (.str "W/" t13)))
    (n14 : PySem.W.nsIn K mainGlobals "UNIT" = some (some (.str "bytes=" t14)))
    (n15 : PySem.W.nsIn K mainGlobals "MOST_RANGES" = some (some (.int 20 t15)))
    (n16 : PySem.W.nsIn K mainGlobals "READING" = some (some (.ref g16))) (o16 : K.lookup g16 = some ⟨.type "tuple", dd16, .seq it16 m16, sg16⟩) (e16 : flatsOf it16.toList = some (vs16, [PyData.str "GET", PyData.str "HEAD"])) (z16 : it16.size ≤ sizeLine)
    (n17 : PySem.W.nsIn K mainGlobals "FAILED" = some (some (.ref g17))) (o17 : K.lookup g17 = some ⟨.type "tuple", dd17, .seq it17 m17, sg17⟩) (e17 : flatsOf it17.toList = some (vs17, [PyData.int 412, PyData.bool true])) (z17 : it17.size ≤ sizeLine)
    (n18 : PySem.W.nsIn K mainGlobals "UNCHANGED" = some (some (.ref g18))) (o18 : K.lookup g18 = some ⟨.type "tuple", dd18, .seq it18 m18, sg18⟩) (e18 : flatsOf it18.toList = some (vs18, [PyData.int 304, PyData.bool true])) (z18 : it18.size ≤ sizeLine)
    : ∃ fd : FuncData, (∀ (s : Shared) (v : Value), BindsTo s fd ⟨[v], []⟩ [("script", v)]) ∧ ∀ base : Heap, K.In base → base.Ns mainGlobals mg → FnOk P w K mg base CX0 10 fa fd ["script"] (spF K 1 S_law) := by
  have F_is_value_sign : Fx K mg "is_value_sign" s_is_value_sign ["octet"] := Fx.of X G a0 l0 c0 k0 (fun _ _ _ _ _ _ us hl => match us, hl with | [_], _ => rfl)
  have F_is_digits : Fx K mg "is_digits" s_is_digits ["text"] := Fx.of X G a1 l1 c1 k1 (fun _ _ _ _ _ _ us hl => match us, hl with | [_], _ => rfl)
  have F_lower : Fx K mg "lower" s_lower ["text"] := Fx.of X G a2 l2 c2 k2 (fun _ _ _ _ _ _ us hl => match us, hl with | [_], _ => rfl)
  have F_trimmed : Fx K mg "trimmed" s_trimmed ["text"] := Fx.of X G a3 l3 c3 k3 (fun _ _ _ _ _ _ us hl => match us, hl with | [_], _ => rfl)
  have F__is_leap : Fx K mg "_is_leap" s__is_leap ["year"] := Fx.of X G a4 l4 c4 k4 (fun _ _ _ _ _ _ us hl => match us, hl with | [_], _ => rfl)
  have F__days_ahead : Fx K mg "_days_ahead" s__days_ahead ["year"] := Fx.of X G a5 l5 c5 k5 (fun _ _ _ _ _ _ us hl => match us, hl with | [_], _ => rfl)
  have F__clock : Fx K mg "_clock" s__clock ["second"] := Fx.of X G a6 l6 c6 k6 (fun _ _ _ _ _ _ us hl => match us, hl with | [_], _ => rfl)
  have F__cut : Fx K mg "_cut" s__cut ["text", "mark"] := Fx.of X G a7 l7 c7 k7 (fun _ _ _ _ _ _ us hl => match us, hl with | [_, _], _ => rfl)
  have F_strong_match : Fx K mg "strong_match" s_strong_match ["a", "b"] := Fx.of X G a8 l8 c8 k8 (fun _ _ _ _ _ _ us hl => match us, hl with | [_, _], _ => rfl)
  have F_weak_match : Fx K mg "weak_match" s_weak_match ["a", "b"] := Fx.of X G a9 l9 c9 k9 (fun _ _ _ _ _ _ us hl => match us, hl with | [_, _], _ => rfl)
  have F__law_draw : Fx K mg "_law_draw" s__law_draw ["script"] := Fx.of X G a10 l10 c10 k10 (fun _ _ _ _ _ _ us hl => match us, hl with | [_], _ => rfl)
  have F__law_take : Fx K mg "_law_take" s__law_take ["draw", "many"] := Fx.of X G a11 l11 c11 k11 (fun _ _ _ _ _ _ us hl => match us, hl with | [_, _], _ => rfl)
  have F__law_tag_text : Fx K mg "_law_tag_text" s__law_tag_text ["tag"] := Fx.of X G a12 l12 c12 k12 (fun _ _ _ _ _ _ us hl => match us, hl with | [_], _ => rfl)
  have F__law_strong : Fx K mg "_law_strong" s__law_strong ["a", "b"] := Fx.of X G a13 l13 c13 k13 (fun _ _ _ _ _ _ us hl => match us, hl with | [_, _], _ => rfl)
  have F__law_joined : Fx K mg "_law_joined" s__law_joined ["fields", "name"] := Fx.of X G a14 l14 c14 k14 (fun _ _ _ _ _ _ us hl => match us, hl with | [_, _], _ => rfl)
  have F__law_read_tag : Fx K mg "_law_read_tag" s__law_read_tag ["text"] := Fx.of X G a15 l15 c15 k15 (fun _ _ _ _ _ _ us hl => match us, hl with | [_], _ => rfl)
  have F__law_pieces : Fx K mg "_law_pieces" s__law_pieces ["value"] := Fx.of X G a16 l16 c16 k16 (fun _ _ _ _ _ _ us hl => match us, hl with | [_], _ => rfl)
  have F_values : Fx K mg "values" s_values ["fields", "name"] := Fx.of X G a17 l17 c17 k17 (fun _ _ _ _ _ _ us hl => match us, hl with | [_, _], _ => rfl)
  have F__days_of_month : Fx K mg "_days_of_month" s__days_of_month ["year", "month"] := Fx.of X G a18 l18 c18 k18 (fun _ _ _ _ _ _ us hl => match us, hl with | [_, _], _ => rfl)
  have F__year_of : Fx K mg "_year_of" s__year_of ["days"] := Fx.of X G a19 l19 c19 k19 (fun _ _ _ _ _ _ us hl => match us, hl with | [_], _ => rfl)
  have F__read_clock : Fx K mg "_read_clock" s__read_clock ["text"] := Fx.of X G a20 l20 c20 k20 (fun _ _ _ _ _ _ us hl => match us, hl with | [_], _ => rfl)
  have F_split_list : Fx K mg "split_list" s_split_list ["value"] := Fx.of X G a21 l21 c21 k21 (fun _ _ _ _ _ _ us hl => match us, hl with | [_], _ => rfl)
  have F__number : Fx K mg "_number" s__number ["text"] := Fx.of X G a22 l22 c22 k22 (fun _ _ _ _ _ _ us hl => match us, hl with | [_], _ => rfl)
  have F_is_tag_text : Fx K mg "is_tag_text" s_is_tag_text ["text"] := Fx.of X G a23 l23 c23 k23 (fun _ _ _ _ _ _ us hl => match us, hl with | [_], _ => rfl)
  have F__matches : Fx K mg "_matches" s__matches ["tags", "tag", "strong"] := Fx.of X G a24 l24 c24 k24 (fun _ _ _ _ _ _ us hl => match us, hl with | [_, _, _], _ => rfl)
  have F__law_read_tags : Fx K mg "_law_read_tags" s__law_read_tags ["value"] := Fx.of X G a25 l25 c25 k25 (fun _ _ _ _ _ _ us hl => match us, hl with | [_], _ => rfl)
  have F__law_among : Fx K mg "_law_among" s__law_among ["tags", "tag", "strong"] := Fx.of X G a26 l26 c26 k26 (fun _ _ _ _ _ _ us hl => match us, hl with | [_, _, _], _ => rfl)
  have F__law_date : Fx K mg "_law_date" s__law_date ["fields", "name", "dates"] := Fx.of X G a27 l27 c27 k27 (fun _ _ _ _ _ _ us hl => match us, hl with | [_, _, _], _ => rfl)
  have F__law_time : Fx K mg "_law_time" s__law_time ["draw"] := Fx.of X G a28 l28 c28 k28 (fun _ _ _ _ _ _ us hl => match us, hl with | [_], _ => rfl)
  have F__law_tags_value : Fx K mg "_law_tags_value" s__law_tags_value ["draw", "tag"] := Fx.of X G a29 l29 c29 k29 (fun _ _ _ _ _ _ us hl => match us, hl with | [_, _], _ => rfl)
  have F__parts : Fx K mg "_parts" s__parts ["time"] := Fx.of X G a30 l30 c30 k30 (fun _ _ _ _ _ _ us hl => match us, hl with | [_], _ => rfl)
  have F__read_time : Fx K mg "_read_time" s__read_time ["year", "month", "day", "clock"] := Fx.of X G a31 l31 c31 k31 (fun _ _ _ _ _ _ us hl => match us, hl with | [_, _, _, _], _ => rfl)
  have F__full_year : Fx K mg "_full_year" s__full_year ["last_two", "now"] := Fx.of X G a32 l32 c32 k32 (fun _ _ _ _ _ _ us hl => match us, hl with | [_, _], _ => rfl)
  have F_join_values : Fx K mg "join_values" s_join_values ["fields", "name"] := Fx.of X G a33 l33 c33 k33 (fun _ _ _ _ _ _ us hl => match us, hl with | [_, _], _ => rfl)
  have F__read_last : Fx K mg "_read_last" s__read_last ["digits", "size"] := Fx.of X G a34 l34 c34 k34 (fun _ _ _ _ _ _ us hl => match us, hl with | [_, _], _ => rfl)
  have F_read_tag : Fx K mg "read_tag" s_read_tag ["text"] := Fx.of X G a35 l35 c35 k35 (fun _ _ _ _ _ _ us hl => match us, hl with | [_], _ => rfl)
  have F__law_whole : Fx K mg "_law_whole" s__law_whole ["method", "fields", "tag", "modified", "dates"] := Fx.of X G a36 l36 c36 k36 (fun _ _ _ _ _ _ us hl => match us, hl with | [_, _, _, _, _], _ => rfl)
  have F__law_fields : Fx K mg "_law_fields" s__law_fields ["draw", "tag"] := Fx.of X G a37 l37 c37 k37 (fun _ _ _ _ _ _ us hl => match us, hl with | [_, _], _ => rfl)
  have F_write_date : Fx K mg "write_date" s_write_date ["time"] := Fx.of X G a38 l38 c38 k38 (fun _ _ _ _ _ _ us hl => match us, hl with | [_], _ => rfl)
  have F__write_dashed : Fx K mg "_write_dashed" s__write_dashed ["time"] := Fx.of X G a39 l39 c39 k39 (fun _ _ _ _ _ _ us hl => match us, hl with | [_], _ => rfl)
  have F__write_spaced : Fx K mg "_write_spaced" s__write_spaced ["time"] := Fx.of X G a40 l40 c40 k40 (fun _ _ _ _ _ _ us hl => match us, hl with | [_], _ => rfl)
  have F__read_range : Fx K mg "_read_range" s__read_range ["element", "size"] := Fx.of X G a41 l41 c41 k41 (fun _ _ _ _ _ _ us hl => match us, hl with | [_, _], _ => rfl)
  have F_read_tags : Fx K mg "read_tags" s_read_tags ["value"] := Fx.of X G a42 l42 c42 k42 (fun _ _ _ _ _ _ us hl => match us, hl with | [_], _ => rfl)
  have F__law_judge : Fx K mg "_law_judge" s__law_judge ["method", "fields", "tag", "modified", "dates"] := Fx.of X G a43 l43 c43 k43 (fun _ _ _ _ _ _ us hl => match us, hl with | [_, _, _, _, _], _ => rfl)
  have F__read_fixed : Fx K mg "_read_fixed" s__read_fixed ["text"] := Fx.of X G a44 l44 c44 k44 (fun _ _ _ _ _ _ us hl => match us, hl with | [_], _ => rfl)
  have F__read_dashed : Fx K mg "_read_dashed" s__read_dashed ["text", "now"] := Fx.of X G a45 l45 c45 k45 (fun _ _ _ _ _ _ us hl => match us, hl with | [_, _], _ => rfl)
  have F__read_spaced : Fx K mg "_read_spaced" s__read_spaced ["text"] := Fx.of X G a46 l46 c46 k46 (fun _ _ _ _ _ _ us hl => match us, hl with | [_], _ => rfl)
  have F_read_ranges : Fx K mg "read_ranges" s_read_ranges ["value", "size"] := Fx.of X G a47 l47 c47 k47 (fun _ _ _ _ _ _ us hl => match us, hl with | [_, _], _ => rfl)
  have F__joined_tags : Fx K mg "_joined_tags" s__joined_tags ["fields", "name"] := Fx.of X G a48 l48 c48 k48 (fun _ _ _ _ _ _ us hl => match us, hl with | [_, _], _ => rfl)
  have F_read_date : Fx K mg "read_date" s_read_date ["text", "now"] := Fx.of X G a49 l49 c49 k49 (fun _ _ _ _ _ _ us hl => match us, hl with | [_, _], _ => rfl)
  have F__joined_date : Fx K mg "_joined_date" s__joined_date ["fields", "name", "now"] := Fx.of X G a50 l50 c50 k50 (fun _ _ _ _ _ _ us hl => match us, hl with | [_, _, _], _ => rfl)
  have F__wants_part : Fx K mg "_wants_part" s__wants_part ["method", "fields", "tag", "modified", "now"] := Fx.of X G a51 l51 c51 k51 (fun _ _ _ _ _ _ us hl => match us, hl with | [_, _, _, _, _], _ => rfl)
  have F__fails : Fx K mg "_fails" s__fails ["fields", "tag", "modified", "now"] := Fx.of X G a52 l52 c52 k52 (fun _ _ _ _ _ _ us hl => match us, hl with | [_, _, _, _], _ => rfl)
  have F__is_known : Fx K mg "_is_known" s__is_known ["method", "fields", "tag", "modified", "now"] := Fx.of X G a53 l53 c53 k53 (fun _ _ _ _ _ _ us hl => match us, hl with | [_, _, _, _, _], _ => rfl)
  have F_judge : Fx K mg "judge" s_judge ["method", "fields", "tag", "modified", "now"] := Fx.of X G a54 l54 c54 k54 (fun _ _ _ _ _ _ us hl => match us, hl with | [_, _, _, _, _], _ => rfl)
  have B : Blt mg := ⟨trivial, PySem.W.mg_none_of X G b0, PySem.W.mg_none_of X G b1, PySem.W.mg_none_of X G b2, PySem.W.mg_none_of X G b3, PySem.W.mg_none_of X G b4, PySem.W.mg_none_of X G b5, PySem.W.mg_none_of X G b6, PySem.W.mg_none_of X G b7, PySem.W.mg_none_of X G b8, PySem.W.mg_none_of X G b9, PySem.W.mg_none_of X G b10, PySem.W.mg_none_of X G b11, PySem.W.mg_none_of X G b12, PySem.W.mg_none_of X G b13, PySem.W.mg_none_of X G b14⟩
  have C : Cns K mg := ⟨trivial, Cn.str X G n0, Cn.int X G n1, Cn.int X G n2, Cn.str X G n3, Cn.str X G n4, Cn.tup X G n5 o5 e5 z5, Cn.int X G n6, Cn.str X G n7, Cn.int X G n8, Cn.tup X G n9 o9 e9 z9, Cn.int X G n10, Cn.tup X G n11 o11 e11 z11, Cn.int X G n12, Cn.str X G n13, Cn.str X G n14, Cn.int X G n15, Cn.tup X G n16 o16 e16 z16, Cn.tup X G n17 o17 e17 z17, Cn.tup X G n18 o18 e18 z18, CnT.of X G n11 o11 e11 z11⟩
  refine law_of X G hfa a55 l55 c55 k55 (fun s v => .of_eq rfl) (fun base f fd F => ?_)
  have c_is_value_sign : Cl P w K mg base 1 "is_value_sign" 1 S_is_value_sign := cl_is_value_sign B C F_is_value_sign 
  have c_is_digits : Cl P w K mg base 1 "is_digits" 1 S_is_digits := cl_is_digits B C F_is_digits 
  have c_lower : Cl P w K mg base 1 "lower" 1 S_lower := cl_lower B C F_lower 
  have c_trimmed : Cl P w K mg base 1 "trimmed" 1 S_trimmed := cl_trimmed B C F_trimmed 
  have c__is_leap : Cl P w K mg base 1 "_is_leap" 1 S__is_leap := cl__is_leap B C F__is_leap 
  have c__days_ahead : Cl P w K mg base 1 "_days_ahead" 1 S__days_ahead := cl__days_ahead B C F__days_ahead 
  have c__clock : Cl P w K mg base 1 "_clock" 1 S__clock := cl__clock B C F__clock 
  have c__cut : Cl P w K mg base 1 "_cut" 2 S__cut := cl__cut B C F__cut 
  have c_strong_match : Cl P w K mg base 1 "strong_match" 2 S_strong_match := cl_strong_match B C F_strong_match 
  have c_weak_match : Cl P w K mg base 1 "weak_match" 2 S_weak_match := cl_weak_match B C F_weak_match 
  have c__law_draw : Cl P w K mg base 1 "_law_draw" 1 S__law_draw := cl__law_draw B C F__law_draw 
  have c__law_take : Cl P w K mg base 1 "_law_take" 2 S__law_take := cl__law_take B C F__law_take 
  have c__law_tag_text : Cl P w K mg base 1 "_law_tag_text" 1 S__law_tag_text := cl__law_tag_text B C F__law_tag_text 
  have c__law_strong : Cl P w K mg base 1 "_law_strong" 2 S__law_strong := cl__law_strong B C F__law_strong 
  have c__law_joined : Cl P w K mg base 1 "_law_joined" 2 S__law_joined := cl__law_joined B C F__law_joined 
  have c__law_read_tag : Cl P w K mg base 1 "_law_read_tag" 1 S__law_read_tag := cl__law_read_tag B C F__law_read_tag 
  have c__law_pieces : Cl P w K mg base 1 "_law_pieces" 1 S__law_pieces := cl__law_pieces B C F__law_pieces 
  have c_values : Cl P w K mg base 2 "values" 2 S_values := cl_values B C F_values c_lower
  have c__days_of_month : Cl P w K mg base 2 "_days_of_month" 2 S__days_of_month := cl__days_of_month B C F__days_of_month c__is_leap
  have c__year_of : Cl P w K mg base 2 "_year_of" 1 S__year_of := cl__year_of B C F__year_of c__days_ahead
  have c__read_clock : Cl P w K mg base 2 "_read_clock" 1 S__read_clock := cl__read_clock B C F__read_clock c_is_digits
  have c_split_list : Cl P w K mg base 2 "split_list" 1 S_split_list := cl_split_list B C F_split_list c__cut c_trimmed
  have c__number : Cl P w K mg base 2 "_number" 1 S__number := cl__number B C F__number c_is_digits
  have c_is_tag_text : Cl P w K mg base 2 "is_tag_text" 1 S_is_tag_text := cl_is_tag_text B C F_is_tag_text c_is_value_sign
  have c__matches : Cl P w K mg base 2 "_matches" 3 S__matches := cl__matches B C F__matches c_strong_match c_weak_match
  have c__law_read_tags : Cl P w K mg base 2 "_law_read_tags" 1 S__law_read_tags := cl__law_read_tags B C F__law_read_tags c__law_pieces c__law_read_tag
  have c__law_among : Cl P w K mg base 2 "_law_among" 3 S__law_among := cl__law_among B C F__law_among c__law_strong
  have c__law_date : Cl P w K mg base 2 "_law_date" 3 S__law_date := cl__law_date B C F__law_date c__law_joined
  have c__law_time : Cl P w K mg base 2 "_law_time" 1 S__law_time := cl__law_time B C F__law_time c__law_take
  have c__law_tags_value : Cl P w K mg base 2 "_law_tags_value" 2 S__law_tags_value := cl__law_tags_value B C F__law_tags_value c__law_take c__law_tag_text
  have c__parts : Cl P w K mg base 3 "_parts" 1 S__parts := cl__parts B C F__parts c__year_of c__days_ahead c__days_of_month c__clock
  have c__read_time : Cl P w K mg base 3 "_read_time" 4 S__read_time := cl__read_time B C F__read_time c__read_clock c__days_of_month c_is_digits c__days_ahead
  have c__full_year : Cl P w K mg base 3 "_full_year" 2 S__full_year := cl__full_year B C F__full_year c__year_of
  have c_join_values : Cl P w K mg base 3 "join_values" 2 S_join_values := cl_join_values B C F_join_values c_values
  have c__read_last : Cl P w K mg base 3 "_read_last" 2 S__read_last := cl__read_last B C F__read_last c__number
  have c_read_tag : Cl P w K mg base 3 "read_tag" 1 S_read_tag := cl_read_tag B C F_read_tag c_is_tag_text
  have c__law_whole : Cl P w K mg base 3 "_law_whole" 5 S__law_whole := cl__law_whole B C F__law_whole c__law_joined c__law_read_tag c__law_date c__law_strong
  have c__law_fields : Cl P w K mg base 3 "_law_fields" 2 S__law_fields := cl__law_fields B C F__law_fields c__law_take c__law_tags_value c__law_time
  have c_write_date : Cl P w K mg base 4 "write_date" 1 S_write_date := cl_write_date B C F_write_date c__parts
  have c__write_dashed : Cl P w K mg base 4 "_write_dashed" 1 S__write_dashed := cl__write_dashed B C F__write_dashed c__parts
  have c__write_spaced : Cl P w K mg base 4 "_write_spaced" 1 S__write_spaced := cl__write_spaced B C F__write_spaced c__parts
  have c__read_range : Cl P w K mg base 4 "_read_range" 2 S__read_range := cl__read_range B C F__read_range c__number c__read_last
  have c_read_tags : Cl P w K mg base 4 "read_tags" 1 S_read_tags := cl_read_tags B C F_read_tags c_split_list c_read_tag
  have c__law_judge : Cl P w K mg base 4 "_law_judge" 5 S__law_judge := cl__law_judge B C F__law_judge c__law_joined c__law_read_tags c__law_date c__law_among c__law_whole
  have c__read_fixed : Cl P w K mg base 5 "_read_fixed" 1 S__read_fixed := cl__read_fixed B C F__read_fixed c__read_time c_is_digits c_write_date
  have c__read_dashed : Cl P w K mg base 5 "_read_dashed" 2 S__read_dashed := cl__read_dashed B C F__read_dashed c__read_time c_is_digits c__full_year c__write_dashed
  have c__read_spaced : Cl P w K mg base 5 "_read_spaced" 1 S__read_spaced := cl__read_spaced B C F__read_spaced c__read_time c_is_digits c__write_spaced
  have c_read_ranges : Cl P w K mg base 5 "read_ranges" 2 S_read_ranges := cl_read_ranges B C F_read_ranges c_split_list c_lower c__read_range
  have c__joined_tags : Cl P w K mg base 5 "_joined_tags" 2 S__joined_tags := cl__joined_tags B C F__joined_tags c_join_values c_read_tags
  have c_read_date : Cl P w K mg base 6 "read_date" 2 S_read_date := cl_read_date B C F_read_date c__read_dashed c__read_fixed c__read_spaced
  have c__joined_date : Cl P w K mg base 7 "_joined_date" 3 S__joined_date := cl__joined_date B C F__joined_date c_join_values c_read_date
  have c__wants_part : Cl P w K mg base 7 "_wants_part" 5 S__wants_part := cl__wants_part B C F__wants_part c_join_values c_read_tag c_read_date c_read_ranges c_strong_match
  have c__fails : Cl P w K mg base 8 "_fails" 4 S__fails := cl__fails B C F__fails c__joined_date c_join_values c__matches c__joined_tags
  have c__is_known : Cl P w K mg base 8 "_is_known" 5 S__is_known := cl__is_known B C F__is_known c__joined_tags c__joined_date c__matches
  have c_judge : Cl P w K mg base 9 "judge" 5 S_judge := cl_judge B C F_judge c__fails c__is_known c__wants_part
  exact fn_ok F sc_law fun cdv A outer s H E hr => body_law B C c__law_draw c__law_fields c_judge c__law_judge c__law_take f cdv A outer s H E hr
end ownanswer_k62_conditions_judged
set_option maxRecDepth 100000 in
set_option maxHeartbeats 0 in
theorem PySem.Challenge.cw_ownanswer_k62_conditions_judged_holds : PySem.Challenge.rw_ownanswer_k62_conditions_judged.Holds := by
  w_on; o_law; k_head; (case hw => w_witness2)
  k_fill
  refine L2.walk_of (l := PySem.Challenge.rw_ownanswer_k62_conditions_judged) (n := 63) (k := 10) (x := "script") (CX := fun _ => L2.CX0) (sp := fun w => Fw.spF _ 1 ownanswer_k62_conditions_judged.S_law) rfl (by decide) rfl ⟨rfl, by decide, by decide⟩ (fun w h Y => PySem.W.kIn_of Y) ?F (fun _ _ a ns hl _ hS => Fw.sp_law hS (ownanswer_k62_conditions_judged.law_true ns hl)) (fun _ _ _ _ _ h => h)
  case F =>
    intro w mg fa h KX G hmg
    refine' ownanswer_k62_conditions_judged.all_mk KX G hmg ?a0 ?l0 ?c0 ?k0 ?a1 ?l1 ?c1 ?k1 ?a2 ?l2 ?c2 ?k2 ?a3 ?l3 ?c3 ?k3 ?a4 ?l4 ?c4 ?k4 ?a5 ?l5 ?c5 ?k5 ?a6 ?l6 ?c6 ?k6 ?a7 ?l7 ?c7 ?k7 ?a8 ?l8 ?c8 ?k8 ?a9 ?l9 ?c9 ?k9 ?a10 ?l10 ?c10 ?k10 ?a11 ?l11 ?c11 ?k11 ?a12 ?l12 ?c12 ?k12 ?a13 ?l13 ?c13 ?k13 ?a14 ?l14 ?c14 ?k14 ?a15 ?l15 ?c15 ?k15 ?a16 ?l16 ?c16 ?k16 ?a17 ?l17 ?c17 ?k17 ?a18 ?l18 ?c18 ?k18 ?a19 ?l19 ?c19 ?k19 ?a20 ?l20 ?c20 ?k20 ?a21 ?l21 ?c21 ?k21 ?a22 ?l22 ?c22 ?k22 ?a23 ?l23 ?c23 ?k23 ?a24 ?l24 ?c24 ?k24 ?a25 ?l25 ?c25 ?k25 ?a26 ?l26 ?c26 ?k26 ?a27 ?l27 ?c27 ?k27 ?a28 ?l28 ?c28 ?k28 ?a29 ?l29 ?c29 ?k29 ?a30 ?l30 ?c30 ?k30 ?a31 ?l31 ?c31 ?k31 ?a32 ?l32 ?c32 ?k32 ?a33 ?l33 ?c33 ?k33 ?a34 ?l34 ?c34 ?k34 ?a35 ?l35 ?c35 ?k35 ?a36 ?l36 ?c36 ?k36 ?a37 ?l37 ?c37 ?k37 ?a38 ?l38 ?c38 ?k38 ?a39 ?l39 ?c39 ?k39 ?a40 ?l40 ?c40 ?k40 ?a41 ?l41 ?c41 ?k41 ?a42 ?l42 ?c42 ?k42 ?a43 ?l43 ?c43 ?k43 ?a44 ?l44 ?c44 ?k44 ?a45 ?l45 ?c45 ?k45 ?a46 ?l46 ?c46 ?k46 ?a47 ?l47 ?c47 ?k47 ?a48 ?l48 ?c48 ?k48 ?a49 ?l49 ?c49 ?k49 ?a50 ?l50 ?c50 ?k50 ?a51 ?l51 ?c51 ?k51 ?a52 ?l52 ?c52 ?k52 ?a53 ?l53 ?c53 ?k53 ?a54 ?l54 ?c54 ?k54 ?a55 ?l55 ?c55 ?k55 ?b0 ?b1 ?b2 ?b3 ?b4 ?b5 ?b6 ?b7 ?b8 ?b9 ?b10 ?b11 ?b12 ?b13 ?b14 ?n0 ?n1 ?n2 ?n3 ?n4 ?n5 ?o5 ?e5 ?z5 ?n6 ?n7 ?n8 ?n9 ?o9 ?e9 ?z9 ?n10 ?n11 ?o11 ?e11 ?z11 ?n12 ?n13 ?n14 ?n15 ?n16 ?o16 ?e16 ?z16 ?n17 ?o17 ?e17 ?z17 ?n18 ?o18 ?e18 ?z18
    (case a0 => k_is)
    (case l0 => k_is)
    (case c0 => k_is)
    (case k0 => k_is)
    (case a1 => k_is)
    (case l1 => k_is)
    (case c1 => k_is)
    (case k1 => k_is)
    (case a2 => k_is)
    (case l2 => k_is)
    (case c2 => k_is)
    (case k2 => k_is)
    (case a3 => k_is)
    (case l3 => k_is)
    (case c3 => k_is)
    (case k3 => k_is)
    (case a4 => k_is)
    (case l4 => k_is)
    (case c4 => k_is)
    (case k4 => k_is)
    (case a5 => k_is)
    (case l5 => k_is)
    (case c5 => k_is)
    (case k5 => k_is)
    (case a6 => k_is)
    (case l6 => k_is)
    (case c6 => k_is)
    (case k6 => k_is)
    (case a7 => k_is)
    (case l7 => k_is)
    (case c7 => k_is)
    (case k7 => k_is)
    (case a8 => k_is)
    (case l8 => k_is)
    (case c8 => k_is)
    (case k8 => k_is)
    (case a9 => k_is)
    (case l9 => k_is)
    (case c9 => k_is)
    (case k9 => k_is)
    (case a10 => k_is)
    (case l10 => k_is)
    (case c10 => k_is)
    (case k10 => k_is)
    (case a11 => k_is)
    (case l11 => k_is)
    (case c11 => k_is)
    (case k11 => k_is)
    (case a12 => k_is)
    (case l12 => k_is)
    (case c12 => k_is)
    (case k12 => k_is)
    (case a13 => k_is)
    (case l13 => k_is)
    (case c13 => k_is)
    (case k13 => k_is)
    (case a14 => k_is)
    (case l14 => k_is)
    (case c14 => k_is)
    (case k14 => k_is)
    (case a15 => k_is)
    (case l15 => k_is)
    (case c15 => k_is)
    (case k15 => k_is)
    (case a16 => k_is)
    (case l16 => k_is)
    (case c16 => k_is)
    (case k16 => k_is)
    (case a17 => k_is)
    (case l17 => k_is)
    (case c17 => k_is)
    (case k17 => k_is)
    (case a18 => k_is)
    (case l18 => k_is)
    (case c18 => k_is)
    (case k18 => k_is)
    (case a19 => k_is)
    (case l19 => k_is)
    (case c19 => k_is)
    (case k19 => k_is)
    (case a20 => k_is)
    (case l20 => k_is)
    (case c20 => k_is)
    (case k20 => k_is)
    (case a21 => k_is)
    (case l21 => k_is)
    (case c21 => k_is)
    (case k21 => k_is)
    (case a22 => k_is)
    (case l22 => k_is)
    (case c22 => k_is)
    (case k22 => k_is)
    (case a23 => k_is)
    (case l23 => k_is)
    (case c23 => k_is)
    (case k23 => k_is)
    (case a24 => k_is)
    (case l24 => k_is)
    (case c24 => k_is)
    (case k24 => k_is)
    (case a25 => k_is)
    (case l25 => k_is)
    (case c25 => k_is)
    (case k25 => k_is)
    (case a26 => k_is)
    (case l26 => k_is)
    (case c26 => k_is)
    (case k26 => k_is)
    (case a27 => k_is)
    (case l27 => k_is)
    (case c27 => k_is)
    (case k27 => k_is)
    (case a28 => k_is)
    (case l28 => k_is)
    (case c28 => k_is)
    (case k28 => k_is)
    (case a29 => k_is)
    (case l29 => k_is)
    (case c29 => k_is)
    (case k29 => k_is)
    (case a30 => k_is)
    (case l30 => k_is)
    (case c30 => k_is)
    (case k30 => k_is)
    (case a31 => k_is)
    (case l31 => k_is)
    (case c31 => k_is)
    (case k31 => k_is)
    (case a32 => k_is)
    (case l32 => k_is)
    (case c32 => k_is)
    (case k32 => k_is)
    (case a33 => k_is)
    (case l33 => k_is)
    (case c33 => k_is)
    (case k33 => k_is)
    (case a34 => k_is)
    (case l34 => k_is)
    (case c34 => k_is)
    (case k34 => k_is)
    (case a35 => k_is)
    (case l35 => k_is)
    (case c35 => k_is)
    (case k35 => k_is)
    (case a36 => k_is)
    (case l36 => k_is)
    (case c36 => k_is)
    (case k36 => k_is)
    (case a37 => k_is)
    (case l37 => k_is)
    (case c37 => k_is)
    (case k37 => k_is)
    (case a38 => k_is)
    (case l38 => k_is)
    (case c38 => k_is)
    (case k38 => k_is)
    (case a39 => k_is)
    (case l39 => k_is)
    (case c39 => k_is)
    (case k39 => k_is)
    (case a40 => k_is)
    (case l40 => k_is)
    (case c40 => k_is)
    (case k40 => k_is)
    (case a41 => k_is)
    (case l41 => k_is)
    (case c41 => k_is)
    (case k41 => k_is)
    (case a42 => k_is)
    (case l42 => k_is)
    (case c42 => k_is)
    (case k42 => k_is)
    (case a43 => k_is)
    (case l43 => k_is)
    (case c43 => k_is)
    (case k43 => k_is)
    (case a44 => k_is)
    (case l44 => k_is)
    (case c44 => k_is)
    (case k44 => k_is)
    (case a45 => k_is)
    (case l45 => k_is)
    (case c45 => k_is)
    (case k45 => k_is)
    (case a46 => k_is)
    (case l46 => k_is)
    (case c46 => k_is)
    (case k46 => k_is)
    (case a47 => k_is)
    (case l47 => k_is)
    (case c47 => k_is)
    (case k47 => k_is)
    (case a48 => k_is)
    (case l48 => k_is)
    (case c48 => k_is)
    (case k48 => k_is)
    (case a49 => k_is)
    (case l49 => k_is)
    (case c49 => k_is)
    (case k49 => k_is)
    (case a50 => k_is)
    (case l50 => k_is)
    (case c50 => k_is)
    (case k50 => k_is)
    (case a51 => k_is)
    (case l51 => k_is)
    (case c51 => k_is)
    (case k51 => k_is)
    (case a52 => k_is)
    (case l52 => k_is)
    (case c52 => k_is)
    (case k52 => k_is)
    (case a53 => k_is)
    (case l53 => k_is)
    (case c53 => k_is)
    (case k53 => k_is)
    (case a54 => k_is)
    (case l54 => k_is)
    (case c54 => k_is)
    (case k54 => k_is)
    (case a55 => k_is)
    (case l55 => k_is)
    (case c55 => k_is)
    (case k55 => k_is)
    (case b0 => k_is)
    (case b1 => k_is)
    (case b2 => k_is)
    (case b3 => k_is)
    (case b4 => k_is)
    (case b5 => k_is)
    (case b6 => k_is)
    (case b7 => k_is)
    (case b8 => k_is)
    (case b9 => k_is)
    (case b10 => k_is)
    (case b11 => k_is)
    (case b12 => k_is)
    (case b13 => k_is)
    (case b14 => k_is)
    (case n0 => k_is)
    (case n1 => k_is)
    (case n2 => k_is)
    (case n3 => k_is)
    (case n4 => k_is)
    (case n5 => k_is)
    (case o5 => k_is)
    (case e5 => rfl)
    (case z5 => decide)
    (case n6 => k_is)
    (case n7 => k_is)
    (case n8 => k_is)
    (case n9 => k_is)
    (case o9 => k_is)
    (case e9 => rfl)
    (case z9 => decide)
    (case n10 => k_is)
    (case n11 => k_is)
    (case o11 => k_is)
    (case e11 => rfl)
    (case z11 => decide)
    (case n12 => k_is)
    (case n13 => k_is)
    (case n14 => k_is)
    (case n15 => k_is)
    (case n16 => k_is)
    (case o16 => k_is)
    (case e16 => rfl)
    (case z16 => decide)
    (case n17 => k_is)
    (case o17 => k_is)
    (case e17 => rfl)
    (case z17 => decide)
    (case n18 => k_is)
    (case o18 => k_is)
    (case e18 => rfl)
    (case z18 => decide)
