import PyProof.Rows.All
import Wide.All
import OpenK.AllK
import Wide.FinOn
import HandS.ForMost
import HandS.FStr
import HandS.Wide
import HandS.Flow
import HandS.Style
import HandS.StrMore
import HandS.Conv
import HandS.IsInst
import HandS.TupAny
import HandS.Replace
import HandS.RaiseMore
import HandS.Deep
import PyProof.AutoSeq1
import PyProof.Rows.StrIntSpec
import PyProof.Draws
import PyProof.EnumMake
import HandS.ReplaceLit
import HandS.ReplaceList
import HandS.WideBits
import HandS.Codes
import HandS.Strs
import PySem.Challenge.RW_ownanswer_k66_directives
set_option Elab.async false
set_option linter.all false
set_option maxRecDepth 100000
set_option maxHeartbeats 4000000
namespace Fw
open PySem PySem.Spec L2
open PyProof.Rows hiding St

mutual
inductive Dq (K : PySem.W.Frag) (H : Hp) : V → PyData → Prop
  | non : Dq K H .non .none
  | bl (b : Bool) : Dq K H (.bl b) (.bool b)
  | int (i : Int) : Dq K H (.int i) (.int i)
  | str (x : Str) : Dq K H (.str x) (.str x)
  | lst {a : Addr} {xs : List V} {ds : List PyData} : H a = some (.lst xs) → DqAll K H xs ds → Dq K H (.ref a) (.list ds)
  | tup {a : Addr} {xs : List V} {ds : List PyData} : SqT K H a xs → DqAll K H xs ds → Dq K H (.ref a) (.tuple ds)
inductive DqAll (K : PySem.W.Frag) (H : Hp) : List V → List PyData → Prop
  | nil : DqAll K H [] []
  | cons {v : V} {vs : List V} {d : PyData} {ds : List PyData} : Dq K H v d → DqAll K H vs ds → DqAll K H (v :: vs) (d :: ds)
end
theorem seqT {K : PySem.W.Frag} {H H' : Hp} {a : Addr} {xs : List V} (e : Same H H') (h : SqT K H a xs) : SqT K H' a xs := by
  rcases h with (h | ⟨o, h⟩) | h
  · exact .inl (.inl (e _ _ h))
  · exact .inl (.inr ⟨o, e _ _ h⟩)
  · exact .inr h
mutual
theorem Dq.mono {K : PySem.W.Frag} {H H' : Hp} (e : Same H H') : ∀ {v : V} {d : PyData}, Dq K H v d → Dq K H' v d
  | _, _, .non => .non
  | _, _, .bl b => .bl b
  | _, _, .int i => .int i
  | _, _, .str x => .str x
  | _, _, .lst h r => .lst (e _ _ h) (DqAll.mono e r)
  | _, _, .tup h r => .tup (seqT e h) (DqAll.mono e r)
theorem DqAll.mono {K : PySem.W.Frag} {H H' : Hp} (e : Same H H') : ∀ {vs : List V} {ds : List PyData}, DqAll K H vs ds → DqAll K H' vs ds
  | _, _, .nil => .nil
  | _, _, .cons h r => .cons (Dq.mono e h) (DqAll.mono e r)
end
mutual
theorem Dq.dp {K : PySem.W.Frag} {H : Hp} : ∀ {v : V} {d : PyData}, Dq K H v d → Dp K H v d
  | _, _, .non => .non
  | _, _, .bl b => .bl b
  | _, _, .int i => .int i
  | _, _, .str x => .str x
  | _, _, .lst h r => .lst (SqL.of h) (DqAll.dp r)
  | _, _, .tup h r => .tup h (DqAll.dp r)
theorem DqAll.dp {K : PySem.W.Frag} {H : Hp} : ∀ {vs : List V} {ds : List PyData}, DqAll K H vs ds → DpAll K H vs ds
  | _, _, .nil => .nil
  | _, _, .cons h r => .cons (Dq.dp h) (DqAll.dp r)
end
theorem DqAll.length {K : PySem.W.Frag} {H : Hp} : ∀ {vs : List V} {ds : List PyData}, DqAll K H vs ds → vs.length = ds.length
  | _, _, .nil => rfl
  | _, _, .cons _ r => congrArg (· + 1) (DqAll.length r)
theorem DqAll.get {K : PySem.W.Frag} {H : Hp} : ∀ {vs : List V} {ds : List PyData} {i : Nat} {d : PyData}, DqAll K H vs ds → ds[i]? = some d → ∃ v, vs[i]? = some v ∧ Dq K H v d
  | _, _, _, _, .nil, e => by simp at e
  | _, _, 0, _, .cons h _, e => by simp at e; subst e; exact ⟨_, rfl, h⟩
  | _, _, i + 1, _, .cons _ r, e => by
    obtain ⟨v, a, b⟩ := DqAll.get (i := i) r (by simpa using e)
    exact ⟨v, by simpa using a, b⟩
theorem DqAll.getV {K : PySem.W.Frag} {H : Hp} : ∀ {vs : List V} {ds : List PyData} {i : Nat} {v : V}, DqAll K H vs ds → vs[i]? = some v → ∃ d, ds[i]? = some d ∧ Dq K H v d
  | _, _, _, _, .nil, e => by simp at e
  | _, _, 0, _, .cons h _, e => by simp at e; subst e; exact ⟨_, rfl, h⟩
  | _, _, i + 1, _, .cons _ r, e => by
    obtain ⟨v, a, b⟩ := DqAll.getV (i := i) r (by simpa using e)
    exact ⟨v, by simpa using a, b⟩
theorem DqAll.append {K : PySem.W.Frag} {H : Hp} : ∀ {vs ws : List V} {ds es : List PyData}, DqAll K H vs ds → DqAll K H ws es → DqAll K H (vs ++ ws) (ds ++ es)
  | _, _, _, _, .nil, s => s
  | _, _, _, _, .cons h r, s => .cons h (DqAll.append r s)
theorem DqAll.take {K : PySem.W.Frag} {H : Hp} : ∀ {vs : List V} {ds : List PyData} (n : Nat), DqAll K H vs ds → DqAll K H (vs.take n) (ds.take n)
  | _, _, 0, _ => .nil
  | _, _, _ + 1, .nil => .nil
  | _, _, n + 1, .cons h r => .cons h (DqAll.take n r)
theorem DqAll.drop {K : PySem.W.Frag} {H : Hp} : ∀ {vs : List V} {ds : List PyData} (n : Nat), DqAll K H vs ds → DqAll K H (vs.drop n) (ds.drop n)
  | _, _, 0, r => r
  | _, _, _ + 1, .nil => .nil
  | _, _, n + 1, .cons _ r => DqAll.drop n r
theorem DqAll.set {K : PySem.W.Frag} {H : Hp} {v : V} {d : PyData} (h : Dq K H v d) : ∀ {vs : List V} {ds : List PyData} (i : Nat), DqAll K H vs ds → DqAll K H (vs.set i v) (ds.set i d)
  | _, _, _, .nil => .nil
  | _, _, 0, .cons _ r => .cons h r
  | _, _, i + 1, .cons a r => .cons a (DqAll.set h i r)
theorem DqAll.one {K : PySem.W.Frag} {H : Hp} {v : V} {d : PyData} (h : Dq K H v d) : DqAll K H [v] [d] := .cons h .nil

inductive Sl where
  | un
  | dat (d : PyData)
  | own (xs : List PyData)
  | scr (ns : List Int)
abbrev En := List Sl

inductive SlR (K : PySem.W.Frag) (P H : Hp) : Sl → Option V → List Addr → Prop
  | un {ov : Option V} : SlR K P H .un ov []
  | dat {d : PyData} {v : V} : Dq K P v d → SlR K P H (.dat d) (some v) []
  | own {a : Addr} {vs : List V} {xs : List PyData} : P a = none → H a = some (.lst vs) → DqAll K P vs xs → SlR K P H (.own xs) (some (.ref a)) [a]
  | scr {a : Addr} {ns : List Int} : SqL K P a (ns.map V.int) → SlR K P H (.scr ns) (some (.ref a)) []

/-- no new thing in P' but what was free -/
def Fresh (F : Addr → Prop) (P H P' : Hp) : Prop := ∀ a o, P' a = some o → (∃ u, P a = some u) ∨ H a = none ∨ F a
def In (fps : Nat → List Addr) (a : Addr) : Prop := ∃ i, a ∈ fps i
abbrev NoF : Addr → Prop := fun _ => False

structure Rel (K : PySem.W.Frag) (vs0 : List V) (P : Hp) (E : En) (σ : St) (H : Hp) (fps : Nat → List Addr) : Prop where
  sub : Same P H
  len : E.length = σ.length
  sl : ∀ (i : Nat) (s : Sl), E[i]? = some s → ∃ ov, σ[i]? = some ov ∧ SlR K P H s ov (fps i)
  out : ∀ i : Nat, E.length ≤ i → fps i = []
  dj : ∀ (i j : Nat) (a : Addr), a ∈ fps i → a ∈ fps j → i = j
  par : ∀ (i : Nat) (xs : List PyData) (v : V), vs0[i]? = some v → E[i]? = some (Sl.own xs) → σ[i]? = some (some v)

structure Step (F : Addr → Prop) (P H : Hp) (F' : Addr → Prop) (P' H' : Hp) : Prop where
  pp : Same P P'
  keep : ∀ a o, H a = some o → ¬ F a → H' a = some o
  fresh : Fresh F P H P'
  foot : ∀ a, F' a → F a ∨ H a = none
  live : ∀ a o, H a = some o → ∃ u, H' a = some u

theorem Step.refl (F : Addr → Prop) (P H : Hp) : Step F P H F P H := ⟨Same.refl P, fun _ _ h _ => h, fun a o h => .inl ⟨o, h⟩, fun _ h => .inl h, fun _ o h => ⟨o, h⟩⟩
theorem Step.trans {F F1 F2 : Addr → Prop} {P H P1 H1 P2 H2 : Hp} (a : Step F P H F1 P1 H1) (b : Step F1 P1 H1 F2 P2 H2) : Step F P H F2 P2 H2 where
  pp := a.pp.trans b.pp
  keep := fun x o h n => b.keep x o (a.keep x o h n) fun h1 => by
    rcases a.foot x h1 with h2 | h2
    · exact n h2
    · rw [h] at h2; cases h2
  fresh := fun x o h => by
    rcases b.fresh x o h with ⟨u, h1⟩ | h1 | h1
    · exact a.fresh x u h1
    · by_cases hF : F x
      · exact .inr (.inr hF)
      · cases e : H x with
        | none => exact .inr (.inl rfl)
        | some u =>
          rw [a.keep x u e hF] at h1
          cases h1
    · rcases a.foot x h1 with h2 | h2
      · exact .inr (.inr h2)
      · exact .inr (.inl h2)
  foot := fun x h => by
    rcases b.foot x h with h1 | h1
    · exact a.foot x h1
    · by_cases hF : F x
      · exact .inl hF
      · cases e : H x with
        | none => exact .inr rfl
        | some u =>
          rw [a.keep x u e hF] at h1
          cases h1
  live := fun x o h => by
    obtain ⟨u, h1⟩ := a.live x o h
    exact b.live x u h1

theorem Step.free {F F' : Addr → Prop} {P H P' H' : Hp} (s : Step F P H F' P' H') {a : Addr} (h : H' a = none) : H a = none := by
  cases e : H a with
  | none => rfl
  | some o =>
    obtain ⟨u, h1⟩ := s.live a o e
    rw [h] at h1
    cases h1
section
variable {K : PySem.W.Frag} {vs0 : List V} {P P' : Hp} {E E' : En} {σ σ' : St} {H H' : Hp} {fps fps' : Nat → List Addr}
theorem SlR.foot {s : Sl} {ov : Option V} {fp : List Addr} (h : SlR K P H s ov fp) {a : Addr} (ha : a ∈ fp) : P a = none ∧ ∃ o, H a = some o := by
  cases h with
  | un => cases ha
  | dat _ => cases ha
  | own p q _ =>
    cases List.mem_singleton.mp ha
    exact ⟨p, _, q⟩
  | scr _ => cases ha
theorem Rel.foot (r : Rel K vs0 P E σ H fps) {a : Addr} (h : In fps a) : P a = none ∧ ∃ o, H a = some o := by
  obtain ⟨i, hi⟩ := h
  by_cases hl : i < E.length
  · obtain ⟨ov, _, q⟩ := r.sl i E[i] (List.getElem?_eq_getElem hl)
    exact q.foot hi
  · rw [r.out i (by omega)] at hi
    cases hi
theorem SlR.mono {s : Sl} {ov : Option V} {fp : List Addr} (h : SlR K P H s ov fp) (pp : Same P P') (k : ∀ a, a ∈ fp → H' a = H a ∧ P' a = none) : SlR K P' H' s ov fp := by
  cases h with
  | un => exact .un
  | dat d => exact .dat (d.mono pp)
  | own p q r =>
    obtain ⟨h1, h2⟩ := k _ (List.mem_singleton.mpr rfl)
    exact .own h2 (h1.trans q) (r.mono pp)
  | scr q => exact .scr (pp.seq q)
/-- the persistent part grows by what was free; all that was tracked stays -/
theorem Rel.alloc (r : Rel K vs0 P E σ H fps) (pp : Same P P') (sub : Same P' H') (hh : Same H H') (fr : Fresh NoF P H P') : Rel K vs0 P' E σ H' fps := by
  refine ⟨sub, r.len, fun i s hs => ?_, r.out, r.dj, r.par⟩
  obtain ⟨ov, e, q⟩ := r.sl i s hs
  refine ⟨ov, e, q.mono pp fun a ha => ?_⟩
  obtain ⟨h1, o, h2⟩ := q.foot ha
  refine ⟨(hh _ _ h2).trans h2.symm, ?_⟩
  cases e2 : P' a with
  | none => rfl
  | some u =>
    rcases fr a u e2 with ⟨w, h3⟩ | h3 | h3
    · rw [h1] at h3; cases h3
    · rw [h2] at h3; cases h3
    · exact h3.elim
theorem Step.alloc {F : Addr → Prop} (pp : Same P P') (hh : Same H H') (fr : Fresh NoF P H P') : Step F P H F P' H' :=
  ⟨pp, fun a o h _ => hh a o h, fun a o h => by
    rcases fr a o h with h | h | h
    · exact .inl h
    · exact .inr (.inl h)
    · exact h.elim, fun a h => .inl h, fun a o h => ⟨o, hh a o h⟩⟩
end

abbrev SE (α : Type) := En → Option (α × En)
def ret {α : Type} (a : α) : SE α := fun E => some (a, E)
def bnd {α β : Type} (f : SE α) (k : α → SE β) : SE β := fun E => match f E with
  | some (a, E') => k a E'
  | none => none
def lft {α : Type} (o : Option α) : SE α := fun E => match o with
  | some a => some (a, E)
  | none => none
theorem bnd_some {α β : Type} {f : SE α} {k : α → SE β} {E E2 : En} {b : β} (h : bnd f k E = some (b, E2)) : ∃ a E1, f E = some (a, E1) ∧ k a E1 = some (b, E2) := by
  unfold bnd at h
  split at h
  · rename_i a E1 e
    exact ⟨a, E1, e, h⟩
  · cases h
theorem lft_some {α : Type} {o : Option α} {E E2 : En} {a : α} (h : lft o E = some (a, E2)) : o = some a ∧ E2 = E := by
  unfold lft at h
  split at h
  · injection h with h
    injection h with h1 h2
    subst h1 h2
    exact ⟨rfl, rfl⟩
  · cases h
theorem ret_some {α : Type} {a b : α} {E E2 : En} (h : ret a E = some (b, E2)) : b = a ∧ E2 = E := by
  unfold ret at h
  injection h with h
  injection h with h1 h2
  exact ⟨h1.symm, h2.symm⟩

/-- which heap a value's data is read in -/
abbrev pick (p : Bool) (P H : Hp) : Hp := bif p then P else H
/-- m: the expression may change owned lists; p: its value stands in the persistent part -/
def tX (K : PySem.W.Frag) (m p : Bool) (f : SE PyData) : TE := fun σ H Q => ∃ (vs0 : List V) (P : Hp) (E : En) (fps : Nat → List Addr) (d : PyData) (E' : En), Rel K vs0 P E σ H fps ∧ f E = some (d, E') ∧
  ∀ (P' H' : Hp) (fps' : Nat → List Addr) (v : V), Rel K vs0 P' E' σ H' fps' → Step (In fps) P H (In fps') P' H' → (m = false → Same H H') → Dq K (pick p P' H') v d → Q v H'
def tXL (K : PySem.W.Frag) (m : Bool) (f : SE (List PyData)) : TE := fun σ H Q => ∃ (vs0 : List V) (P : Hp) (E : En) (fps : Nat → List Addr) (ds : List PyData) (E' : En), Rel K vs0 P E σ H fps ∧ f E = some (ds, E') ∧
  ∀ (P' H' : Hp) (fps' : Nat → List Addr) (a : Addr) (vs : List V), Rel K vs0 P' E' σ H' fps' → Step (In fps) P H (In fps') P' H' → (m = false → Same H H') → H a = none → P' a = none → ¬ In fps' a → H' a = some (.lst vs) → DqAll K P' vs ds → Q (.ref a) H'
def tXT (K : PySem.W.Frag) (m : Bool) (f : SE Bool) : TT := fun σ H Q => ∃ (vs0 : List V) (P : Hp) (E : En) (fps : Nat → List Addr) (b : Bool) (E' : En), Rel K vs0 P E σ H fps ∧ f E = some (b, E') ∧
  ∀ (P' H' : Hp) (fps' : Nat → List Addr), Rel K vs0 P' E' σ H' fps' → Step (In fps) P H (In fps') P' H' → (m = false → Same H H') → Q b H'
def tXA (K : PySem.W.Frag) (m : Bool) (f : SE (List PyData)) : TA := fun σ H Q => ∃ (vs0 : List V) (P : Hp) (E : En) (fps : Nat → List Addr) (ds : List PyData) (E' : En), Rel K vs0 P E σ H fps ∧ f E = some (ds, E') ∧
  ∀ (P' H' : Hp) (fps' : Nat → List Addr) (vs : List V), Rel K vs0 P' E' σ H' fps' → Step (In fps) P H (In fps') P' H' → (m = false → Same H H') → DqAll K P' vs ds → Q vs H'

/-- an expression | a new list | a test | arguments -/
def PX (X : Cx) (m p : Bool) (e : Expr) (f : SE PyData) : Prop := PE X e (tX X.K m p f)
def PL (X : Cx) (m : Bool) (e : Expr) (f : SE (List PyData)) : Prop := PE X e (tXL X.K m f)
def PXT (X : Cx) (m : Bool) (e : Expr) (f : SE Bool) : Prop := PT X e (tXT X.K m f)
def PXA (X : Cx) (m : Bool) (es : List Expr) (f : SE (List PyData)) : Prop := PA X es (tXA X.K m f)

theorem pe_imp {X : Cx} {e : Expr} {t u : TE} (h : PE X e t) (i : ∀ σ H Q, u σ H Q → t σ H Q) : PE X e u := ⟨fun pins s σ H Q I q => h.run pins s σ H Q I (i σ H Q q)⟩
theorem pt_imp {X : Cx} {e : Expr} {t u : TT} (h : PT X e t) (i : ∀ σ H Q, u σ H Q → t σ H Q) : PT X e u := ⟨fun pins s σ H Q I q => h.run pins s σ H Q I (i σ H Q q)⟩
theorem pw_imp {X : Cx} {e : Expr} {t u : TT} (h : PW X e t) (i : ∀ σ H Q, u σ H Q → t σ H Q) : PW X e u := ⟨fun wh pins s σ H Q I q => h.run wh pins s σ H Q I (i σ H Q q)⟩
theorem pa_imp {X : Cx} {es : List Expr} {t u : TA} (h : PA X es t) (i : ∀ σ H Q, u σ H Q → t σ H Q) : PA X es u := ⟨fun pos pins s σ H Q I q => h.run pos pins s σ H Q I (i σ H Q q)⟩
theorem ps_imp {X : Cx} {st : Stmt} {t u : TS} (h : PS X st t) (i : ∀ D σ H, u D σ H → t D σ H) : PS X st u := ⟨fun pins s σ H D I q => h.run pins s σ H D I (i D σ H q)⟩
theorem pss_imp {X : Cx} {st : List Stmt} {t u : TS} (h : PSs X st t) (i : ∀ D σ H, u D σ H → t D σ H) : PSs X st u := ⟨fun pins s σ H D I q => h.run pins s σ H D I (i D σ H q)⟩

theorem Dq.pick {K : PySem.W.Frag} {P H : Hp} {v : V} {d : PyData} {p : Bool} (s : Same P H) (h : Dq K (pick p P H) v d) : Dq K H v d := by
  cases p with
  | true => exact h.mono s
  | false => exact h

section
variable {X : Cx} {m m1 m2 p p1 p2 : Bool} {e a b : Expr} {pos : Pos} {f fa fb : SE PyData}
theorem PX.eff (h : PX X m p e f) : PX X true p e f := pe_imp h fun σ H Q => by
  rintro ⟨vs0, P, E, fps, d, E', r, hf, q⟩
  exact ⟨vs0, P, E, fps, d, E', r, hf, fun P' H' fps' v r' st _ dv => q P' H' fps' v r' st (fun z => nomatch z) dv⟩
theorem PX.brw (h : PX X m true e f) : PX X m false e f := pe_imp h fun σ H Q => by
  rintro ⟨vs0, P, E, fps, d, E', r, hf, q⟩
  exact ⟨vs0, P, E, fps, d, E', r, hf, fun P' H' fps' v r' st sm dv => q P' H' fps' v r' st sm (Dq.mono r'.sub dv)⟩
/-- a new list handed on is never changed again -/
theorem PL.px {g : SE (List PyData)} (h : PL X m e g) : PX X m true e (bnd g fun ds => ret (.list ds)) := pe_imp h fun σ H Q => by
  rintro ⟨vs0, P, E, fps, d, E', r, hf, q⟩
  obtain ⟨ds, E1, h1, h2⟩ := bnd_some hf
  obtain ⟨rfl, rfl⟩ := ret_some h2
  refine ⟨vs0, P, E, fps, ds, _, r, h1, fun P' H' fps' ad vs r' st sm ha pa nf hv dv => ?_⟩
  have s1 : Same P' (upd P' ad (.lst vs)) := fun x o hx => by rw [upd_ne (ne_of_none hx pa)]; exact hx
  have fr : ∀ x o, upd P' ad (.lst vs) x = some o → x = ad ∨ P' x = some o := fun x o hx => by
    by_cases e1 : x = ad
    · exact .inl e1
    · rw [upd_ne e1] at hx; exact .inr hx
  refine q (upd P' ad (.lst vs)) H' fps' (.ref ad) ⟨fun x o hx => ?_, r'.len, fun i s hs => ?_, r'.out, r'.dj, r'.par⟩ ⟨st.pp.trans s1, st.keep, fun x o hx => ?_, st.foot, st.live⟩ sm (.lst upd_same (dv.mono s1))
  · rcases fr x o hx with rfl | h3
    · rw [upd_same] at hx; cases hx; exact hv
    · exact r'.sub x o h3
  · obtain ⟨ov, e1, q1⟩ := r'.sl i s hs
    refine ⟨ov, e1, q1.mono s1 fun x hx => ⟨rfl, ?_⟩⟩
    have hne : x ≠ ad := fun z => nf (z ▸ ⟨i, hx⟩)
    rw [upd_ne hne]
    exact (q1.foot hx).1
  · rcases fr x o hx with rfl | h3
    · exact .inr (.inl ha)
    · exact st.fresh x o h3
end
end Fw
namespace Fw
open PySem PySem.Spec L2
open PyProof.Rows hiding St

def rdD (i : Nat) : SE PyData := fun E => match E[i]? with
  | some (.dat d) => some (d, E)
  | _ => none
def rdO (i : Nat) : SE PyData := fun E => match E[i]? with
  | some (.own xs) => some (.list xs, E)
  | _ => none
theorem rdD_some {i : Nat} {E E2 : En} {d : PyData} (h : rdD i E = some (d, E2)) : E[i]? = some (.dat d) ∧ E2 = E := by
  unfold rdD at h
  split at h
  · rename_i d' e
    injection h with h
    injection h with h1 h2
    subst h1 h2
    exact ⟨e, rfl⟩
  · cases h
theorem rdO_some {i : Nat} {E E2 : En} {d : PyData} (h : rdO i E = some (d, E2)) : ∃ xs, E[i]? = some (.own xs) ∧ d = .list xs ∧ E2 = E := by
  unfold rdO at h
  split at h
  · rename_i xs e
    injection h with h
    injection h with h1 h2
    subst h1 h2
    exact ⟨xs, e, rfl, rfl⟩
  · cases h
section
variable {X : Cx} {m m1 m2 p p1 p2 : Bool} {e a b : Expr} {pos : Pos} {f fa fb : SE PyData}
theorem px_var {i : Nat} (h : PE X e (tVar i)) : PX X false true e (rdD i) := pe_imp h fun σ H Q => by
  rintro ⟨vs0, P, E, fps, d, E', r, hf, q⟩
  obtain ⟨h1, rfl⟩ := rdD_some hf
  obtain ⟨ov, e1, s⟩ := r.sl i _ h1
  generalize hfp : fps i = fp at s
  cases s with
  | dat dv => exact ⟨_, e1, q P H fps _ r (.refl _ _ _) (fun _ => Same.refl H) dv⟩
theorem px_own {i : Nat} (h : PE X e (tVar i)) : PX X false false e (rdO i) := pe_imp h fun σ H Q => by
  rintro ⟨vs0, P, E, fps, d, E', r, hf, q⟩
  obtain ⟨xs, h1, rfl, rfl⟩ := rdO_some hf
  obtain ⟨ov, e1, s⟩ := r.sl i _ h1
  generalize hfp : fps i = fp at s
  cases s with
  | own pa ha dv => exact ⟨_, e1, q P H fps _ r (.refl _ _ _) (fun _ => Same.refl H) (.lst ha (dv.mono r.sub))⟩
/-- a value that is known everywhere -/
def Kn (K : PySem.W.Frag) (v : V) (d : PyData) : Prop := ∀ P : Hp, Dq K P v d
theorem px_kn {v : V} {d : PyData} (h : PE X e (tC v)) (k : Kn X.K v d) : PX X false true e (ret d) := pe_imp h fun σ H Q => by
  rintro ⟨vs0, P, E, fps, d', E', r, hf, q⟩
  obtain ⟨rfl, rfl⟩ := ret_some hf
  exact q P H fps v r (.refl _ _ _) (fun _ => Same.refl H) (k P)
theorem px_int {i : Int} {j : Nat} : PX X false true (.Constant (.int i) j pos) (ret (.int i)) := px_kn pe_int fun _ => .int i
theorem px_bl {b : Bool} {j : Nat} : PX X false true (.Constant (.bool b) j pos) (ret (.bool b)) := px_kn pe_bl fun _ => .bl b
theorem px_non {j : Nat} : PX X false true (.Constant .none j pos) (ret .none) := px_kn pe_non fun _ => .non
theorem px_str {x : Str} {j : Nat} : PX X false true (.Constant (.str x) j pos) (ret (.str x)) := px_kn pe_str fun _ => .str x

/-- what is shown behind an operation that lays new things at most -/
abbrev After (K : PySem.W.Frag) (P H : Hp) (z : PyData) (Q : VK) : Prop := ∀ (P' H' : Hp) (v : V), Same P P' → Same P' H' → Same H H' → Fresh NoF P H P' → Dq K P' v z → Q v H'
theorem Fresh.same {F : Addr → Prop} {P H : Hp} : Fresh F P H P := fun a o h => .inl ⟨o, h⟩
theorem After.at {K : PySem.W.Frag} {P H : Hp} {z : PyData} {Q : VK} (q : After K P H z Q) {v : V} (s : Same P H) (h : Dq K P v z) : Q v H := q P H v (Same.refl P) s (Same.refl H) .same h
theorem same_upd {H : Hp} {p : Addr} {o : HO} (h : H p = none) : Same H (upd H p o) := fun b x e => by
  rw [upd_ne (ne_of_none e h)]
  exact e
theorem same_upd2 {P H : Hp} {p : Addr} {o : HO} (s : Same P H) (h : H p = none) : Same (upd P p o) (upd H p o) := fun b x e => by
  by_cases e1 : b = p
  · subst e1
    rw [upd_same] at e ⊢
    exact e
  · rw [upd_ne e1] at e ⊢
    exact s b x e
theorem sub_none {P H : Hp} {p : Addr} (s : Same P H) (h : H p = none) : P p = none := by
  cases e : P p with
  | none => rfl
  | some o =>
    rw [s p o e] at h
    cases h
theorem fresh_upd {F : Addr → Prop} {P H : Hp} {p : Addr} {o : HO} (h : H p = none) : Fresh F P H (upd P p o) := fun a u e => by
  by_cases e1 : a = p
  · subst e1
    exact .inr (.inl h)
  · rw [upd_ne e1] at e
    exact .inl ⟨u, e⟩
theorem After.new {K : PySem.W.Frag} {P H : Hp} {z : PyData} {Q : VK} (q : After K P H z Q) {p : Addr} {o : HO} (s : Same P H) (h : H p = none) (d : Dq K (upd P p o) (.ref p) z) : Q (.ref p) (upd H p o) :=
  q (upd P p o) (upd H p o) (.ref p) (same_upd (sub_none s h)) (same_upd2 s h) (same_upd h) (fresh_upd h) d
def VO (K : PySem.W.Frag) (p1 p2 : Bool) (r : R2) (g : PyData → PyData → Option PyData) : Prop := ∀ (P H : Hp) (x y : V) (d e z : PyData) (Q : VK), Same P H → Dq K (pick p1 P H) x d → Dq K (pick p2 P H) y e → g d e = some z → After K P H z Q → r x y H Q
def VU (K : PySem.W.Frag) (p : Bool) (r : V → Hp → VK → Prop) (g : PyData → Option PyData) : Prop := ∀ (P H : Hp) (x : V) (d z : PyData) (Q : VK), Same P H → Dq K (pick p P H) x d → g d = some z → After K P H z Q → r x H Q
def bin (fa fb : SE PyData) (g : PyData → PyData → Option PyData) : SE PyData := bnd fa fun d => bnd fb fun e => lft (g d e)
def una (fa : SE PyData) (g : PyData → Option PyData) : SE PyData := bnd fa fun d => lft (g d)

theorem px_op2 {r : R2} {g : PyData → PyData → Option PyData} (h : PE X e (tOp r (tX X.K m1 p1 fa) (tX X.K m2 p2 fb))) (v : VO X.K p1 p2 r g) (hf : p1 = true ∨ m2 = false) : PX X (m1 || m2) true e (bin fa fb g) := pe_imp h fun σ H Q => by
  rintro ⟨vs0, P, E, fps, d, E', rel, hh, q⟩
  obtain ⟨d1, E1, h1, hh⟩ := bnd_some hh
  obtain ⟨d2, E2, h2, hh⟩ := bnd_some hh
  obtain ⟨h3, rfl⟩ := lft_some hh
  refine ⟨vs0, P, E, fps, d1, E1, rel, h1, fun P1 H1 fps1 x r1 s1 m1' dx => ⟨vs0, P1, E1, fps1, d2, E', r1, h2, fun P2 H2 fps2 y r2 s2 m2' dy => ?_⟩⟩
  have dx2 : Dq X.K (pick p1 P2 H2) x d1 := by
    cases p1 with
    | true => exact Dq.mono s2.pp dx
    | false =>
      rcases hf with hf | hf
      · cases hf
      · exact Dq.mono (m2' hf) dx
  refine v P2 H2 x y d1 d2 d Q r2.sub dx2 dy h3 fun P3 H3 w pp su hh fr dw => ?_
  refine q P3 H3 fps2 w (r2.alloc pp su hh fr) ((s1.trans s2).trans (.alloc pp hh fr)) (fun hm => ?_) dw
  rw [Bool.or_eq_false_iff] at hm
  exact ((m1' hm.1).trans (m2' hm.2)).trans hh
theorem px_op1 {r : V → Hp → VK → Prop} {g : PyData → Option PyData} (h : PE X e (fun σ H Q => tX X.K m p fa σ H fun x H1 => r x H1 Q)) (v : VU X.K p r g) : PX X m true e (una fa g) := pe_imp h fun σ H Q => by
  rintro ⟨vs0, P, E, fps, d, E', rel, hh, q⟩
  obtain ⟨d1, E1, h1, hh⟩ := bnd_some hh
  obtain ⟨h3, rfl⟩ := lft_some hh
  refine ⟨vs0, P, E, fps, d1, _, rel, h1, fun P1 H1 fps1 x r1 s1 m1' dx => ?_⟩
  refine v P1 H1 x d1 d Q r1.sub dx h3 fun P3 H3 w pp su hh fr dw => ?_
  exact q P3 H3 fps1 w (r1.alloc pp su hh fr) (s1.trans (.alloc pp hh fr)) (fun hm => (m1' hm).trans hh) dw

def gAdd : PyData → PyData → Option PyData
  | .int i, .int j => some (.int (i + j))
  | .str x, .str y => if x.length + y.length ≤ sizeLine then some (.str (x ++ y)) else none
  | .tuple xs, .tuple ys => if xs.length + ys.length ≤ sizeLine then some (.tuple (xs ++ ys)) else none
  | _, _ => none
abbrev rAddA (K : PySem.W.Frag) : R2 := fun x y H Q => (rI0 fun i j => .int (i + j)) x y H Q ∨ ((fun x y H Q => ∃ i j, x = V.str i ∧ y = V.str j ∧ i.length + j.length ≤ sizeLine ∧ Q (.str (i ++ j)) H) x y H Q ∨ rCatA K x y H Q)
theorem op_addA : OpR X (binaryOp .Add) (rAddA X.K) := op_add.or (op_add_str.or op_catA)
theorem vo_add {K : PySem.W.Frag} : VO K true true (rAddA K) gAdd := by
  intro P H x y d e z Q su dx dy hg q
  unfold gAdd at hg
  split at hg
  · cases dx; cases dy; cases hg
    exact .inl ⟨_, _, rfl, rfl, q.at su (.int _)⟩
  · split at hg
    · rename_i hl
      cases dx; cases dy; cases hg
      exact .inr (.inl ⟨_, _, rfl, rfl, hl, q.at su (.str _)⟩)
    · cases hg
  · split at hg
    · rename_i xs ys hl
      cases dx with
      | @tup a vs _ ha hv =>
        cases dy with
        | @tup b ws _ hb hw =>
          cases hg
          have l1 := hv.length
          have l2 := hw.length
          refine .inr (.inr ⟨a, b, vs, ws, rfl, rfl, seqT su ha, seqT su hb, by omega, fun e1 => ?_, fun e1 e2 => ?_, fun e1 e2 p hp => ?_⟩)
          · subst e1
            have : xs = [] := by cases xs with | nil => rfl | cons => simp at l1
            subst this
            exact q.at su (.tup hb hw)
          · subst e2
            have : ys = [] := by cases ys with | nil => rfl | cons => simp at l2
            subst this
            rw [List.append_nil] at q
            exact q.at su (.tup ha hv)
          · have s1 : Same P (upd P p (.tup (vs ++ ws))) := Fw.same_upd (sub_none su hp)
            exact q.new su hp (.tup (SqT.of upd_same) ((hv.mono s1).append (hw.mono s1)))
    · cases hg
  · cases hg
theorem px_add (ha : PX X m1 true a fa) (hb : PX X m2 true b fb) : PX X (m1 || m2) true (.BinOp a .Add b pos) (bin fa fb gAdd) := px_op2 (pe_op op_addA ha hb) vo_add (.inl rfl)
theorem dq_int {K : PySem.W.Frag} {H : Hp} {x : V} {i : Int} (h : Dq K H x (.int i)) : x = .int i := by cases h; rfl
theorem dq_bl {K : PySem.W.Frag} {H : Hp} {x : V} {i : Bool} (h : Dq K H x (.bool i)) : x = .bl i := by cases h; rfl
theorem dq_str {K : PySem.W.Frag} {H : Hp} {x : V} {i : Str} (h : Dq K H x (.str i)) : x = .str i := by cases h; rfl
/-- ints alone, under a condition -/
def gI (c : Int → Int → Bool) (g : Int → Int → PyData) : PyData → PyData → Option PyData
  | .int i, .int j => if c i j then some (g i j) else none
  | _, _ => none
theorem vo_I {K : PySem.W.Frag} {C : Int → Int → Prop} {c : Int → Int → Bool} {gv : Int → Int → V} {g : Int → Int → PyData} (hc : ∀ i j, c i j = true → C i j) (hd : ∀ i j P, Dq K P (gv i j) (g i j)) : VO K p1 p2 (rI C gv) (gI c g) := by
  intro P H x y d e z Q su dx dy hg q
  unfold gI at hg
  split at hg
  · split at hg
    · rename_i hl
      cases hg
      rw [dq_int dx, dq_int dy]
      exact ⟨_, _, rfl, rfl, hc _ _ hl, q.at su (hd _ _ _)⟩
    · cases hg
  · cases hg
theorem vo_I0 {K : PySem.W.Frag} {gv : Int → Int → V} {g : Int → Int → PyData} (hd : ∀ i j P, Dq K P (gv i j) (g i j)) : VO K p1 p2 (rI0 gv) (gI (fun _ _ => true) g) := by
  intro P H x y d e z Q su dx dy hg q
  unfold gI at hg
  split at hg
  · cases hg
    rw [dq_int dx, dq_int dy]
    exact ⟨_, _, rfl, rfl, q.at su (hd _ _ _)⟩
  · cases hg
def gSub := gI (fun _ _ => true) fun i j => .int (i - j)
def cMul (i j : Int) : Bool := decide (-(2 ^ 64) < i ∧ i < 2 ^ 64) || decide (-(2 ^ 64) < j ∧ j < 2 ^ 64)
def gMul := gI cMul fun i j => .int (i * j)
def gDiv := gI (fun _ j => decide (0 < j ∧ j < 18446744073709551616)) fun i j => .int (i / j)
def gMod := gI (fun _ j => decide (0 < j)) fun i j => .int (i % j)
theorem px_sub (ha : PX X m1 true a fa) (hb : PX X m2 true b fb) : PX X (m1 || m2) true (.BinOp a .Sub b pos) (bin fa fb gSub) := px_op2 (pe_op op_sub ha hb) (vo_I0 fun _ _ _ => .int _) (.inl rfl)
theorem px_mul (ha : PX X m1 true a fa) (hb : PX X m2 true b fb) : PX X (m1 || m2) true (.BinOp a .Mult b pos) (bin fa fb gMul) := px_op2 (pe_op op_mul ha hb) (vo_I (fun i j h => by
  unfold cMul at h
  rw [Bool.or_eq_true, decide_eq_true_iff, decide_eq_true_iff] at h
  exact h) fun _ _ _ => .int _) (.inl rfl)
theorem px_div (ha : PX X m1 true a fa) (hb : PX X m2 true b fb) : PX X (m1 || m2) true (.BinOp a .FloorDiv b pos) (bin fa fb gDiv) := px_op2 (pe_op op_fdivW ha hb) (vo_I (C := CDivW) (fun i j h => by
  have h : 0 < j ∧ j < 18446744073709551616 := of_decide_eq_true h
  exact wide_div (b := 64) h.1 (by have := h.2; omega) (by decide) (by decide)) fun _ _ _ => .int _) (.inl rfl)
theorem px_mod (ha : PX X m1 true a fa) (hb : PX X m2 true b fb) : PX X (m1 || m2) true (.BinOp a .Mod b pos) (bin fa fb gMod) := px_op2 (pe_op op_mod ha hb) (vo_I (fun i j h => of_decide_eq_true h) fun _ _ _ => .int _) (.inl rfl)
def gNeg : PyData → Option PyData
  | .int i => some (.int (-i))
  | _ => none
theorem px_neg (ha : PX X m p a fa) : PX X m true (.UnaryOp .USub a pos) (una fa gNeg) := px_op1 (pe_un un_neg ha) (by
  intro P H x d z Q su dx hg q
  unfold gNeg at hg
  split at hg
  · cases hg
    rw [dq_int dx]
    exact ⟨_, rfl, q.at su (.int _)⟩
  · cases hg)

def okEq : PyData → PyData → Bool
  | .none, .none => true
  | .none, .int _ => true
  | .int _, .none => true
  | .none, .bool _ => true
  | .bool _, .none => true
  | .none, .str _ => true
  | .str _, .none => true
  | .int _, .int _ => true
  | .bool _, .bool _ => true
  | .str _, .str _ => true
  | .int _, .str _ => true
  | .str _, .int _ => true
  | d, e => SeqAt.shaped d && SeqAt.shaped e
def gEq (d e : PyData) : Option PyData := if okEq d e then some (.bool (PyData.eqv d e)) else none
def gNe (d e : PyData) : Option PyData := if okEq d e then some (.bool (!PyData.eqv d e)) else none
theorem okEq_cases {K : PySem.W.Frag} {H : Hp} {x y : V} {d e : PyData} (h : okEq d e = true) (dx : Dq K H x d) (dy : Dq K H y e) : (scal x y = true ∧ PyData.eqv d e = decide (x = y)) ∨ (SeqAt.shaped d = true ∧ SeqAt.shaped e = true) := by
  unfold okEq at h
  split at h
  all_goals first
    | (cases dx; cases dy; refine .inl ⟨rfl, ?_⟩; simp [PyData.eqv]; done)
    | (cases dx; cases dy; refine .inl ⟨rfl, ?_⟩; simp [PyData.eqv, Bool.beq_eq_decide_eq]; done)
    | (rw [Bool.and_eq_true] at h; exact .inr h)
abbrev rEqA (K : PySem.W.Frag) : R2 := fun x y H Q => rEq x y H Q ∨ rEqD K x y H Q
abbrev rNeA (K : PySem.W.Frag) : R2 := fun x y H Q => rNe x y H Q ∨ rNeD K x y H Q
theorem vo_eq {K : PySem.W.Frag} : VO K p1 p2 (rEqA K) gEq := by
  intro P H x y d e z Q su dx dy hg q
  unfold gEq at hg
  split at hg
  · rename_i hok
    cases hg
    have dx := Dq.pick su dx
    have dy := Dq.pick su dy
    rcases okEq_cases hok dx dy with ⟨h1, h2⟩ | ⟨h1, h2⟩
    · refine .inl ⟨h1, ?_⟩
      rw [← h2]
      exact q.at su (.bl _)
    · exact .inr ⟨d, e, dx.dp, dy.dp, h1, h2, q.at su (.bl _)⟩
  · cases hg
theorem vo_ne {K : PySem.W.Frag} : VO K p1 p2 (rNeA K) gNe := by
  intro P H x y d e z Q su dx dy hg q
  unfold gNe at hg
  split at hg
  · rename_i hok
    cases hg
    have dx := Dq.pick su dx
    have dy := Dq.pick su dy
    rcases okEq_cases hok dx dy with ⟨h1, h2⟩ | ⟨h1, h2⟩
    · refine .inl ⟨h1, ?_⟩
      rw [← h2]
      exact q.at su (.bl _)
    · exact .inr ⟨d, e, dx.dp, dy.dp, h1, h2, q.at su (.bl _)⟩
  · cases hg
theorem px_eq {k : Nat} (hr : Room k X.A) (ha : PX X m1 p1 a fa) (hb : PX X m2 p2 b fb) (hf : p1 = true ∨ m2 = false) : PX X (m1 || m2) true (.Compare a [.Eq] [b] pos) (bin fa fb gEq) := px_op2 (pe_cmpR (op_eq.or (op_eqD hr.units)) ha hb (nomark _)) vo_eq hf
theorem px_ne {k : Nat} (hr : Room k X.A) (ha : PX X m1 p1 a fa) (hb : PX X m2 p2 b fb) (hf : p1 = true ∨ m2 = false) : PX X (m1 || m2) true (.Compare a [.NotEq] [b] pos) (bin fa fb gNe) := px_op2 (pe_cmpR (op_ne.or (op_neD hr.units)) ha hb (nomark _)) vo_ne hf
def gLt := gI (fun _ _ => true) fun i j => .bool (decide (i < j))
def gGt := gI (fun _ _ => true) fun i j => .bool (decide (j < i))
def gGe := gI (fun _ _ => true) fun i j => .bool (decide (j ≤ i))
def gLe : PyData → PyData → Option PyData
  | .int i, .int j => some (.bool (decide (i ≤ j)))
  | .str x, .str y => some (.bool (!decide (y.cps.toList < x.cps.toList)))
  | _, _ => none
abbrev rLeA : R2 := fun x y H Q => (rI0 fun i j => .bl (decide (i ≤ j))) x y H Q ∨ (fun x y H Q => ∃ i j, x = V.str i ∧ y = V.str j ∧ Q (.bl (!decide (j.cps.toList < i.cps.toList))) H) x y H Q
theorem op_leA : OpR X (compareOp .LtE) rLeA := op_le.or op_le_str
theorem vo_le {K : PySem.W.Frag} : VO K p1 p2 rLeA gLe := by
  intro P H x y d e z Q su dx dy hg q
  unfold gLe at hg
  split at hg
  · cases hg
    rw [dq_int dx, dq_int dy]
    exact .inl ⟨_, _, rfl, rfl, q.at su (.bl _)⟩
  · cases hg
    rw [dq_str dx, dq_str dy]
    exact .inr ⟨_, _, rfl, rfl, q.at su (.bl _)⟩
  · cases hg
theorem px_lt (ha : PX X m1 p1 a fa) (hb : PX X m2 p2 b fb) (hf : p1 = true ∨ m2 = false) : PX X (m1 || m2) true (.Compare a [.Lt] [b] pos) (bin fa fb gLt) := px_op2 (pe_cmpR op_lt ha hb (nomark _)) (vo_I0 fun _ _ _ => .bl _) hf
theorem px_gt (ha : PX X m1 p1 a fa) (hb : PX X m2 p2 b fb) (hf : p1 = true ∨ m2 = false) : PX X (m1 || m2) true (.Compare a [.Gt] [b] pos) (bin fa fb gGt) := px_op2 (pe_cmpR op_gt ha hb (nomark _)) (vo_I0 fun _ _ _ => .bl _) hf
theorem px_ge (ha : PX X m1 p1 a fa) (hb : PX X m2 p2 b fb) (hf : p1 = true ∨ m2 = false) : PX X (m1 || m2) true (.Compare a [.GtE] [b] pos) (bin fa fb gGe) := px_op2 (pe_cmpR op_ge ha hb (nomark _)) (vo_I0 fun _ _ _ => .bl _) hf
theorem px_le (ha : PX X m1 p1 a fa) (hb : PX X m2 p2 b fb) (hf : p1 = true ∨ m2 = false) : PX X (m1 || m2) true (.Compare a [.LtE] [b] pos) (bin fa fb gLe) := px_op2 (pe_cmpR op_leA ha hb (nomark _)) vo_le hf
/-- is None, is not None -/
def gIsN : PyData → Option PyData
  | .none => some (.bool true)
  | _ => some (.bool false)
def gNotN : PyData → Option PyData
  | .none => some (.bool false)
  | _ => some (.bool true)
theorem px_isN {j : Nat} {pos' : Pos} (ha : PX X m p a fa) : PX X m true (.Compare a [.Is] [.Constant .none j pos'] pos) (una fa gIsN) := px_op1 (r := fun x H Q => Q (.bl (decide (x = .non))) H) (pe_cmp (pc_isN ha)) (by
  intro P H x d z Q su dx hg q
  unfold gIsN at hg
  cases dx <;> cases hg <;> exact q.at su (.bl _))
theorem px_notN {j : Nat} {pos' : Pos} (ha : PX X m p a fa) : PX X m true (.Compare a [.IsNot] [.Constant .none j pos'] pos) (una fa gNotN) := px_op1 (r := fun x H Q => Q (.bl (!decide (x = .non))) H) (pe_cmp (pc_notN ha)) (by
  intro P H x d z Q su dx hg q
  unfold gNotN at hg
  cases dx <;> cases hg <;> exact q.at su (.bl _))
end
end Fw
namespace Fw
open PySem PySem.Spec L2
open PyProof.Rows hiding St
section
variable {X : Cx} {m m1 m2 m3 p p1 p2 p3 : Bool} {e a b c : Expr} {rest : List Expr} {pos : Pos} {f fa fb fc : SE PyData}

def toB (f : SE PyData) : SE Bool := bnd f fun d => match d with
  | .bool b => ret b
  | _ => fun _ => none
theorem toB_some {E E2 : En} {b : Bool} (h : toB f E = some (b, E2)) : f E = some (.bool b, E2) := by
  obtain ⟨d, E1, h1, h2⟩ := bnd_some h
  split at h2
  · obtain ⟨rfl, rfl⟩ := ret_some h2
    exact h1
  · cases h2
theorem pt_of_px (h : PX X m p e f) (he : ∀ whole, isTrue e X.env whole = (do let v ← whole; standAt e.pos; holding [v] (truthy v)) := by intro _; rfl) : PXT X m e (toB f) := pt_imp (pt_val h he) fun σ H Q => by
  rintro ⟨vs0, P, E, fps, bb, E', r, hf, q⟩
  refine ⟨vs0, P, E, fps, .bool bb, E', r, toB_some hf, fun P' H' fps' v r' st sm dv => ?_⟩
  have : v = .bl bb := by cases p <;> exact dq_bl dv
  exact ⟨bb, this, q P' H' fps' r' st sm⟩
theorem pt_op2 {r : R2} {g : PyData → PyData → Option PyData} (h : PT X e (tTest (tOp r (tX X.K m1 p1 fa) (tX X.K m2 p2 fb)))) (v : VO X.K p1 p2 r g) (hf : p1 = true ∨ m2 = false) : PXT X (m1 || m2) e (toB (bin fa fb g)) := pt_imp h fun σ H Q => by
  rintro ⟨vs0, P, E, fps, d, E', rel, hh, q⟩
  have hh := toB_some hh
  obtain ⟨d1, E1, h1, hh⟩ := bnd_some hh
  obtain ⟨d2, E2, h2, hh⟩ := bnd_some hh
  obtain ⟨h3, rfl⟩ := lft_some hh
  refine ⟨vs0, P, E, fps, d1, E1, rel, h1, fun P1 H1 fps1 x r1 s1 m1' dx => ⟨vs0, P1, E1, fps1, d2, E', r1, h2, fun P2 H2 fps2 y r2 s2 m2' dy => ?_⟩⟩
  have dx2 : Dq X.K (pick p1 P2 H2) x d1 := by
    cases p1 with
    | true => exact Dq.mono s2.pp dx
    | false =>
      rcases hf with hf | hf
      · cases hf
      · exact Dq.mono (m2' hf) dx
  refine v P2 H2 x y d1 d2 (.bool d) _ r2.sub dx2 dy h3 fun P3 H3 w pp su hh fr dw => ?_
  refine ⟨d, dq_bl dw, q P3 H3 fps2 (r2.alloc pp su hh fr) ((s1.trans s2).trans (.alloc pp hh fr)) (fun hm => ?_)⟩
  rw [Bool.or_eq_false_iff] at hm
  exact ((m1' hm.1).trans (m2' hm.2)).trans hh
theorem pt_op1 {r : V → Hp → VK → Prop} {g : PyData → Option PyData} (h : PT X e (tB (fun σ H Q => tX X.K m p fa σ H fun x H1 => r x H1 Q))) (v : VU X.K p r g) : PXT X m e (toB (una fa g)) := pt_imp h fun σ H Q => by
  rintro ⟨vs0, P, E, fps, d, E', rel, hh, q⟩
  have hh := toB_some hh
  obtain ⟨d1, E1, h1, hh⟩ := bnd_some hh
  obtain ⟨h3, rfl⟩ := lft_some hh
  refine ⟨vs0, P, E, fps, d1, _, rel, h1, fun P1 H1 fps1 x r1 s1 m1' dx => ?_⟩
  refine v P1 H1 x d1 (.bool d) _ r1.sub dx h3 fun P3 H3 w pp su hh fr dw => ?_
  exact ⟨d, dq_bl dw, q P3 H3 fps1 (r1.alloc pp su hh fr) (s1.trans (.alloc pp hh fr)) (fun hm => (m1' hm).trans hh)⟩
theorem pt_eq' {k : Nat} (hr : Room k X.A) (ha : PX X m1 p1 a fa) (hb : PX X m2 p2 b fb) (hf : p1 = true ∨ m2 = false) : PXT X (m1 || m2) (.Compare a [.Eq] [b] pos) (toB (bin fa fb gEq)) := pt_op2 (pt_cmpR (op_eq.or (op_eqD hr.units)) ha hb (nomark _)) vo_eq hf
theorem pt_ne' {k : Nat} (hr : Room k X.A) (ha : PX X m1 p1 a fa) (hb : PX X m2 p2 b fb) (hf : p1 = true ∨ m2 = false) : PXT X (m1 || m2) (.Compare a [.NotEq] [b] pos) (toB (bin fa fb gNe)) := pt_op2 (pt_cmpR (op_ne.or (op_neD hr.units)) ha hb (nomark _)) vo_ne hf
theorem pt_lt' (ha : PX X m1 p1 a fa) (hb : PX X m2 p2 b fb) (hf : p1 = true ∨ m2 = false) : PXT X (m1 || m2) (.Compare a [.Lt] [b] pos) (toB (bin fa fb gLt)) := pt_op2 (pt_cmpR (op_lt) ha hb (nomark _)) (vo_I0 fun _ _ _ => .bl _) hf
theorem pt_gt' (ha : PX X m1 p1 a fa) (hb : PX X m2 p2 b fb) (hf : p1 = true ∨ m2 = false) : PXT X (m1 || m2) (.Compare a [.Gt] [b] pos) (toB (bin fa fb gGt)) := pt_op2 (pt_cmpR (op_gt) ha hb (nomark _)) (vo_I0 fun _ _ _ => .bl _) hf
theorem pt_ge' (ha : PX X m1 p1 a fa) (hb : PX X m2 p2 b fb) (hf : p1 = true ∨ m2 = false) : PXT X (m1 || m2) (.Compare a [.GtE] [b] pos) (toB (bin fa fb gGe)) := pt_op2 (pt_cmpR (op_ge) ha hb (nomark _)) (vo_I0 fun _ _ _ => .bl _) hf
theorem pt_le' (ha : PX X m1 p1 a fa) (hb : PX X m2 p2 b fb) (hf : p1 = true ∨ m2 = false) : PXT X (m1 || m2) (.Compare a [.LtE] [b] pos) (toB (bin fa fb gLe)) := pt_op2 (pt_cmpR (op_leA) ha hb (nomark _)) vo_le hf
theorem pt_isN' {j : Nat} {pos' : Pos} (ha : PX X m p a fa) : PXT X m (.Compare a [.Is] [.Constant .none j pos'] pos) (toB (una fa gIsN)) := pt_op1 (r := fun x H Q => Q (.bl (decide (x = .non))) H) (pt_cmp (pc_isN ha)) (by
  intro P H x d z Q su dx hg q
  unfold gIsN at hg
  cases dx <;> cases hg <;> exact q.at su (.bl _))
theorem pt_notN' {j : Nat} {pos' : Pos} (ha : PX X m p a fa) : PXT X m (.Compare a [.IsNot] [.Constant .none j pos'] pos) (toB (una fa gNotN)) := pt_op1 (r := fun x H Q => Q (.bl (!decide (x = .non))) H) (pt_cmp (pc_notN ha)) (by
  intro P H x d z Q su dx hg q
  unfold gNotN at hg
  cases dx <;> cases hg <;> exact q.at su (.bl _))

def PXW (X : Cx) (m : Bool) (e : Expr) (f : SE Bool) : Prop := PW X e (tXT X.K m f)
variable {g ga gb : SE Bool}
theorem PXW.pt (h : PXW X m e g) : PXT X m e g := PW.pt h
def sAnd (ga gb : SE Bool) : SE Bool := bnd ga fun b => if b then gb else ret false
def sOr (ga gb : SE Bool) : SE Bool := bnd ga fun b => if b then ret true else gb
def sNot (ga : SE Bool) : SE Bool := bnd ga fun b => ret (!b)
theorem pw_and1' (h : PXT X m a g) : PXW X m (.BoolOp .And [a] pos) g := pw_and1 h
theorem pw_or1' (h : PXT X m a g) : PXW X m (.BoolOp .Or [a] pos) g := pw_or1 h
theorem pw_and' (h1 : PXT X m1 a ga) (h2 : PXW X m2 (.BoolOp .And (b :: rest) pos) gb) : PXW X (m1 || m2) (.BoolOp .And (a :: b :: rest) pos) (sAnd ga gb) := pw_imp (pw_and h1 h2) fun σ H Q => by
  rintro ⟨vs0, P, E, fps, d, E', rel, hh, q⟩
  obtain ⟨d1, E1, h1, hh⟩ := bnd_some hh
  refine ⟨vs0, P, E, fps, d1, E1, rel, h1, fun P1 H1 fps1 r1 s1 m1' => ?_⟩
  cases d1 with
  | true =>
    rw [if_pos rfl] at hh
    rw [if_pos rfl]
    refine ⟨vs0, P1, E1, fps1, d, E', r1, hh, fun P2 H2 fps2 r2 s2 m2' => q P2 H2 fps2 r2 (s1.trans s2) fun hm => ?_⟩
    rw [Bool.or_eq_false_iff] at hm
    exact (m1' hm.1).trans (m2' hm.2)
  | false =>
    rw [if_neg Bool.false_ne_true] at hh
    obtain ⟨rfl, rfl⟩ := ret_some hh
    rw [if_neg Bool.false_ne_true]
    refine q P1 H1 fps1 r1 s1 fun hm => ?_
    rw [Bool.or_eq_false_iff] at hm
    exact m1' hm.1
theorem pw_or' (h1 : PXT X m1 a ga) (h2 : PXW X m2 (.BoolOp .Or (b :: rest) pos) gb) : PXW X (m1 || m2) (.BoolOp .Or (a :: b :: rest) pos) (sOr ga gb) := pw_imp (pw_or h1 h2) fun σ H Q => by
  rintro ⟨vs0, P, E, fps, d, E', rel, hh, q⟩
  obtain ⟨d1, E1, h1, hh⟩ := bnd_some hh
  refine ⟨vs0, P, E, fps, d1, E1, rel, h1, fun P1 H1 fps1 r1 s1 m1' => ?_⟩
  cases d1 with
  | false =>
    rw [if_neg Bool.false_ne_true] at hh
    rw [if_neg Bool.false_ne_true]
    refine ⟨vs0, P1, E1, fps1, d, E', r1, hh, fun P2 H2 fps2 r2 s2 m2' => q P2 H2 fps2 r2 (s1.trans s2) fun hm => ?_⟩
    rw [Bool.or_eq_false_iff] at hm
    exact (m1' hm.1).trans (m2' hm.2)
  | true =>
    rw [if_pos rfl] at hh
    obtain ⟨rfl, rfl⟩ := ret_some hh
    rw [if_pos rfl]
    refine q P1 H1 fps1 r1 s1 fun hm => ?_
    rw [Bool.or_eq_false_iff] at hm
    exact m1' hm.1
theorem pt_not' (h : PXT X m a g) : PXT X m (.UnaryOp .Not a pos) (sNot g) := pt_imp (pt_not h) fun σ H Q => by
  rintro ⟨vs0, P, E, fps, d, E', rel, hh, q⟩
  obtain ⟨d1, E1, h1, hh⟩ := bnd_some hh
  obtain ⟨rfl, rfl⟩ := ret_some hh
  exact ⟨vs0, P, E, fps, d1, _, rel, h1, q⟩
def vAnd (fa fb : SE PyData) : SE PyData := bnd (toB fa) fun b => if b then fb else ret (.bool false)
def vOr (fa fb : SE PyData) : SE PyData := bnd (toB fa) fun b => if b then ret (.bool true) else fb
def gNot : PyData → Option PyData
  | .bool b => some (.bool (!b))
  | _ => none
theorem px_one {op : BoolOp} (h : PX X m p a fa) : PX X m p (.BoolOp op [a] pos) fa := pe_one h
theorem px_and (h1 : PX X m1 p1 a fa) (h2 : PX X m2 true (.BoolOp .And (b :: rest) pos) fb) : PX X (m1 || m2) true (.BoolOp .And (a :: b :: rest) pos) (vAnd fa fb) := pe_imp (pe_and h1 h2) fun σ H Q => by
  rintro ⟨vs0, P, E, fps, d, E', rel, hh, q⟩
  obtain ⟨d1, E1, h1, hh⟩ := bnd_some hh
  refine ⟨vs0, P, E, fps, .bool d1, E1, rel, toB_some h1, fun P1 H1 fps1 v r1 s1 m1' dv => ⟨d1, by cases p1 <;> exact dq_bl dv, ?_⟩⟩
  cases d1 with
  | true =>
    rw [if_pos rfl] at hh
    rw [if_pos rfl]
    refine ⟨vs0, P1, E1, fps1, d, E', r1, hh, fun P2 H2 fps2 v2 r2 s2 m2' dv2 => q P2 H2 fps2 v2 r2 (s1.trans s2) (fun hm => ?_) dv2⟩
    rw [Bool.or_eq_false_iff] at hm
    exact (m1' hm.1).trans (m2' hm.2)
  | false =>
    rw [if_neg Bool.false_ne_true] at hh
    obtain ⟨rfl, rfl⟩ := ret_some hh
    rw [if_neg Bool.false_ne_true]
    refine q P1 H1 fps1 _ r1 s1 (fun hm => ?_) (.bl false)
    rw [Bool.or_eq_false_iff] at hm
    exact m1' hm.1
theorem px_or (h1 : PX X m1 p1 a fa) (h2 : PX X m2 true (.BoolOp .Or (b :: rest) pos) fb) : PX X (m1 || m2) true (.BoolOp .Or (a :: b :: rest) pos) (vOr fa fb) := pe_imp (pe_or h1 h2) fun σ H Q => by
  rintro ⟨vs0, P, E, fps, d, E', rel, hh, q⟩
  obtain ⟨d1, E1, h1, hh⟩ := bnd_some hh
  refine ⟨vs0, P, E, fps, .bool d1, E1, rel, toB_some h1, fun P1 H1 fps1 v r1 s1 m1' dv => ⟨d1, by cases p1 <;> exact dq_bl dv, ?_⟩⟩
  cases d1 with
  | false =>
    rw [if_neg Bool.false_ne_true] at hh
    rw [if_neg Bool.false_ne_true]
    refine ⟨vs0, P1, E1, fps1, d, E', r1, hh, fun P2 H2 fps2 v2 r2 s2 m2' dv2 => q P2 H2 fps2 v2 r2 (s1.trans s2) (fun hm => ?_) dv2⟩
    rw [Bool.or_eq_false_iff] at hm
    exact (m1' hm.1).trans (m2' hm.2)
  | true =>
    rw [if_pos rfl] at hh
    obtain ⟨rfl, rfl⟩ := ret_some hh
    rw [if_pos rfl]
    refine q P1 H1 fps1 _ r1 s1 (fun hm => ?_) (.bl true)
    rw [Bool.or_eq_false_iff] at hm
    exact m1' hm.1
theorem px_not (h : PX X m p a fa) : PX X m true (.UnaryOp .Not a pos) (una fa gNot) := px_op1 (r := fun x H Q => ∃ c, x = .bl c ∧ Q (.bl (!c)) H) (pe_not h) (by
  intro P H x d z Q su dx hg q
  unfold gNot at hg
  split at hg
  · cases hg
    exact ⟨_, dq_bl dx, q.at su (.bl _)⟩
  · cases hg)
def sIf (g : SE Bool) (fa fb : SE PyData) : SE PyData := bnd g fun b => if b then fa else fb
theorem px_if (hc : PXT X m1 c g) (ha : PX X m2 p a fa) (hb : PX X m3 p b fb) : PX X (m1 || (m2 || m3)) p (.IfExp c a b pos) (sIf g fa fb) := pe_imp (pe_ifExp hc ha hb) fun σ H Q => by
  rintro ⟨vs0, P, E, fps, d, E', rel, hh, q⟩
  obtain ⟨d1, E1, h1, hh⟩ := bnd_some hh
  refine ⟨vs0, P, E, fps, d1, E1, rel, h1, fun P1 H1 fps1 r1 s1 m1' => ?_⟩
  cases d1 with
  | true =>
    rw [if_pos rfl] at hh
    rw [if_pos rfl]
    refine ⟨vs0, P1, E1, fps1, d, E', r1, hh, fun P2 H2 fps2 v2 r2 s2 m2' dv2 => q P2 H2 fps2 v2 r2 (s1.trans s2) (fun hm => ?_) dv2⟩
    rw [Bool.or_eq_false_iff, Bool.or_eq_false_iff] at hm
    exact (m1' hm.1).trans (m2' hm.2.1)
  | false =>
    rw [if_neg Bool.false_ne_true] at hh
    rw [if_neg Bool.false_ne_true]
    refine ⟨vs0, P1, E1, fps1, d, E', r1, hh, fun P2 H2 fps2 v2 r2 s2 m2' dv2 => q P2 H2 fps2 v2 r2 (s1.trans s2) (fun hm => ?_) dv2⟩
    rw [Bool.or_eq_false_iff, Bool.or_eq_false_iff] at hm
    exact (m1' hm.1).trans (m2' hm.2.2)

def flatD : PyData → Bool
  | .none => true
  | .bool _ => true
  | .int _ => true
  | .str _ => true
  | _ => false
theorem flat_of {K : PySem.W.Frag} {H : Hp} {x : V} {d : PyData} (dx : Dq K H x d) : flatV x = flatD d := by cases dx <;> rfl
theorem eqV_of {K : PySem.W.Frag} {H : Hp} {x y : V} {d e : PyData} (dx : Dq K H x d) (dy : Dq K H y e) (h1 : flatD d = true) (h2 : flatD e = true) : eqV x y = PyData.eqv d e := by
  cases dx <;> cases dy <;> first
    | (simp [eqV, PyData.eqv]; done)
    | (cases h1; done)
    | (cases h2; done)
theorem all_flat {K : PySem.W.Frag} {H : Hp} : ∀ {vs : List V} {ds : List PyData}, DqAll K H vs ds → vs.all flatV = ds.all flatD
  | _, _, .nil => rfl
  | _, _, .cons h r => by rw [List.all_cons, List.all_cons, flat_of h, all_flat r]
theorem any_eq {K : PySem.W.Frag} {H : Hp} {x : V} {d : PyData} (dx : Dq K H x d) (h1 : flatD d = true) : ∀ {vs : List V} {ds : List PyData}, DqAll K H vs ds → ds.all flatD = true → (vs.any fun y => eqV y x) = ds.any fun y => PyData.eqv y d
  | _, _, .nil, _ => rfl
  | _, _, .cons h r, hf => by
    rw [List.all_cons, Bool.and_eq_true] at hf
    rw [List.any_cons, List.any_cons, eqV_of h dx hf.1 h1, any_eq dx h1 r hf.2]
def gInB : PyData → PyData → Option Bool
  | d, .list ys => if flatD d && ys.all flatD then some (ys.any fun y => PyData.eqv y d) else if SeqAt.shaped d && SeqAt.shaped (.list ys) then some (ys.any fun y => PyData.eqv y d) else none
  | d, .tuple ys => if flatD d && ys.all flatD then some (ys.any fun y => PyData.eqv y d) else if SeqAt.shaped d && SeqAt.shaped (.tuple ys) then some (ys.any fun y => PyData.eqv y d) else none
  | .str x, .str z => match x.cps.toList with
    | [c] => some (decide (c ∈ z.cps.toList))
    | _ => none
  | _, _ => none
def gIn (d e : PyData) : Option PyData := (gInB d e).map .bool
def gNin (d e : PyData) : Option PyData := (gInB d e).map fun b => .bool (!b)
def rInDT (K : PySem.W.Frag) : R2 := fun x y H Q => ∃ d ds, Dp K H x d ∧ Dp K H y (.tuple ds) ∧ SeqAt.shaped d = true ∧ SeqAt.shaped (.tuple ds) = true ∧ Q (.bl (ds.any fun z => PyData.eqv z d)) H
def rNotInDT (K : PySem.W.Frag) : R2 := fun x y H Q => ∃ d ds, Dp K H x d ∧ Dp K H y (.tuple ds) ∧ SeqAt.shaped d = true ∧ SeqAt.shaped (.tuple ds) = true ∧ Q (.bl (!ds.any fun z => PyData.eqv z d)) H
theorem shT_room {A : Around} {ds : List PyData} {d : PyData} (sd : SeqAt.shaped d = true) (hu : A.units + 65 < cLine) : A.units + 1 + min (PyData.depthAll ds) d.depth < cLine := by
  have h1 := SeqAt.depth_of_shaped sd
  have h2 : min (PyData.depthAll ds) d.depth ≤ d.depth := Nat.min_le_right _ _
  omega
theorem op_inDT (hu : X.A.units + 65 < cLine) : OpR X (compareOp .In) (rInDT X.K) := by
  intro pins s σ H x y v u Q I rx ry h
  obtain ⟨d, ds, hd, he, sd, se, q⟩ := h
  obtain ⟨as, r1⟩ := Dp.reads I d x v hd rx
  obtain ⟨bs, r2⟩ := Dp.reads I (.tuple ds) y u he ry
  exact SeqAt.in_tuple_reads r2 r1 (SeqAt.canLay_of_shaped se) (SeqAt.canLay_of_shaped sd) (shT_room sd hu) ⟨.bl _, H, I, rfl, q⟩
theorem op_notInDT (hu : X.A.units + 65 < cLine) : OpR X (compareOp .NotIn) (rNotInDT X.K) := by
  intro pins s σ H x y v u Q I rx ry h
  obtain ⟨d, ds, hd, he, sd, se, q⟩ := h
  obtain ⟨as, r1⟩ := Dp.reads I d x v hd rx
  obtain ⟨bs, r2⟩ := Dp.reads I (.tuple ds) y u he ry
  exact SeqAt.notIn_tuple_reads r2 r1 (SeqAt.canLay_of_shaped se) (SeqAt.canLay_of_shaped sd) (shT_room sd hu) ⟨.bl _, H, I, rfl, q⟩
abbrev rInX (K : PySem.W.Frag) (neg : Bool) : R2 := fun x y H Q => rIn K neg x y H Q ∨ ((fun x y H Q => ∃ (c : Nat) (z : Str), x = .str ⟨#[c]⟩ ∧ y = .str z ∧ Q (.bl (if neg then !decide (c ∈ z.cps.toList) else decide (c ∈ z.cps.toList))) H) x y H Q ∨
  ((fun x y H Q => ∃ d ds, Dp K H x d ∧ Dp K H y (.list ds) ∧ SeqAt.shaped d = true ∧ SeqAt.shaped (.list ds) = true ∧ Q (.bl (if neg then !(ds.any fun z => PyData.eqv z d) else ds.any fun z => PyData.eqv z d)) H) x y H Q ∨
  (fun x y H Q => ∃ d ds, Dp K H x d ∧ Dp K H y (.tuple ds) ∧ SeqAt.shaped d = true ∧ SeqAt.shaped (.tuple ds) = true ∧ Q (.bl (if neg then !(ds.any fun z => PyData.eqv z d) else ds.any fun z => PyData.eqv z d)) H) x y H Q))
theorem op_inX (hu : X.A.units + 65 < cLine) : OpR X (compareOp .In) (rInX X.K false) := op_in_seq.or (OpR.or (op_in_sign) (OpR.or (op_inD hu) (op_inDT hu)))
theorem op_ninX (hu : X.A.units + 65 < cLine) : OpR X (compareOp .NotIn) (rInX X.K true) := op_notIn_seq.or (OpR.or (op_notIn_sign) (OpR.or (op_notInD hu) (op_notInDT hu)))
theorem in_core {K : PySem.W.Frag} {P H : Hp} {x y : V} {d e : PyData} {Q : VK} {b neg : Bool} (su : Same P H) (dx : Dq K (pick p1 P H) x d) (dy : Dq K (pick p2 P H) y e) (hg : gInB d e = some b) (q : Q (.bl (if neg then !b else b)) H) : rInX K neg x y H Q := by
  replace dx := Dq.pick su dx
  replace dy := Dq.pick su dy
  unfold gInB at hg
  split at hg
  · rename_i ys
    split at hg
    · rename_i hfl
      rw [Bool.and_eq_true] at hfl
      cases dy with
      | @lst a vs _ ha hv =>
        cases hg
        refine .inl ⟨a, vs, rfl, .inl (SqL.of ha), by rw [flat_of dx]; exact hfl.1, by rw [all_flat hv]; exact hfl.2, ?_⟩
        have e1 : inV x vs = ys.any fun y => PyData.eqv y d := any_eq dx hfl.1 hv hfl.2
        rw [e1]
        exact q
    · split at hg
      · rename_i hfl
        rw [Bool.and_eq_true] at hfl
        cases hg
        exact .inr (.inr (.inl ⟨d, ys, dx.dp, dy.dp, hfl.1, hfl.2, q⟩))
      · cases hg
  · rename_i ys
    split at hg
    · rename_i hfl
      rw [Bool.and_eq_true] at hfl
      cases dy with
      | @tup a vs _ ha hv =>
        cases hg
        refine .inl ⟨a, vs, rfl, .inr ha, by rw [flat_of dx]; exact hfl.1, by rw [all_flat hv]; exact hfl.2, ?_⟩
        have e1 : inV x vs = ys.any fun y => PyData.eqv y d := any_eq dx hfl.1 hv hfl.2
        rw [e1]
        exact q
    · split at hg
      · rename_i hfl
        rw [Bool.and_eq_true] at hfl
        cases hg
        exact .inr (.inr (.inr ⟨d, ys, dx.dp, dy.dp, hfl.1, hfl.2, q⟩))
      · cases hg
  · rename_i xs zs
    split at hg
    · rename_i c hc
      cases hg
      refine .inr (.inl ⟨c, zs, ?_, dq_str dy, q⟩)
      rw [dq_str dx]
      have : xs = ⟨#[c]⟩ := by
        cases xs with
        | mk cps =>
          congr 1
          exact Array.toList_inj.mp hc
      rw [this]
    · cases hg
  · cases hg
theorem vo_in {K : PySem.W.Frag} : VO K p1 p2 (rInX K false) gIn := by
  intro P H x y d e z Q su dx dy hg q
  unfold gIn at hg
  cases h : gInB d e with
  | none => rw [h] at hg; cases hg
  | some b =>
    rw [h] at hg
    cases hg
    exact in_core (neg := false) su dx dy h (q.at su (.bl _))
theorem vo_nin {K : PySem.W.Frag} : VO K p1 p2 (rInX K true) gNin := by
  intro P H x y d e z Q su dx dy hg q
  unfold gNin at hg
  cases h : gInB d e with
  | none => rw [h] at hg; cases hg
  | some b =>
    rw [h] at hg
    cases hg
    exact in_core (neg := true) su dx dy h (q.at su (.bl _))
theorem Room.u65 {k : Nat} {A : Around} (hr : Room k A) : A.units + 65 < cLine := by have := hr.un; omega
theorem px_in {k : Nat} (hr : Room k X.A) (ha : PX X m1 p1 a fa) (hb : PX X m2 p2 b fb) (hf : p1 = true ∨ m2 = false) (hm : behindInMarks .In b = false := by rfl) : PX X (m1 || m2) true (.Compare a [.In] [b] pos) (bin fa fb gIn) := px_op2 (pe_cmpR (op_inX (Room.u65 hr)) ha hb hm) vo_in hf
theorem px_nin {k : Nat} (hr : Room k X.A) (ha : PX X m1 p1 a fa) (hb : PX X m2 p2 b fb) (hf : p1 = true ∨ m2 = false) (hm : behindInMarks .NotIn b = false := by rfl) : PX X (m1 || m2) true (.Compare a [.NotIn] [b] pos) (bin fa fb gNin) := px_op2 (pe_cmpR (op_ninX (Room.u65 hr)) ha hb hm) vo_nin hf
theorem pt_in' {k : Nat} (hr : Room k X.A) (ha : PX X m1 p1 a fa) (hb : PX X m2 p2 b fb) (hf : p1 = true ∨ m2 = false) (hm : behindInMarks .In b = false := by rfl) : PXT X (m1 || m2) (.Compare a [.In] [b] pos) (toB (bin fa fb gIn)) := pt_op2 (pt_cmpR (op_inX (Room.u65 hr)) ha hb hm) vo_in hf
theorem pt_nin' {k : Nat} (hr : Room k X.A) (ha : PX X m1 p1 a fa) (hb : PX X m2 p2 b fb) (hf : p1 = true ∨ m2 = false) (hm : behindInMarks .NotIn b = false := by rfl) : PXT X (m1 || m2) (.Compare a [.NotIn] [b] pos) (toB (bin fa fb gNin)) := pt_op2 (pt_cmpR (op_ninX (Room.u65 hr)) ha hb hm) vo_nin hf

def chn (fa fb fc : SE PyData) (g1 g2 : PyData → PyData → Option PyData) : SE PyData := bnd fa fun d => bnd fb fun e => bnd (toB (lft (g1 d e))) fun k => if k then bnd fc fun w => lft (g2 e w) else ret (.bool false)
theorem chn_core {K : PySem.W.Frag} {r1 r2 : R2} {g1 g2 : PyData → PyData → Option PyData} (v1 : VO K true true r1 g1) (v2 : VO K true true r2 g2) {σ : St} {H : Hp} {Q : VK} (h : tX K (m1 || (m2 || m3)) true (chn fa fb fc g1 g2) σ H Q) : tChain r1 r2 (tX K m1 true fa) (tX K m2 true fb) (tX K m3 true fc) σ H Q := by
  obtain ⟨vs0, P, E, fps, d, E', rel, hh, q⟩ := h
  obtain ⟨d1, E1, h1, hh⟩ := bnd_some hh
  obtain ⟨d2, E2, h2, hh⟩ := bnd_some hh
  obtain ⟨k, E3, h3, hh⟩ := bnd_some hh
  obtain ⟨h3', rfl⟩ := lft_some (toB_some h3)
  refine ⟨vs0, P, E, fps, d1, E1, rel, h1, fun P1 H1 fps1 x r1 s1 m1' dx => ⟨vs0, P1, E1, fps1, d2, _, r1, h2, fun P2 H2 fps2 y r2 s2 m2' dy => ?_⟩⟩
  refine v1 P2 H2 x y d1 d2 _ _ r2.sub (Dq.mono s2.pp dx) dy h3' fun P3 H3 z pp su hh3 fr dz => ⟨k, dq_bl dz, ?_⟩
  have r3 := r2.alloc pp su hh3 fr
  have s3 := (s1.trans s2).trans (Step.alloc (F := In fps2) pp hh3 fr)
  cases k with
  | true =>
    rw [if_pos rfl] at hh
    rw [if_pos rfl]
    obtain ⟨d4, E4, h4, hh⟩ := bnd_some hh
    obtain ⟨h5, rfl⟩ := lft_some hh
    refine ⟨vs0, P3, _, fps2, d4, _, r3, h4, fun P4 H4 fps4 w r4 s4 m4' dw => ?_⟩
    refine v2 P4 H4 y w d2 d4 d _ r4.sub (Dq.mono (pp.trans s4.pp) dy) dw h5 fun P5 H5 u pp5 su5 hh5 fr5 du => ?_
    refine q P5 H5 fps4 u (r4.alloc pp5 su5 hh5 fr5) ((s3.trans s4).trans (.alloc pp5 hh5 fr5)) (fun hm => ?_) du
    rw [Bool.or_eq_false_iff, Bool.or_eq_false_iff] at hm
    exact ((((m1' hm.1).trans (m2' hm.2.1)).trans hh3).trans (m4' hm.2.2)).trans hh5
  | false =>
    rw [if_neg Bool.false_ne_true] at hh
    obtain ⟨rfl, rfl⟩ := ret_some hh
    rw [if_neg Bool.false_ne_true]
    refine q P3 H3 fps2 _ r3 s3 (fun hm => ?_) (.bl false)
    rw [Bool.or_eq_false_iff, Bool.or_eq_false_iff] at hm
    exact ((m1' hm.1).trans (m2' hm.2.1)).trans hh3
theorem px_chle (ha : PX X m1 true a fa) (hb : PX X m2 true b fb) (hc : PX X m3 true c fc) : PX X (m1 || (m2 || m3)) true (.Compare a [.LtE, .LtE] [b, c] pos) (chn fa fb fc gLe gLe) := pe_imp (pe_chain op_leA op_leA ha hb hc (nomark c)) fun σ H Q h => chn_core vo_le vo_le h
theorem pt_chle (ha : PX X m1 true a fa) (hb : PX X m2 true b fb) (hc : PX X m3 true c fc) : PXT X (m1 || (m2 || m3)) (.Compare a [.LtE, .LtE] [b, c] pos) (toB (chn fa fb fc gLe gLe)) := pt_imp (pt_chain op_leA op_leA ha hb hc (nomark c)) fun σ H Q => by
  rintro ⟨vs0, P, E, fps, d, E', rel, hh, q⟩
  refine chn_core vo_le vo_le ⟨vs0, P, E, fps, .bool d, E', rel, toB_some hh, fun P' H' fps' v r' st sm dv => ⟨d, dq_bl dv, q P' H' fps' r' st sm⟩⟩

def sNil : SE (List PyData) := ret []
def sCons (fa : SE PyData) (fs : SE (List PyData)) : SE (List PyData) := bnd fa fun d => bnd fs fun ds => ret (d :: ds)
variable {es : List Expr} {fs : SE (List PyData)}
theorem pxa_nil : PXA X false [] sNil := pa_imp pa_nil fun σ H Q => by
  rintro ⟨vs0, P, E, fps, ds, E', rel, hh, q⟩
  obtain ⟨rfl, rfl⟩ := ret_some hh
  exact q P H fps [] rel (.refl _ _ _) (fun _ => Same.refl H) .nil
theorem pxa_cons (h1 : PX X m1 true a fa) (h2 : PXA X m2 es fs) (hs : starEach (a :: es) X.env = (false, eval a X.env) :: starEach es X.env := by rfl) : PXA X (m1 || m2) (a :: es) (sCons fa fs) := pa_imp (pa_cons h1 h2 hs) fun σ H Q => by
  rintro ⟨vs0, P, E, fps, d, E', rel, hh, q⟩
  obtain ⟨d1, E1, h1, hh⟩ := bnd_some hh
  obtain ⟨d2, E2, h2, hh⟩ := bnd_some hh
  obtain ⟨rfl, rfl⟩ := ret_some hh
  refine ⟨vs0, P, E, fps, d1, E1, rel, h1, fun P1 H1 fps1 x r1 s1 m1' dx => ⟨vs0, P1, E1, fps1, d2, _, r1, h2, fun P2 H2 fps2 ys r2 s2 m2' dy => ?_⟩⟩
  refine q P2 H2 fps2 (x :: ys) r2 (s1.trans s2) (fun hm => ?_) (.cons (Dq.mono s2.pp dx) dy)
  rw [Bool.or_eq_false_iff] at hm
  exact (m1' hm.1).trans (m2' hm.2)
def dTup (fs : SE (List PyData)) : SE PyData := bnd fs fun ds => if ds.length ≤ sizeLine then ret (.tuple ds) else fun _ => none
def dLst (fs : SE (List PyData)) : SE (List PyData) := bnd fs fun ds => if ds.length ≤ sizeLine then ret ds else fun _ => none
theorem px_tup {k : Nat} (h : PXA X m es fs) : PX X m true (.Tuple es k pos) (dTup fs) := pe_imp (pe_tup h) fun σ H Q => by
  rintro ⟨vs0, P, E, fps, d, E', rel, hh, q⟩
  obtain ⟨ds, E1, h1, hh⟩ := bnd_some hh
  split at hh
  · rename_i hl
    obtain ⟨rfl, rfl⟩ := ret_some hh
    refine ⟨vs0, P, E, fps, ds, _, rel, h1, fun P1 H1 fps1 vs r1 s1 m1' dv => ⟨by rw [dv.length]; exact hl, fun p0 hp => ?_⟩⟩
    have s2 : Same P1 (upd P1 p0 (.tup vs)) := Fw.same_upd (sub_none r1.sub hp)
    exact q (upd P1 p0 (.tup vs)) (upd H1 p0 (.tup vs)) fps1 (.ref p0) (r1.alloc s2 (same_upd2 r1.sub hp) (Fw.same_upd hp) (fresh_upd hp)) (s1.trans (.alloc s2 (Fw.same_upd hp) (fresh_upd hp)))
      (fun hm => (m1' hm).trans (Fw.same_upd hp)) (.tup (SqT.of upd_same) (dv.mono s2))
  · cases hh
theorem Rel.newList {K : PySem.W.Frag} {vs0 : List V} {P : Hp} {E : En} {σ : St} {H : Hp} {fps : Nat → List Addr} (r : Rel K vs0 P E σ H fps) {p0 : Addr} {o : HO} (hp : H p0 = none) : Rel K vs0 P E σ (upd H p0 o) fps :=
  r.alloc (Same.refl P) (fun x u hx => by rw [upd_ne (ne_of_none (r.sub x u hx) hp)]; exact r.sub x u hx) (Fw.same_upd hp) .same
theorem Rel.notIn {K : PySem.W.Frag} {vs0 : List V} {P : Hp} {E : En} {σ : St} {H : Hp} {fps : Nat → List Addr} (r : Rel K vs0 P E σ H fps) {p0 : Addr} (hp : H p0 = none) : ¬ In fps p0 := fun h => by
  obtain ⟨_, o, h2⟩ := r.foot h
  rw [hp] at h2
  cases h2
end
end Fw
namespace Fw
open PySem PySem.Spec L2
open PyProof.Rows hiding St
section
variable {X : Cx} {m m1 m2 m3 p p1 p2 p3 : Bool} {e a b c : Expr} {es : List Expr} {pos : Pos} {f fa fb fc : SE PyData} {fs fs2 : SE (List PyData)}

/-- what is shown behind an operation that lays a new list -/
abbrev AfterL (K : PySem.W.Frag) (P H : Hp) (zs : List PyData) (Q : VK) : Prop := ∀ (P' H' : Hp) (l : Addr) (vs : List V), Same P P' → Same P' H' → Same H H' → Fresh NoF P H P' → H l = none → P' l = none → H' l = some (.lst vs) → DqAll K P' vs zs → Q (.ref l) H'
theorem AfterL.new {K : PySem.W.Frag} {P H : Hp} {zs : List PyData} {Q : VK} (q : AfterL K P H zs Q) {l : Addr} {vs : List V} (s : Same P H) (h : H l = none) (d : DqAll K P vs zs) : Q (.ref l) (upd H l (.lst vs)) :=
  q P (upd H l (.lst vs)) l vs (Same.refl P) (fun x u hx => by rw [upd_ne (ne_of_none (s x u hx) h)]; exact s x u hx) (Fw.same_upd h) .same h (sub_none s h) upd_same d
/-- .. as data -/
theorem AfterL.of {K : PySem.W.Frag} {P H : Hp} {zs : List PyData} {Q : VK} (q : After K P H (.list zs) Q) : AfterL K P H zs Q := fun P' H' l vs pp su hh fr hl pl hv dv => by
  have s1 : Same P' (upd P' l (.lst vs)) := Fw.same_upd pl
  refine q (upd P' l (.lst vs)) H' (.ref l) (pp.trans s1) (fun x u hx => ?_) hh (fun x u hx => ?_) (.lst upd_same (dv.mono s1))
  · by_cases e1 : x = l
    · subst e1
      rw [upd_same] at hx
      cases hx
      exact hv
    · rw [upd_ne e1] at hx
      exact su x u hx
  · by_cases e1 : x = l
    · subst e1
      exact .inr (.inl hl)
    · rw [upd_ne e1] at hx
      exact fr x u hx
theorem tXL_end {K : PySem.W.Frag} {vs0 : List V} {P H P1 H1 : Hp} {E1 : En} {σ : L2.St} {fps fps1 : Nat → List Addr} {zs : List PyData} {Q : VK} (r1 : Rel K vs0 P1 E1 σ H1 fps1) (s1 : Step (In fps) P H (In fps1) P1 H1) (sm : m = false → Same H H1)
    (q : ∀ (P' H' : Hp) (fps' : Nat → List Addr) (a : Addr) (vs : List V), Rel K vs0 P' E1 σ H' fps' → Step (In fps) P H (In fps') P' H' → (m = false → Same H H') → H a = none → P' a = none → ¬ In fps' a → H' a = some (.lst vs) → DqAll K P' vs zs → Q (.ref a) H') :
    AfterL K P1 H1 zs Q := fun P' H' l vs pp su hh fr hl pl hv dv => by
  have r2 := r1.alloc pp su hh fr
  have s2 := s1.trans (.alloc (F := In fps1) pp hh fr)
  exact q P' H' fps1 l vs r2 s2 (fun hm => (sm hm).trans hh) (s1.free hl) pl (r1.notIn hl) hv dv
def VLA (K : PySem.W.Frag) (r : List V → Hp → VK → Prop) (g : List PyData → Option (List PyData)) : Prop := ∀ (P H : Hp) (xs : List V) (ds zs : List PyData) (Q : VK), Same P H → DqAll K P xs ds → g ds = some zs → AfterL K P H zs Q → r xs H Q
def VAA (K : PySem.W.Frag) (r : List V → Hp → VK → Prop) (g : List PyData → Option PyData) : Prop := ∀ (P H : Hp) (xs : List V) (ds : List PyData) (z : PyData) (Q : VK), Same P H → DqAll K P xs ds → g ds = some z → After K P H z Q → r xs H Q
def mny {α β : Type} (fs : SE α) (g : α → Option β) : SE β := bnd fs fun ds => lft (g ds)
theorem pl_args {r : List V → Hp → VK → Prop} {g : List PyData → Option (List PyData)} (h : PE X e (fun σ H Q => tXA X.K m fs σ H fun vs H1 => r vs H1 Q)) (v : VLA X.K r g) : PL X m e (mny fs g) := pe_imp h fun σ H Q => by
  rintro ⟨vs0, P, E, fps, d, E', rel, hh, q⟩
  obtain ⟨ds, E1, h1, hh⟩ := bnd_some hh
  obtain ⟨h2, rfl⟩ := lft_some hh
  exact ⟨vs0, P, E, fps, ds, _, rel, h1, fun P1 H1 fps1 vs r1 s1 m1' dv => v P1 H1 vs ds d Q r1.sub dv h2 (tXL_end r1 s1 m1' q)⟩
theorem px_args {r : List V → Hp → VK → Prop} {g : List PyData → Option PyData} (h : PE X e (fun σ H Q => tXA X.K m fs σ H fun vs H1 => r vs H1 Q)) (v : VAA X.K r g) : PX X m true e (mny fs g) := pe_imp h fun σ H Q => by
  rintro ⟨vs0, P, E, fps, d, E', rel, hh, q⟩
  obtain ⟨ds, E1, h1, hh⟩ := bnd_some hh
  obtain ⟨h2, rfl⟩ := lft_some hh
  refine ⟨vs0, P, E, fps, ds, _, rel, h1, fun P1 H1 fps1 vs r1 s1 m1' dv => v P1 H1 vs ds d Q r1.sub dv h2 fun P3 H3 w pp su hh fr dw => ?_⟩
  exact q P3 H3 fps1 w (r1.alloc pp su hh fr) (s1.trans (.alloc pp hh fr)) (fun hm => (m1' hm).trans hh) dw
def VOL (K : PySem.W.Frag) (p1 p2 : Bool) (r : R2) (g : PyData → PyData → Option (List PyData)) : Prop := ∀ (P H : Hp) (x y : V) (d e : PyData) (zs : List PyData) (Q : VK), Same P H → Dq K (pick p1 P H) x d → Dq K (pick p2 P H) y e → g d e = some zs → AfterL K P H zs Q → r x y H Q
def binL (fa fb : SE PyData) (g : PyData → PyData → Option (List PyData)) : SE (List PyData) := bnd fa fun d => bnd fb fun e => lft (g d e)
theorem pl_op2 {r : R2} {g : PyData → PyData → Option (List PyData)} (h : PE X e (tOp r (tX X.K m1 p1 fa) (tX X.K m2 p2 fb))) (v : VOL X.K p1 p2 r g) (hf : p1 = true ∨ m2 = false) : PL X (m1 || m2) e (binL fa fb g) := pe_imp h fun σ H Q => by
  rintro ⟨vs0, P, E, fps, d, E', rel, hh, q⟩
  obtain ⟨d1, E1, h1, hh⟩ := bnd_some hh
  obtain ⟨d2, E2, h2, hh⟩ := bnd_some hh
  obtain ⟨h3, rfl⟩ := lft_some hh
  refine ⟨vs0, P, E, fps, d1, E1, rel, h1, fun P1 H1 fps1 x r1 s1 m1' dx => ⟨vs0, P1, E1, fps1, d2, E', r1, h2, fun P2 H2 fps2 y r2 s2 m2' dy => ?_⟩⟩
  have dx2 : Dq X.K (pick p1 P2 H2) x d1 := by
    cases p1 with
    | true => exact Dq.mono s2.pp dx
    | false =>
      rcases hf with hf | hf
      · cases hf
      · exact Dq.mono (m2' hf) dx
  refine v P2 H2 x y d1 d2 d Q r2.sub dx2 dy h3 (tXL_end r2 (s1.trans s2) (fun hm => ?_) q)
  rw [Bool.or_eq_false_iff] at hm
  exact (m1' hm.1).trans (m2' hm.2)
theorem pl_lst (h : PXA X m es fs) : PL X m (.List es pos) (dLst fs) := pe_imp (pe_lst h) fun σ H Q => by
  rintro ⟨vs0, P, E, fps, d, E', rel, hh, q⟩
  obtain ⟨ds, E1, h1, hh⟩ := bnd_some hh
  split at hh
  · rename_i hl
    obtain ⟨rfl, rfl⟩ := ret_some hh
    exact ⟨vs0, P, E, fps, _, _, rel, h1, fun P1 H1 fps1 vs r1 s1 m1' dv => ⟨by rw [dv.length]; exact hl, fun p0 hp => (tXL_end r1 s1 m1' q).new r1.sub hp dv⟩⟩
  · cases hh
/-- [a] + [b] -/
def gCat : PyData → PyData → Option (List PyData)
  | .list xs, .list ys => if xs.length + ys.length ≤ sizeLine then some (xs ++ ys) else none
  | _, _ => none
theorem pl_cat (ha : PX X m1 true a fa) (hb : PX X m2 true b fb) : PL X (m1 || m2) (.BinOp a .Add b pos) (binL fa fb gCat) := pl_op2 (pe_op op_cat ha hb) (by
  intro P H x y d e zs Q su dx dy hg q
  unfold gCat at hg
  split at hg
  · split at hg
    · rename_i xs ys hl
      cases dx with
      | @lst l vs _ hx hv =>
        cases dy with
        | @lst l2 ws _ hy hw =>
          cases hg
          have l1 := hv.length
          have l2 := hw.length
          exact ⟨_, _, vs, ws, rfl, rfl, su _ _ hx, su _ _ hy, by omega, fun p0 hp => q.new su hp (hv.append hw)⟩
    · cases hg
  · cases hg) (.inl rfl)

def gIx : PyData → PyData → Option PyData
  | .list ys, .int i => atI ys i
  | .tuple ys, .int i => atI ys i
  | .str z, .int i => if z.length ≤ sizeLine then (atI z.cps.toList i).map fun c => .str ⟨#[c]⟩ else none
  | _, _ => none
theorem atI_dq {K : PySem.W.Frag} {H : Hp} {vs : List V} {ds : List PyData} (h : DqAll K H vs ds) {i : Int} {d : PyData} (e : atI ds i = some d) : ∃ v, atI vs i = some v ∧ Dq K H v d := by
  unfold atI at e ⊢
  rw [h.length]
  cases e1 : ixN ds.length i with
  | none => rw [e1] at e; cases e
  | some j =>
    rw [e1] at e
    obtain ⟨v, h1, h2⟩ := h.get (i := j) (show ds[j]? = some d from e)
    exact ⟨v, h1, h2⟩
theorem vo_ix {K : PySem.W.Frag} : VO K true p2 (rIx K) gIx := by
  intro P H x y d e z Q su dx dy hg q
  unfold gIx at hg
  split at hg
  · cases dx with
    | @lst l vs _ hx hv =>
      obtain ⟨v, h1, h2⟩ := atI_dq hv hg
      rw [dq_int dy]
      exact .inl ⟨l, vs, _, v, rfl, rfl, SqL.of (su _ _ hx), h1, q.at su h2⟩
  · cases dx with
    | @tup l vs _ hx hv =>
      obtain ⟨v, h1, h2⟩ := atI_dq hv hg
      rw [dq_int dy]
      exact .inr (.inl ⟨l, vs, _, v, rfl, rfl, seqT su hx, h1, q.at su h2⟩)
  · split at hg
    · rename_i s i hl
      rw [dq_str dx, dq_int dy]
      cases e1 : atI s.cps.toList i with
      | none => rw [e1] at hg; cases hg
      | some c =>
        rw [e1] at hg
        cases hg
        exact .inr (.inr ⟨_, _, c, rfl, rfl, hl, e1, q.at su (.str _)⟩)
    · cases hg
  · cases hg
theorem px_ix (ha : PX X m1 true a fa) (hb : PX X m2 p2 b fb) (hp : PlainIx b := by exact fun _ _ => rfl) : PX X (m1 || m2) true (.Subscript a b pos) (bin fa fb gIx) := px_op2 (pe_ix ix_seq ha hb hp) vo_ix (.inl rfl)
/-- the slot's list as it stands, if it is an owned one -/
def own? (i : Nat) (E : En) : Option (List PyData) := match E[i]? with
  | some (.own xs) => some xs
  | _ => none
theorem own?_some {i : Nat} {E : En} {xs : List PyData} (h : own? i E = some xs) : E[i]? = some (.own xs) := by
  unfold own? at h
  split at h
  · rename_i ys e1
    cases h
    exact e1
  · cases h
theorem Rel.ownAt {K : PySem.W.Frag} {vs0 : List V} {P : Hp} {E : En} {σ : L2.St} {H : Hp} {fps : Nat → List Addr} (r : Rel K vs0 P E σ H fps) {i : Nat} {xs : List PyData} (h : own? i E = some xs) :
    ∃ (a : Addr) (vs : List V), σ[i]? = some (some (.ref a)) ∧ fps i = [a] ∧ P a = none ∧ H a = some (.lst vs) ∧ DqAll K P vs xs := by
  obtain ⟨ov, e1, s⟩ := r.sl i _ (own?_some h)
  generalize hfp : fps i = fp at s
  cases s with
  | own pa ha dv => exact ⟨_, _, e1, rfl, pa, ha, dv⟩
def ixO (i : Nat) (fb : SE PyData) : SE PyData := fun E => match own? i E with
  | some _ => bnd fb (fun e => fun E1 => match own? i E1 with
    | some xs => lft (gIx (.list xs) e) E1
    | none => none) E
  | none => none
theorem px_ixO {i : Nat} (ha : PE X a (tVar i)) (hb : PX X m2 p2 b fb) (hp : PlainIx b := by exact fun _ _ => rfl) : PX X m2 true (.Subscript a b pos) (ixO i fb) := pe_imp (pe_ix ix_seq ha hb hp) fun σ H Q => by
  rintro ⟨vs0, P, E, fps, d, E', rel, hh, q⟩
  unfold ixO at hh
  split at hh
  · rename_i xs0 e0
    obtain ⟨ad, vs0', es, -, -, -, -⟩ := rel.ownAt e0
    obtain ⟨d1, E1, h1, hh⟩ := bnd_some hh
    split at hh
    · rename_i xs e1
      obtain ⟨h2, rfl⟩ := lft_some hh
      refine ⟨_, es, vs0, P, E, fps, d1, _, rel, h1, fun P1 H1 fps1 y r1 s1 m1' dy => ?_⟩
      obtain ⟨ad2, vs, es2, -, -, hv, dv⟩ := r1.ownAt e1
      rw [es] at es2
      cases es2
      obtain ⟨i', hi'⟩ : ∃ i', d1 = .int i' := by
        cases d1 <;> first | exact ⟨_, rfl⟩ | (cases h2; done)
      subst hi'
      obtain ⟨v, g1, g2⟩ := atI_dq dv (show atI xs i' = some d from h2)
      have ey : y = .int i' := by cases p2 <;> exact dq_int dy
      exact .inl ⟨ad, vs, i', v, rfl, ey, SqL.of hv, g1, q P1 H1 fps1 v r1 s1 m1' g2⟩
    · cases hh
  · cases hh

def tXO (K : PySem.W.Frag) (m : Bool) (f : SE (Option Int)) : TO := fun σ H Q => ∃ (vs0 : List V) (P : Hp) (E : En) (fps : Nat → List Addr) (o : Option Int) (E' : En), Rel K vs0 P E σ H fps ∧ f E = some (o, E') ∧
  ∀ (P' H' : Hp) (fps' : Nat → List Addr), Rel K vs0 P' E' σ H' fps' → Step (In fps) P H (In fps') P' H' → (m = false → Same H H') → Q o H'
def PXO (X : Cx) (m : Bool) (e : Option Expr) (f : SE (Option Int)) : Prop := PO X e (tXO X.K m f)
theorem po_imp {X : Cx} {e : Option Expr} {t u : TO} (h : PO X e t) (i : ∀ σ H Q, u σ H Q → t σ H Q) : PO X e u := ⟨fun pins s σ H Q I q => h.run pins s σ H Q I (i σ H Q q)⟩
def sPart (f : SE PyData) : SE (Option Int) := bnd f fun d => match d with
  | .int i => ret (some i)
  | _ => fun _ => none
theorem pxo_none : PXO X false none (ret none) := po_imp po_none fun σ H Q => by
  rintro ⟨vs0, P, E, fps, o, E', rel, hh, q⟩
  obtain ⟨rfl, rfl⟩ := ret_some hh
  exact q P H fps rel (.refl _ _ _) fun _ => Same.refl H
theorem pxo_some (h : PX X m p e f) : PXO X m (some e) (sPart f) := po_imp (po_some h) fun σ H Q => by
  rintro ⟨vs0, P, E, fps, o, E', rel, hh, q⟩
  obtain ⟨d, E1, h1, hh⟩ := bnd_some hh
  split at hh
  · obtain ⟨rfl, rfl⟩ := ret_some hh
    exact ⟨vs0, P, E, fps, _, _, rel, h1, fun P1 H1 fps1 v r1 s1 m1' dv => ⟨_, by cases p <;> exact dq_int dv, q P1 H1 fps1 r1 s1 m1'⟩⟩
  · cases hh
def cutL {α : Type} (xs : List α) (lo hi : Option Int) : List α := (xs.drop (HT.sIx xs.length 0 lo)).take (HT.sIx xs.length xs.length hi - HT.sIx xs.length 0 lo)
theorem cut_dq {K : PySem.W.Frag} {H : Hp} {vs : List V} {ds : List PyData} (h : DqAll K H vs ds) (lo hi : Option Int) : DqAll K H (cutV vs lo hi) (cutL ds lo hi) := by
  unfold cutV cutL
  rw [h.length]
  exact (h.drop _).take _
def gSl (d : PyData) (lo hi : Option Int) : Option PyData := match d with
  | .str z => if z.length ≤ sizeLine then some (.str (cutS z lo hi)) else none
  | .tuple ys => some (.tuple (cutL ys lo hi))
  | .list ys => some (.list (cutL ys lo hi))
  | _ => none
def sSl (f : SE PyData) (fl fh : SE (Option Int)) : SE PyData := bnd f fun d => bnd fl fun lo => bnd fh fun hi => lft (gSl d lo hi)
abbrev rSlX3 (K : PySem.W.Frag) : V → Option Int → Option Int → Hp → VK → Prop := fun x lo hi H Q => rSlS x lo hi H Q ∨ (rSlA K x lo hi H Q ∨ rSlL K x lo hi H Q)
theorem sl_any3 : L2.SlR X (rSlX3 X.K) := L2.SlR.or sl_str (L2.SlR.or sl_tupA sl_list)
theorem cut_whole {α : Type} {xs : List α} {lo hi : Option Int} (h : HT.sIx xs.length 0 lo = 0 ∧ HT.sIx xs.length xs.length hi = xs.length) : cutL xs lo hi = xs := by
  unfold cutL
  rw [h.1, h.2, List.drop_zero, Nat.sub_zero, List.take_length]
theorem px_sl {lo hi : Option Expr} {p2' : Pos} {fl fh : SE (Option Int)} (ha : PX X m1 true a fa) (hl : PXO X m2 lo fl) (hh : PXO X m3 hi fh) : PX X (m1 || (m2 || m3)) true (.Subscript a (.Slice lo hi none p2') pos) (sSl fa fl fh) := pe_imp (pe_slice sl_any3 ha hl hh) fun σ H Q => by
  rintro ⟨vs0, P, E, fps, d, E', rel, hh, q⟩
  obtain ⟨d1, E1, h1, hh⟩ := bnd_some hh
  obtain ⟨l, E2, h2, hh⟩ := bnd_some hh
  obtain ⟨u, E3, h3, hh⟩ := bnd_some hh
  obtain ⟨h4, rfl⟩ := lft_some hh
  refine ⟨vs0, P, E, fps, d1, E1, rel, h1, fun P1 H1 fps1 x r1 s1 m1' dx => ⟨vs0, P1, E1, fps1, l, E2, r1, h2, fun P2 H2 fps2 r2 s2 m2' => ⟨vs0, P2, E2, fps2, u, _, r2, h3, fun P3 H3 fps3 r3 s3 m3' => ?_⟩⟩⟩
  have dx3 : Dq X.K P3 x d1 := Dq.mono (s2.pp.trans s3.pp) dx
  have fin : After X.K P3 H3 d Q := fun P4 H4 w pp su hh fr dw => by
    refine q P4 H4 fps3 w (r3.alloc pp su hh fr) (((s1.trans s2).trans s3).trans (.alloc pp hh fr)) (fun hm => ?_) dw
    rw [Bool.or_eq_false_iff, Bool.or_eq_false_iff] at hm
    exact (((m1' hm.1).trans (m2' hm.2.1)).trans (m3' hm.2.2)).trans hh
  unfold gSl at h4
  split at h4
  · split at h4
    · rename_i hz
      cases h4
      rw [dq_str dx3]
      exact .inl ⟨_, rfl, hz, fin.at r3.sub (.str _)⟩
    · cases h4
  · cases h4
    cases dx3 with
    | @tup ad vs ys hx hv =>
      refine .inr (.inl ⟨ad, vs, rfl, seqT r3.sub hx, fun hw => ?_, fun _ p0 hp => ?_⟩)
      · rw [hv.length] at hw
        rw [cut_whole hw] at fin
        exact fin.at r3.sub (.tup hx hv)
      · exact fin.new r3.sub hp (.tup (SqT.of upd_same) ((cut_dq hv l u).mono (Fw.same_upd (sub_none r3.sub hp))))
  · cases h4
    cases dx3 with
    | @lst ad vs ys hx hv =>
      refine .inr (.inr ⟨ad, vs, rfl, SqL.of (r3.sub _ _ hx), fun p0 hp => ?_⟩)
      exact fin.new r3.sub hp (.lst upd_same ((cut_dq hv l u).mono (Fw.same_upd (sub_none r3.sub hp))))
  · cases h4
end
end Fw
namespace Fw
open PySem PySem.Spec L2
open PyProof.Rows hiding St
section
variable {X : Cx} {m m1 m2 m3 p p1 p2 p3 : Bool} {e a b c : Expr} {es : List Expr} {pos px apos : Pos} {f fa fb fc : SE PyData} {fs fs2 : SE (List PyData)} {x : Str} {K : PySem.W.Frag}

theorem px_call1 {id : String} {r : List V → Hp → VK → Prop} {g : PyData → Option PyData} (hc : CallR X (.builtin id) r) (v : VU X.K p (fun y H Q => r [y] H Q) g) (hg : Gl X x) (hm : X.mg x = none) (hv : bootBuiltins x = some (.builtin id)) (ha : PX X m p a fa)
    (hn : x ≠ "__name__" := by decide) (hd : (x == ("__debug__" : Str)) = false := by decide) (he : starEach [a] X.env = (false, eval a X.env) :: starEach [] X.env := by rfl) : PX X m true (.Call (.Name x px) [a] [] pos) (una fa g) :=
  px_op1 (r := fun y H Q => r [y] H Q) (pe_callB hc hg hm hv (pa_cons ha pa_nil he) hn hd he rfl) v
theorem px_callT1 {T : String} {r : List V → Hp → VK → Prop} {g : PyData → Option PyData} (hc : CallR X (.type T) r) (v : VU X.K p (fun y H Q => r [y] H Q) g) (hg : Gl X x) (hm : X.mg x = none) (hv : bootBuiltins x = some (.type T)) (ha : PX X m p a fa)
    (hn : x ≠ "__name__" := by decide) (hd : (x == ("__debug__" : Str)) = false := by decide) (he : starEach [a] X.env = (false, eval a X.env) :: starEach [] X.env := by rfl) : PX X m true (.Call (.Name x px) [a] [] pos) (una fa g) :=
  px_op1 (r := fun y H Q => r [y] H Q) (pe_callTy hc hg hm hv (pa_cons ha pa_nil he) hn hd he rfl) v
def gLen : PyData → Option PyData
  | .str z => if z.length ≤ sizeLine then some (.int z.length) else none
  | .list ys => some (.int ys.length)
  | .tuple ys => some (.int ys.length)
  | _ => none
theorem vu_len : VU K p (fun y H Q => ∃ x n, [y] = [x] ∧ LenV K x H n ∧ Q (.int n) H) gLen := by
  intro P H y d z Q su dy hg q
  replace dy := Dq.pick su dy
  unfold gLen at hg
  split at hg
  · split at hg
    · rename_i hl
      cases hg
      rw [dq_str dy]
      exact ⟨_, _, rfl, ⟨hl, rfl⟩, q.at su (.int _)⟩
    · cases hg
  · cases hg
    cases dy with
    | @lst l vs _ hx hv => exact ⟨_, _, rfl, .inl ⟨vs, SqL.of hx, rfl⟩, by rw [hv.length]; exact q.at su (.int _)⟩
  · cases hg
    cases dy with
    | @tup l vs _ hx hv => exact ⟨_, _, rfl, .inr ⟨vs, hx, rfl⟩, by rw [hv.length]; exact q.at su (.int _)⟩
  · cases hg
def gAbs : PyData → Option PyData
  | .int i => some (.int (if i < 0 then -i else i))
  | _ => none
theorem vu_abs : VU K p (fun y H Q => ∃ i, [y] = [.int i] ∧ Q (.int (if i < 0 then -i else i)) H) gAbs := by
  intro P H y d z Q su dy hg q
  unfold gAbs at hg
  split at hg
  · cases hg
    rw [dq_int dy]
    exact ⟨_, rfl, q.at su (.int _)⟩
  · cases hg
def gInt : PyData → Option PyData
  | .int i => some (.int i)
  | .bool b => some (.int (if b then 1 else 0))
  | .str z => if z.length ≤ 640 then (PySem.intText? z).map .int else none
  | _ => none
theorem cr_intA : CallR X (.type "int") (fun xs H Q => ((∃ i, xs = [.int i] ∧ Q (.int i) H) ∨ ∃ k, xs = [.bl k] ∧ Q (.int (if k then 1 else 0)) H) ∨ (∃ a n, xs = [.str a] ∧ PySem.intText? a = some n ∧ a.length ≤ 640 ∧ Q (.int n) H)) := call_int1.or call_int_str
theorem vu_int : VU K p (fun y H Q => ((∃ i, [y] = [.int i] ∧ Q (.int i) H) ∨ ∃ k, [y] = [.bl k] ∧ Q (.int (if k then 1 else 0)) H) ∨ (∃ a n, [y] = [.str a] ∧ PySem.intText? a = some n ∧ a.length ≤ 640 ∧ Q (.int n) H)) gInt := by
  intro P H y d z Q su dy hg q
  unfold gInt at hg
  split at hg
  · cases hg
    rw [dq_int dy]
    exact .inl (.inl ⟨_, rfl, q.at su (.int _)⟩)
  · cases hg
    rw [dq_bl dy]
    exact .inl (.inr ⟨_, rfl, q.at su (.int _)⟩)
  · split at hg
    · rename_i s hl
      rw [dq_str dy]
      cases e1 : PySem.intText? s with
      | none => rw [e1] at hg; cases hg
      | some n =>
        rw [e1] at hg
        cases hg
        exact .inr ⟨_, n, rfl, e1, hl, q.at su (.int _)⟩
    · cases hg
  · cases hg
def gOrd : PyData → Option PyData
  | .str z => if z.length = 1 then some (.int (z.cps.getD 0 0 : Nat)) else none
  | _ => none
theorem vu_ord : VU K p (fun y H Q => ∃ x, [y] = [.str x] ∧ x.length = 1 ∧ Q (.int (x.cps.getD 0 0 : Nat)) H) gOrd := by
  intro P H y d z Q su dy hg q
  unfold gOrd at hg
  split at hg
  · split at hg
    · rename_i hl
      cases hg
      rw [dq_str dy]
      exact ⟨_, rfl, hl, q.at su (.int _)⟩
    · cases hg
  · cases hg
def gStr : PyData → Option PyData
  | .int i => if i.natAbs.log2 < 1920 then some (.str (toString i)) else none
  | .str z => some (.str z)
  | _ => none
theorem cr_strA : CallR X (.type "str") (fun xs H Q => (∃ i, xs = [.int i] ∧ i.natAbs.log2 < 1920 ∧ Q (.str (toString i)) H) ∨ (∃ a, xs = [.str a] ∧ Q (.str a) H)) := call_str_int.or SkE.call_str_str
theorem vu_str : VU K p (fun y H Q => (∃ i, [y] = [.int i] ∧ i.natAbs.log2 < 1920 ∧ Q (.str (toString i)) H) ∨ (∃ a, [y] = [.str a] ∧ Q (.str a) H)) gStr := by
  intro P H y d z Q su dy hg q
  unfold gStr at hg
  split at hg
  · split at hg
    · rename_i hl
      cases hg
      rw [dq_int dy]
      exact .inl ⟨_, rfl, hl, q.at su (.str _)⟩
    · cases hg
  · cases hg
    rw [dq_str dy]
    exact .inr ⟨_, rfl, q.at su (.str _)⟩
  · cases hg
def gTuple : PyData → Option PyData
  | .list ys => some (.tuple ys)
  | .tuple ys => some (.tuple ys)
  | _ => none
theorem vu_tuple : VU K true (fun y H Q => ∃ p ys, [y] = [.ref p] ∧ ((SqL K H p ys ∧ ∀ l, H l = none → Q (.ref l) (upd H l (.tup ys))) ∨ (SqT K H p ys ∧ Q (.ref p) H))) gTuple := by
  intro P H y d z Q su dy hg q
  unfold gTuple at hg
  split at hg
  · cases hg
    cases dy with
    | @lst l vs _ hx hv => exact ⟨l, vs, rfl, .inl ⟨SqL.of (su _ _ hx), fun p0 hp => q.new su hp (.tup (SqT.of upd_same) (hv.mono (Fw.same_upd (sub_none su hp))))⟩⟩
  · cases hg
    cases dy with
    | @tup l vs _ hx hv => exact ⟨l, vs, rfl, .inr ⟨seqT su hx, q.at su (.tup hx hv)⟩⟩
  · cases hg
/-- tuple(name of an owned list) -/
def tupO (i : Nat) : SE PyData := fun E => match own? i E with
  | some xs => some (.tuple xs, E)
  | none => none
theorem px_tupO {i : Nat} (hg : Gl X "tuple") (hm : X.mg "tuple" = none) (ha : PE X a (tVar i)) (he : starEach [a] X.env = (false, eval a X.env) :: starEach [] X.env := by rfl) : PX X false true (.Call (.Name "tuple" px) [a] [] pos) (tupO i) :=
  pe_imp (pe_callTy (T := "tuple") call_tuple_of hg hm (by decide +kernel) (pa_cons ha pa_nil he) (by decide) (by decide) he rfl) fun σ H Q => by
  rintro ⟨vs0, P, E, fps, d, E', rel, hh, q⟩
  unfold tupO at hh
  split at hh
  · rename_i xs e1
    cases hh
    obtain ⟨ad, vs, es, -, -, hv, dv⟩ := rel.ownAt e1
    refine ⟨_, es, ad, vs, rfl, .inl ⟨SqL.of hv, fun p0 hp => ?_⟩⟩
    have s1 : Same P (upd P p0 (.tup vs)) := Fw.same_upd (sub_none rel.sub hp)
    exact q (upd P p0 (.tup vs)) (upd H p0 (.tup vs)) fps (.ref p0) (rel.alloc s1 (same_upd2 rel.sub hp) (Fw.same_upd hp) (fresh_upd hp)) (.alloc s1 (Fw.same_upd hp) (fresh_upd hp)) (fun _ => Fw.same_upd hp) (.tup (SqT.of upd_same) (dv.mono s1))
  · cases hh
/-- list(x) -/
def gList : PyData → Option (List PyData)
  | .list ys => some ys
  | .tuple ys => some ys
  | _ => none
def unaL (fa : SE PyData) (g : PyData → Option (List PyData)) : SE (List PyData) := bnd fa fun d => lft (g d)
theorem pl_op1 {r : V → Hp → VK → Prop} {g : PyData → Option (List PyData)} (h : PE X e (fun σ H Q => tX X.K m p fa σ H fun x H1 => r x H1 Q)) (v : ∀ (P H : Hp) (y : V) (d : PyData) (zs : List PyData) (Q : VK), Same P H → Dq X.K (pick p P H) y d → g d = some zs → AfterL X.K P H zs Q → r y H Q) : PL X m e (unaL fa g) := pe_imp h fun σ H Q => by
  rintro ⟨vs0, P, E, fps, d, E', rel, hh, q⟩
  obtain ⟨d1, E1, h1, hh⟩ := bnd_some hh
  obtain ⟨h3, rfl⟩ := lft_some hh
  exact ⟨vs0, P, E, fps, d1, _, rel, h1, fun P1 H1 fps1 x r1 s1 m1' dx => v P1 H1 x d1 d Q r1.sub dx h3 (tXL_end r1 s1 m1' q)⟩
theorem pl_list (hg : Gl X "list") (hm : X.mg "list" = none) (ha : PX X m true a fa) (he : starEach [a] X.env = (false, eval a X.env) :: starEach [] X.env := by rfl) : PL X m (.Call (.Name "list" px) [a] [] pos) (unaL fa gList) :=
  pl_op1 (r := fun y H Q => ∃ p ys, [y] = [.ref p] ∧ (SqL X.K H p ys ∨ SqT X.K H p ys) ∧ ∀ l, H l = none → Q (.ref l) (upd H l (.lst ys))) (pe_callTy (T := "list") call_list_of hg hm (by decide +kernel) (pa_cons ha pa_nil he) (by decide) (by decide) he rfl) (by
    intro P H y d zs Q su dy hg q
    unfold gList at hg
    split at hg
    · cases hg
      cases dy with
      | @lst l vs _ hx hv => exact ⟨l, vs, rfl, .inl (SqL.of (su _ _ hx)), fun p0 hp => q.new su hp hv⟩
    · cases hg
      cases dy with
      | @tup l vs _ hx hv => exact ⟨l, vs, rfl, .inr (seqT su hx), fun p0 hp => q.new su hp hv⟩
    · cases hg)
/-- a list of ints | bools | texts alone -/
def intsOf : List PyData → Option (List Int)
  | [] => some []
  | .int i :: r => (intsOf r).map (i :: ·)
  | _ :: _ => none
def boolsOf : List PyData → Option (List Bool)
  | [] => some []
  | .bool i :: r => (boolsOf r).map (i :: ·)
  | _ :: _ => none
def strsOf : List PyData → Option (List Str)
  | [] => some []
  | .str i :: r => (strsOf r).map (i :: ·)
  | _ :: _ => none
theorem ints_dq {H : Hp} : ∀ {vs : List V} {ds : List PyData} {ns : List Int}, DqAll K H vs ds → intsOf ds = some ns → vs = ns.map V.int
  | _, _, _, .nil, e => by cases e; rfl
  | _, _, _, .cons (d := d) h r, e => by
    cases d <;> first
      | (cases e; done)
      | (rw [dq_int h]
         unfold intsOf at e
         cases e1 : intsOf _ with
         | none => rw [e1] at e; cases e
         | some k => rw [e1] at e; cases e; rw [ints_dq r e1]; rfl)
theorem bools_dq {H : Hp} : ∀ {vs : List V} {ds : List PyData} {ns : List Bool}, DqAll K H vs ds → boolsOf ds = some ns → vs = ns.map V.bl
  | _, _, _, .nil, e => by cases e; rfl
  | _, _, _, .cons (d := d) h r, e => by
    cases d <;> first
      | (cases e; done)
      | (rw [dq_bl h]
         unfold boolsOf at e
         cases e1 : boolsOf _ with
         | none => rw [e1] at e; cases e
         | some k => rw [e1] at e; cases e; rw [bools_dq r e1]; rfl)
theorem strs_dq {H : Hp} : ∀ {vs : List V} {ds : List PyData} {ns : List Str}, DqAll K H vs ds → strsOf ds = some ns → vs = ns.map V.str
  | _, _, _, .nil, e => by cases e; rfl
  | _, _, _, .cons (d := d) h r, e => by
    cases d <;> first
      | (cases e; done)
      | (rw [dq_str h]
         unfold strsOf at e
         cases e1 : strsOf _ with
         | none => rw [e1] at e; cases e
         | some k => rw [e1] at e; cases e; rw [strs_dq r e1]; rfl)
def gSum : PyData → Option PyData
  | .list ys => (intsOf ys).map fun ns => .int ns.sum
  | _ => none
theorem vu_sum : VU K p (fun y H Q => rSum K [y] H Q) gSum := by
  intro P H y d z Q su dy hg q
  replace dy := Dq.pick su dy
  unfold gSum at hg
  split at hg
  · rename_i ys
    cases e1 : intsOf ys with
    | none => rw [e1] at hg; cases hg
    | some ns =>
      rw [e1] at hg
      cases hg
      cases dy with
      | @lst l vs _ hx hv => exact ⟨l, ns, rfl, by rw [← ints_dq hv e1]; exact SqL.of hx, q.at su (.int _)⟩
  · cases hg
def gAll : PyData → Option PyData
  | .list ys => (boolsOf ys).map fun ns => .bool (ns.all id)
  | _ => none
def gAny : PyData → Option PyData
  | .list ys => (boolsOf ys).map fun ns => .bool (ns.any id)
  | _ => none
theorem vu_all : VU K p (fun y H Q => rAll K [y] H Q) gAll := by
  intro P H y d z Q su dy hg q
  replace dy := Dq.pick su dy
  unfold gAll at hg
  split at hg
  · rename_i ys
    cases e1 : boolsOf ys with
    | none => rw [e1] at hg; cases hg
    | some ns =>
      rw [e1] at hg
      cases hg
      cases dy with
      | @lst l vs _ hx hv => exact ⟨l, ns, rfl, by rw [← bools_dq hv e1]; exact SqL.of hx, q.at su (.bl _)⟩
  · cases hg
theorem vu_any : VU K p (fun y H Q => rAny K [y] H Q) gAny := by
  intro P H y d z Q su dy hg q
  replace dy := Dq.pick su dy
  unfold gAny at hg
  split at hg
  · rename_i ys
    cases e1 : boolsOf ys with
    | none => rw [e1] at hg; cases hg
    | some ns =>
      rw [e1] at hg
      cases hg
      cases dy with
      | @lst l vs _ hx hv => exact ⟨l, ns, rfl, by rw [← bools_dq hv e1]; exact SqL.of hx, q.at su (.bl _)⟩
  · cases hg
/-- isinstance(x, T) -/
def tyD : PyData → String
  | .none => "NoneType"
  | .bool _ => "bool"
  | .int _ => "int"
  | .str _ => "str"
  | .list _ => "list"
  | .tuple _ => "tuple"
  | .dict _ => "dict"
def gIsi (T : String) (d : PyData) : Option PyData := (kitB (tyD d) T).map .bool
theorem ty_dq {H : Hp} {y : V} {d : PyData} (h : Dq K H y d) : TyX K H y (.type (tyD d)) := by
  cases h with
  | non => exact .base .non
  | bl b => exact .base (.bl b)
  | int i => exact .base (.int i)
  | str z => exact .base (.str z)
  | lst h _ => exact .base (.lst h)
  | tup h _ =>
    rcases h with (h | ⟨o, h⟩) | ⟨o, its, n, hk, hc, _⟩
    · exact .base (.tup h)
    · exact .fTuple h
    · exact .kTuple hk hc
theorem px_isi {T : Str} {u : String} (hg : Gl X "isinstance") (hm : X.mg "isinstance" = none) (hT : PE X b (tC (.ty u))) (ha : PX X m p a fa) (he : starEach [a, b] X.env = (false, eval a X.env) :: starEach [b] X.env := by rfl) (he2 : starEach [b] X.env = (false, eval b X.env) :: starEach [] X.env := by rfl)
    (hpl : (backTo pos (starEach [b] X.env)).any (·.1) = false := by rfl) : PX X m true (.Call (.Name "isinstance" px) [a, b] [] pos) (una fa (gIsi u)) :=
  px_op1 (r := fun y H Q => rIsi X.K [y, .ty u] H Q) (pe_callB (id := "isinstance") call_isi hg hm (by decide +kernel) (pa_cons ha (pa_cons hT pa_nil he2) he) (by decide) (by decide) he hpl) (by
    intro P H y d z Q su dy hg q
    replace dy := Dq.pick su dy
    unfold gIsi at hg
    cases e1 : kitB (tyD d) u with
    | none => rw [e1] at hg; cases hg
    | some bb =>
      rw [e1] at hg
      cases hg
      exact ⟨y, .ty u, _, _, bb, rfl, .ty u, ty_dq dy, kit_ty e1, q.at su (.bl _)⟩)
/-- min(a, b), max(a, b) of ints -/
def gMax : List PyData → Option PyData
  | [.int i, .int j] => some (.int (if j > i then j else i))
  | _ => none
def gMin : List PyData → Option PyData
  | [.int i, .int j] => some (.int (if j < i then j else i))
  | _ => none
theorem va_max : VAA K (fun xs H Q => ∃ i j, xs = [.int i, .int j] ∧ Q (.int (if j > i then j else i)) H) gMax := by
  intro P H xs ds z Q su dx hg q
  unfold gMax at hg
  split at hg
  · cases hg
    cases dx with
    | cons h1 r1 =>
      cases r1 with
      | cons h2 r2 =>
        cases r2
        rw [dq_int h1, dq_int h2]
        exact ⟨_, _, rfl, q.at su (.int _)⟩
  · cases hg
theorem va_min : VAA K (fun xs H Q => ∃ i j, xs = [.int i, .int j] ∧ Q (.int (if j < i then j else i)) H) gMin := by
  intro P H xs ds z Q su dx hg q
  unfold gMin at hg
  split at hg
  · cases hg
    cases dx with
    | cons h1 r1 =>
      cases r1 with
      | cons h2 r2 =>
        cases r2
        rw [dq_int h1, dq_int h2]
        exact ⟨_, _, rfl, q.at su (.int _)⟩
  · cases hg
theorem px_callN {id : String} {r : List V → Hp → VK → Prop} {g : List PyData → Option PyData} (hc : CallR X (.builtin id) r) (v : VAA X.K r g) (hg : Gl X x) (hm : X.mg x = none) (hv : bootBuiltins x = some (.builtin id)) (ha : PXA X m (a :: es) fs)
    (hn : x ≠ "__name__" := by decide) (hd : (x == ("__debug__" : Str)) = false := by decide) (he : starEach (a :: es) X.env = (false, eval a X.env) :: starEach es X.env := by rfl) (hpl : (backTo pos (starEach es X.env)).any (·.1) = false := by rfl) : PX X m true (.Call (.Name x px) (a :: es) [] pos) (mny fs g) :=
  px_args (r := r) (pe_callB hc hg hm hv ha hn hd he hpl) v

def m1S (fa fb : SE PyData) (g : Str → PyData → Option PyData) : SE PyData := bnd fa fun d => match d with
  | .str s => bnd fb fun e => lft (g s e)
  | _ => fun _ => none
def m1L (fa fb : SE PyData) (g : Str → PyData → Option (List PyData)) : SE (List PyData) := bnd fa fun d => match d with
  | .str s => bnd fb fun e => lft (g s e)
  | _ => fun _ => none
theorem px_m1 {r : V → List V → Hp → VK → Prop} {g : Str → PyData → Option PyData} (h : PE X e (tM1 r (tX X.K m1 true fa) (tX X.K m2 p2 fb))) (v : ∀ (P H : Hp) (s : Str) (y : V) (d z : PyData) (Q : VK), Same P H → Dq X.K (pick p2 P H) y d → g s d = some z → After X.K P H z Q → r (.str s) [y] H Q) : PX X (m1 || m2) true e (m1S fa fb g) := pe_imp h fun σ H Q => by
  rintro ⟨vs0, P, E, fps, d, E', rel, hh, q⟩
  obtain ⟨d1, E1, h1, hh⟩ := bnd_some hh
  split at hh
  · rename_i s
    obtain ⟨d2, E2, h2, hh⟩ := bnd_some hh
    obtain ⟨h3, rfl⟩ := lft_some hh
    refine ⟨vs0, P, E, fps, _, E1, rel, h1, fun P1 H1 fps1 x r1 s1 m1' dx => ⟨⟨s, dq_str dx⟩, vs0, P1, E1, fps1, d2, _, r1, h2, fun P2 H2 fps2 y r2 s2 m2' dy => ?_⟩⟩
    rw [dq_str dx]
    refine v P2 H2 s y d2 d Q r2.sub dy h3 fun P3 H3 w pp su hh fr dw => ?_
    refine q P3 H3 fps2 w (r2.alloc pp su hh fr) ((s1.trans s2).trans (.alloc pp hh fr)) (fun hm => ?_) dw
    rw [Bool.or_eq_false_iff] at hm
    exact ((m1' hm.1).trans (m2' hm.2)).trans hh
  · cases hh
theorem pl_m1 {r : V → List V → Hp → VK → Prop} {g : Str → PyData → Option (List PyData)} (h : PE X e (tM1 r (tX X.K m1 true fa) (tX X.K m2 p2 fb))) (v : ∀ (P H : Hp) (s : Str) (y : V) (d : PyData) (zs : List PyData) (Q : VK), Same P H → Dq X.K (pick p2 P H) y d → g s d = some zs → AfterL X.K P H zs Q → r (.str s) [y] H Q) : PL X (m1 || m2) e (m1L fa fb g) := pe_imp h fun σ H Q => by
  rintro ⟨vs0, P, E, fps, d, E', rel, hh, q⟩
  obtain ⟨d1, E1, h1, hh⟩ := bnd_some hh
  split at hh
  · rename_i s
    obtain ⟨d2, E2, h2, hh⟩ := bnd_some hh
    obtain ⟨h3, rfl⟩ := lft_some hh
    refine ⟨vs0, P, E, fps, _, E1, rel, h1, fun P1 H1 fps1 x r1 s1 m1' dx => ⟨⟨s, dq_str dx⟩, vs0, P1, E1, fps1, d2, _, r1, h2, fun P2 H2 fps2 y r2 s2 m2' dy => ?_⟩⟩
    rw [dq_str dx]
    refine v P2 H2 s y d2 d Q r2.sub dy h3 (tXL_end r2 (s1.trans s2) (fun hm => ?_) q)
    rw [Bool.or_eq_false_iff] at hm
    exact (m1' hm.1).trans (m2' hm.2)
  · cases hh
def m0S (fa : SE PyData) (g : Str → Option PyData) : SE PyData := bnd fa fun d => match d with
  | .str s => lft (g s)
  | _ => fun _ => none
theorem px_m0 {r : V → List V → Hp → VK → Prop} {g : Str → Option PyData} (h : PE X e (tM0 r (tX X.K m p fa))) (v : ∀ (P H : Hp) (s : Str) (z : PyData) (Q : VK), Same P H → g s = some z → After X.K P H z Q → r (.str s) [] H Q) : PX X m true e (m0S fa g) := pe_imp h fun σ H Q => by
  rintro ⟨vs0, P, E, fps, d, E', rel, hh, q⟩
  obtain ⟨d1, E1, h1, hh⟩ := bnd_some hh
  split at hh
  · rename_i s
    obtain ⟨h3, rfl⟩ := lft_some hh
    refine ⟨vs0, P, E, fps, _, _, rel, h1, fun P1 H1 fps1 x r1 s1 m1' dx => ?_⟩
    have ex : x = .str s := by cases p <;> exact dq_str dx
    refine ⟨⟨s, ex⟩, ?_⟩
    rw [ex]
    exact v P1 H1 s d Q r1.sub h3 fun P3 H3 w pp su hh fr dw => q P3 H3 fps1 w (r1.alloc pp su hh fr) (s1.trans (.alloc pp hh fr)) (fun hm => (m1' hm).trans hh) dw
  · cases hh
section
variable {apos : Pos} (hs : starEach [b] X.env = [(false, eval b X.env)] := by rfl) (hbL : attributeBase a "lower" X.env (eval a X.env) = eval a X.env := by rfl) (hline : (apos.endLine == pos.line) = true := by rfl)
def gLower (s : Str) : Option PyData := if s.length ≤ 5592405 then some (.str (Txt.lower s)) else none
def gUpper (s : Str) : Option PyData := if s.length ≤ 5592405 then some (.str (Txt.upper s)) else none
theorem px_lower (ha : PX X m p a fa) (hb : attributeBase a "lower" X.env (eval a X.env) = eval a X.env := by rfl) (hline : (apos.endLine == pos.line) = true := by rfl) : PX X m true (.Call (.Attribute a "lower" apos) [] [] pos) (m0S fa gLower) := px_m0 (pe_lower ha hb hline) (by
  intro P H s z Q su hg q
  unfold gLower at hg
  split at hg
  · rename_i hl
    cases hg
    exact ⟨s, rfl, rfl, hl, q.at su (.str _)⟩
  · cases hg)
theorem px_upper (ha : PX X m p a fa) (hb : attributeBase a "upper" X.env (eval a X.env) = eval a X.env := by rfl) (hline : (apos.endLine == pos.line) = true := by rfl) : PX X m true (.Call (.Attribute a "upper" apos) [] [] pos) (m0S fa gUpper) := px_m0 (pe_upper ha hb hline) (by
  intro P H s z Q su hg q
  unfold gUpper at hg
  split at hg
  · rename_i hl
    cases hg
    exact ⟨s, rfl, rfl, hl, q.at su (.str _)⟩
  · cases hg)
def gStrip (s : Str) : PyData → Option PyData
  | .str t => if s.length ≤ sizeLine then some (.str (Txt.stripChars s t)) else none
  | _ => none
def gLstrip (s : Str) : PyData → Option PyData
  | .str t => if s.length ≤ sizeLine then some (.str (Txt.lstripChars s t)) else none
  | _ => none
theorem px_strip (ha : PX X m1 true a fa) (hb : PX X m2 p2 b fb) (hs : starEach [b] X.env = [(false, eval b X.env)] := by rfl) (hba : attributeBase a "strip" X.env (eval a X.env) = eval a X.env := by rfl) (hline : (apos.endLine == pos.line) = true := by rfl) : PX X (m1 || m2) true (.Call (.Attribute a "strip" apos) [b] [] pos) (m1S fa fb gStrip) :=
  px_m1 (pe_m1 PySem.F.slot_str_strip PySem.F.type_str_strip mt_stripChars ha hb hs hba hline) (by
  intro P H s y d z Q su dy hg q
  unfold gStrip at hg
  split at hg
  · split at hg
    · rename_i hl
      cases hg
      rw [dq_str dy]
      exact ⟨s, _, rfl, rfl, hl, q.at su (.str _)⟩
    · cases hg
  · cases hg)
theorem px_lstrip (ha : PX X m1 true a fa) (hb : PX X m2 p2 b fb) (hs : starEach [b] X.env = [(false, eval b X.env)] := by rfl) (hba : attributeBase a "lstrip" X.env (eval a X.env) = eval a X.env := by rfl) (hline : (apos.endLine == pos.line) = true := by rfl) : PX X (m1 || m2) true (.Call (.Attribute a "lstrip" apos) [b] [] pos) (m1S fa fb gLstrip) :=
  px_m1 (pe_m1 PySem.F.slot_str_lstrip PySem.F.type_str_lstrip mt_lstripChars ha hb hs hba hline) (by
  intro P H s y d z Q su dy hg q
  unfold gLstrip at hg
  split at hg
  · split at hg
    · rename_i hl
      cases hg
      rw [dq_str dy]
      exact ⟨s, _, rfl, rfl, hl, q.at su (.str _)⟩
    · cases hg
  · cases hg)
def gSplit (s : Str) : PyData → Option (List PyData)
  | .str t => if (t.length == 0) = false ∧ s.length + 2 ≤ sizeLine then some ((Txt.split s t).map .str) else none
  | _ => none
theorem strs_all {H : Hp} : ∀ ys : List Str, DqAll K H (ys.map V.str) (ys.map PyData.str)
  | [] => .nil
  | y :: ys => .cons (.str y) (strs_all ys)
theorem ints_all {H : Hp} : ∀ ys : List Int, DqAll K H (ys.map V.int) (ys.map PyData.int)
  | [] => .nil
  | y :: ys => .cons (.int y) (ints_all ys)
theorem pl_split (ha : PX X m1 true a fa) (hb : PX X m2 p2 b fb) (hs : starEach [b] X.env = [(false, eval b X.env)] := by rfl) (hba : attributeBase a "split" X.env (eval a X.env) = eval a X.env := by rfl) (hline : (apos.endLine == pos.line) = true := by rfl) : PL X (m1 || m2) (.Call (.Attribute a "split" apos) [b] [] pos) (m1L fa fb gSplit) :=
  pl_m1 (pe_split ha hb hs hba hline) (by
  intro P H s y d z Q su dy hg q
  unfold gSplit at hg
  split at hg
  · split at hg
    · rename_i hl
      cases hg
      rw [dq_str dy]
      exact ⟨s, _, rfl, rfl, hl.1, hl.2, fun p0 hp => q.new su hp (strs_all _)⟩
    · cases hg
  · cases hg)
def gPartition (s : Str) : PyData → Option PyData
  | .str t => if (t.length == 0) = false ∧ s.length ≤ sizeLine then some (.tuple [.str (Txt.partition s t).1, .str (Txt.partition s t).2.1, .str (Txt.partition s t).2.2]) else none
  | _ => none
theorem px_partition (ha : PX X m1 true a fa) (hb : PX X m2 p2 b fb) (hs : starEach [b] X.env = [(false, eval b X.env)] := by rfl) (hba : attributeBase a "partition" X.env (eval a X.env) = eval a X.env := by rfl) (hline : (apos.endLine == pos.line) = true := by rfl) : PX X (m1 || m2) true (.Call (.Attribute a "partition" apos) [b] [] pos) (m1S fa fb gPartition) :=
  px_m1 (pe_partition ha hb hs hba hline) (by
  intro P H s y d z Q su dy hg q
  unfold gPartition at hg
  split at hg
  · split at hg
    · rename_i hl
      cases hg
      rw [dq_str dy]
      exact ⟨s, _, rfl, rfl, hl.1, hl.2, fun p0 hp => q.new su hp (.tup (SqT.of upd_same) (.cons (.str _) (.cons (.str _) (.cons (.str _) .nil))))⟩
    · cases hg
  · cases hg)
def gJoin (s : Str) : PyData → Option PyData
  | .list ys => match strsOf ys with
    | some zs => if (zs.map (·.length)).sum + zs.length * s.length ≤ 16777216 then some (.str (Txt.join s zs)) else none
    | none => none
  | .tuple ys => match strsOf ys with
    | some zs => if (zs.map (·.length)).sum + zs.length * s.length ≤ 16777216 then some (.str (Txt.join s zs)) else none
    | none => none
  | _ => none
theorem px_join (ha : PX X m1 true a fa) (hb : PX X m2 p2 b fb) (hs : starEach [b] X.env = [(false, eval b X.env)] := by rfl) (hba : attributeBase a "join" X.env (eval a X.env) = eval a X.env := by rfl) (hline : (apos.endLine == pos.line) = true := by rfl) : PX X (m1 || m2) true (.Call (.Attribute a "join" apos) [b] [] pos) (m1S fa fb gJoin) :=
  px_m1 (pe_join ha hb hs hba hline) (by
  intro P H s y d z Q su dy hg q
  replace dy := Dq.pick su dy
  unfold gJoin at hg
  split at hg
  · split at hg
    · rename_i zs e1
      split at hg
      · rename_i hl
        cases hg
        cases dy with
        | @lst l vs _ hx hv => exact ⟨s, l, zs, rfl, rfl, .inl (by rw [← strs_dq hv e1]; exact SqL.of hx), hl, q.at su (.str _)⟩
      · cases hg
    · cases hg
  · split at hg
    · rename_i zs e1
      split at hg
      · rename_i hl
        cases hg
        cases dy with
        | @tup l vs _ hx hv => exact ⟨s, l, zs, rfl, rfl, .inr (by rw [← strs_dq hv e1]; exact hx), hl, q.at su (.str _)⟩
      · cases hg
    · cases hg
  · cases hg)
end

def gFmt : PyData → Option PyData
  | .str y => if y.length ≤ sizeLine then some (.str y) else none
  | .int i => if i.natAbs.log2 < 1920 then some (.str (toString i)) else none
  | _ => none
theorem px_fmt (ha : PX X m p a fa) : PX X m true (.FormattedValue a (-1) none pos) (una fa gFmt) := px_op1 (r := fun x H1 Q => (∃ y : Str, x = .str y ∧ y.length ≤ sizeLine ∧ Q (.str y) H1) ∨ ∃ i : Int, x = .int i ∧ i.natAbs.log2 < 1920 ∧ Q (.str (toString i)) H1) (pe_fmt ha) (by
  intro P H y d z Q su dy hg q
  unfold gFmt at hg
  split at hg
  · split at hg
    · rename_i hl
      cases hg
      exact .inl ⟨_, dq_str dy, hl, q.at su (.str _)⟩
    · cases hg
  · split at hg
    · rename_i hl
      cases hg
      exact .inr ⟨_, dq_int dy, hl, q.at su (.str _)⟩
    · cases hg
  · cases hg)
inductive PXJ (X : Cx) : List Expr → List (SE PyData) → Prop where
  | nil : PXJ X [] []
  | cons {e : Expr} {m p : Bool} {f : SE PyData} {es : List Expr} {fs : List (SE PyData)} (h : PX X m p e f) (r : PXJ X es fs) : PXJ X (e :: es) (f :: fs)
def jns : List (SE PyData) → Str → SE PyData
  | [], acc => ret (.str acc)
  | f :: fs, acc => bnd f fun d => match d with
    | .str y => if (acc ++ y).length ≤ sizeLine then jns fs (acc ++ y) else fun _ => none
    | _ => fun _ => none
theorem pj_of {es : List Expr} {fs : List (SE PyData)} (h : PXJ X es fs) : ∃ ts, PJ X es ts ∧ ∀ (acc : Str) (σ : L2.St) (H : Hp) (Q : VK), tX X.K true true (jns fs acc) σ H Q → tJs ts acc σ H fun out H1 => Q (.str out) H1 := by
  induction h with
  | nil =>
    refine ⟨[], .nil, fun acc σ H Q => ?_⟩
    rintro ⟨vs0, P, E, fps, d, E', rel, hh, q⟩
    obtain ⟨rfl, rfl⟩ := ret_some hh
    exact q P H fps _ rel (.refl _ _ _) (fun _ => Same.refl H) (.str acc)
  | @cons e m p f es fs h r ih =>
    obtain ⟨ts, h1, h2⟩ := ih
    refine ⟨tX X.K m p f :: ts, .cons h h1, fun acc σ H Q => ?_⟩
    rintro ⟨vs0, P, E, fps, d, E', rel, hh, q⟩
    obtain ⟨d1, E1, g1, hh⟩ := bnd_some hh
    split at hh
    · rename_i y
      split at hh
      · rename_i hl
        refine ⟨vs0, P, E, fps, _, E1, rel, g1, fun P1 H1 fps1 x r1 s1 m1' dx => ⟨y, by cases p <;> exact dq_str dx, hl, h2 _ σ H1 Q ⟨vs0, P1, E1, fps1, d, E', r1, hh, fun P2 H2 fps2 v r2 s2 m2' dv => q P2 H2 fps2 v r2 (s1.trans s2) (fun hm => nomatch hm) dv⟩⟩⟩
      · cases hh
    · cases hh
theorem px_joined {v1 v2 : Expr} {rest : List Expr} {fs : List (SE PyData)} (h : PXJ X (v1 :: v2 :: rest) fs) : PX X true true (.JoinedStr (v1 :: v2 :: rest) pos) (jns fs Str.empty) := by
  obtain ⟨ts, h1, h2⟩ := pj_of h
  exact pe_imp (pe_joined h1) fun σ H Q q => h2 _ σ H Q q
theorem px_joined1 (h : PX X m p e f) : PX X m p (.JoinedStr [e] pos) f := pe_joined1 h
end
end Fw
namespace Fw
open PySem PySem.Spec L2
open PyProof.Rows hiding St
structure Snap (K : PySem.W.Frag) (J : It) (G : Hp → Prop) (ds : List PyData) : Prop where
  mono : ∀ P P', Same P P' → G P → G P'
  go : ∀ (i : Nat) (P H : Hp), i < ds.length → G P → Same P H → J.go i H
  yld : ∀ (i : Nat) (P H : Hp) (y : V) (H' : Hp) (d : PyData), G P → Same P H → ds[i]? = some d → J.yld i H y H' → ∃ P', Same P P' ∧ Same P' H' ∧ Same H H' ∧ Fresh NoF P H P' ∧ Dq K P' y d
  stop : ∀ (P H : Hp), G P → Same P H → J.stop ds.length H
def tXI (K : PySem.W.Frag) (m : Bool) (f : SE (List PyData)) : TI := fun σ H R => ∃ (vs0 : List V) (P : Hp) (E : En) (fps : Nat → List Addr) (ds : List PyData) (E' : En), Rel K vs0 P E σ H fps ∧ f E = some (ds, E') ∧
  ∀ (P' H' : Hp) (fps' : Nat → List Addr) (J : It) (G : Hp → Prop), Rel K vs0 P' E' σ H' fps' → Step (In fps) P H (In fps') P' H' → (m = false → Same H H') → Snap K J G ds → G P' → R J H'
def PXI (X : Cx) (m : Bool) (tg e : Expr) (f : SE (List PyData)) : Prop := PI X tg e (tXI X.K m f)
def signs (z : Str) : List PyData := z.cps.toList.map fun c => .str ⟨#[c]⟩
def itemsOf : PyData → Option (List PyData)
  | .list ys => some ys
  | .tuple ys => some ys
  | .str z => some (signs z)
  | _ => none
theorem snap_list {K : PySem.W.Frag} {a : Addr} {vs : List V} {ds : List PyData} : Snap K (Itl K a) (fun P => P a = some (.lst vs) ∧ DqAll K P vs ds) ds where
  mono := fun P P' s h => ⟨s _ _ h.1, h.2.mono s⟩
  go := fun i P H hi h s => ⟨vs, vs[i]'(by rw [h.2.length]; exact hi), SqL.of (s _ _ h.1), by simp⟩
  yld := fun i P H y H' d h s hd hy => by
    obtain ⟨rfl, hy⟩ := hy
    obtain ⟨v, h1, h2⟩ := h.2.get hd
    have h3 := hy vs (SqL.of (s _ _ h.1))
    rw [h1] at h3
    cases h3
    exact ⟨P, Same.refl P, s, Same.refl _, .same, h2⟩
  stop := fun P H h s => ⟨vs, SqL.of (s _ _ h.1), by rw [h.2.length]; exact Nat.le_refl _⟩
theorem snap_tup {K : PySem.W.Frag} {a : Addr} {vs : List V} {ds : List PyData} : Snap K (Itt K a) (fun P => SqT K P a vs ∧ DqAll K P vs ds) ds where
  mono := fun P P' s h => ⟨seqT s h.1, h.2.mono s⟩
  go := fun i P H hi h s => ⟨vs, vs[i]'(by rw [h.2.length]; exact hi), seqT s h.1, by simp⟩
  yld := fun i P H y H' d h s hd hy => by
    obtain ⟨rfl, hy⟩ := hy
    obtain ⟨v, h1, h2⟩ := h.2.get hd
    have h3 := hy vs (seqT s h.1)
    rw [h1] at h3
    cases h3
    exact ⟨P, Same.refl P, s, Same.refl _, .same, h2⟩
  stop := fun P H h s => ⟨vs, seqT s h.1, by rw [h.2.length]; exact Nat.le_refl _⟩
theorem snap_str {K : PySem.W.Frag} {z : Str} : Snap K (Its z) (fun _ => True) (signs z) where
  mono := fun _ _ _ _ => trivial
  go := fun i P H hi _ _ => by
    show i < z.cps.size
    simpa [signs] using hi
  yld := fun i P H y H' d _ s hd hy => by
    obtain ⟨rfl, c, h1, rfl⟩ := hy
    refine ⟨P, Same.refl P, s, Same.refl _, .same, ?_⟩
    unfold signs at hd
    rw [List.getElem?_map, Array.getElem?_toList, h1] at hd
    cases hd
    exact .str _
  stop := fun P H _ _ => by
    show z.cps.size ≤ (signs z).length
    simp [signs]
theorem snap_scr {K : PySem.W.Frag} {a : Addr} {ns : List Int} : Snap K (Itl K a) (fun P => SqL K P a (ns.map V.int)) (ns.map PyData.int) where
  mono := fun P P' s h => s.seq h
  go := fun i P H hi h s => ⟨ns.map V.int, (ns.map V.int)[i]'(by simpa using hi), s.seq h, by simp⟩
  yld := fun i P H y H' d h s hd hy => by
    obtain ⟨rfl, hy⟩ := hy
    have h3 := hy _ (s.seq h)
    refine ⟨P, Same.refl P, s, Same.refl _, .same, ?_⟩
    rw [List.getElem?_map] at hd h3
    cases e : ns[i]? with
    | none => rw [e] at hd; cases hd
    | some n =>
      rw [e] at hd h3
      cases hd
      cases h3
      exact .int n
  stop := fun P H h s => ⟨_, s.seq h, by simp⟩
def rngL (lo : Int) (n : Nat) : List PyData := (List.range n).map fun i => .int (lo + (i : Nat))
theorem snap_rng {K : PySem.W.Frag} {lo : Int} {n : Nat} : Snap K (Itr lo n) (fun _ => True) (rngL lo n) where
  mono := fun _ _ _ _ => trivial
  go := fun i P H hi _ _ => by
    show i < n
    simpa [rngL] using hi
  yld := fun i P H y H' d _ s hd hy => by
    obtain ⟨rfl, rfl⟩ := hy
    refine ⟨P, Same.refl P, s, Same.refl _, .same, ?_⟩
    unfold rngL at hd
    rw [List.getElem?_map] at hd
    cases e : (List.range n)[i]? with
    | none => rw [e] at hd; cases hd
    | some k =>
      rw [e] at hd
      have : k = i := by
        have := List.getElem?_eq_some_iff.mp e
        obtain ⟨h1, h2⟩ := this
        rw [List.getElem_range] at h2
        exact h2.symm
      subst this
      cases hd
      exact .int _
  stop := fun P H _ _ => by
    show n ≤ (rngL lo n).length
    simp [rngL]
theorem pi_imp {X : Cx} {tg e : Expr} {t u : TI} (h : PI X tg e t) (i : ∀ σ H R, u σ H R → t σ H R) : PI X tg e u := ⟨fun pins s σ H R I q => h.run pins s σ H R I (i σ H R q)⟩
section
variable {X : Cx} {m m1 m2 m3 p p1 p2 p3 : Bool} {e a b c tg : Expr} {es : List Expr} {pos px apos : Pos} {f fa fb fc : SE PyData} {fs fs2 : SE (List PyData)} {x : Str}
/-- data that is walked -/
def sItems (fa : SE PyData) : SE (List PyData) := bnd fa fun d => lft (itemsOf d)
theorem pxi_data (h : PX X m true a fa) : PXI X m tg a (sItems fa) := ⟨fun pins s σ H R I q => by
  obtain ⟨vs0, P, E, fps, ds, E', rel, hh, q⟩ := q
  obtain ⟨d, E1, h1, hh⟩ := bnd_some hh
  obtain ⟨h2, rfl⟩ := lft_some hh
  unfold itemsOf at h2
  split at h2
  · cases h2
    refine (pi_list h).run pins s σ H R I ⟨vs0, P, E, fps, _, _, rel, h1, fun P1 H1 fps1 v r1 s1 m1' dv => ?_⟩
    cases dv with
    | @lst ad vs _ hx hv => exact ⟨ad, rfl, ⟨vs, SqL.of (r1.sub _ _ hx)⟩, q P1 H1 fps1 _ _ r1 s1 m1' snap_list ⟨hx, hv⟩⟩
  · cases h2
    refine (pi_tup h).run pins s σ H R I ⟨vs0, P, E, fps, _, _, rel, h1, fun P1 H1 fps1 v r1 s1 m1' dv => ?_⟩
    cases dv with
    | @tup ad vs _ hx hv => exact ⟨ad, rfl, ⟨vs, seqT r1.sub hx⟩, q P1 H1 fps1 _ _ r1 s1 m1' snap_tup ⟨hx, hv⟩⟩
  · cases h2
    refine (pi_str h).run pins s σ H R I ⟨vs0, P, E, fps, _, _, rel, h1, fun P1 H1 fps1 v r1 s1 m1' dv => ?_⟩
    exact ⟨_, dq_str dv, q P1 H1 fps1 _ _ r1 s1 m1' snap_str trivial⟩
  · cases h2⟩
/-- the script -/
def sScr (i : Nat) : SE (List PyData) := fun E => match E[i]? with
  | some (.scr ns) => some (ns.map .int, E)
  | _ => none
theorem pxi_scr {i : Nat} (h : PE X a (tVar i)) : PXI X false tg a (sScr i) := pi_imp (pi_list h) fun σ H R => by
  rintro ⟨vs0, P, E, fps, ds, E', rel, hh, q⟩
  unfold sScr at hh
  split at hh
  · rename_i ns e1
    cases hh
    obtain ⟨ov, e2, s⟩ := rel.sl i _ e1
    generalize hfp : fps i = fp at s
    cases s with
    | scr hs => exact ⟨_, e2, _, rfl, ⟨_, rel.sub.seq hs⟩, q P H fps _ _ rel (.refl _ _ _) (fun _ => Same.refl H) snap_scr hs⟩
  · cases hh
/-- range(n), range(a, b) -/
def sRng1 (fa : SE PyData) : SE (List PyData) := bnd fa fun d => match d with
  | .int j => if -(2 ^ 62) ≤ j ∧ j < 2 ^ 62 then ret (rngL 0 j.toNat) else fun _ => none
  | _ => fun _ => none
theorem pxi_rng1 (hg : Gl X "range") (hm : X.mg "range" = none) (h : PX X m p a fa) (hs : starEach [a] X.env = [(false, eval a X.env)] := by rfl) : PXI X m tg (.Call (.Name "range" px) [a] [] pos) (sRng1 fa) := pi_imp (pi_range1 hg hm (pa_cons h pa_nil hs) hs) fun σ H R => by
  rintro ⟨vs0, P, E, fps, ds, E', rel, hh, q⟩
  obtain ⟨d, E1, h1, hh⟩ := bnd_some hh
  split at hh
  · split at hh
    · rename_i j hj
      obtain ⟨rfl, rfl⟩ := ret_some hh
      refine ⟨vs0, P, E, fps, _, _, rel, h1, fun P1 H1 fps1 v r1 s1 m1' dv => ⟨j, by rw [dq_int dv], hj.1, hj.2, q P1 H1 fps1 _ _ r1 s1 m1' snap_rng trivial⟩⟩
    · cases hh
  · cases hh
def sRng2 (fa fb : SE PyData) : SE (List PyData) := bnd fa fun d => bnd fb fun e => match d, e with
  | .int i, .int j => if -(2 ^ 62) ≤ i ∧ i < 2 ^ 62 ∧ -(2 ^ 62) ≤ j ∧ j < 2 ^ 62 then ret (rngL i (j - i).toNat) else fun _ => none
  | _, _ => fun _ => none
theorem pxi_rng2 (hg : Gl X "range") (hm : X.mg "range" = none) (ha : PX X m1 p1 a fa) (hb : PX X m2 p2 b fb) (hs : starEach [a, b] X.env = [(false, eval a X.env), (false, eval b X.env)] := by rfl) (hs2 : starEach [b] X.env = [(false, eval b X.env)] := by rfl) : PXI X (m1 || m2) tg (.Call (.Name "range" px) [a, b] [] pos) (sRng2 fa fb) :=
  pi_imp (pi_range2 hg hm (pa_cons ha (pa_cons hb pa_nil hs2) (by rw [hs, hs2])) hs hs2) fun σ H R => by
  rintro ⟨vs0, P, E, fps, ds, E', rel, hh, q⟩
  obtain ⟨d, E1, h1, hh⟩ := bnd_some hh
  obtain ⟨d2, E2, h2, hh⟩ := bnd_some hh
  split at hh
  · split at hh
    · rename_i hj
      obtain ⟨rfl, rfl⟩ := ret_some hh
      refine ⟨vs0, P, E, fps, _, _, rel, h1, fun P1 H1 fps1 v r1 s1 m1' dv => ⟨vs0, P1, _, fps1, _, _, r1, h2, fun P2 H2 fps2 w r2 s2 m2' dw => ⟨_, _, by rw [dq_int dv, dq_int dw], hj, q P2 H2 fps2 _ _ r2 (s1.trans s2) (fun hm => ?_) snap_rng trivial⟩⟩⟩
      rw [Bool.or_eq_false_iff] at hm
      exact (m1' hm.1).trans (m2' hm.2)
    · cases hh
  · cases hh
/-- the name of a list that is not changed any more -/
def rdA (i : Nat) : SE PyData := fun E => match E[i]? with
  | some (.dat d) => some (d, E)
  | some (.own xs) => some (.list xs, E.set i (.dat (.list xs)))
  | _ => none
end

section
variable {K : PySem.W.Frag} {vs0 : List V} {P P' : Hp} {E E' : En} {σ σ' : L2.St} {H H' : Hp} {fps fps' : Nat → List Addr}
def clr (fps : Nat → List Addr) (i : Nat) (l : List Addr) : Nat → List Addr := fun j => if j = i then l else fps j
theorem in_clr {i : Nat} {l : List Addr} {a : Addr} (h : In (clr fps i l) a) : a ∈ l ∨ In fps a := by
  obtain ⟨j, hj⟩ := h
  unfold clr at hj
  split at hj
  · exact .inl hj
  · exact .inr ⟨j, hj⟩
theorem Rel.put {i : Nat} {s : Sl} {ov : Option V} {l : List Addr} (r : Rel K vs0 P E σ H fps) (hs : SlR K P H s ov l) (hl : ∀ a ∈ l, ∀ j, j ≠ i → a ∉ fps j) (hp : ∀ xs v, vs0[i]? = some v → s = .own xs → ov = some v) : Rel K vs0 P (E.set i s) (σ.set i ov) H (if i < E.length then clr fps i l else fps) := by
  by_cases hi : i < E.length
  · rw [if_pos hi]
    have hi' : i < σ.length := by rw [← r.len]; exact hi
    refine ⟨r.sub, by rw [List.length_set, List.length_set]; exact r.len, fun j t ht => ?_, fun j hj => ?_, fun j k a hj hk => ?_, fun j xs v hv ht => ?_⟩
    · by_cases e : i = j
      · subst e
        rw [List.getElem?_set_self hi] at ht
        cases ht
        exact ⟨ov, List.getElem?_set_self hi', by unfold clr; rw [if_pos rfl]; exact hs⟩
      · rw [List.getElem?_set_ne e] at ht
        obtain ⟨w, h1, h2⟩ := r.sl j t ht
        exact ⟨w, by rw [List.getElem?_set_ne e]; exact h1, by unfold clr; rw [if_neg (Ne.symm e)]; exact h2⟩
    · rw [List.length_set] at hj
      unfold clr
      rw [if_neg (by omega)]
      exact r.out j hj
    · unfold clr at hj hk
      by_cases e1 : j = i
      · by_cases e2 : k = i
        · exact e1.trans e2.symm
        · rw [if_pos e1] at hj
          rw [if_neg e2] at hk
          exact absurd hk (hl a hj k e2)
      · by_cases e2 : k = i
        · rw [if_neg e1] at hj
          rw [if_pos e2] at hk
          exact absurd hj (hl a hk j e1)
        · rw [if_neg e1] at hj
          rw [if_neg e2] at hk
          exact r.dj j k a hj hk
    · by_cases e : i = j
      · subst e
        rw [List.getElem?_set_self hi] at ht
        rw [List.getElem?_set_self hi']
        exact congrArg some (hp xs v hv (Option.some.inj ht))
      · rw [List.getElem?_set_ne e] at ht
        rw [List.getElem?_set_ne e]
        exact r.par j xs v hv ht
  · rw [if_neg hi]
    have hi' : ¬ i < σ.length := by rw [← r.len]; exact hi
    rw [List.set_eq_of_length_le (by omega), List.set_eq_of_length_le (by omega)]
    exact r
theorem Rel.putDat {i : Nat} {d : PyData} {v : V} (r : Rel K vs0 P E σ H fps) (h : Dq K P v d) : ∃ fps', Rel K vs0 P (E.set i (.dat d)) (σ.set i (some v)) H fps' ∧ Step (In fps) P H (In fps') P H := by
  refine ⟨_, r.put (.dat h) (fun a ha => nomatch ha) (fun xs v' _ e => nomatch e), Same.refl P, fun a o h1 _ => h1, .same, fun a ha => ?_, fun a o h1 => ⟨o, h1⟩⟩
  split at ha
  · rcases in_clr ha with h1 | h1
    · cases h1
    · exact .inl h1
  · exact .inl ha
theorem Rel.putUn {i : Nat} {ov : Option V} (r : Rel K vs0 P E σ H fps) : ∃ fps', Rel K vs0 P (E.set i .un) (σ.set i ov) H fps' ∧ Step (In fps) P H (In fps') P H := by
  refine ⟨_, r.put .un (fun a ha => nomatch ha) (fun xs v' _ e => nomatch e), Same.refl P, fun a o h1 _ => h1, .same, fun a ha => ?_, fun a o h1 => ⟨o, h1⟩⟩
  split at ha
  · rcases in_clr ha with h1 | h1
    · cases h1
    · exact .inl h1
  · exact .inl ha
/-- an owned list becomes data -/
theorem Rel.freeze {i : Nat} {xs : List PyData} (r : Rel K vs0 P E σ H fps) (h : own? i E = some xs) : ∃ (ad : Addr) (vs : List V), σ[i]? = some (some (.ref ad)) ∧ Rel K vs0 (upd P ad (.lst vs)) (E.set i (.dat (.list xs))) σ H (clr fps i []) ∧
    Step (In fps) P H (In (clr fps i [])) (upd P ad (.lst vs)) H ∧ Dq K (upd P ad (.lst vs)) (.ref ad) (.list xs) := by
  obtain ⟨ad, vs, es, ef, pa, ha, dv⟩ := r.ownAt h
  have s1 : Same P (upd P ad (.lst vs)) := Fw.same_upd pa
  have dq : Dq K (upd P ad (.lst vs)) (.ref ad) (.list xs) := .lst upd_same (dv.mono s1)
  have hi : i < E.length := by
    have := own?_some h
    exact (List.getElem?_eq_some_iff.mp this).1
  refine ⟨ad, vs, es, ⟨fun x u hx => ?_, by rw [List.length_set]; exact r.len, fun j t ht => ?_, fun j hj => ?_, fun j k a hj hk => ?_, fun j ys v hv ht => ?_⟩, ⟨s1, fun a o h1 _ => h1, fun a o hx => ?_, fun a ha' => ?_, fun a o h1 => ⟨o, h1⟩⟩, dq⟩
  · by_cases e : x = ad
    · subst e
      rw [upd_same] at hx
      cases hx
      exact ha
    · rw [upd_ne e] at hx
      exact r.sub x u hx
  · by_cases e : i = j
    · subst e
      rw [List.getElem?_set_self hi] at ht
      cases ht
      exact ⟨_, es, by unfold clr; rw [if_pos rfl]; exact .dat dq⟩
    · rw [List.getElem?_set_ne e] at ht
      obtain ⟨ov, h1, h2⟩ := r.sl j t ht
      refine ⟨ov, h1, ?_⟩
      unfold clr
      rw [if_neg (Ne.symm e)]
      refine h2.mono s1 fun a ha' => ⟨rfl, ?_⟩
      have : a ≠ ad := fun z => e (r.dj i j ad (by rw [ef]; exact List.mem_singleton.mpr rfl) (z ▸ ha'))
      rw [upd_ne this]
      exact (h2.foot ha').1
  · rw [List.length_set] at hj
    unfold clr
    rw [if_neg (by omega)]
    exact r.out j hj
  · unfold clr at hj hk
    split at hj
    · cases hj
    · split at hk
      · cases hk
      · exact r.dj j k a hj hk
  · by_cases e : i = j
    · subst e
      rw [List.getElem?_set_self hi] at ht
      cases ht
    · rw [List.getElem?_set_ne e] at ht
      exact r.par j ys v hv ht
  · by_cases e : a = ad
    · subst e
      exact .inr (.inr ⟨i, by rw [ef]; exact List.mem_singleton.mpr rfl⟩)
    · rw [upd_ne e] at hx
      exact .inl ⟨o, hx⟩
  · rcases in_clr ha' with h1 | h1
    · cases h1
    · exact .inl h1
end
section
variable {X : Cx} {m m1 m2 m3 p p1 p2 p3 : Bool} {e a b c tg : Expr} {es : List Expr} {pos px apos : Pos} {f fa fb fc : SE PyData} {fs fs2 : SE (List PyData)} {x : Str}
theorem px_any {i : Nat} (h : PE X e (tVar i)) : PX X true true e (rdA i) := pe_imp h fun σ H Q => by
  rintro ⟨vs0, P, E, fps, d, E', r, hf, q⟩
  unfold rdA at hf
  split at hf
  · rename_i d' e1
    cases hf
    obtain ⟨ov, e2, s⟩ := r.sl i _ e1
    generalize hfp : fps i = fp at s
    cases s with
    | dat dv => exact ⟨_, e2, q P H fps _ r (.refl _ _ _) (fun h => nomatch h) dv⟩
  · rename_i xs e1
    cases hf
    have e2 : own? i E = some xs := by unfold own?; rw [e1]
    obtain ⟨ad, vs, es, r1, s1, dq⟩ := r.freeze e2
    exact ⟨_, es, q _ H _ _ r1 s1 (fun h => nomatch h) dq⟩
  · cases hf
end
end Fw
namespace Fw
open PySem PySem.Spec L2
open PyProof.Rows hiding St
inductive Fl where
  | nx | bk | ct
  | rt (s : Sl)
abbrev SS := En → Option (Fl × En)
/-- what is wanted behind a statement that ends so -/
def Con (K : PySem.W.Frag) (vs0 : List V) (D : Ends) (F : Addr → Prop) (P H : Hp) : Fl → En → Prop
  | .nx, E' => ∀ (P' H' : Hp) (fps' : Nat → List Addr) (σ' : L2.St), Rel K vs0 P' E' σ' H' fps' → Step F P H (In fps') P' H' → D.nx σ' H'
  | .bk, E' => ∀ (P' H' : Hp) (fps' : Nat → List Addr) (σ' : L2.St), Rel K vs0 P' E' σ' H' fps' → Step F P H (In fps') P' H' → D.bk σ' H'
  | .ct, E' => ∀ (P' H' : Hp) (fps' : Nat → List Addr) (σ' : L2.St), Rel K vs0 P' E' σ' H' fps' → Step F P H (In fps') P' H' → D.ct σ' H'
  | .rt s, E' => ∀ (P' H' : Hp) (fps' : Nat → List Addr) (σ' : L2.St) (v : V) (fr : List Addr), Rel K vs0 P' E' σ' H' fps' → Step F P H (fun a => In fps' a ∨ a ∈ fr) P' H' → SlR K P' H' s (some v) fr → (∀ a ∈ fr, ¬ In fps' a) → D.rt v H'
theorem Con.on {K : PySem.W.Frag} {vs0 : List V} {D : Ends} {F F1 : Addr → Prop} {P H P1 H1 : Hp} {fl : Fl} {E' : En} (c : Con K vs0 D F P H fl E') (s : Step F P H F1 P1 H1) : Con K vs0 D F1 P1 H1 fl E' := by
  cases fl with
  | nx => exact fun P' H' fps' σ' r st => c P' H' fps' σ' r (s.trans st)
  | bk => exact fun P' H' fps' σ' r st => c P' H' fps' σ' r (s.trans st)
  | ct => exact fun P' H' fps' σ' r st => c P' H' fps' σ' r (s.trans st)
  | rt s' => exact fun P' H' fps' σ' v fr r st q1 q2 => c P' H' fps' σ' v fr r (s.trans st) q1 q2
/-- n: the parameters' number -/
def tS (K : PySem.W.Frag) (n : Nat) (f : SS) : TS := fun D σ H => ∃ (vs0 : List V) (P : Hp) (E : En) (fps : Nat → List Addr) (fl : Fl) (E' : En), vs0.length = n ∧ Rel K vs0 P E σ H fps ∧ f E = some (fl, E') ∧ Con K vs0 D (In fps) P H fl E'
def PXS1 (X : Cx) (n : Nat) (st : Stmt) (f : SS) : Prop := PS X st (tS X.K n f)
def PXS (X : Cx) (n : Nat) (st : List Stmt) (f : SS) : Prop := PSs X st (tS X.K n f)
def seqS (f g : SS) : SS := fun E => match f E with
  | some (.nx, E') => g E'
  | r => r
def nxt : SS := fun E => some (.nx, E)
section
variable {X : Cx} {n : Nat} {m m1 m2 m3 p p1 p2 p3 : Bool} {st : Stmt} {sts sts2 : List Stmt} {e a b c tg : Expr} {es : List Expr} {pos px apos : Pos} {f fa fb fc : SE PyData} {fs fs2 : SE (List PyData)} {x : Str} {g h : SS}
theorem pxs_nil : PXS X n [] nxt := pss_imp pss_nil fun D σ H => by
  rintro ⟨vs0, P, E, fps, fl, E', hn, r, hf, q⟩
  cases hf
  exact q P H fps σ r (.refl _ _ _)
theorem pxs_one (h1 : PXS1 X n st g) : PXS X n [st] g := pss_one h1
theorem pxs_cons (h1 : PXS1 X n st g) (h2 : PXS X n sts h) : PXS X n (st :: sts) (seqS g h) := pss_imp (pss_cons h1 h2) fun D σ H => by
  rintro ⟨vs0, P, E, fps, fl, E', hn, r, hf, q⟩
  unfold seqS at hf
  split at hf
  · rename_i E1 e1
    exact ⟨vs0, P, E, fps, .nx, E1, hn, r, e1, fun P1 H1 fps1 σ1 r1 s1 => ⟨vs0, P1, E1, fps1, fl, E', hn, r1, hf, q.on s1⟩⟩
  · rename_i hne
    refine ⟨vs0, P, E, fps, fl, E', hn, r, hf, ?_⟩
    cases fl with
    | nx => exact absurd hf (hne E')
    | bk => exact q
    | ct => exact q
    | rt s => exact q
theorem pxs_pass : PXS1 X n (.Pass pos) nxt := ps_imp ps_pass fun D σ H => by
  rintro ⟨vs0, P, E, fps, fl, E', hn, r, hf, q⟩
  cases hf
  exact q P H fps σ r (.refl _ _ _)
def brkS : SS := fun E => some (.bk, E)
def cntS : SS := fun E => some (.ct, E)
theorem pxs_break : PXS1 X n (.Break pos) brkS := ps_imp ps_break fun D σ H => by
  rintro ⟨vs0, P, E, fps, fl, E', hn, r, hf, q⟩
  cases hf
  exact q P H fps σ r (.refl _ _ _)
theorem pxs_cont : PXS1 X n (.Continue pos) cntS := ps_imp ps_continue fun D σ H => by
  rintro ⟨vs0, P, E, fps, fl, E', hn, r, hf, q⟩
  cases hf
  exact q P H fps σ r (.refl _ _ _)
/-- an expression dropped -/
def drpS (fa : SE PyData) : SS := fun E => match fa E with
  | some (_, E') => some (.nx, E')
  | none => none
theorem pxs_drop (h1 : PX X m p e fa) (hs : swapsWith e none pos.line X.env = pure false := by rfl) : PXS1 X n (.Expr e pos) (drpS fa) := ps_imp (ps_expr h1 hs) fun D σ H => by
  rintro ⟨vs0, P, E, fps, fl, E', hn, r, hf, q⟩
  unfold drpS at hf
  split at hf
  · rename_i d E1 e1
    cases hf
    exact ⟨vs0, P, E, fps, d, _, r, e1, fun P1 H1 fps1 v r1 s1 _ _ => q P1 H1 fps1 σ r1 s1⟩
  · cases hf
/-- x = data -/
def asg (i : Nat) (fa : SE PyData) : SS := fun E => match fa E with
  | some (d, E') => some (.nx, E'.set i (.dat d))
  | none => none
theorem pxs_asg {i : Nat} {pos' : Pos} (hN : X.N.Nodup) (hi : X.N[i]? = some x) (hx : Loc X.env.scope x) (h1 : PX X m true e fa) (hs : swapsWith e (some (.Name x pos')) pos.line X.env = pure false := by rfl) (hf : X.fn x = true ∨ X.env.scope.names.lookup x = some .local := by first | exact .inl rfl | exact .inr rfl | assumption) :
    PXS1 X n (.Assign [.Name x pos'] e pos) (asg i fa) := ps_imp (ps_set hN hi hx h1 hs hf) fun D σ H => by
  rintro ⟨vs0, P, E, fps, fl, E', hn, r, hf, q⟩
  unfold asg at hf
  split at hf
  · rename_i d E1 e1
    cases hf
    refine ⟨vs0, P, E, fps, d, E1, r, e1, fun P1 H1 fps1 v r1 s1 _ dv => ?_⟩
    obtain ⟨fps2, r2, s2⟩ := r1.putDat (i := i) dv
    exact q P1 H1 fps2 _ r2 (s1.trans s2)
  · cases hf
/-- x = a new list that x owns -/
def asgL (i : Nat) (fs : SE (List PyData)) : SS := fun E => match fs E with
  | some (ds, E') => some (.nx, E'.set i (.own ds))
  | none => none
theorem pxs_asgL {i : Nat} {pos' : Pos} (hi' : n ≤ i) (hN : X.N.Nodup) (hi : X.N[i]? = some x) (hx : Loc X.env.scope x) (h1 : PL X m e fs) (hs : swapsWith e (some (.Name x pos')) pos.line X.env = pure false := by rfl) (hf : X.fn x = true ∨ X.env.scope.names.lookup x = some .local := by first | exact .inl rfl | exact .inr rfl | assumption) :
    PXS1 X n (.Assign [.Name x pos'] e pos) (asgL i fs) := ps_imp (ps_set hN hi hx h1 hs hf) fun D σ H => by
  rintro ⟨vs0, P, E, fps, fl, E', hn, r, hf, q⟩
  unfold asgL at hf
  split at hf
  · rename_i ds E1 e1
    cases hf
    refine ⟨vs0, P, E, fps, ds, E1, r, e1, fun P1 H1 fps1 ad vs r1 s1 _ ha pa nf hv dv => ?_⟩
    have r2 := r1.put (i := i) (s := .own ds) (ov := some (.ref ad)) (l := [ad]) (.own pa hv dv) (fun y hy j _ hj => by
      cases List.mem_singleton.mp hy
      exact nf ⟨j, hj⟩) (fun xs v hv' _ => by
        have := (List.getElem?_eq_some_iff.mp hv').1
        omega)
    refine q P1 H1 _ _ r2 ⟨s1.pp, s1.keep, s1.fresh, fun y hy => ?_, s1.live⟩
    split at hy
    · rcases in_clr hy with h2 | h2
      · cases List.mem_singleton.mp h2
        exact .inr ha
      · exact s1.foot y h2
    · exact s1.foot y hy
  · cases hf
/-- targets -/
def tXG (K : PySem.W.Frag) (ts : List Nat) (b : PyData → En → Option En) : TG := fun v σ H Q => ∃ (vs0 : List V) (P : Hp) (E : En) (fps : Nat → List Addr) (d : PyData) (E' : En), Rel K vs0 P E σ H fps ∧ Dq K P v d ∧ b d E = some E' ∧
  ∀ (fps' : Nat → List Addr) (σ' : L2.St), Rel K vs0 P E' σ' H fps' → Step (In fps) P H (In fps') P H → σ'.length = σ.length → (∀ k, k ∉ ts → σ'[k]? = σ[k]?) → Q σ' H
def PXG (X : Cx) (ts : List Nat) (tg : Expr) (b : PyData → En → Option En) : Prop := PG X tg (tXG X.K ts b)
theorem pg_imp {X : Cx} {tg : Expr} {t u : TG} (h : PG X tg t) (i : ∀ v σ H Q, u v σ H Q → t v σ H Q) : PG X tg u := ⟨fun pins s σ H v w Q I r q => h.run pins s σ H v w Q I r (i v σ H Q q)⟩
def toN (i : Nat) : PyData → En → Option En := fun d E => some (E.set i (.dat d))
theorem pxg_name {i : Nat} (hN : X.N.Nodup) (hi : X.N[i]? = some x) (hx : Loc X.env.scope x) (hf : X.fn x = true ∨ X.env.scope.names.lookup x = some .local := by first | exact .inl rfl | exact .inr rfl | assumption) : PXG X [i] (.Name x pos) (toN i) := pg_imp (pg_name hN hi hx hf) fun v σ H Q => by
  rintro ⟨vs0, P, E, fps, d, E', r, dv, hb, q⟩
  cases hb
  obtain ⟨fps2, r2, s2⟩ := r.putDat (i := i) dv
  exact q fps2 _ r2 s2 (List.length_set ..) fun k hk => List.getElem?_set_ne (fun z => hk (by rw [z]; exact List.mem_singleton.mpr rfl))
/-- several plain names -/
inductive PXGs (X : Cx) : List Expr → List Nat → TGs → Prop where
  | nil : PXGs X [] [] gNil
  | cons {es : List Expr} {is : List Nat} {t : TGs} {x : Str} {i : Nat} {pos : Pos} (h : PXGs X es is t) : PXGs X (.Name x pos :: es) (i :: is) (gCons (gName i) t)
def toNs : List Nat → List PyData → En → Option En
  | [], [], E => some E
  | i :: is, d :: ds, E => toNs is ds (E.set i (.dat d))
  | _, _, _ => none
def gNs : List Nat → TGs
  | [] => gNil
  | i :: is => gCons (gName i) (gNs is)
theorem gNs_run {K : PySem.W.Frag} {vs0 : List V} {P H : Hp} : ∀ (is : List Nat) (ds : List PyData) (vs : List V) (E E' : En) (σ : L2.St) (fps : Nat → List Addr) (Q : L2.St → Hp → Prop), Rel K vs0 P E σ H fps → DqAll K P vs ds → toNs is ds E = some E' →
    (∀ (fps' : Nat → List Addr) (σ' : L2.St), Rel K vs0 P E' σ' H fps' → Step (In fps) P H (In fps') P H → σ'.length = σ.length → (∀ k, k ∉ is → σ'[k]? = σ[k]?) → Q σ' H) → gNs is vs σ H Q
  | [], [], _, E, E', σ, fps, Q, r, .nil, h, q => by
    cases h
    exact ⟨rfl, q fps σ r (.refl _ _ _) rfl fun _ _ => rfl⟩
  | [], _ :: _, _, _, _, _, _, _, _, _, h, _ => by cases h
  | _ :: _, [], _, _, _, _, _, _, _, _, h, _ => by cases h
  | i :: is, d :: ds, _, E, E', σ, fps, Q, r, .cons (v := v) (vs := vs) dv dr, h, q => by
    obtain ⟨fps2, r2, s2⟩ := r.putDat (i := i) dv
    refine ⟨v, vs, rfl, gNs_run is ds vs _ E' _ fps2 Q r2 dr h fun fps' σ' r' s' hl hk => q fps' σ' r' (s2.trans s') (hl.trans (List.length_set ..)) fun k hk' => ?_⟩
    rw [List.mem_cons, not_or] at hk'
    rw [hk k hk'.2, List.getElem?_set_ne (fun z => hk'.1 z.symm)]
def toT (is : List Nat) : PyData → En → Option En := fun d E => match d with
  | .tuple ds => if ds.length = is.length then toNs is ds E else none
  | _ => none
theorem pxg_tup {is : List Nat} {k : Nat} {l : Nat} (hc : X.calm = true) (h : PGs X es (gNs is)) (hl : l = is.length) (hn : (assignEach es X.env).length = l := by rfl) (hst : (assignEach es X.env).findIdx? (·.1) = none := by rfl) : PXG X is (.Tuple es k pos) (toT is) := pg_imp (pg_tup hc h hn hst) fun v σ H Q => by
  rintro ⟨vs0, P, E, fps, d, E', r, dv, hb, q⟩
  unfold toT at hb
  split at hb
  · split at hb
    · rename_i hl2
      cases dv with
      | @tup ad vs ds ha hv => exact ⟨ad, vs, rfl, seqT r.sub ha, by rw [hv.length, hl2, hl], gNs_run is _ vs E E' σ fps Q r hv hb q⟩
    · cases hb
  · cases hb
/-- targets = data -/
def asgG (b : PyData → En → Option En) (fa : SE PyData) : SS := fun E => match fa E with
  | some (d, E') => match b d E' with
    | some E2 => some (.nx, E2)
    | none => none
  | none => none
theorem pxs_asgG {ts : List Nat} {bb : PyData → En → Option En} (h1 : PX X m true e fa) (hg : PXG X ts tg bb) (hs : swapsWithSole [tg] e pos.line X.env = pure false := by rfl) (hw : swappedStores [tg] e X.env = pure none := by rfl)
    (h2 : (assignEach [tg] X.env).map (·.2) = [assign tg X.env] := by rfl) : PXS1 X n (.Assign [tg] e pos) (asgG bb fa) := ps_imp (ps_asg h1 hg hs hw h2) fun D σ H => by
  rintro ⟨vs0, P, E, fps, fl, E', hn, r, hf, q⟩
  unfold asgG at hf
  split at hf
  · rename_i d E1 e1
    split at hf
    · rename_i E2 e2
      cases hf
      exact ⟨vs0, P, E, fps, d, E1, r, e1, fun P1 H1 fps1 v r1 s1 _ dv => ⟨vs0, P1, E1, fps1, d, _, r1, dv, e2, fun fps2 σ2 r2 s2 _ _ => q P1 H1 fps2 σ2 r2 (s1.trans s2)⟩⟩
    · cases hf
  · cases hf
/-- x += e, ints -/
def augS (i : Nat) (fn : Int → Int → Int) (fa : SE PyData) : SS := fun E => match E[i]? with
  | some (.dat (.int k)) => match fa E with
    | some (.int j, E') => some (.nx, E'.set i (.dat (.int (fn k j))))
    | _ => none
  | _ => none
theorem pxs_aug {i : Nat} {op : Operator} {fn : Int → Int → Int} {pos' : Pos} (ho : PIp X op (ipI fn)) (hN : X.N.Nodup) (hi : X.N[i]? = some x) (hx : Loc X.env.scope x) (h1 : PX X m p e fa) (hf : X.fn x = true ∨ X.env.scope.names.lookup x = some .local := by first | exact .inl rfl | exact .inr rfl | assumption) :
    PXS1 X n (.AugAssign (.Name x pos') op e pos) (augS i fn fa) := ps_imp (ps_aug hN hi hx h1 ho hf) fun D σ H => by
  rintro ⟨vs0, P, E, fps, fl, E', hn, r, hf, q⟩
  unfold augS at hf
  split at hf
  · rename_i k e0
    split at hf
    · rename_i j E1 e1
      cases hf
      obtain ⟨ov, e2, s⟩ := r.sl i _ e0
      generalize hfp : fps i = fp at s
      cases s with
      | dat dk =>
        rw [dq_int dk] at e2
        refine ⟨.int k, e2, vs0, P, E, fps, _, E1, r, e1, fun P1 H1 fps1 v r1 s1 _ dv => ⟨k, j, rfl, dq_int dv, ?_⟩⟩
        obtain ⟨fps2, r2, s2⟩ := r1.putDat (i := i) (.int (fn k j))
        exact q P1 H1 fps2 _ r2 (s1.trans s2)
    · cases hf
  · cases hf
/-- l[i] = e -/
theorem Rel.write {K : PySem.W.Frag} {vs0 : List V} {P H : Hp} {E : En} {σ : L2.St} {fps : Nat → List Addr} (r : Rel K vs0 P E σ H fps) {i : Nat} {xs : List PyData} (h : own? i E = some xs) {ad : Addr} (es : σ[i]? = some (some (.ref ad))) {ws : List V} {ys : List PyData} (dw : DqAll K P ws ys) :
    Rel K vs0 P (E.set i (.own ys)) σ (upd H ad (.lst ws)) fps ∧ Step (In fps) P H (In fps) P (upd H ad (.lst ws)) := by
  obtain ⟨ad2, vs, es2, ef, pa, ha, dv⟩ := r.ownAt h
  rw [es] at es2
  cases es2
  have hi : i < E.length := (List.getElem?_eq_some_iff.mp (own?_some h)).1
  refine ⟨⟨fun x u hx => ?_, by rw [List.length_set]; exact r.len, fun j t ht => ?_, fun j hj => by rw [List.length_set] at hj; exact r.out j hj, r.dj, fun j zs v hv ht => ?_⟩, Same.refl P, fun a o h1 nf => ?_, .same, fun a ha' => .inl ha', fun a o h1 => ?_⟩
  · have : x ≠ ad := fun z => by rw [z, pa] at hx; cases hx
    rw [upd_ne this]
    exact r.sub x u hx
  · by_cases e : i = j
    · subst e
      rw [List.getElem?_set_self hi] at ht
      cases ht
      exact ⟨_, es, by rw [ef]; exact .own pa upd_same dw⟩
    · rw [List.getElem?_set_ne e] at ht
      obtain ⟨ov, h1, h2⟩ := r.sl j t ht
      refine ⟨ov, h1, h2.mono (Same.refl P) fun y hy => ⟨?_, (h2.foot hy).1⟩⟩
      have : y ≠ ad := fun z => e (r.dj i j ad (by rw [ef]; exact List.mem_singleton.mpr rfl) (z ▸ hy))
      rw [upd_ne this]
  · by_cases e : i = j
    · subst e
      exact r.par i xs v hv (own?_some h)
    · rw [List.getElem?_set_ne e] at ht
      exact r.par j zs v hv ht
  · have : a ≠ ad := fun z => nf ⟨i, by rw [ef, z]; exact List.mem_singleton.mpr rfl⟩
    rw [upd_ne this]
    exact h1
  · by_cases e : a = ad
    · subst e
      exact ⟨_, upd_same⟩
    · rw [upd_ne e]
      exact ⟨o, h1⟩
def setO (i : Nat) (fa fi : SE PyData) : SS := fun E => match fa E with
  | some (d, E1) => match own? i E1 with
    | some _ => match fi E1 with
      | some (.int k, E2) => match own? i E2 with
        | some xs => match ixN xs.length k with
          | some j => some (.nx, E2.set i (.own (xs.set j d)))
          | none => none
        | none => none
      | _ => none
    | none => none
  | none => none
theorem pxs_setO {i : Nat} (h1 : PX X m1 true e fa) (ho : PE X a (tVar i)) (hi : PX X m2 p2 b fb) (hst : ∀ v, assign (.Subscript a b px) X.env v = (do
      let ov ← holding [v] (eval a X.env)
      let iv ← holding [v, ov] (eval b X.env)
      standAt px
      holding [v, ov, iv] (setItem ov iv v)
      release [v, ov, iv] []) := by intro _; rfl) (hs : swapsWithSole [.Subscript a b px] e pos.line X.env = pure false := by rfl) (hw : swappedStores [.Subscript a b px] e X.env = pure none := by rfl)
    (h2 : (assignEach [.Subscript a b px] X.env).map (·.2) = [assign (.Subscript a b px) X.env] := by rfl) : PXS1 X n (.Assign [.Subscript a b px] e pos) (setO i fa fb) := ps_imp (ps_asg h1 (pg_sub ho hi set_list hst) hs hw h2) fun D σ H => by
  rintro ⟨vs0, P, E, fps, fl, E', hn, r, hf, q⟩
  unfold setO at hf
  split at hf
  · rename_i d E1 e1
    split at hf
    · rename_i xs0 e0
      split at hf
      · rename_i k E2 e2
        split at hf
        · rename_i xs e3
          split at hf
          · rename_i j e4
            cases hf
            refine ⟨vs0, P, E, fps, d, E1, r, e1, fun P1 H1 fps1 v r1 s1 _ dv => ?_⟩
            obtain ⟨ad, vs1, es1, -, -, -, -⟩ := r1.ownAt e0
            refine ⟨_, es1, vs0, P1, E1, fps1, _, E2, r1, e2, fun P2 H2 fps2 w r2 s2 _ dw => ?_⟩
            obtain ⟨ad2, vs, es, ef, pa, ha, dx⟩ := r2.ownAt e3
            rw [es1] at es
            cases es
            refine ⟨ad, vs, k, j, rfl, dq_int dw, ha, by rw [dx.length]; exact e4, ?_⟩
            obtain ⟨r3, s3⟩ := r2.write e3 es1 (dx.set (dv.mono s2.pp) j)
            exact q P2 _ fps2 σ r3 ((s1.trans s2).trans s3)
          · cases hf
        · cases hf
      · cases hf
    · cases hf
  · cases hf
/-- l.append(e) -/
def appO (i : Nat) (fa : SE PyData) : SS := fun E => match own? i E with
  | some _ => match fa E with
    | some (d, E1) => match own? i E1 with
      | some xs => if xs.length < sizeLine then some (.nx, E1.set i (.own (xs ++ [d]))) else none
      | none => none
    | none => none
  | none => none
theorem pxs_appO {i : Nat} (ho : PE X a (tVar i)) (h1 : PX X m true b fa) (hs : swapsWith (.Call (.Attribute a "append" apos) [b] [] px) none pos.line X.env = pure false := by rfl)
    (hb : attributeBase a "append" X.env (eval a X.env) = eval a X.env := by rfl)
    (h3 : ((((backTo px (starEach [b] X.env)).all fun x => !x.fst) && (backToKw px (keywordEach [] X.env)).all fun x => x.fst.isSome) && decide (([b] : List Expr).length + ([] : List Keyword).length + (if ([] : List Keyword).isEmpty = true then 0 else 1) < 30)) = true := by rfl)
    (hline : (apos.endLine == px.line) = true := by rfl) (he : starEach [b] X.env = (false, eval b X.env) :: starEach [] X.env := by rfl) (hpl : (backTo px (starEach [] X.env)).any (·.1) = false := by rfl) :
    PXS1 X n (.Expr (.Call (.Attribute a "append" apos) [b] [] px) pos) (appO i fa) := ps_imp (ps_expr (pe_bm PySem.F.plainAttrs_list PySem.F.slot_list_append PySem.F.type_list_append mt_append ho (pa_cons h1 pa_nil he) hb h3 hline he hpl) hs) fun D σ H => by
  rintro ⟨vs0, P, E, fps, fl, E', hn, r, hf, q⟩
  unfold appO at hf
  split at hf
  · rename_i xs0 e0
    split at hf
    · rename_i d E1 e1
      split at hf
      · rename_i xs e2
        split at hf
        · rename_i hl
          cases hf
          obtain ⟨ad, vs1, es1, -, -, ha1, -⟩ := r.ownAt e0
          refine ⟨_, es1, .inl ⟨rfl, vs1, SqL.of ha1⟩, vs0, P, E, fps, d, E1, r, e1, fun P1 H1 fps1 v r1 s1 _ dv => ?_⟩
          obtain ⟨ad2, vs, es, ef, pa, ha, dx⟩ := r1.ownAt e2
          rw [es1] at es
          cases es
          refine ⟨ad, vs, v, rfl, rfl, ha, by rw [dx.length]; exact hl, ?_⟩
          obtain ⟨r3, s3⟩ := r1.write e2 es1 (dx.append (.one dv))
          exact q P1 _ fps1 σ r3 (s1.trans s3)
        · cases hf
      · cases hf
    · cases hf
  · cases hf
/-- if -/
def ifS (t : SE Bool) (g h : SS) : SS := fun E => match t E with
  | some (true, E') => g E'
  | some (false, E') => h E'
  | none => none
theorem pxs_if {t : SE Bool} (hc : PXT X m c t) (ha : PXS X n sts g) (hb : PXS X n sts2 h) : PXS1 X n (.If c sts sts2 pos) (ifS t g h) := ps_imp (ps_if hc ha hb) fun D σ H => by
  rintro ⟨vs0, P, E, fps, fl, E', hn, r, hf, q⟩
  unfold ifS at hf
  split at hf
  · rename_i E1 e1
    refine ⟨vs0, P, E, fps, true, E1, r, e1, fun P1 H1 fps1 r1 s1 _ => ?_⟩
    show tS X.K n g D σ H1
    exact ⟨vs0, P1, E1, fps1, fl, E', hn, r1, hf, q.on s1⟩
  · rename_i E1 e1
    refine ⟨vs0, P, E, fps, false, E1, r, e1, fun P1 H1 fps1 r1 s1 _ => ?_⟩
    show tS X.K n h D σ H1
    exact ⟨vs0, P1, E1, fps1, fl, E', hn, r1, hf, q.on s1⟩
  · cases hf
/-- return -/
def retD (fa : SE PyData) : SS := fun E => match fa E with
  | some (d, E') => some (.rt (.dat d), E')
  | none => none
theorem pxs_ret (h1 : PX X m true e fa) : PXS1 X n (.Return (some e) pos) (retD fa) := ps_imp (ps_ret h1) fun D σ H => by
  rintro ⟨vs0, P, E, fps, fl, E', hn, r, hf, q⟩
  unfold retD at hf
  split at hf
  · rename_i d E1 e1
    cases hf
    exact ⟨vs0, P, E, fps, d, _, r, e1, fun P1 H1 fps1 v r1 s1 _ dv => q P1 H1 fps1 σ v [] r1 ⟨s1.pp, s1.keep, s1.fresh, (fun a ha => ha.elim (s1.foot a) (fun z => nomatch z)), s1.live⟩ (.dat dv) (fun a ha => nomatch ha)⟩
  · cases hf
def retL (fs : SE (List PyData)) : SS := fun E => match fs E with
  | some (ds, E') => some (.rt (.own ds), E')
  | none => none
theorem pxs_retL (h1 : PL X m e fs) : PXS1 X n (.Return (some e) pos) (retL fs) := ps_imp (ps_ret h1) fun D σ H => by
  rintro ⟨vs0, P, E, fps, fl, E', hn, r, hf, q⟩
  unfold retL at hf
  split at hf
  · rename_i d E1 e1
    cases hf
    exact ⟨vs0, P, E, fps, d, _, r, e1, fun P1 H1 fps1 ad vs r1 s1 _ ha pa nf hv dv => q P1 H1 fps1 σ (.ref ad) [ad] r1 ⟨s1.pp, s1.keep, s1.fresh, (fun y hy => hy.elim (s1.foot y) (fun z => .inr (List.mem_singleton.mp z ▸ ha))), s1.live⟩ (.own pa hv dv) (fun y hy => List.mem_singleton.mp hy ▸ nf)⟩
  · cases hf
def retN : SS := fun E => some (.rt (.dat .none), E)
theorem pxs_retN : PXS1 X n (.Return none pos) retN := ps_imp ps_retN fun D σ H => by
  rintro ⟨vs0, P, E, fps, fl, E', hn, r, hf, q⟩
  cases hf
  exact q P H fps σ .non [] r ⟨Same.refl P, fun _ _ h _ => h, .same, (fun a ha => ha.elim .inl (fun z => nomatch z)), fun a o h1 => ⟨o, h1⟩⟩ (.dat .non) (fun a ha => nomatch ha)
end
end Fw
namespace Fw
open PySem PySem.Spec L2
open PyProof.Rows hiding St
theorem meets_extT (l : Addr) (xs ys : Array Value) (n k : Nat) (b : Addr) (dd : Option Addr) (sl : Array (Option Value)) (h0 : ¬(!xs.isEmpty && Builtin.List.listTooLong (xs.size + ys.size)) = true) (h1 : xs.size ≤ sizeLine) (h2 : xs.size + ys.size ≤ sizeLine + 1) :
    Meets (Builtin.«list.extend» ⟨[.ref l, .ref b], []⟩) (fun _ R s => s.heap.get? l = some { cls := .type "list", data := .seq xs n } ∧ s.heap.get? b = some { cls := .type "tuple", dict := dd, data := .seq ys k, slots := sl } ∧ R (.ok (.ret Value.none)) { s with heap := s.heap.update l (Obj.mapSeq fun x => x ++ ys) }) :=
  .of_wp fun prog w A R s h => by
    obtain ⟨hp, g, d, tk, os⟩ := s
    obtain ⟨hl, hb, h⟩ := h
    have f1 := AutoSeq1.sub_tuple_list
    have f2 := AutoSeq1.sub_list_tuple
    have f3 := AutoSeq1.sub_tuple_tuple
    have f4 := AutoSeq1.sub_list_list
    have f5 := AutoSeq1.idx_int
    have hz : (xs ++ ys).size ≤ sizeLine + 1 := by rw [Array.size_append]; exact h2
    wp_walk using (wpAny_updateSeq hl rfl (hz := h1) (_hz' := hz)), AutoSeq1.wpAny_loadPart' hl, AutoSeq1.wpAny_loadPart' hb
    exact ⟨_, rfl, h⟩
/-- l.extend(t), t a list or a tuple that is read -/
def rExtA (K : PySem.W.Frag) : V → List V → Hp → VK → Prop := fun x vs H Q => rExtend x vs H Q ∨ ∃ l b xs zs, x = .ref l ∧ vs = [.ref b] ∧ H l = some (.lst xs) ∧ SqT K H b zs ∧ xs.length + zs.length ≤ sizeLine ∧ Q .non (upd H l (.lst (xs ++ zs)))
theorem mt_extA {X : Cx} : MtR X "list.extend" (rExtA X.K) := by
  intro pins s σ H x vs v us Q I rx rv h
  rcases h with h | ⟨l, b, xs, zs, rfl, rfl, hH, hB, hz, q⟩
  · exact mt_extend pins s σ H x vs v us Q I rx rv h
  · cases rx
    obtain ⟨u, rfl, ru⟩ := rv.one
    cases ru
    obtain ⟨z, its, n, r, hl, e⟩ := I.lstM hH
    obtain ⟨its2, r2, ⟨⟨cls, dd, data, sl⟩, ho, hc, k, hd⟩, hl2⟩ := I.tuple hB
    simp only at hc hd
    subst hc hd
    have e2 := r2.length
    have hsz : its.toArray.size + its2.toArray.size ≤ sizeLine := by rw [List.size_toArray, List.size_toArray]; omega
    refine call_meets F.slot_list_extend ⟨_, e, rfl⟩ F.entry_list_extend (F.args_list_extend_2 _ _)
      (meets_extT l its.toArray its2.toArray n k b dd sl (by rw [notLongL hsz, Bool.and_false]; exact Bool.false_ne_true) (by rw [List.size_toArray]; omega) (by omega)) ⟨e, ho, ?_⟩
    exact ⟨.non, _, I.lset (its' := its ++ its2) hH e (by simp) (r.append r2) (by rw [List.length_append]; omega), rfl, q⟩

section
variable {X : Cx} {n : Nat} {m m1 m2 m3 p p1 p2 p3 : Bool} {st : Stmt} {sts sts2 : List Stmt} {e a b c tg : Expr} {es : List Expr} {pos px apos : Pos} {f fa fb fc : SE PyData} {fs fs2 : SE (List PyData)} {x : Str} {g h : SS}
def extO (i : Nat) (fa : SE PyData) : SS := fun E => match own? i E with
  | some _ => match fa E with
    | some (d, E1) => match own? i E1, gList d with
      | some xs, some ys => if xs.length + ys.length ≤ sizeLine then some (.nx, E1.set i (.own (xs ++ ys))) else none
      | _, _ => none
    | none => none
  | none => none
theorem pxs_extO {i : Nat} (ho : PE X a (tVar i)) (h1 : PX X m true b fa) (hs : swapsWith (.Call (.Attribute a "extend" apos) [b] [] px) none pos.line X.env = pure false := by rfl)
    (hb : attributeBase a "extend" X.env (eval a X.env) = eval a X.env := by rfl)
    (h3 : ((((backTo px (starEach [b] X.env)).all fun x => !x.fst) && (backToKw px (keywordEach [] X.env)).all fun x => x.fst.isSome) && decide (([b] : List Expr).length + ([] : List Keyword).length + (if ([] : List Keyword).isEmpty = true then 0 else 1) < 30)) = true := by rfl)
    (hline : (apos.endLine == px.line) = true := by rfl) (he : starEach [b] X.env = (false, eval b X.env) :: starEach [] X.env := by rfl) (hpl : (backTo px (starEach [] X.env)).any (·.1) = false := by rfl) :
    PXS1 X n (.Expr (.Call (.Attribute a "extend" apos) [b] [] px) pos) (extO i fa) := ps_imp (ps_expr (pe_bm PySem.F.plainAttrs_list PySem.F.slot_list_extend PySem.F.type_list_extend mt_extA ho (pa_cons h1 pa_nil he) hb h3 hline he hpl) hs) fun D σ H => by
  rintro ⟨vs0, P, E, fps, fl, E', hn, r, hf, q⟩
  unfold extO at hf
  split at hf
  · rename_i xs0 e0
    split at hf
    · rename_i d E1 e1
      split at hf
      · rename_i xs ys e2 e3
        split at hf
        · rename_i hl
          cases hf
          obtain ⟨ad, vs1, es1, -, -, ha1, -⟩ := r.ownAt e0
          refine ⟨_, es1, .inl ⟨rfl, vs1, SqL.of ha1⟩, vs0, P, E, fps, d, E1, r, e1, fun P1 H1 fps1 v r1 s1 _ dv => ?_⟩
          obtain ⟨ad2, vs, es, ef, pa, ha, dx⟩ := r1.ownAt e2
          rw [es1] at es
          cases es
          unfold gList at e3
          split at e3
          · cases e3
            cases dv with
            | @lst ad3 ws _ hw dw =>
              refine .inl ⟨ad, ad3, vs, ws, rfl, rfl, ha, r1.sub _ _ hw, by rw [dx.length, dw.length]; exact hl, ?_⟩
              obtain ⟨r3, s3⟩ := r1.write e2 es1 (dx.append dw)
              exact q P1 _ fps1 σ r3 (s1.trans s3)
          · cases e3
            cases dv with
            | @tup ad3 ws _ hw dw =>
              refine .inr ⟨ad, ad3, vs, ws, rfl, rfl, ha, seqT r1.sub hw, by rw [dx.length, dw.length]; exact hl, ?_⟩
              obtain ⟨r3, s3⟩ := r1.write e2 es1 (dx.append dw)
              exact q P1 _ fps1 σ r3 (s1.trans s3)
          · cases e3
        · cases hf
      · cases hf
    · cases hf
  · cases hf
theorem setq {α : Type} {l : List α} {i : Nat} {x : α} (h : l[i]? = some x) : l.set i x = l := by
  obtain ⟨h1, h2⟩ := List.getElem?_eq_some_iff.mp h
  rw [← h2]
  exact List.set_getElem_self h1
/-- return of an owned list by its name -/
def retO (i : Nat) : SS := fun E => match own? i E with
  | some xs => some (.rt (.own xs), E.set i .un)
  | none => none
theorem pxs_retO {i : Nat} (h1 : PE X e (tVar i)) : PXS1 X n (.Return (some e) pos) (retO i) := ps_imp (ps_ret h1) fun D σ H => by
  rintro ⟨vs0, P, E, fps, fl, E', hn, r, hf, q⟩
  unfold retO at hf
  split at hf
  · rename_i xs e1
    cases hf
    obtain ⟨ad, vs, es, ef, pa, ha, dx⟩ := r.ownAt e1
    have hi : i < E.length := (List.getElem?_eq_some_iff.mp (own?_some e1)).1
    have r2 := r.put (i := i) (s := .un) (ov := some (.ref ad)) (l := []) .un (fun a ha => nomatch ha) (fun xs v' _ e => nomatch e)
    rw [if_pos hi, setq es] at r2
    refine ⟨_, es, q P H _ σ (.ref ad) [ad] r2 ⟨Same.refl P, fun _ _ h _ => h, .same, (fun y hy => .inl ?_), fun a o h1 => ⟨o, h1⟩⟩ (.own pa ha dx) fun y hy hy2 => ?_⟩
    · rcases hy with hy | hy
      · rcases in_clr hy with h2 | h2
        · cases h2
        · exact h2
      · exact ⟨i, by rw [ef]; exact hy⟩
    · cases List.mem_singleton.mp hy
      obtain ⟨j, hj⟩ := hy2
      unfold clr at hj
      split at hj
      · cases hj
      · rename_i hne
        exact hne (r.dj j i ad hj (by rw [ef]; exact List.mem_singleton.mpr rfl))
  · cases hf
/-- while -/
def whN (t : SE Bool) (g : SS) : Nat → SS
  | 0, _ => none
  | k + 1, E => match t E with
    | some (false, E1) => some (.nx, E1)
    | some (true, E1) => match g E1 with
      | some (.nx, E2) => whN t g k E2
      | some (.ct, E2) => whN t g k E2
      | some (.bk, E2) => some (.nx, E2)
      | r => r
    | none => none
def fuelC : Nat := 1099511627776
def whS (t : SE Bool) (g : SS) : SS := whN t g fuelC
theorem pxs_while {t : SE Bool} (hp : PassesOwn (model X.prog X.w) X.A X.env X.xe) (hc : PXT X m c t) (hb : PXS X n sts g) : PXS1 X n (.While c sts [] pos) (whS t g) := ps_imp (ps_while hp hc hb) fun D σ H => by
  rintro ⟨vs0, P, E, fps, fl, E', hn, r, hf, q⟩
  refine ⟨fun k σ1 H1 => ∃ P1 E1 fps1, Rel X.K vs0 P1 E1 σ1 H1 fps1 ∧ Step (In fps) P H (In fps1) P1 H1 ∧ whN t g k E1 = some (fl, E'), ⟨fuelC, P, E, fps, r, .refl _ _ _, hf⟩, ?_⟩
  rintro k σ1 H1 ⟨P1, E1, fps1, r1, s1, h1⟩
  cases k with
  | zero => cases h1
  | succ k =>
    unfold whN at h1
    split at h1
    · rename_i E2 e2
      cases h1
      refine ⟨vs0, P1, E1, fps1, false, _, r1, e2, fun P2 H2 fps2 r2 s2 _ => ?_⟩
      show D.nx σ1 H2
      exact q P2 H2 fps2 σ1 r2 (s1.trans s2)
    · rename_i E2 e2
      refine ⟨vs0, P1, E1, fps1, true, E2, r1, e2, fun P2 H2 fps2 r2 s2 _ => ?_⟩
      show ∃ N : L2.St → Hp → Prop, _
      refine ⟨fun σ3 H3 => ∃ m', m' < k + 1 ∧ ∃ P3 E3 fps3, Rel X.K vs0 P3 E3 σ3 H3 fps3 ∧ Step (In fps) P H (In fps3) P3 H3 ∧ whN t g m' E3 = some (fl, E'), fun _ _ z => z, ?_⟩
      have st2 := s1.trans s2
      split at h1
      · rename_i E3 e3
        exact ⟨vs0, P2, E2, fps2, .nx, E3, hn, r2, e3, fun P3 H3 fps3 σ3 r3 s3 => ⟨k, Nat.lt_succ_self k, P3, E3, fps3, r3, st2.trans s3, h1⟩⟩
      · rename_i E3 e3
        exact ⟨vs0, P2, E2, fps2, .ct, E3, hn, r2, e3, fun P3 H3 fps3 σ3 r3 s3 => ⟨k, Nat.lt_succ_self k, P3, E3, fps3, r3, st2.trans s3, h1⟩⟩
      · rename_i E3 e3
        cases h1
        exact ⟨vs0, P2, E2, fps2, .bk, _, hn, r2, e3, fun P3 H3 fps3 σ3 r3 s3 => q P3 H3 fps3 σ3 r3 (st2.trans s3)⟩
      · rename_i n1 n2 n3
        refine ⟨vs0, P2, E2, fps2, fl, E', hn, r2, h1, ?_⟩
        cases fl with
        | nx => exact absurd h1 (n1 E')
        | ct => exact absurd h1 (n2 E')
        | bk => exact absurd h1 (n3 E')
        | rt s => exact q.on st2
    · cases h1
/-- for -/
def forL (bb : PyData → En → Option En) (g : SS) : List PyData → SS
  | [], E => some (.nx, E)
  | d :: ds, E => match bb d E with
    | some E1 => match g E1 with
      | some (.nx, E2) => forL bb g ds E2
      | some (.ct, E2) => forL bb g ds E2
      | some (.bk, E2) => some (.nx, E2)
      | r => r
    | none => none
def forS (it : SE (List PyData)) (bb : PyData → En → Option En) (g : SS) : SS := fun E => match it E with
  | some (ds, E1) => forL bb g ds E1
  | none => none
theorem pxs_for {ts : List Nat} {bb : PyData → En → Option En} (hp : PassesOwn (model X.prog X.w) X.A X.env X.xe) (hc : X.calm = true) (hi : PXI X m tg e fs) (hg : PXG X ts tg bb) (hb : PXS X n sts g) (hs : ∀ x, foldedSetIterable e X.env x = pure x := by intro _; rfl) :
    PXS1 X n (.For tg e sts [] pos) (forS fs bb g) := ps_imp (ps_for hp hc hi hg hb hs) fun D σ H => by
  rintro ⟨vs0, P, E, fps, fl, E', hn, r, hf, q⟩
  unfold forS at hf
  split at hf
  · rename_i ds E1 e1
    refine ⟨vs0, P, E, fps, ds, E1, r, e1, fun P1 H1 fps1 J G r1 s1 _ sn g1 => ?_⟩
    refine ⟨fun i k σ2 H2 => k = ds.length - i ∧ i ≤ ds.length ∧ ∃ P2 E2 fps2, Rel X.K vs0 P2 E2 σ2 H2 fps2 ∧ Step (In fps) P H (In fps2) P2 H2 ∧ G P2 ∧ forL bb g (ds.drop i) E2 = some (fl, E'), ⟨_, rfl, Nat.zero_le _, P1, E1, fps1, r1, s1, g1, hf⟩, ?_⟩
    rintro i k σ2 H2 ⟨rfl, hi2, P2, E2, fps2, r2, s2, g2, h2⟩
    by_cases hlt : i < ds.length
    · have ed : ds.drop i = ds[i] :: ds.drop (i + 1) := List.drop_eq_getElem_cons hlt
      rw [ed] at h2
      unfold forL at h2
      split at h2
      · rename_i E3 e3
        refine .inr ⟨sn.go i P2 H2 hlt g2 r2.sub, fun σ4 H4 => ∃ P4 E4 fps4, Rel X.K vs0 P4 E4 σ4 H4 fps4 ∧ Step (In fps) P H (In fps4) P4 H4 ∧ G P4 ∧ forL bb g (ds.drop (i + 1)) E4 = some (fl, E'), ?_, fun y H3 hy => ?_⟩
        · rintro σ4 H4 ⟨P4, E4, fps4, r4, s4, g4, h4⟩
          exact ⟨ds.length - (i + 1), by omega, rfl, hlt, P4, E4, fps4, r4, s4, g4, h4⟩
        · obtain ⟨P3, p1, p2, p3, p4, dv⟩ := sn.yld i P2 H2 y H3 ds[i] g2 r2.sub (List.getElem?_eq_getElem hlt) hy
          have r3 := r2.alloc p1 p2 p3 p4
          have s3 := s2.trans (Step.alloc (F := In fps2) p1 p3 p4)
          have g3 := sn.mono _ _ p1 g2
          refine ⟨vs0, P3, E2, fps2, ds[i], E3, r3, dv, e3, fun fps5 σ5 r5 s5 _ _ => ?_⟩
          have s6 := s3.trans s5
          split at h2
          · rename_i E7 e7
            exact ⟨vs0, P3, E3, fps5, .nx, E7, hn, r5, e7, fun P7 H7 fps7 σ7 r7 s7 => ⟨P7, E7, fps7, r7, s6.trans s7, sn.mono _ _ s7.pp g3, h2⟩⟩
          · rename_i E7 e7
            exact ⟨vs0, P3, E3, fps5, .ct, E7, hn, r5, e7, fun P7 H7 fps7 σ7 r7 s7 => ⟨P7, E7, fps7, r7, s6.trans s7, sn.mono _ _ s7.pp g3, h2⟩⟩
          · rename_i E7 e7
            cases h2
            exact ⟨vs0, P3, E3, fps5, .bk, _, hn, r5, e7, fun P7 H7 fps7 σ7 r7 s7 => q P7 H7 fps7 σ7 r7 (s6.trans s7)⟩
          · rename_i n1 n2 n3
            refine ⟨vs0, P3, E3, fps5, fl, E', hn, r5, h2, ?_⟩
            cases fl with
            | nx => exact absurd h2 (n1 E')
            | ct => exact absurd h2 (n2 E')
            | bk => exact absurd h2 (n3 E')
            | rt s => exact q.on s6
      · cases h2
    · have e0 : i = ds.length := by omega
      subst e0
      rw [List.drop_length] at h2
      cases h2
      exact .inl ⟨sn.stop P2 H2 g2 r2.sub, q P2 H2 fps2 σ2 r2 s2⟩
  · cases hf
def wipE : List Nat → En → Option En
  | [], E => some E
  | v :: vs, E => match wipE vs E with
    | some E1 => match E1[v]? with
      | some (.own _) => none
      | _ => some (E1.set v .un)
    | none => none
def bakE : List Nat → En → En → En
  | [], _, E1 => E1
  | v :: vs, E, E1 => match E[v]? with
    | some s => (bakE vs E E1).set v s
    | none => bakE vs E E1
/-- the loop of a comprehension; E: the slots ahead of it, whose own names' are put back behind each turn -/
def lcL (vs : List Nat) (bb : PyData → En → Option En) (t : SE Bool) (fe : SE PyData) : List PyData → SE (List PyData)
  | [], E => some ([], E)
  | d :: ds, E => match wipE vs E with
    | some E0 => match bb d E0 with
      | some E1 => match t E1 with
        | some (true, E2) => match fe E2 with
          | some (y, E3) => match lcL vs bb t fe ds (bakE vs E E3) with
            | some (ys, E4) => some (y :: ys, E4)
            | none => none
          | none => none
        | some (false, E2) => lcL vs bb t fe ds (bakE vs E E2)
        | none => none
      | none => none
    | none => none
def lcS (fs : SE (List PyData)) (vs : List Nat) (bb : PyData → En → Option En) (t : SE Bool) (fe : SE PyData) : SE (List PyData) := fun E => match fs E with
  | some (ds, E1) => if ds.length < sizeLine then lcL vs bb t fe ds E1 else none
  | none => none
end
section
variable {K : PySem.W.Frag} {vs0 : List V} {P P' : Hp} {E E' : En} {σ σ' : L2.St} {H H' : Hp} {fps fps' : Nat → List Addr}
theorem wipe_ok : ∀ {vs : List Nat} {E1 : En}, Rel K vs0 P E σ H fps → wipE vs E = some E1 → Rel K vs0 P E1 (wipe σ vs) H fps ∧ (∀ k, k ∉ vs → E1[k]? = E[k]?) ∧ E1.length = E.length ∧ ∀ k ∈ vs, ∀ xs, E[k]? ≠ some (.own xs)
  | [], _, r, h => by
    cases h
    exact ⟨r, fun _ _ => rfl, rfl, fun k hk => nomatch hk⟩
  | v :: vs, E1, r, h => by
    unfold wipE at h
    split at h
    · rename_i E2 e2
      obtain ⟨r2, k2, l2, o2⟩ := wipe_ok r e2
      split at h
      · cases h
      · rename_i hno
        cases h
        have r3 := r2.put (i := v) (s := .un) (ov := none) (l := []) .un (fun a ha => nomatch ha) (fun xs v' _ e => nomatch e)
        refine ⟨?_, fun k hk => ?_, by rw [List.length_set]; exact l2, fun k hk xs => ?_⟩
        · -- no footprint stands at v
          have : fps v = [] := by
            by_cases hv : v < E2.length
            · obtain ⟨ov, _, s⟩ := r2.sl v _ (List.getElem?_eq_getElem hv)
              generalize hfp : fps v = fp at s
              cases hs : E2[v] with
              | own xs => exact absurd (show E2[v]? = some (.own xs) by rw [List.getElem?_eq_getElem hv, hs]) (hno xs)
              | un => rw [hs] at s; cases s; rfl
              | dat d => rw [hs] at s; cases s; rfl
              | scr d => rw [hs] at s; cases s; rfl
            · exact r2.out v (by omega)
          have e1 : (if v < E2.length then clr fps v [] else fps) = fps := by
            split
            · funext j
              unfold clr
              split
              · rename_i ej
                rw [ej, this]
              · rfl
            · rfl
          rw [e1] at r3
          exact r3
        · rw [List.mem_cons, not_or] at hk
          rw [List.getElem?_set_ne (Ne.symm hk.1)]
          exact k2 k hk.2
        · rcases List.mem_cons.mp hk with rfl | hk
          · intro z
            by_cases hv : k ∈ vs
            · exact o2 k hv xs z
            · exact hno xs ((k2 k hv).trans z)
          · exact o2 k hk xs
    · cases h
theorem bak_get : ∀ {vs : List Nat} {E E3 : En} {k : Nat}, E3.length = E.length → (bakE vs E E3).length = E.length ∧ (k ∉ vs → (bakE vs E E3)[k]? = E3[k]?) ∧ (k ∈ vs → (bakE vs E E3)[k]? = E[k]?)
  | [], E, E3, k, hl => ⟨hl, fun _ => rfl, fun h => nomatch h⟩
  | v :: vs, E, E3, k, hl => by
    obtain ⟨h1, h2, h3⟩ := bak_get (vs := vs) (k := k) hl
    unfold bakE
    cases e : E[v]? with
    | none =>
      dsimp only
      refine ⟨h1, fun hk => h2 fun z => hk (List.mem_cons_of_mem _ z), fun hk => ?_⟩
      by_cases hv : k ∈ vs
      · exact h3 hv
      · rcases List.mem_cons.mp hk with rfl | hk
        · rw [e]
          have := List.getElem?_eq_none_iff.mp e
          exact List.getElem?_eq_none_iff.mpr (by omega)
        · exact absurd hk hv
    | some s =>
      dsimp only
      refine ⟨by rw [List.length_set]; exact h1, fun hk => ?_, fun hk => ?_⟩
      · rw [List.mem_cons, not_or] at hk
        rw [List.getElem?_set_ne (Ne.symm hk.1)]
        exact h2 hk.2
      · by_cases hv : v = k
        · subst hv
          have := (List.getElem?_eq_some_iff.mp e).1
          rw [List.getElem?_set_self (by omega), e]
        · rw [List.getElem?_set_ne hv]
          rcases List.mem_cons.mp hk with rfl | hk
          · exact absurd rfl hv
          · exact h3 hk
theorem wipe_get {σ : L2.St} : ∀ {vs : List Nat} {k : Nat}, k ∉ vs → (wipe σ vs)[k]? = σ[k]?
  | [], _, _ => rfl
  | v :: vs, k, h => by
    rw [List.mem_cons, not_or] at h
    unfold wipe
    rw [List.getElem?_set_ne (Ne.symm h.1)]
    exact wipe_get h.2
theorem wipe_in {σ : L2.St} : ∀ {vs : List Nat} {k : Nat}, k ∈ vs → k < σ.length → (wipe σ vs)[k]? = some none
  | v :: vs, k, h, hl => by
    unfold wipe
    by_cases hv : v = k
    · subst hv
      rw [List.getElem?_set_self (by rw [wipe_length]; exact hl)]
    · rw [List.getElem?_set_ne hv]
      rcases List.mem_cons.mp h with rfl | h
      · exact absurd rfl hv
      · exact wipe_in h hl
theorem wipe_eq {σ σ' : L2.St} {vs : List Nat} (hl : σ'.length = σ.length) (h : ∀ k, k ∉ vs → σ'[k]? = σ[k]?) : wipe σ' vs = wipe σ vs := by
  apply List.ext_getElem?
  intro k
  by_cases hk : k ∈ vs
  · by_cases hlk : k < σ.length
    · rw [wipe_in hk hlk, wipe_in hk (by omega)]
    · rw [List.getElem?_eq_none (by rw [wipe_length]; omega), List.getElem?_eq_none (by rw [wipe_length]; omega)]
  · rw [wipe_get hk, wipe_get hk, h k hk]
/-- behind a turn the own names' slots stand as ahead of the comprehension -/
theorem bak_ok {vs : List Nat} {E3 : En} {P3 H3 : Hp} {fps3 : Nat → List Addr} {σ3 : L2.St} (r : Rel K vs0 P E σ H fps) (r3 : Rel K vs0 P3 E3 σ3 H3 fps3) (pp : Same P P3) (hno : ∀ k ∈ vs, ∀ xs, E[k]? ≠ some (.own xs)) (hl : σ3.length = σ.length) (hk : ∀ k, k ∉ vs → σ3[k]? = σ[k]?) :
    ∃ fps4, Rel K vs0 P3 (bakE vs E E3) σ H3 fps4 ∧ ∀ a, In fps4 a → In fps3 a := by
  have hlE : E3.length = E.length := by rw [r3.len, r.len, hl]
  refine ⟨fun j => if j ∈ vs then [] else fps3 j, ⟨r3.sub, ?_, fun j s hs => ?_, fun j hj => ?_, fun j k a hj hk => ?_, fun j xs v hv hs => ?_⟩, fun a ⟨j, hj⟩ => ?_⟩
  · rw [(bak_get (vs := vs) (k := 0) hlE).1, r.len]
  · obtain ⟨_, g2, g3⟩ := bak_get (vs := vs) (k := j) hlE
    by_cases hj : j ∈ vs
    · rw [if_pos hj]
      rw [g3 hj] at hs
      obtain ⟨ov, h1, h2⟩ := r.sl j s hs
      refine ⟨ov, h1, ?_⟩
      generalize hfp : fps j = fp at h2
      cases h2 with
      | un => exact .un
      | dat d => exact .dat (d.mono pp)
      | own _ _ _ => exact absurd hs (hno j hj _)
      | scr q => exact .scr (pp.seq q)
    · rw [if_neg hj]
      rw [g2 hj] at hs
      obtain ⟨ov, h1, h2⟩ := r3.sl j s hs
      exact ⟨ov, by rw [← hk j hj]; exact h1, h2⟩
  · have := (bak_get (vs := vs) (k := 0) hlE).1
    split
    · rfl
    · exact r3.out j (by omega)
  · split at hj
    · cases hj
    · split at hk
      · cases hk
      · exact r3.dj j k a hj hk
  · obtain ⟨_, g2, g3⟩ := bak_get (vs := vs) (k := j) hlE
    by_cases hj : j ∈ vs
    · rw [g3 hj] at hs
      exact absurd hs (hno j hj xs)
    · rw [g2 hj] at hs
      rw [← hk j hj]
      exact r3.par j xs v hv hs
  · dsimp only at hj
    split at hj
    · cases hj
    · exact ⟨j, hj⟩
end
end Fw
namespace Fw
open PySem PySem.Spec L2
open PyProof.Rows hiding St
section
variable {K : PySem.W.Frag} {vs0 : List V} {P P' : Hp} {E E' : En} {σ σ' : L2.St} {H H' : Hp} {fps fps' : Nat → List Addr} {F F' : Addr → Prop}
theorem Step.poke {D : Addr} {o : HO} (s : Step F P H F' P' H') (h : H D = none) : Step F P H F' P' (upd H' D o) :=
  ⟨s.pp, fun a u ha nf => by
    have : a ≠ D := ne_of_none ha h
    rw [upd_ne this]
    exact s.keep a u ha nf, s.fresh, s.foot, fun a u ha => by
    have : a ≠ D := ne_of_none ha h
    rw [upd_ne this]
    exact s.live a u ha⟩
theorem Rel.poke {D : Addr} {o : HO} (r : Rel K vs0 P E σ H fps) (h : P D = none) (nf : ¬ In fps D) : Rel K vs0 P E σ (upd H D o) fps :=
  ⟨fun a u ha => by
    have : a ≠ D := ne_of_none ha h
    rw [upd_ne this]
    exact r.sub a u ha, r.len, fun i s hs => by
    obtain ⟨ov, h1, h2⟩ := r.sl i s hs
    refine ⟨ov, h1, h2.mono (Same.refl P) fun a ha => ⟨?_, (h2.foot ha).1⟩⟩
    have : a ≠ D := fun z => nf ⟨i, z ▸ ha⟩
    rw [upd_ne this], r.out, r.dj, r.par⟩
theorem Step.keepD {D : Addr} {o : HO} (s : Step F P H F' P' H') (h : H D = some o) (nf : ¬ F D) : H' D = some o ∧ ¬ F' D := ⟨s.keep D o h nf, fun z => by
  rcases s.foot D z with z | z
  · exact nf z
  · rw [h] at z; cases z⟩
theorem Step.noneD {D : Addr} {o : HO} (s : Step F P H F' P' H') (h : H D = some o) (nf : ¬ F D) (hp : P D = none) : P' D = none := by
  cases e : P' D with
  | none => rfl
  | some u =>
    rcases s.fresh D u e with ⟨w, z⟩ | z | z
    · rw [hp] at z; cases z
    · rw [h] at z; cases z
    · exact absurd z nf
end
section
variable {X : Cx} {n : Nat} {m m1 m2 m3 p p1 p2 p3 : Bool} {elt tg iter : Expr} {ifs : List Expr} {pos px apos : Pos} {fe : SE PyData} {fs : SE (List PyData)} {scope : Scope}
theorem lc_imp {K : PySem.W.Frag} {vs ts : List Nat} {bb : PyData → En → Option En} {t : SE Bool} {σ : L2.St} {H : Hp} {Q : VK} (hts : ∀ k ∈ ts, k ∈ vs) : tXL K true (lcS fs vs bb t fe) σ H Q → tLc (tXI K m fs) (tXG K ts bb) (tXT K m2 t) (tX K m1 true fe) vs σ H Q := by
  rintro ⟨vs0, P, E, fps, zs, E', r, hf, q⟩
  unfold lcS at hf
  split at hf
  · rename_i ds E1 e1
    split at hf
    · rename_i hlen
      refine ⟨vs0, P, E, fps, ds, E1, r, e1, fun P1 H1 fps1 J G r1 s1 _ sn g1 D hD => ?_⟩
      have hHD : H D = none := s1.free hD
      refine ⟨fun i k H2 => k = ds.length - i ∧ i ≤ ds.length ∧ ∃ P2 E2 fps2 acc zs1 zs2, Rel K vs0 P2 E2 σ H2 fps2 ∧ Step (In fps) P H (In fps2) P2 H2 ∧ G P2 ∧ H2 D = some (.lst acc) ∧ P2 D = none ∧ ¬ In fps2 D ∧ DqAll K P2 acc zs1 ∧ acc.length ≤ i ∧ lcL vs bb t fe (ds.drop i) E2 = some (zs2, E') ∧ zs = zs1 ++ zs2, ?_, ?_⟩
      · refine ⟨_, rfl, Nat.zero_le _, P1, E1, fps1, [], [], zs, r1.newList hD, s1.poke hHD, g1, upd_same, sub_none r1.sub hD, r1.notIn hD, .nil, Nat.zero_le _, hf, rfl⟩
      · rintro i k H2 ⟨rfl, hi2, P2, E2, fps2, acc, zs1, zs2, r2, s2, g2, hD2, pD2, nD2, dacc, lacc, h2, ez⟩
        by_cases hlt : i < ds.length
        · have ed : ds.drop i = ds[i] :: ds.drop (i + 1) := List.drop_eq_getElem_cons hlt
          rw [ed] at h2
          unfold lcL at h2
          split at h2
          · rename_i E0 e0
            split at h2
            · rename_i Ea ea
              refine .inr ⟨sn.go i P2 H2 hlt g2 r2.sub, fun H4 => ∃ P4 E4 fps4 acc4 ys1 ys2, Rel K vs0 P4 E4 σ H4 fps4 ∧ Step (In fps) P H (In fps4) P4 H4 ∧ G P4 ∧ H4 D = some (.lst acc4) ∧ P4 D = none ∧ ¬ In fps4 D ∧ DqAll K P4 acc4 ys1 ∧ acc4.length ≤ i + 1 ∧ lcL vs bb t fe (ds.drop (i + 1)) E4 = some (ys2, E') ∧ zs = ys1 ++ ys2, ?_, fun y H3 hy => ?_⟩
              · rintro H4 ⟨P4, E4, fps4, acc4, ys1, ys2, w⟩
                exact ⟨ds.length - (i + 1), by omega, rfl, hlt, P4, E4, fps4, acc4, ys1, ys2, w⟩
              · obtain ⟨P3, p1, p2, p3, p4, dv⟩ := sn.yld i P2 H2 y H3 ds[i] g2 r2.sub (List.getElem?_eq_getElem hlt) hy
                have r3 := r2.alloc p1 p2 p3 p4
                have s3 := s2.trans (Step.alloc (F := In fps2) p1 p3 p4)
                have g3 := sn.mono _ _ p1 g2
                have hD3 := p3 _ _ hD2
                have pD3 : P3 D = none := (Step.alloc (F := In fps2) p1 p3 p4).noneD hD2 nD2 pD2
                obtain ⟨rw, kw, lw, ow⟩ := wipe_ok r3 e0
                refine ⟨vs0, P3, E0, fps2, ds[i], Ea, rw, dv, ea, fun fps5 σ5 r5 s5 hl5 hk5 => ?_⟩
                have hl : σ5.length = σ.length := by rw [hl5, wipe_length]
                have hk : ∀ k, k ∉ vs → σ5[k]? = σ[k]? := fun k hkv => by rw [hk5 k (fun z => hkv (hts k z)), wipe_get hkv]
                refine ⟨wipe_eq hl hk, ?_⟩
                obtain ⟨-, nD5⟩ := s5.keepD hD3 nD2
                split at h2
                · rename_i Eb eb
                  split at h2
                  · rename_i z Ec ec
                    split at h2
                    · rename_i ys E4 e4
                      cases h2
                      refine ⟨vs0, P3, Ea, fps5, true, Eb, r5, eb, fun P6 H6 fps6 r6 s6 _ => ?_⟩
                      show tX K m1 true fe σ5 H6 _
                      refine ⟨vs0, P6, Eb, fps6, z, Ec, r6, ec, fun P7 H7 fps7 v r7 s7 _ dz => ?_⟩
                      obtain ⟨hD6, nD6⟩ := s6.keepD hD3 nD5
                      obtain ⟨hD7, nD7⟩ := s7.keepD hD6 nD6
                      have pD6 := s6.noneD hD3 nD5 pD3
                      have pD7 := s7.noneD hD6 nD6 pD6
                      have pp : Same P3 P7 := s6.pp.trans s7.pp
                      obtain ⟨fps8, r8, i8⟩ := bak_ok r3 r7 pp ow hl hk
                      refine ⟨acc, hD7, by omega, P7, _, fps8, acc ++ [v], zs1 ++ [z], ys, r8.poke pD7 (fun w => nD7 (i8 D w)), ?_, sn.mono _ _ pp g3, upd_same, pD7, (fun w => nD7 (i8 D w)), (dacc.mono (p1.trans pp)).append (.one dz), by rw [List.length_append, List.length_singleton]; omega, e4, by rw [ez]; simp⟩
                      have s8 := ((s3.trans s5).trans s6).trans s7
                      exact Step.poke ⟨s8.pp, s8.keep, s8.fresh, fun a ha => s8.foot a (i8 a ha), s8.live⟩ hHD
                    · cases h2
                  · cases h2
                · rename_i Eb eb
                  refine ⟨vs0, P3, Ea, fps5, false, Eb, r5, eb, fun P6 H6 fps6 r6 s6 _ => ?_⟩
                  obtain ⟨hD6, nD6⟩ := s6.keepD hD3 nD5
                  have pD6 := s6.noneD hD3 nD5 pD3
                  obtain ⟨fps8, r8, i8⟩ := bak_ok r3 r6 s6.pp ow hl hk
                  have s8 := (s3.trans s5).trans s6
                  exact ⟨P6, _, fps8, acc, zs1, zs2, r8, ⟨s8.pp, s8.keep, s8.fresh, fun a ha => s8.foot a (i8 a ha), s8.live⟩, sn.mono _ _ s6.pp g3, hD6, pD6, (fun w => nD6 (i8 D w)), dacc.mono (p1.trans s6.pp), by omega, h2, ez⟩
                · cases h2
            · cases h2
          · cases h2
        · have e0 : i = ds.length := by omega
          subst e0
          rw [List.drop_length] at h2
          cases h2
          rw [List.append_nil] at ez
          subst ez
          exact .inl ⟨sn.stop P2 H2 g2 r2.sub, q P2 H2 fps2 D acc r2 s2 (fun z => nomatch z) hHD pD2 nD2 hD2 dacc⟩
    · cases hf
  · cases hf
theorem pl_lc {own : List (Str × Nat)} {ts : List Nat} {bb : PyData → En → Option En} {t : SE Bool} (hc : X.calm = true) (hN : X.N.Nodup) (ok : BlkOk X.N X.env.scope scope own) (hi : PXI X m tg iter fs)
    (hg : ∀ (s : Shared) (H : Hp) (C : Addr) (cl : List (Str × Addr)) (fp : List Addr), PXG (X.blk s H scope (compEnvC scope cl C X.env) fp) ts tg bb)
    (ht : ∀ (s : Shared) (H : Hp) (C : Addr) (cl : List (Str × Addr)) (fp : List Addr), PTs (X.blk s H scope (compEnvC scope cl C X.env) fp) ifs (tXT X.K m2 t))
    (he : ∀ (s : Shared) (H : Hp) (C : Addr) (cl : List (Str × Addr)) (fp : List Addr), PX (X.blk s H scope (compEnvC scope cl C X.env) fp) m1 true elt fe)
    (hts : ∀ k ∈ ts, k ∈ own.map (·.2)) (hs : ∀ x, foldedSetIterable iter X.env x = pure x := by intro _; rfl) :
    PL X true (.ListComp elt [⟨tg, iter, ifs, 0⟩] scope pos) (lcS fs (own.map (·.2)) bb t fe) := pe_imp (pe_lc (g := tXG X.K ts bb) (tt := tXT X.K m2 t) (te := tX X.K m1 true fe) hc hN hi ok hg ht he hs) fun σ H Q => lc_imp hts
def yesS : SE Bool := ret true
theorem pts_nil' : PTs X [] (tXT X.K false yesS) := ⟨fun pins s σ H Q I hq => by
  obtain ⟨vs0, P, E, fps, b, E', r, hf, q⟩ := hq
  obtain ⟨rfl, rfl⟩ := ret_some hf
  exact pts_nil.run pins s σ H Q I (q P H fps r (.refl _ _ _) fun _ => Same.refl H)⟩
theorem pts_one' {c : Expr} {t : SE Bool} (h : PXT X m c t) : PTs X [c] (tXT X.K m t) := pts_one h

abbrev Fn := List Sl → Option (Sl × List Sl)
def collect : List Sl → En → Option (List Sl)
  | [], _ => some []
  | .own _ :: as, .own xs :: E => (collect as E).map (.own xs :: ·)
  | .own _ :: _, _ => none
  | _ :: as, _ :: E => (collect as E).map (.un :: ·)
  | _ :: _, [] => none
def runF (n N : Nat) (body : SS) : Fn := fun as => if as.length = n then match body (as ++ List.replicate (N - n) .un) with
    | some (.rt s, E') => match collect as E' with
      | some outs => some (s, outs)
      | none => none
    | some (.nx, E') => match collect as E' with
      | some outs => some (.dat .none, outs)
      | none => none
    | _ => none
  else none
def spF (K : PySem.W.Frag) (n : Nat) (g : Fn) : Sp := fun vs H Q _ => vs.length = n ∧ ∃ (P : Hp) (as : List Sl) (fps : Nat → List Addr) (r : Sl) (outs : List Sl), Rel K vs P as (vs.map some) H fps ∧ g as = some (r, outs) ∧
  ∀ (P' H' : Hp) (fps' : Nat → List Addr) (v : V) (fr : List Addr), Rel K vs P' outs (vs.map some) H' fps' → Step (In fps) P H (fun a => In fps' a ∨ a ∈ fr) P' H' → SlR K P' H' r (some v) fr → (∀ a ∈ fr, ¬ In fps' a) → Q v H'
theorem collect_len : ∀ {as : List Sl} {E : En} {outs : List Sl}, collect as E = some outs → outs.length = as.length
  | [], _, _, h => by cases h; rfl
  | a :: as, [], _, h => by cases a <;> cases h
  | a :: as, e :: E, outs, h => by
    cases a <;> cases e <;> first
      | (cases h; done)
      | (simp only [collect, Option.map_eq_some_iff] at h
         obtain ⟨o, h1, rfl⟩ := h
         simp [collect_len h1])
theorem collect_get : ∀ {as : List Sl} {E : En} {outs : List Sl} {i : Nat} {s : Sl}, collect as E = some outs → outs[i]? = some s → s = .un ∨ ∃ xs, s = .own xs ∧ E[i]? = some (.own xs) ∧ ∃ ys, as[i]? = some (.own ys)
  | [], _, _, i, s, h, hs => by cases h; simp at hs
  | a :: as, [], _, _, _, h, _ => by cases a <;> cases h
  | a :: as, e :: E, outs, i, s, h, hs => by
    cases a <;> cases e <;> first
      | (cases h; done)
      | (simp only [collect, Option.map_eq_some_iff] at h
         obtain ⟨o, h1, rfl⟩ := h
         cases i with
         | zero =>
           simp only [List.getElem?_cons_zero, Option.some.injEq] at hs
           subst hs
           first
             | exact .inl rfl
             | exact .inr ⟨_, rfl, rfl, _, rfl⟩
         | succ i =>
           simp only [List.getElem?_cons_succ] at hs
           rcases collect_get h1 hs with h2 | ⟨xs, h2, h3, ys, h4⟩
           · exact .inl h2
           · exact .inr ⟨xs, h2, by simpa using h3, ys, by simpa using h4⟩)
theorem rel_outs {K : PySem.W.Frag} {vs : List V} {P H : Hp} {as outs : List Sl} {E : En} {σ : L2.St} {fps : Nat → List Addr} (r : Rel K vs P E σ H fps) (h : collect as E = some outs) (hl : as.length = vs.length) :
    ∃ fps', Rel K vs P outs (vs.map some) H fps' ∧ ∀ a, In fps' a → In fps a := by
  refine ⟨fun i => match outs[i]? with
    | some (.own _) => fps i
    | _ => [], ⟨r.sub, by rw [collect_len h, hl, List.length_map], fun i s hs => ?_, fun i hi => ?_, fun i j a hi hj => ?_, fun i xs v hv hs => by rw [List.getElem?_map, hv]; rfl⟩, fun a ⟨i, hi⟩ => ?_⟩
  · have hi : i < vs.length := by
      have := (List.getElem?_eq_some_iff.mp hs).1
      rw [collect_len h, hl] at this
      exact this
    refine ⟨some vs[i], by rw [List.getElem?_map, List.getElem?_eq_getElem hi]; rfl, ?_⟩
    rcases collect_get h hs with rfl | ⟨xs, rfl, he, _⟩
    · rw [hs]
      exact .un
    · rw [hs]
      obtain ⟨ov, h1, h2⟩ := r.sl i _ he
      have h3 := r.par i xs vs[i] (List.getElem?_eq_getElem hi) he
      rw [h1] at h3
      cases h3
      exact h2
  · rw [List.getElem?_eq_none hi]
  · split at hi
    · split at hj
      · exact r.dj i j a hi hj
      · cases hj
    · cases hi
  · dsimp only at hi
    split at hi
    · exact ⟨i, hi⟩
    · cases hi
theorem rel_start {K : PySem.W.Frag} {vs : List V} {P H : Hp} {as : List Sl} {fps : Nat → List Addr} {N : List Str} (r : Rel K vs P as (vs.map some) H fps) : Rel K vs P (as ++ List.replicate (N.length - vs.length) .un) (L2.start N vs) H fps := by
  have hl : as.length = vs.length := by rw [r.len, List.length_map]
  unfold L2.start
  refine ⟨r.sub, by simp [hl], fun i s hs => ?_, fun i hi => ?_, r.dj, fun i xs v hv hs => ?_⟩
  · by_cases hi : i < as.length
    · rw [List.getElem?_append_left hi] at hs
      obtain ⟨ov, h1, h2⟩ := r.sl i s hs
      exact ⟨ov, by rw [List.getElem?_append_left (by simp; omega)]; exact h1, h2⟩
    · rw [List.getElem?_append_right (by omega)] at hs
      have hs2 := List.getElem?_eq_some_iff.mp hs
      obtain ⟨h1, h2⟩ := hs2
      rw [List.getElem_replicate] at h2
      rw [List.length_replicate] at h1
      subst h2
      rw [r.out i (by omega)]
      refine ⟨none, ?_, .un⟩
      rw [List.getElem?_append_right (by simp; omega), List.getElem?_replicate, if_pos (by simp; omega)]
  · rw [List.length_append] at hi
    exact r.out i (by omega)
  · have hi : i < vs.length := (List.getElem?_eq_some_iff.mp hv).1
    rw [List.getElem?_append_left (by simp; omega), List.getElem?_map, hv]
    rfl
theorem fn_ok {P : Program} {w : World} {K : PySem.W.Frag} {mg : Str → Option Value} {base : Heap} {x qual : Str} {st : Stmt} {f : Addr} {fd : FuncData} {N ps : List Str} {k : Nat} {body : SS} (F : Fun K x qual st f fd) (S : FnScope N ps (defScope st))
    (hb : ∀ (cdv : Value) (A : Around) (outer : List Env) (s : Shared) (H : Hp) (E : XK), Room k (A.deeper (envOfC qual (defScope st) s.heap.objs.size f cdv)) → PXS (cxOf CX0 P w K mg base N qual (defScope st) f cdv A outer s H E).nox ps.length (defBody st) body) :
    FnOk P w K mg base CX0 (k + 1) f fd ps (spF K ps.length (runF ps.length N.length body)) := by
  refine F.ok S (fun vs H Q E h => h.1) (fun cdv A outer s H vs Q E hr h => ?_)
  obtain ⟨hl, P0, as, fps, r, outs, rel, hg, q⟩ := h
  refine ⟨_, hb cdv A outer s H E hr, ?_⟩
  have hla : as.length = ps.length := by rw [rel.len, List.length_map, hl]
  unfold runF at hg
  rw [if_pos hla] at hg
  have rs := rel_start (N := N) rel
  rw [hl] at rs
  split at hg
  · rename_i sr E' e1
    split at hg
    · rename_i outs' e2
      cases hg
      refine ⟨vs, P0, _, fps, .rt r, E', hl, rs, e1, fun P' H' fps' σ' v fr r' s' q1 q2 => ?_⟩
      obtain ⟨fps2, r2, i2⟩ := rel_outs r' e2 (hla.trans hl.symm)
      refine q P' H' fps2 v fr r2 ⟨s'.pp, s'.keep, s'.fresh, fun a ha => s'.foot a (ha.elim (fun z => .inl (i2 a z)) .inr), s'.live⟩ q1 fun a ha z => q2 a ha (i2 a z)
    · cases hg
  · rename_i E' e1
    split at hg
    · rename_i outs' e2
      cases hg
      refine ⟨vs, P0, _, fps, .nx, E', hl, rs, e1, fun P' H' fps' σ' r' s' => ?_⟩
      obtain ⟨fps2, r2, i2⟩ := rel_outs r' e2 (hla.trans hl.symm)
      exact q P' H' fps2 .non [] r2 ⟨s'.pp, s'.keep, s'.fresh, (fun a ha => ha.elim (fun z => s'.foot a (i2 a z)) (fun z => nomatch z)), s'.live⟩ (.dat .non) (fun a ha => nomatch ha)
    · cases hg
  · cases hg

structure Cl (P : Program) (w : World) (K : PySem.W.Frag) (mg : Str → Option Value) (base : Heap) (k : Nat) (x : Str) (n : Nat) (g : Fn) : Prop where
  ex : ∃ (f : Addr) (fd : FuncData) (ps : List Str), FnOk P w K mg base CX0 k f fd ps (spF K n g) ∧ mg x = some (.ref f) ∧ PySem.W.keepIn K (.ref f) = true ∧ Binds K fd ps []
theorem rel_data {K : PySem.W.Frag} {P H : Hp} {vs : List V} {ds : List PyData} (s : Same P H) (d : DqAll K P vs ds) : Rel K vs P (ds.map .dat) (vs.map some) H (fun _ => []) := by
  refine ⟨s, by rw [List.length_map, List.length_map, d.length], fun i t ht => ?_, fun _ _ => rfl, (fun _ _ _ h => nomatch h), fun i xs v _ h => ?_⟩
  · rw [List.getElem?_map] at ht
    cases e : ds[i]? with
    | none => rw [e] at ht; cases ht
    | some d0 =>
      rw [e] at ht
      cases ht
      obtain ⟨v, h1, h2⟩ := d.get e
      exact ⟨some v, by rw [List.getElem?_map, h1]; rfl, .dat h2⟩
  · rw [List.getElem?_map] at h
    cases e : ds[i]? with
    | none => rw [e] at h; cases h
    | some d0 => rw [e] at h; cases h
def callD (g : Fn) (ds : List PyData) : Option PyData := match g (ds.map .dat) with
  | some (.dat d, _) => some d
  | some (.own xs, _) => some (.list xs)
  | _ => none
def callV (g : Fn) (ds : List PyData) : Option (List PyData) := match g (ds.map .dat) with
  | some (.own xs, _) => some xs
  | _ => none
theorem no_in : ∀ a, ¬ In (fun _ => []) a := fun a ⟨_, h⟩ => nomatch h
theorem va_call {K : PySem.W.Frag} {g : Fn} {E0 : XK} {n : Nat} (hn : ∀ as r, g as = some r → as.length = n) : VAA K (fun vs H Q => spF K n g (vs ++ []) H Q E0) (callD g) := by
  intro P H xs ds z Q su dx hg q
  have e0 : xs ++ [] = xs := List.append_nil xs
  show spF K n g (xs ++ []) H Q E0
  rw [e0]
  unfold callD at hg
  split at hg
  · rename_i d outs e1
    cases hg
    have := hn _ _ e1
    rw [List.length_map] at this
    refine ⟨by rw [dx.length]; exact this, P, _, _, _, outs, rel_data su dx, e1, fun P' H' fps' v fr r' s' sr _ => ?_⟩
    cases sr with
    | dat dv => exact q P' H' v s'.pp r'.sub (fun a o ha => s'.keep a o ha (no_in a)) (fun a o ha => (s'.fresh a o ha).imp id (fun z => z.elim .inl (fun w => absurd w (no_in a)))) dv
  · rename_i ys outs e1
    cases hg
    have := hn _ _ e1
    rw [List.length_map] at this
    refine ⟨by rw [dx.length]; exact this, P, _, _, _, outs, rel_data su dx, e1, fun P' H' fps' v fr r' s' sr _ => ?_⟩
    cases sr with
    | @own ad vs _ pa ha dv =>
      refine AfterL.of q P' H' ad vs s'.pp r'.sub (fun a o ha => s'.keep a o ha (no_in a)) (fun a o ha => (s'.fresh a o ha).imp id (fun z => z.elim .inl (fun w => absurd w (no_in a)))) ?_ pa ha dv
      rcases s'.foot ad (.inr (List.mem_singleton.mpr rfl)) with z | z
      · exact absurd z (no_in ad)
      · exact z
  · cases hg
theorem vl_call {K : PySem.W.Frag} {g : Fn} {E0 : XK} {n : Nat} (hn : ∀ as r, g as = some r → as.length = n) : VLA K (fun vs H Q => spF K n g (vs ++ []) H Q E0) (callV g) := by
  intro P H xs ds z Q su dx hg q
  have e0 : xs ++ [] = xs := List.append_nil xs
  show spF K n g (xs ++ []) H Q E0
  rw [e0]
  unfold callV at hg
  split at hg
  · rename_i ys outs e1
    cases hg
    have := hn _ _ e1
    rw [List.length_map] at this
    refine ⟨by rw [dx.length]; exact this, P, _, _, _, outs, rel_data su dx, e1, fun P' H' fps' v fr r' s' sr _ => ?_⟩
    cases sr with
    | @own ad vs _ pa ha dv =>
      refine q P' H' ad vs s'.pp r'.sub (fun a o ha => s'.keep a o ha (no_in a)) (fun a o ha => (s'.fresh a o ha).imp id (fun z => z.elim .inl (fun w => absurd w (no_in a)))) ?_ pa ha dv
      rcases s'.foot ad (.inr (List.mem_singleton.mpr rfl)) with z | z
      · exact absurd z (no_in ad)
      · exact z
  · cases hg
theorem run_len {n N : Nat} {body : SS} {as : List Sl} {r : Sl × List Sl} (h : runF n N body as = some r) : as.length = n := by
  unfold runF at h
  split at h
  · assumption
  · cases h
variable {k j : Nat} {x : Str} {e a b : Expr} {es : List Expr} {g : Fn}
theorem px_call (c : Cl X.prog X.w X.K X.mg X.base k x n g) (hn : ∀ as r, g as = some r → as.length = n) (hr : Room j X.A) (hk : k ≤ j) (hg : Gl X x) (ha : PXA X m (e :: es) fs) (hdb : (x == ("__debug__" : Str)) = false := by decide)
    (he : starEach (e :: es) X.env = (false, eval e X.env) :: starEach es X.env := by rfl) (hpl : (backTo pos (starEach es X.env)).any (·.1) = false := by rfl) : PX X m true (.Call (.Name x px) (e :: es) [] pos) (mny fs (callD g)) := by
  obtain ⟨f, fd, ps, F, h1, h2, h3⟩ := c.ex
  exact px_args (r := fun vs H Q => spF X.K n g (vs ++ []) H Q E0) (pe_call F (hr.mono hk) hg h1 h2 h3 .nil pass0 ha hdb he hpl) (va_call hn)
theorem pl_call (c : Cl X.prog X.w X.K X.mg X.base k x n g) (hn : ∀ as r, g as = some r → as.length = n) (hr : Room j X.A) (hk : k ≤ j) (hg : Gl X x) (ha : PXA X m (e :: es) fs) (hdb : (x == ("__debug__" : Str)) = false := by decide)
    (he : starEach (e :: es) X.env = (false, eval e X.env) :: starEach es X.env := by rfl) (hpl : (backTo pos (starEach es X.env)).any (·.1) = false := by rfl) : PL X m (.Call (.Name x px) (e :: es) [] pos) (mny fs (callV g)) := by
  obtain ⟨f, fd, ps, F, h1, h2, h3⟩ := c.ex
  exact pl_args (r := fun vs H Q => spF X.K n g (vs ++ []) H Q E0) (pe_call F (hr.mono hk) hg h1 h2 h3 .nil pass0 ha hdb he hpl) (vl_call hn)
theorem px_call0 (c : Cl X.prog X.w X.K X.mg X.base k x n g) (hn : ∀ as r, g as = some r → as.length = n) (hr : Room j X.A) (hk : k ≤ j) (hg : Gl X x) (hdb : (x == ("__debug__" : Str)) = false := by decide) : PX X false true (.Call (.Name x px) [] [] pos) (mny sNil (callD g)) := by
  obtain ⟨f, fd, ps, F, h1, h2, h3⟩ := c.ex
  refine px_args (m := false) (r := fun vs H Q => spF X.K n g (vs ++ []) H Q E0) (pe_imp (pe_call0 F (hr.mono hk) hg h1 h2 h3 .nil pass0 hdb) fun σ H Q hq => ?_) (va_call hn)
  obtain ⟨vs0, P, E, fps, ds, E', rel, hh, q⟩ := hq
  obtain ⟨rfl, rfl⟩ := ret_some hh
  exact q P H fps [] rel (.refl _ _ _) (fun _ => Same.refl H) .nil
/-- the first argument is an owned list by its name, which the callee may change -/
def callM (i : Nat) (g : Fn) (fs : SE (List PyData)) : SE Sl := fun E => match own? i E with
  | some _ => match fs E with
    | some (ds, E1) => match own? i E1 with
      | some xs => match g (.own xs :: ds.map .dat) with
        | some (r, .own ys :: _) => some (r, E1.set i (.own ys))
        | _ => none
      | none => none
    | none => none
  | none => none
def asD (f : SE Sl) : SE PyData := fun E => match f E with
  | some (.dat d, E') => some (d, E')
  | some (.own xs, E') => some (.list xs, E')
  | _ => none
def asL (f : SE Sl) : SE (List PyData) := fun E => match f E with
  | some (.own xs, E') => some (xs, E')
  | _ => none
theorem callM_some {i : Nat} {E E' : En} {r : Sl} (h : callM i g fs E = some (r, E')) : ∃ xs0 ds E1 xs ys os, own? i E = some xs0 ∧ fs E = some (ds, E1) ∧ own? i E1 = some xs ∧ g (.own xs :: ds.map .dat) = some (r, .own ys :: os) ∧ E' = E1.set i (.own ys) := by
  unfold callM at h
  split at h
  · rename_i xs0 e0
    split at h
    · rename_i ds E1 e1
      split at h
      · rename_i xs e2
        split at h
        · rename_i r' ys os e3
          cases h
          exact ⟨xs0, ds, E1, xs, ys, os, e0, e1, e2, e3, rfl⟩
        · cases h
      · cases h
    · cases h
  · cases h
/-- behind the arguments: the callee's slots, and what is left behind it -/
theorem callM_core {K : PySem.W.Frag} {vs0 : List V} {P H P1 H1 : Hp} {E1 : En} {σ : L2.St} {fps fps1 : Nat → List Addr} {i : Nat} {xs ys : List PyData} {ds : List PyData} {ws : List V} {ad : Addr} {r : Sl} {os : List Sl} {Q : VK} {E0 : XK}
    (r1 : Rel K vs0 P1 E1 σ H1 fps1) (s1 : Step (In fps) P H (In fps1) P1 H1) (eo : own? i E1 = some xs) (es : σ[i]? = some (some (.ref ad))) (dw : DqAll K P1 ws ds) (hn : ∀ as r, g as = some r → as.length = n) (hg : g (.own xs :: ds.map .dat) = some (r, .own ys :: os))
    (q : ∀ (P' H' : Hp) (fps' : Nat → List Addr) (v : V) (fr : List Addr), Rel K vs0 P' (E1.set i (.own ys)) σ H' fps' → Step (In fps) P H (fun a => In fps' a ∨ a ∈ fr) P' H' → SlR K P' H' r (some v) fr → (∀ a ∈ fr, ¬ In fps' a) → (∀ a ∈ fr, H a = none) → Q v H') :
    spF K n g ((.ref ad :: ws) ++ []) H1 Q E0 := by
  rw [List.append_nil]
  have hl := hn _ _ hg
  rw [List.length_cons, List.length_map] at hl
  obtain ⟨ad2, vs, es2, ef, pa, ha, dx⟩ := r1.ownAt eo
  rw [es] at es2
  cases es2
  have hi : i < E1.length := (List.getElem?_eq_some_iff.mp (own?_some eo)).1
  have rd := rel_data r1.sub dw
  have rc : Rel K (.ref ad :: ws) P1 (.own xs :: ds.map .dat) ((V.ref ad :: ws).map some) H1 (fun j => if j = 0 then [ad] else []) := by
    refine ⟨r1.sub, by simp [dw.length], fun j s hs => ?_, fun j hj => ?_, fun j k a hj hk => ?_, fun j zs v hv hs => by rw [List.getElem?_map, hv]; rfl⟩
    · cases j with
      | zero =>
        cases hs
        exact ⟨some (.ref ad), rfl, .own pa ha dx⟩
      | succ j =>
        rw [List.getElem?_cons_succ] at hs
        obtain ⟨ov, h1, h2⟩ := rd.sl j s hs
        exact ⟨ov, by rw [List.map_cons, List.getElem?_cons_succ]; exact h1, by rw [if_neg (Nat.succ_ne_zero j)]; exact h2⟩
    · cases j with
      | zero => simp at hj
      | succ j => exact if_neg (Nat.succ_ne_zero j)
    · split at hj
      · split at hk
        · rename_i e1 e2
          exact e1.trans e2.symm
        · cases hk
      · cases hj
  refine ⟨by rw [List.length_cons, dw.length]; exact hl, P1, _, _, r, _, rc, hg, fun P' H' fpc v fr r' s' sr nf => ?_⟩
  -- the callee may change ad alone
  have inc : ∀ a, In (fun j => if j = 0 then [ad] else []) a → a = ad := fun a ⟨j, hj⟩ => by
    dsimp only at hj
    split at hj
    · exact List.mem_singleton.mp hj
    · cases hj
  have inC : In (fun j => if j = 0 then [ad] else []) ad := ⟨0, by simp⟩
  obtain ⟨ov, h1, h2⟩ := r'.sl 0 (.own ys) rfl
  rw [List.map_cons, List.getElem?_cons_zero] at h1
  cases h1
  generalize hfp : fpc 0 = fp0 at h2
  cases h2 with
  | @own _ vs' _ pa' ha' dy =>
    have inAd : In fps1 ad := ⟨i, by rw [ef]; exact List.mem_singleton.mpr rfl⟩
    have frO : ∀ a ∈ fr, H1 a = none := fun a hfr => by
      rcases s'.foot a (.inr hfr) with z | z
      · have : a = ad := inc a z
        subst this
        exact absurd ⟨0, by rw [hfp]; exact List.mem_singleton.mpr rfl⟩ (nf a hfr)
      · exact z
    have rE : Rel K vs0 P' (E1.set i (.own ys)) σ H' fps1 := by
      refine ⟨r'.sub, by rw [List.length_set]; exact r1.len, fun j s hs => ?_, fun j hj => by rw [List.length_set] at hj; exact r1.out j hj, r1.dj, fun j zs v' hv hs => ?_⟩
      · by_cases e : i = j
        · subst e
          rw [List.getElem?_set_self hi] at hs
          cases hs
          exact ⟨_, es, by rw [ef]; exact .own pa' ha' dy⟩
        · rw [List.getElem?_set_ne e] at hs
          obtain ⟨ov, g1, g2⟩ := r1.sl j s hs
          refine ⟨ov, g1, g2.mono s'.pp fun a hj => ?_⟩
          have hne : a ≠ ad := fun z => e (r1.dj i j ad (by rw [ef]; exact List.mem_singleton.mpr rfl) (z ▸ hj))
          obtain ⟨pn, o, ho⟩ := g2.foot hj
          have nin : ¬ In (fun j => if j = 0 then [ad] else []) a := fun z => hne (inc a z)
          refine ⟨(s'.keep a o ho nin).trans ho.symm, ?_⟩
          exact s'.noneD ho nin pn
      · by_cases e : i = j
        · subst e
          exact r1.par i xs v' hv (own?_some eo)
        · rw [List.getElem?_set_ne e] at hs
          exact r1.par j zs v' hv hs
    have sE : Step (In fps1) P1 H1 (fun a => In fps1 a ∨ a ∈ fr) P' H' := ⟨s'.pp, fun a o h1 nin => s'.keep a o h1 fun z => nin (inc a z ▸ inAd), fun a o ha2 => (s'.fresh a o ha2).imp id (fun z => z.imp id fun w => inc a w ▸ inAd), fun a ha2 => ha2.elim .inl fun z => .inr (frO a z), s'.live⟩
    refine q P' H' fps1 v fr rE (s1.trans sE) sr (fun a hfr z => ?_) fun a hfr => ?_
    · obtain ⟨_, o, ho⟩ := r1.foot z
      rw [frO a hfr] at ho
      cases ho
    · exact s1.free (frO a hfr)
theorem px_callM {i : Nat} (c : Cl X.prog X.w X.K X.mg X.base k x n g) (hn : ∀ as r, g as = some r → as.length = n) (hr : Room j X.A) (hk : k ≤ j) (hg : Gl X x) (h0 : PE X e (tVar i)) (ha : PXA X m es fs) (hdb : (x == ("__debug__" : Str)) = false := by decide)
    (he : starEach (e :: es) X.env = (false, eval e X.env) :: starEach es X.env := by rfl) (hpl : (backTo pos (starEach es X.env)).any (·.1) = false := by rfl) : PX X true true (.Call (.Name x px) (e :: es) [] pos) (asD (callM i g fs)) := by
  obtain ⟨f, fd, ps, F, h1, h2, h3⟩ := c.ex
  refine pe_imp (pe_call F (hr.mono hk) hg h1 h2 h3 .nil pass0 (pa_cons h0 ha he) hdb he hpl) fun σ H Q => ?_
  rintro ⟨vs0, P, E, fps, d, E', rel, hh, q⟩
  unfold asD at hh
  split at hh
  · rename_i d' E2 e2
    cases hh
    obtain ⟨xs0, ds, E1, xs, ys, os, g0, g1, g2, g3, rfl⟩ := callM_some e2
    obtain ⟨ad, _, es, _, _, _, _⟩ := rel.ownAt g0
    refine ⟨_, es, vs0, P, E, fps, ds, E1, rel, g1, fun P1 H1 fps1 ws r1 s1 _ dw => ?_⟩
    refine callM_core r1 s1 g2 es dw hn g3 fun P' H' fps' v fr r' s' sr nf fo => ?_
    cases sr with
    | dat dv => exact q P' H' fps' v r' ⟨s'.pp, s'.keep, s'.fresh, fun a ha => s'.foot a (.inl ha), s'.live⟩ (fun z => nomatch z) dv
  · rename_i xs' E2 e2
    cases hh
    obtain ⟨xs0, ds, E1, xs, ys, os, g0, g1, g2, g3, rfl⟩ := callM_some e2
    obtain ⟨ad, _, es, _, _, _, _⟩ := rel.ownAt g0
    refine ⟨_, es, vs0, P, E, fps, ds, E1, rel, g1, fun P1 H1 fps1 ws r1 s1 _ dw => ?_⟩
    refine callM_core r1 s1 g2 es dw hn g3 fun P' H' fps' v fr r' s' sr nf fo => ?_
    cases sr with
    | @own al vs _ pa ha dv =>
      have hal := List.mem_singleton.mpr (rfl : al = al)
      have t1 : Same P' (upd P' al (.lst vs)) := Fw.same_upd pa
      refine q (upd P' al (.lst vs)) H' fps' (.ref al) ⟨fun x o hx => ?_, r'.len, fun i s hs => ?_, r'.out, r'.dj, r'.par⟩ ⟨s'.pp.trans t1, s'.keep, fun x o hx => ?_, fun a ha => s'.foot a (.inl ha), s'.live⟩ (fun z => nomatch z) (.lst upd_same (dv.mono t1))
      · by_cases e1 : x = al
        · subst e1
          rw [upd_same] at hx
          cases hx
          exact ha
        · rw [upd_ne e1] at hx
          exact r'.sub x o hx
      · obtain ⟨ov, k1, k2⟩ := r'.sl i s hs
        refine ⟨ov, k1, k2.mono t1 fun y hy => ⟨rfl, ?_⟩⟩
        have hne : y ≠ al := fun z => nf al hal (z ▸ ⟨i, hy⟩)
        rw [upd_ne hne]
        exact (k2.foot hy).1
      · by_cases e1 : x = al
        · subst e1
          exact .inr (.inl (fo x hal))
        · rw [upd_ne e1] at hx
          exact s'.fresh x o hx
  · cases hh
theorem pl_callM {i : Nat} (c : Cl X.prog X.w X.K X.mg X.base k x n g) (hn : ∀ as r, g as = some r → as.length = n) (hr : Room j X.A) (hk : k ≤ j) (hg : Gl X x) (h0 : PE X e (tVar i)) (ha : PXA X m es fs) (hdb : (x == ("__debug__" : Str)) = false := by decide)
    (he : starEach (e :: es) X.env = (false, eval e X.env) :: starEach es X.env := by rfl) (hpl : (backTo pos (starEach es X.env)).any (·.1) = false := by rfl) : PL X true (.Call (.Name x px) (e :: es) [] pos) (asL (callM i g fs)) := by
  obtain ⟨f, fd, ps, F, h1, h2, h3⟩ := c.ex
  refine pe_imp (pe_call F (hr.mono hk) hg h1 h2 h3 .nil pass0 (pa_cons h0 ha he) hdb he hpl) fun σ H Q => ?_
  rintro ⟨vs0, P, E, fps, d, E', rel, hh, q⟩
  unfold asL at hh
  split at hh
  · rename_i xs' E2 e2
    cases hh
    obtain ⟨xs0, ds, E1, xs, ys, os, g0, g1, g2, g3, rfl⟩ := callM_some e2
    obtain ⟨ad, _, es, _, _, _, _⟩ := rel.ownAt g0
    refine ⟨_, es, vs0, P, E, fps, ds, E1, rel, g1, fun P1 H1 fps1 ws r1 s1 _ dw => ?_⟩
    refine callM_core r1 s1 g2 es dw hn g3 fun P' H' fps' v fr r' s' sr nf fo => ?_
    cases sr with
    | @own al vs _ pa ha dv =>
      have hal := List.mem_singleton.mpr (rfl : al = al)
      exact q P' H' fps' al vs r' ⟨s'.pp, s'.keep, s'.fresh, fun a ha => s'.foot a (.inl ha), s'.live⟩ (fun z => nomatch z) (fo al hal) pa (nf al hal) ha dv
  · cases hh
/-- f(script) that hands back a new list -/
def callS (i : Nat) (g : Fn) : SE (List PyData) := fun E => match E[i]? with
  | some (.scr ns) => match g [.scr ns] with
    | some (.own xs, _) => some (xs, E)
    | _ => none
  | _ => none
theorem pl_callS {i : Nat} (c : Cl X.prog X.w X.K X.mg X.base k x 1 g) (hr : Room j X.A) (hk : k ≤ j) (hg : Gl X x) (h0 : PE X e (tVar i)) (hdb : (x == ("__debug__" : Str)) = false := by decide)
    (he : starEach [e] X.env = (false, eval e X.env) :: starEach [] X.env := by rfl) (hpl : (backTo pos (starEach [] X.env)).any (·.1) = false := by rfl) : PL X false (.Call (.Name x px) [e] [] pos) (callS i g) := by
  obtain ⟨f, fd, ps, F, h1, h2, h3⟩ := c.ex
  refine pe_imp (pe_call F (hr.mono hk) hg h1 h2 h3 .nil pass0 (pa_cons h0 pa_nil he) hdb he hpl) fun σ H Q => ?_
  rintro ⟨vs0, P, E, fps, d, E', rel, hh, q⟩
  unfold callS at hh
  split at hh
  · rename_i ns e1
    split at hh
    · rename_i xs os e2
      cases hh
      obtain ⟨ov, e3, s⟩ := rel.sl i _ e1
      generalize hfp : fps i = fp at s
      cases s with
      | @scr ad _ hs =>
        refine ⟨_, e3, rfl, P, _, fun _ => [], _, os, ⟨rel.sub, rfl, fun i s hs' => ?_, fun _ _ => rfl, (fun _ _ _ h => nomatch h), fun i xs v _ h => ?_⟩, e2, fun P' H' fps' v fr r' s' sr _ => ?_⟩
        · cases i with
          | zero => cases hs'; exact ⟨_, rfl, .scr hs⟩
          | succ i => simp at hs'
        · cases i with
          | zero => cases h
          | succ i => simp at h
        · cases sr with
          | @own al vs _ pa ha dv =>
            have fr1 : Fresh NoF P H P' := fun a o ha => (s'.fresh a o ha).imp id (fun z => z.elim .inl (fun w => absurd w (no_in a)))
            have sm : Same H H' := fun a o ha => s'.keep a o ha (no_in a)
            have hfree : H al = none := by
              rcases s'.foot al (.inr (List.mem_singleton.mpr rfl)) with z | z
              · exact absurd z (no_in al)
              · exact z
            have r2 := rel.alloc s'.pp r'.sub sm fr1
            exact q P' H' fps al vs r2 (.alloc s'.pp sm fr1) (fun _ => sm) hfree pa (fun z => by
              obtain ⟨_, o, ho⟩ := rel.foot z
              rw [hfree] at ho
              cases ho) ha dv
    · cases hh
  · cases hh
end
end Fw
namespace Fw
open PySem PySem.Spec L2
open PyProof.Rows hiding St
section
variable {X : Cx} {n : Nat} {m m1 m2 m3 p p1 p2 p3 : Bool} {elt tg iter : Expr} {ifs : List Expr} {pos px apos spos : Pos} {fe : SE PyData} {fs : SE (List PyData)} {scope : Scope} {x : Str}
/-- a constant of the module -/
def Cn (K : PySem.W.Frag) (mg : Str → Option Value) (x : Str) (d : PyData) : Prop := ∃ v, (∃ u, mg x = some u ∧ RelV v u) ∧ Kn K v d
theorem px_gc {d : PyData} (hg : Gl X x) (h : Cn X.K X.mg x d) (hd : (x == ("__debug__" : Str)) = false := by decide) : PX X false true (.Name x pos) (ret d) := by
  obtain ⟨v, ⟨u, h1, h2⟩, h3⟩ := h
  exact px_kn (pe_glob hg h1 h2 hd) h3
theorem asgL_core {K : PySem.W.Frag} {i : Nat} {te : TE} {D : Ends} {σ : L2.St} {H : Hp} (hi' : n ≤ i) (im : ∀ σ H Q, tXL K m fs σ H Q → te σ H Q) (h : tS K n (asgL i fs) D σ H) : tAsg te (gName i) D σ H := by
  obtain ⟨vs0, P, E, fps, fl, E', hn, r, hf, q⟩ := h
  unfold asgL at hf
  split at hf
  · rename_i ds E1 e1
    cases hf
    refine im _ _ _ ⟨vs0, P, E, fps, ds, E1, r, e1, fun P1 H1 fps1 ad vs r1 s1 _ ha pa nf hv dv => ?_⟩
    have r2 := r1.put (i := i) (s := .own ds) (ov := some (.ref ad)) (l := [ad]) (.own pa hv dv) (fun y hy j _ hj => by
      cases List.mem_singleton.mp hy
      exact nf ⟨j, hj⟩) (fun xs v hv' _ => by
        have := (List.getElem?_eq_some_iff.mp hv').1
        omega)
    refine q P1 H1 _ _ r2 ⟨s1.pp, s1.keep, s1.fresh, fun y hy => ?_, s1.live⟩
    split at hy
    · rcases in_clr hy with h2 | h2
      · cases List.mem_singleton.mp h2
        exact .inr ha
      · exact s1.foot y h2
    · exact s1.foot y hy
  · cases hf
theorem asg_core {K : PySem.W.Frag} {i : Nat} {te : TE} {fa : SE PyData} {D : Ends} {σ : L2.St} {H : Hp} (im : ∀ σ H Q, tX K m true fa σ H Q → te σ H Q) (h : tS K n (asg i fa) D σ H) : tAsg te (gName i) D σ H := by
  obtain ⟨vs0, P, E, fps, fl, E', hn, r, hf, q⟩ := h
  unfold asg at hf
  split at hf
  · rename_i d E1 e1
    cases hf
    refine im _ _ _ ⟨vs0, P, E, fps, d, E1, r, e1, fun P1 H1 fps1 v r1 s1 _ dv => ?_⟩
    obtain ⟨fps2, r2, s2⟩ := r1.putDat (i := i) dv
    exact q P1 H1 fps2 _ r2 (s1.trans s2)
  · cases hf
theorem px_core {K : PySem.W.Frag} {fs : SE (List PyData)} {te : TE} (im : ∀ σ H Q, tXL K m fs σ H Q → te σ H Q) : ∀ σ H Q, tX K m true (bnd fs fun ds => ret (.list ds)) σ H Q → te σ H Q := fun σ H Q => by
  rintro ⟨vs0, P, E, fps, d, E', r, hf, q⟩
  obtain ⟨ds, E1, h1, h2⟩ := bnd_some hf
  obtain ⟨rfl, rfl⟩ := ret_some h2
  refine im _ _ _ ⟨vs0, P, E, fps, ds, _, r, h1, fun P' H' fps' ad vs r' st sm ha pa nf hv dv => ?_⟩
  have s1 : Same P' (upd P' ad (.lst vs)) := Fw.same_upd pa
  refine q (upd P' ad (.lst vs)) H' fps' (.ref ad) ⟨fun x o hx => ?_, r'.len, fun i s hs => ?_, r'.out, r'.dj, r'.par⟩ ⟨st.pp.trans s1, st.keep, fun x o hx => ?_, st.foot, st.live⟩ sm (.lst upd_same (dv.mono s1))
  · by_cases e1 : x = ad
    · subst e1
      rw [upd_same] at hx
      cases hx
      exact hv
    · rw [upd_ne e1] at hx
      exact r'.sub x o hx
  · obtain ⟨ov, e1, q1⟩ := r'.sl i s hs
    refine ⟨ov, e1, q1.mono s1 fun y hy => ⟨rfl, ?_⟩⟩
    have hne : y ≠ ad := fun z => nf (z ▸ ⟨i, hy⟩)
    rw [upd_ne hne]
    exact (q1.foot hy).1
  · by_cases e1 : x = ad
    · subst e1
      exact .inr (.inl ha)
    · rw [upd_ne e1] at hx
      exact st.fresh x o hx
theorem pxs_lcL {i : Nat} {py : Pos} {own : List (Str × Nat)} {ts : List Nat} {bb : PyData → En → Option En} {t : SE Bool} (hi' : n ≤ i) (hc : X.calm = true) (hN : X.N.Nodup) (hy : X.N[i]? = some x) (hyl : X.env.scope.names.lookup x = some .local)
    (hsw : swapsWith (.ListComp elt [⟨tg, iter, ifs, 0⟩] scope pos) (some (.Name x py)) spos.line X.env = pure true)
    (ok : BlkOk X.N X.env.scope scope own) (hi : PXI X m tg iter fs)
    (hg : ∀ (s : Shared) (H : Hp) (C : Addr) (cl : List (Str × Addr)) (fp : List Addr), PXG (X.blk s H scope (compEnvC scope cl C X.env) fp) ts tg bb)
    (ht : ∀ (s : Shared) (H : Hp) (C : Addr) (cl : List (Str × Addr)) (fp : List Addr), PTs (X.blk s H scope (compEnvC scope cl C X.env) fp) ifs (tXT X.K m2 t))
    (he : ∀ (s : Shared) (H : Hp) (C : Addr) (cl : List (Str × Addr)) (fp : List Addr), PX (X.blk s H scope (compEnvC scope cl C X.env) fp) m1 true elt fe)
    (hts : ∀ k ∈ ts, k ∈ own.map (·.2)) (hs : ∀ x, foldedSetIterable iter X.env x = pure x := by intro _; rfl) :
    PXS1 X n (.Assign [.Name x py] (.ListComp elt [⟨tg, iter, ifs, 0⟩] scope pos) spos) (asgL i (lcS fs (own.map (·.2)) bb t fe)) :=
  ps_imp (ps_setLc (g := tXG X.K ts bb) (tt := tXT X.K m2 t) (te := tX X.K m1 true fe) hc hN hy hyl hsw hi ok hg ht he hs) fun D σ H h => asgL_core hi' (fun _ _ _ => lc_imp hts) h
theorem pxs_lcD {i : Nat} {py : Pos} {own : List (Str × Nat)} {ts : List Nat} {bb : PyData → En → Option En} {t : SE Bool} (hc : X.calm = true) (hN : X.N.Nodup) (hy : X.N[i]? = some x) (hyl : X.env.scope.names.lookup x = some .local)
    (hsw : swapsWith (.ListComp elt [⟨tg, iter, ifs, 0⟩] scope pos) (some (.Name x py)) spos.line X.env = pure true)
    (ok : BlkOk X.N X.env.scope scope own) (hi : PXI X m tg iter fs)
    (hg : ∀ (s : Shared) (H : Hp) (C : Addr) (cl : List (Str × Addr)) (fp : List Addr), PXG (X.blk s H scope (compEnvC scope cl C X.env) fp) ts tg bb)
    (ht : ∀ (s : Shared) (H : Hp) (C : Addr) (cl : List (Str × Addr)) (fp : List Addr), PTs (X.blk s H scope (compEnvC scope cl C X.env) fp) ifs (tXT X.K m2 t))
    (he : ∀ (s : Shared) (H : Hp) (C : Addr) (cl : List (Str × Addr)) (fp : List Addr), PX (X.blk s H scope (compEnvC scope cl C X.env) fp) m1 true elt fe)
    (hts : ∀ k ∈ ts, k ∈ own.map (·.2)) (hs : ∀ x, foldedSetIterable iter X.env x = pure x := by intro _; rfl) :
    PXS1 X n (.Assign [.Name x py] (.ListComp elt [⟨tg, iter, ifs, 0⟩] scope pos) spos) (asg i (bnd (lcS fs (own.map (·.2)) bb t fe) fun ds => ret (.list ds))) :=
  ps_imp (ps_setLc (g := tXG X.K ts bb) (tt := tXT X.K m2 t) (te := tX X.K m1 true fe) hc hN hy hyl hsw hi ok hg ht he hs) fun D σ H h => asg_core (px_core fun _ _ _ => lc_imp hts) h
end

structure Fx (K : PySem.W.Frag) (mg : Str → Option Value) (x : Str) (st : Stmt) (ps : List Str) : Prop where
  ex : ∃ (f : Addr) (fd : FuncData), Fun K x x st f fd ∧ mg x = some (.ref f) ∧ Binds K fd ps []
theorem Fx.cl {P : Program} {w : World} {K : PySem.W.Frag} {mg : Str → Option Value} {base : Heap} {x : Str} {st : Stmt} {ps : List Str} {k n : Nat} {g : Fn} (h : Fx K mg x st ps)
    (ok : ∀ (f : Addr) (fd : FuncData), Fun K x x st f fd → FnOk P w K mg base CX0 k f fd ps (spF K n g)) : Cl P w K mg base k x n g := by
  obtain ⟨f, fd, F, h1, h2⟩ := h.ex
  exact ⟨f, fd, ps, ok f fd F, h1, F.kp, h2⟩
theorem Fx.of {K : PySem.W.Frag} {mg : Str → Option Value} {h : Heap} {x : Str} {st : Stmt} {ps : List Str} {f : Addr} {oc : Value} {od an : Option Addr} {osl : Array (Option Value)} {kV doc pm cdv ct : Value} (X : K.In h) (G : h.Ns mainGlobals mg) (a : PySem.W.nsIn K mainGlobals x = some (some (.ref f)))
    (l : K.lookup f = some ⟨oc, od, .func (PySem.W.fnOf x x (defArgs st) (defBody st) (defScope st) .none kV doc pm an cdv ct), osl⟩) (c : PySem.W.codeIn K cdv x = true) (k : PySem.W.keepIn K (.ref f) = true)
    (hb : ∀ (kV doc pm : Value) (an : Option Addr) (cdv ct : Value) (us : List Value), us.length = ps.length → bindArgs (PySem.W.fnOf x x (defArgs st) (defBody st) (defScope st) .none kV doc pm an cdv ct) ⟨us, []⟩ = pure (ps.zip us)) : Fx K mg x st ps :=
  ⟨f, _, fun_mk l c k, PySem.W.mg_of X G a, (fun_mk l c k).binds hb⟩
/-- the law's def at its own address -/
theorem law_of {P : Program} {w : World} {K : PySem.W.Frag} {mg : Str → Option Value} {h : Heap} {st : Stmt} {fa f : Addr} {L : Nat} {g : Fn} {oc : Value} {od an : Option Addr} {osl : Array (Option Value)} {kV doc pm cdv ct : Value} (X : K.In h) (G : h.Ns mainGlobals mg) (hfa : mg "law" = some (.ref fa)) (a : PySem.W.nsIn K mainGlobals "law" = some (some (.ref f)))
    (l : K.lookup f = some ⟨oc, od, .func (PySem.W.fnOf "law" "law" (defArgs st) (defBody st) (defScope st) .none kV doc pm an cdv ct), osl⟩) (c : PySem.W.codeIn K cdv "law" = true) (k : PySem.W.keepIn K (.ref f) = true)
    (hb : ∀ (s : Shared) (v : Value), BindsTo s (PySem.W.fnOf "law" "law" (defArgs st) (defBody st) (defScope st) .none kV doc pm an cdv ct) ⟨[v], []⟩ [("script", v)])
    (ok : ∀ (base : Heap) (f : Addr) (fd : FuncData), Fun K "law" "law" st f fd → FnOk P w K mg base CX0 L f fd ["script"] (spF K 1 g)) :
    ∃ fd : FuncData, (∀ (s : Shared) (v : Value), BindsTo s fd ⟨[v], []⟩ [("script", v)]) ∧ ∀ base : Heap, K.In base → base.Ns mainGlobals mg → FnOk P w K mg base CX0 L fa fd ["script"] (spF K 1 g) := by
  have e := hfa.symm.trans (PySem.W.mg_of X G a)
  cases e
  exact ⟨_, hb, fun base _ _ => ok base _ _ (fun_mk l c k)⟩
/-- from the mathematics to the promise at the script -/
theorem sp_law {K : PySem.W.Frag} {H : Hp} {a : Addr} {ns : List Int} {g : Fn} {E : XK} (hS : SqL K H a (ns.map V.int)) (hg : ∃ outs, g [.scr ns] = some (.dat (.bool true), outs)) : spF K 1 g [.ref a] H (fun v _ => v = V.bl true) E := by
  obtain ⟨outs, hg⟩ := hg
  refine ⟨rfl, H, [.scr ns], fun _ => [], _, outs, ⟨Same.refl H, rfl, fun i s hs => ?_, fun _ _ => rfl, (fun _ _ _ h => nomatch h), fun i xs v _ h => ?_⟩, hg, fun P' H' fps' v fr r' s' sr _ => ?_⟩
  · cases i with
    | zero => cases hs; exact ⟨_, rfl, .scr hS⟩
    | succ i => simp at hs
  · cases i with
    | zero => cases h
    | succ i => simp at h
  · cases sr with
    | dat d => exact dq_bl d
theorem Cn.int {K : PySem.W.Frag} {mg : Str → Option Value} {h : Heap} {x : Str} {i : Int} {t : Tok} (X : K.In h) (G : h.Ns mainGlobals mg) (a : PySem.W.nsIn K mainGlobals x = some (some (.int i t))) : Cn K mg x (.int i) := ⟨.int i, ⟨_, PySem.W.mg_of X G a, ⟨t, rfl⟩⟩, fun _ => .int i⟩
theorem Cn.str {K : PySem.W.Frag} {mg : Str → Option Value} {h : Heap} {x : Str} {i : Str} {t : Tok} (X : K.In h) (G : h.Ns mainGlobals mg) (a : PySem.W.nsIn K mainGlobals x = some (some (.str i t))) : Cn K mg x (.str i) := ⟨.str i, ⟨_, PySem.W.mg_of X G a, ⟨t, rfl⟩⟩, fun _ => .str i⟩
/-- what a written value stands for, flat -/
def flatOf : Value → Option (V × PyData)
  | .int i _ => some (.int i, .int i)
  | .str x _ => some (.str x, .str x)
  | .bool b => some (.bl b, .bool b)
  | .none => some (.non, .none)
  | _ => none
def flatsOf : List Value → Option (List V × List PyData)
  | [] => some ([], [])
  | u :: us => match flatOf u, flatsOf us with
    | some (v, d), some (vs, ds) => some (v :: vs, d :: ds)
    | _, _ => none
theorem flat_rel {u : Value} {v : V} {d : PyData} (h : flatOf u = some (v, d)) : RelV v u ∧ ∀ K P, Dq K P v d := by
  unfold flatOf at h
  split at h <;> cases h
  · exact ⟨⟨_, rfl⟩, fun _ _ => .int _⟩
  · exact ⟨⟨_, rfl⟩, fun _ _ => .str _⟩
  · exact ⟨rfl, fun _ _ => .bl _⟩
  · exact ⟨rfl, fun _ _ => .non⟩
theorem flats_rel : ∀ {us : List Value} {vs : List V} {ds : List PyData}, flatsOf us = some (vs, ds) → Vals vs us ∧ ∀ K P, DqAll K P vs ds
  | [], _, _, h => by cases h; exact ⟨.nil, fun _ _ => .nil⟩
  | u :: us, _, _, h => by
    unfold flatsOf at h
    split at h
    · rename_i v d vs ds h1 h2
      cases h
      obtain ⟨a1, a2⟩ := flat_rel h1
      obtain ⟨b1, b2⟩ := flats_rel h2
      exact ⟨.cons a1 b1, fun K P => .cons (a2 K P) (b2 K P)⟩
    · cases h
theorem Cn.tup {K : PySem.W.Frag} {mg : Str → Option Value} {h : Heap} {x : Str} {c : Addr} {dd : Option Addr} {its : Array Value} {n : Nat} {sl : Array (Option Value)} {vs : List V} {ds : List PyData} (X : K.In h) (G : h.Ns mainGlobals mg) (a : PySem.W.nsIn K mainGlobals x = some (some (.ref c)))
    (l : K.lookup c = some ⟨.type "tuple", dd, .seq its n, sl⟩) (e : flatsOf its.toList = some (vs, ds)) (hz : its.size ≤ sizeLine) : Cn K mg x (.tuple ds) := by
  obtain ⟨h1, h2⟩ := flats_rel e
  exact ⟨.ref c, ⟨_, PySem.W.mg_of X G a, rfl⟩, fun P => .tup (.inr ⟨_, its, n, l, rfl, rfl, hz, h1⟩) (h2 K P)⟩
end Fw
namespace Fw
open PySem PySem.Spec L2
open PyProof.Rows hiding St
theorem boot_len : bootBuiltins "len" = some (.builtin "len") := by decide +kernel
theorem boot_abs : bootBuiltins "abs" = some (.builtin "abs") := by decide +kernel
theorem boot_ord : bootBuiltins "ord" = some (.builtin "ord") := by decide +kernel
theorem boot_sum : bootBuiltins "sum" = some (.builtin "sum") := by decide +kernel
theorem boot_all : bootBuiltins "all" = some (.builtin "all") := by decide +kernel
theorem boot_any : bootBuiltins "any" = some (.builtin "any") := by decide +kernel
theorem boot_min : bootBuiltins "min" = some (.builtin "min") := by decide +kernel
theorem boot_max : bootBuiltins "max" = some (.builtin "max") := by decide +kernel
theorem boot_divmod : bootBuiltins "divmod" = some (.builtin "divmod") := by decide +kernel
theorem boot_int : bootBuiltins "int" = some (.type "int") := by decide +kernel
theorem boot_str : bootBuiltins "str" = some (.type "str") := by decide +kernel
theorem boot_bool : bootBuiltins "bool" = some (.type "bool") := by decide +kernel
theorem boot_tuple : bootBuiltins "tuple" = some (.type "tuple") := by decide +kernel
theorem boot_list : bootBuiltins "list" = some (.type "list") := by decide +kernel
end Fw
namespace Fw
open PySem PySem.Spec L2
open PyProof.Rows hiding St
open Builtin Float
def specText (base grp : Nat) (up : Bool) (f : Builtin.Float.FormatSpec) (a : Int) : Str :=
  intField' f (decide (a < 0)) [] ((Nat.toDigits base a.natAbs).map fun c => (if up then c.toUpper else c).toNat) [] grp
theorem ff_hex {prog : Program} {w : World} {A : Around} {E : Value → Shared → Prop} {s : Shared} {a : Int} {t : Tok} {spec : Str} {f : Builtin.Float.FormatSpec} {Q : Value → Shared → Prop}
    (hp : parseFormatSpec spec.cps.toList "int" 62 = .ok f) (hne : (spec.length == 0) = false)
    (hasc : ((spec.cps.toList.drop 1).any (· ≥ 128) || (spec.cps.getD 0 0 ≥ 128 && !([60, 62, 61, 94] : List Nat).contains (spec.cps.getD 1 0))) = false)
    (hty : f.type.getD (if spec.cps.back? == some 0 then 0 else 100) = 88) (hpr : f.precision = none) (hz : f.noNeg0 = false) (hal : f.alt = false) (hgr : f.grouping = none) (hsg : f.sign = none) (hw : f.width.getD 0 ≤ 100000)
    (hlen : (specText 16 4 true f a).length ≤ sizeLine) (hsz : spec.length ≤ sizeLine)
    (h : Q (.str (specText 16 4 true f a) (s.toks + 1)) { s with toks := s.toks + 1 + 1 }) :
    wpAny (model prog w) A (formatField (.int a t) spec) Q E s := by
  show wpAny _ _ (holding [.int a t] (pyFormat (.int a t) spec)) Q E s
  refine wpAny_holding ?_
  unfold pyFormat
  refine wpAny_bind (wpAny_mkStr ?_ hsz)
  refine wpAny_bind (m := callSpecial? (.int a t) (Str.ofString "__format__") [.str spec s.toks]) (wpAny_callSpecial?_slot (name := Str.ofString "__format__") (typeIs_int _ a t) PySem.F.slot_int_format ?_)
  refine wpAny_call (codeAny_call_builtin PySem.F.slot_int_format.plain PySem.F.entry_int_format (PySem.F.slot_int_format.check _ _ _ _ _ _ _ _ (typeIs_int _ a t) (PySem.F.args_int_format_2 _ _) ?_))
  unfold Builtin.«int.__format__»
  simp only [selfAndOne, noKeywords, Builtin.Int.intOfSelf, asInt?, asStr?, List.isEmpty_nil, if_true, pure_bind, bind_pure, bind_assoc, hne, hasc, Bool.false_eq_true, if_false,
    show (Value.str spec s.toks == Value.none) = false from rfl]
  refine wpAny_bind (wpAny_typeNameOf (T := "str") (typeIs_str _ _ _) (by decide) fun _ => ?_)
  refine wpAny_bind (wpAny_typeNameOfCut_int ?_)
  simp only [hp, hty]
  rw [if_pos (by decide)]
  show wpAny _ _ (if _ then _ else _) _ _ _
  rw [if_neg (by simp [hpr])]
  show wpAny _ _ (if _ then _ else _) _ _ _
  rw [if_neg (by simp [hz])]
  show wpAny _ _ (if _ then _ else _) _ _ _
  rw [if_neg (by decide)]
  show wpAny _ _ (if _ then _ else _) _ _ _
  have hw' : ¬ (f.width.getD 0 > 100000) := by omega
  rw [if_neg (by simpa using hw')]
  show wpAny _ _ (if _ then _ else _) _ _ _
  rw [if_neg (by simpa using hw')]
  show wpAny _ _ (retStr _) _ _ _
  unfold retStr
  refine wpAny_bind (wpAny_mkStr (wpAny_pure ?_) ?hs2)
  case hs2 =>
    simp only [hal, Bool.false_eq_true, if_false, show ((16 : Nat) == 10) = false by decide, show ((88 : Nat) == 88) = true by decide, if_true]
    conv => lhs; arg 1; whnf
    simp only [specText, intField', hgr, hsg, hal, Bool.false_eq_true, if_false, if_true] at hlen ⊢
    exact hlen
  dsimp only
  refine wpAny_bind (wpAny_isInstance (typeIs_str _ _ _) isSubtype_str_str (wpAny_pure ?_))
  simp only [hal, Bool.false_eq_true, if_false, show ((16 : Nat) == 10) = false by decide, show ((88 : Nat) == 88) = true by decide, if_true]
  conv => arg 1; arg 1; whnf
  simp only [specText, intField', hgr, hsg, hal, Bool.false_eq_true, if_false, if_true] at h ⊢
  exact h
theorem ff_hexl {prog : Program} {w : World} {A : Around} {E : Value → Shared → Prop} {s : Shared} {a : Int} {t : Tok} {spec : Str} {f : Builtin.Float.FormatSpec} {Q : Value → Shared → Prop}
    (hp : parseFormatSpec spec.cps.toList "int" 62 = .ok f) (hne : (spec.length == 0) = false)
    (hasc : ((spec.cps.toList.drop 1).any (· ≥ 128) || (spec.cps.getD 0 0 ≥ 128 && !([60, 62, 61, 94] : List Nat).contains (spec.cps.getD 1 0))) = false)
    (hty : f.type.getD (if spec.cps.back? == some 0 then 0 else 100) = 120) (hpr : f.precision = none) (hz : f.noNeg0 = false) (hal : f.alt = false) (hgr : f.grouping = none) (hsg : f.sign = none) (hw : f.width.getD 0 ≤ 100000)
    (hlen : (specText 16 4 false f a).length ≤ sizeLine) (hsz : spec.length ≤ sizeLine)
    (h : Q (.str (specText 16 4 false f a) (s.toks + 1)) { s with toks := s.toks + 1 + 1 }) :
    wpAny (model prog w) A (formatField (.int a t) spec) Q E s := by
  show wpAny _ _ (holding [.int a t] (pyFormat (.int a t) spec)) Q E s
  refine wpAny_holding ?_
  unfold pyFormat
  refine wpAny_bind (wpAny_mkStr ?_ hsz)
  refine wpAny_bind (m := callSpecial? (.int a t) (Str.ofString "__format__") [.str spec s.toks]) (wpAny_callSpecial?_slot (name := Str.ofString "__format__") (typeIs_int _ a t) PySem.F.slot_int_format ?_)
  refine wpAny_call (codeAny_call_builtin PySem.F.slot_int_format.plain PySem.F.entry_int_format (PySem.F.slot_int_format.check _ _ _ _ _ _ _ _ (typeIs_int _ a t) (PySem.F.args_int_format_2 _ _) ?_))
  unfold Builtin.«int.__format__»
  simp only [selfAndOne, noKeywords, Builtin.Int.intOfSelf, asInt?, asStr?, List.isEmpty_nil, if_true, pure_bind, bind_pure, bind_assoc, hne, hasc, Bool.false_eq_true, if_false,
    show (Value.str spec s.toks == Value.none) = false from rfl]
  refine wpAny_bind (wpAny_typeNameOf (T := "str") (typeIs_str _ _ _) (by decide) fun _ => ?_)
  refine wpAny_bind (wpAny_typeNameOfCut_int ?_)
  simp only [hp, hty]
  rw [if_pos (by decide)]
  show wpAny _ _ (if _ then _ else _) _ _ _
  rw [if_neg (by simp [hpr])]
  show wpAny _ _ (if _ then _ else _) _ _ _
  rw [if_neg (by simp [hz])]
  show wpAny _ _ (if _ then _ else _) _ _ _
  rw [if_neg (by decide)]
  show wpAny _ _ (if _ then _ else _) _ _ _
  have hw' : ¬ (f.width.getD 0 > 100000) := by omega
  rw [if_neg (by simpa using hw')]
  show wpAny _ _ (if _ then _ else _) _ _ _
  rw [if_neg (by simpa using hw')]
  show wpAny _ _ (retStr _) _ _ _
  unfold retStr
  refine wpAny_bind (wpAny_mkStr (wpAny_pure ?_) ?hs2)
  case hs2 =>
    simp only [hal, Bool.false_eq_true, if_false, show ((16 : Nat) == 10) = false by decide, show ((120 : Nat) == 88) = false by decide, if_true]
    conv => lhs; arg 1; whnf
    simp only [specText, intField', hgr, hsg, hal, Bool.false_eq_true, if_false, if_true] at hlen ⊢
    exact hlen
  dsimp only
  refine wpAny_bind (wpAny_isInstance (typeIs_str _ _ _) isSubtype_str_str (wpAny_pure ?_))
  simp only [hal, Bool.false_eq_true, if_false, show ((16 : Nat) == 10) = false by decide, show ((120 : Nat) == 88) = false by decide, if_true]
  conv => arg 1; arg 1; whnf
  simp only [specText, intField', hgr, hsg, hal, Bool.false_eq_true, if_false, if_true] at h ⊢
  exact h
theorem ff_dec {prog : Program} {w : World} {A : Around} {E : Value → Shared → Prop} {s : Shared} {a : Int} {t : Tok} {spec : Str} {f : Builtin.Float.FormatSpec} {Q : Value → Shared → Prop}
    (hp : parseFormatSpec spec.cps.toList "int" 62 = .ok f) (hne : (spec.length == 0) = false)
    (hasc : ((spec.cps.toList.drop 1).any (· ≥ 128) || (spec.cps.getD 0 0 ≥ 128 && !([60, 62, 61, 94] : List Nat).contains (spec.cps.getD 1 0))) = false)
    (hty : f.type.getD (if spec.cps.back? == some 0 then 0 else 100) = 100) (hpr : f.precision = none) (hz : f.noNeg0 = false) (hal : f.alt = false) (hgr : f.grouping = none) (hsg : f.sign = none) (hw : f.width.getD 0 ≤ 100000)
    (hd : a.natAbs.log2 < 1920) (hlen : (specText 10 3 false f a).length ≤ sizeLine) (hsz : spec.length ≤ sizeLine)
    (h : Q (.str (specText 10 3 false f a) (s.toks + 1)) { s with toks := s.toks + 1 + 1 }) :
    wpAny (model prog w) A (formatField (.int a t) spec) Q E s := by
  show wpAny _ _ (holding [.int a t] (pyFormat (.int a t) spec)) Q E s
  refine wpAny_holding ?_
  unfold pyFormat
  refine wpAny_bind (wpAny_mkStr ?_ hsz)
  refine wpAny_bind (m := callSpecial? (.int a t) (Str.ofString "__format__") [.str spec s.toks]) (wpAny_callSpecial?_slot (name := Str.ofString "__format__") (typeIs_int _ a t) PySem.F.slot_int_format ?_)
  refine wpAny_call (codeAny_call_builtin PySem.F.slot_int_format.plain PySem.F.entry_int_format (PySem.F.slot_int_format.check _ _ _ _ _ _ _ _ (typeIs_int _ a t) (PySem.F.args_int_format_2 _ _) ?_))
  unfold Builtin.«int.__format__»
  simp only [selfAndOne, noKeywords, Builtin.Int.intOfSelf, asInt?, asStr?, List.isEmpty_nil, if_true, pure_bind, bind_pure, bind_assoc, hne, hasc, Bool.false_eq_true, if_false,
    show (Value.str spec s.toks == Value.none) = false from rfl]
  refine wpAny_bind (wpAny_typeNameOf (T := "str") (typeIs_str _ _ _) (by decide) fun _ => ?_)
  refine wpAny_bind (wpAny_typeNameOfCut_int ?_)
  simp only [hp, hty]
  rw [if_pos (by decide)]
  show wpAny _ _ (if _ then _ else _) _ _ _
  rw [if_neg (by simp [hpr])]
  show wpAny _ _ (if _ then _ else _) _ _ _
  rw [if_neg (by simp [hz])]
  show wpAny _ _ (if _ then _ else _) _ _ _
  rw [if_neg (by decide)]
  have hw' : ¬ (f.width.getD 0 > 100000) := by omega
  show wpAny _ _ (do let r ← Builtin.overDigitLimit? a; _) _ _ _
  rw [PySem.overDigitLimit_small hd]
  refine wpAny_bind (wpAny_pure ?_)
  show wpAny _ _ (if _ then _ else _) _ _ _
  rw [if_neg (by simpa using hw')]
  show wpAny _ _ (retStr _) _ _ _
  unfold retStr
  refine wpAny_bind (wpAny_mkStr (wpAny_pure ?_) ?hs2)
  case hs2 =>
    simp only [hal, Bool.false_eq_true, if_false, show ((10 : Nat) == 10) = true by decide, show ((100 : Nat) == 88) = false by decide, if_true]
    conv => lhs; arg 1; whnf
    simp only [specText, intField', hgr, hsg, hal, Bool.false_eq_true, if_false, if_true] at hlen ⊢
    exact hlen
  dsimp only
  refine wpAny_bind (wpAny_isInstance (typeIs_str _ _ _) isSubtype_str_str (wpAny_pure ?_))
  simp only [hal, Bool.false_eq_true, if_false, show ((10 : Nat) == 10) = true by decide, show ((100 : Nat) == 88) = false by decide, if_true]
  conv => arg 1; arg 1; whnf
  simp only [specText, intField', hgr, hsg, hal, Bool.false_eq_true, if_false, if_true] at h ⊢
  exact h

def specOk (sp : Str) (f : Builtin.Float.FormatSpec) : Bool :=
  !(sp.length == 0) && !((sp.cps.toList.drop 1).any (· ≥ 128) || (sp.cps.getD 0 0 ≥ 128 && !([60, 62, 61, 94] : List Nat).contains (sp.cps.getD 1 0))) &&
  f.precision.isNone && !f.noNeg0 && !f.alt && f.grouping.isNone && f.sign.isNone && decide (f.width.getD 0 ≤ 100000) && decide (sp.length ≤ sizeLine)
def specTy (sp : Str) (f : Builtin.Float.FormatSpec) : Nat := f.type.getD (if sp.cps.back? == some 0 then 0 else 100)
def specOf (sp : Str) (f : Builtin.Float.FormatSpec) (i : Int) : Option Str :=
  if specTy sp f = 88 then some (specText 16 4 true f i) else if specTy sp f = 120 then some (specText 16 4 false f i) else if specTy sp f = 100 ∧ i.natAbs.log2 < 1920 then some (specText 10 3 false f i) else none
/-- f"{x:sp}", x an int -/
def gSpec (sp : Str) : PyData → Option PyData
  | .int i => match parseFormatSpec sp.cps.toList "int" 62 with
    | .ok f => if specOk sp f = true then match specOf sp f i with
      | some t => if t.length ≤ sizeLine then some (.str t) else none
      | none => none
      else none
    | .error _ => none
  | _ => none
section
variable {X : Cx} {m m2 p p2 : Bool} {a spec : Expr} {pos : Pos} {fa : SE PyData} {sp : Str}
def rSpec (sp : Str) : V → Hp → VK → Prop := fun x H Q => ∃ (i : Int) (t : Str), x = .int i ∧ gSpec sp (.int i) = some (.str t) ∧ Q (.str t) H
theorem pe_spec {te ts : TE} (he : PE X a te) (hs : PE X spec ts) : PE X (.FormattedValue a (-1) (some spec) pos) (fun σ H Q => te σ H fun x H1 => ts σ H1 fun y H2 => y = .str sp ∧ rSpec sp x H2 Q) := by
  refine ⟨fun pins s σ H Q I h => ?_⟩
  refine wpAny_FormattedValue_spec (thn (he.run pins s σ H _ I h) fun v s1 hv => ?_)
  obtain ⟨x, H1, I1, r1, q⟩ := hv
  refine thn (hs.run pins s1 σ H1 _ I1 q) fun v2 s2 hv2 => ?_
  obtain ⟨y, H2, I2, r2, rfl, i, t, rfl, hg, q⟩ := hv2
  obtain ⟨k1, rfl⟩ := r1
  obtain ⟨k2, rfl⟩ := r2
  refine ⟨sp, k2, rfl, ?_⟩
  unfold gSpec at hg
  cases hp : parseFormatSpec sp.cps.toList "int" 62 with
  | error _ => simp only [hp] at hg; cases hg
  | ok f =>
    simp only [hp] at hg
    by_cases hok : specOk sp f = true
    · rw [if_pos hok] at hg
      unfold specOk at hok
      simp only [Bool.and_eq_true, Bool.not_eq_true', decide_eq_true_eq] at hok
      obtain ⟨⟨⟨⟨⟨⟨⟨⟨hne, hasc⟩, hpr⟩, hz⟩, hal⟩, hgr⟩, hsg⟩, hw⟩, hsz⟩ := hok
      replace hpr := Option.isNone_iff_eq_none.mp hpr
      replace hgr := Option.isNone_iff_eq_none.mp hgr
      replace hsg := Option.isNone_iff_eq_none.mp hsg
      cases ho : specOf sp f i with
      | none => rw [ho] at hg; cases hg
      | some t2 =>
        simp only [ho] at hg
        by_cases hl : t2.length ≤ sizeLine
        · rw [if_pos hl] at hg
          cases hg
          unfold specOf at ho
          by_cases h1 : specTy sp f = 88
          · rw [if_pos h1] at ho
            cases ho
            exact ff_hex hp hne hasc h1 hpr hz hal hgr hsg hw hl hsz ⟨.str _, H2, I2.tok _, ⟨_, rfl⟩, q⟩
          · rw [if_neg h1] at ho
            by_cases h2 : specTy sp f = 120
            · rw [if_pos h2] at ho
              cases ho
              exact ff_hexl hp hne hasc h2 hpr hz hal hgr hsg hw hl hsz ⟨.str _, H2, I2.tok _, ⟨_, rfl⟩, q⟩
            · rw [if_neg h2] at ho
              by_cases h3 : specTy sp f = 100 ∧ i.natAbs.log2 < 1920
              · rw [if_pos h3] at ho
                cases ho
                exact ff_dec hp hne hasc h3.1 hpr hz hal hgr hsg hw h3.2 hl hsz ⟨.str _, H2, I2.tok _, ⟨_, rfl⟩, q⟩
              · rw [if_neg h3] at ho
                cases ho
        · rw [if_neg hl] at hg
          cases hg
    · rw [if_neg hok] at hg
      cases hg
theorem gSpec_str {d z : PyData} (h : gSpec sp d = some z) : ∃ i t, d = .int i ∧ z = .str t := by
  cases d with
  | int i =>
    unfold gSpec at h
    cases hp : parseFormatSpec sp.cps.toList "int" 62 with
    | error _ => simp only [hp] at h; cases h
    | ok f =>
      simp only [hp] at h
      by_cases hok : specOk sp f = true
      · rw [if_pos hok] at h
        cases ho : specOf sp f i with
        | none => rw [ho] at h; cases h
        | some t2 =>
          simp only [ho] at h
          by_cases hl : t2.length ≤ sizeLine
          · rw [if_pos hl] at h
            cases h
            exact ⟨_, _, rfl, rfl⟩
          · rw [if_neg hl] at h
            cases h
      · rw [if_neg hok] at h
        cases h
  | _ => unfold gSpec at h; cases h
theorem px_spec (ha : PX X m p a fa) (hs : PX X m2 p2 spec (ret (.str sp))) : PX X (m || m2) true (.FormattedValue a (-1) (some spec) pos) (una fa (gSpec sp)) := pe_imp (pe_spec (sp := sp) ha hs) fun σ H Q => by
  rintro ⟨vs0, P, E, fps, d, E', rel, hh, q⟩
  obtain ⟨d1, E1, h1, hh⟩ := bnd_some hh
  obtain ⟨h3, rfl⟩ := lft_some hh
  refine ⟨vs0, P, E, fps, d1, _, rel, h1, fun P1 H1 fps1 x r1 s1 m1' dx => ?_⟩
  refine ⟨vs0, P1, E', fps1, .str sp, E', r1, rfl, fun P2 H2 fps2 y r2 s2 m2' dy => ⟨by cases p2 <;> exact dq_str dy, ?_⟩⟩
  obtain ⟨i, t, rfl, rfl⟩ := gSpec_str h3
  have ex : x = .int i := by cases p <;> exact dq_int dx
  refine ⟨i, t, ex, h3, q P2 H2 fps2 (.str t) r2 (s1.trans s2) (fun hm => ?_) (.str t)⟩
  rw [Bool.or_eq_false_iff] at hm
  exact (m1' hm.1).trans (m2' hm.2)
end
end Fw
namespace Fw
open PySem PySem.Spec L2
open PyProof.Rows hiding St
theorem DqAll.dropLast {K : PySem.W.Frag} {H : Hp} {vs : List V} {ds : List PyData} (h : DqAll K H vs ds) : DqAll K H vs.dropLast ds.dropLast := by
  rw [List.dropLast_eq_take, List.dropLast_eq_take, h.length]
  exact h.take _
section
variable {X : Cx} {n : Nat} {m m1 m2 m3 p p1 p2 p3 : Bool} {a b : Expr} {pos px apos : Pos}
/-- l.pop() as a statement -/
def popO (i : Nat) : SS := fun E => match own? i E with
  | some xs => if xs.length = 0 then none else some (.nx, E.set i (.own xs.dropLast))
  | none => none
theorem ok_popO {i : Nat} {E : En} {Q : Fl → En → Prop} {xs : List PyData} (h : own? i E = some xs) (h0 : 0 < xs.length) (q : Q .nx (E.set i (.own xs.dropLast))) : ∃ a E1, popO i E = some (a, E1) ∧ Q a E1 := by
  unfold popO
  rw [h]
  exact ⟨_, _, if_neg (by omega), q⟩
theorem pxs_popO {i : Nat} (ho : PE X a (tVar i)) (hs : swapsWith (.Call (.Attribute a "pop" apos) [] [] px) none pos.line X.env = pure false := by rfl)
    (hb : attributeBase a "pop" X.env (eval a X.env) = eval a X.env := by rfl) (hline : (apos.endLine == px.line) = true := by rfl) :
    PXS1 X n (.Expr (.Call (.Attribute a "pop" apos) [] [] px) pos) (popO i) := ps_imp (ps_expr (pe_bm0 PySem.F.plainAttrs_list PySem.F.slot_list_pop PySem.F.type_list_pop mt_pop ho hb hline) hs) fun D σ H => by
  rintro ⟨vs0, P, E, fps, fl, E', hn, r, hf, q⟩
  unfold popO at hf
  cases e0 : own? i E with
  | none => rw [e0] at hf; cases hf
  | some xs =>
    rw [e0] at hf
    by_cases h0 : xs.length = 0
    · simp only [h0, if_true] at hf
      cases hf
    · simp only [h0, if_false] at hf
      cases hf
      obtain ⟨ad, vs, es, ef, pa, ha, dx⟩ := r.ownAt e0
      have hl := dx.length
      have hne : vs.length - 1 < vs.length := by omega
      obtain ⟨r3, s3⟩ := r.write e0 es dx.dropLast
      exact ⟨.ref ad, es, .inl ⟨rfl, vs, SqL.of ha⟩, ad, vs, vs[vs.length - 1], rfl, rfl, ha, List.getElem?_eq_getElem hne, q P _ fps σ r3 s3⟩
def gDivmod : List PyData → Option PyData
  | [.int i, .int j] => if 0 < j ∧ j < 1073741824 then some (.tuple [.int (i / j), .int (i % j)]) else none
  | _ => none
theorem va_divmod {K : PySem.W.Frag} : VAA K (fun xs H Q => ∃ i j, xs = [.int i, .int j] ∧ CDiv i j ∧ ∀ p, H p = none → Q (.ref p) (upd H p (.tup [.int (i / j), .int (i % j)]))) gDivmod := by
  intro P H xs ds z Q su dx hg q
  unfold gDivmod at hg
  split at hg
  · rename_i i j
    by_cases hc : 0 < j ∧ j < 1073741824
    · rw [if_pos hc] at hg
      cases hg
      cases dx with
      | cons h1 r1 =>
        cases r1 with
        | cons h2 r2 =>
          cases r2
          rw [dq_int h1, dq_int h2]
          exact ⟨_, _, rfl, hc, fun p hp => q.new su hp (.tup (SqT.of upd_same) (.cons (.int _) (.cons (.int _) .nil)))⟩
    · rw [if_neg hc] at hg
      cases hg
  · cases hg
theorem gDivmod_ii {i j : Int} : gDivmod [.int i, .int j] = if 0 < j ∧ j < 1073741824 then some (.tuple [.int (i / j), .int (i % j)]) else none := rfl
end
end Fw
namespace Fw
open PySem PySem.Spec L2
open PyProof.Rows hiding St
section
variable {prog : Program} {w : World} {A : Around} {E : Value → Shared → Prop} {s : Shared}
/-- the next item of a tuple's iterator, as an inner call asks for it -/
theorem draw_tup_item {it t : Addr} {i : Nat} {items : Array Value} {x : Value} {Q : Value → Shared → Prop} (hit : s.heap.IsTupleIter it t i) (ht : s.heap.IsTuple t items) (hx : items[i]? = some x)
    (q : ∀ h', h'.IsTupleIter it t (i + 1) → Heap.SameBut it s.heap h' → Q x { s with heap := h' }) : wpAny (model prog w) A (Builtin.SmallTypes.nextOf (.ref it)) Q E s := by
  obtain ⟨o, ho, hc, hd⟩ := id hit
  obtain ⟨ot, hot, _, nt, hdt⟩ := ht
  unfold Builtin.SmallTypes.nextOf
  refine wpAny_bind (wpAny_callSpecial?_slot (name := Str.ofString "__next__") hit.typeIs F.slot_tuple_iterator_next (wpAny_call_entry F.slot_tuple_iterator_next hit.typeIs F.entry_tuple_iterator_next ?_ (F.args_tuple_iterator_next_1 _)))
  show wpAny _ _ (field (.ref it) 0 >>= _) _ _ s
  refine wpAny_bind (wpAny_field ho hd (x := .ref t) rfl ?_)
  show wpAny _ _ (if (Value.ref t == Value.none) = true then _ else _) _ _ s
  rw [if_neg (show ¬ ((Value.ref t == Value.none) = true) from Bool.false_ne_true)]
  show wpAny _ _ (field (.ref it) 1 >>= _) _ _ s
  refine wpAny_bind (wpAny_field ho hd (x := .int i 0) rfl ?_)
  show wpAny _ _ (seqItems? (.ref t) >>= _) _ _ s
  refine wpAny_bind (wpAny_seqItems hot hdt ?_)
  simp only [Int.toNat_natCast, hx]
  refine wpAny_bind (wpAny_setField ho hd (by simp) (wpAny_pure ⟨x, rfl, wpAny_pure (q _ ?_ (Heap.SameBut.update ..))⟩))
  refine ⟨_, Heap.get?_update_self _ ho (Obj.isFreed_of_fields (Obj.data_mapFields hd _)), (Obj.cls_mapFields ..).trans hc, ?_⟩
  rw [Obj.data_mapFields hd]
  simp [rawInt]
theorem draw_tup_end {it t : Addr} {i : Nat} {items : Array Value} {Q : Value → Shared → Prop} (hh : A.handled = none) (hit : s.heap.IsTupleIter it t i) (ht : s.heap.IsTuple t items) (hx : items[i]? = none)
    (q : ∀ h' e, Heap.ExtBut it s.heap h' → (∃ o, h'.get? e = some o ∧ o.cls = .type "StopIteration") → E (.ref e) { s with heap := h' }) : wpAny (model prog w) A (Builtin.SmallTypes.nextOf (.ref it)) Q E s := by
  obtain ⟨o, ho, hc, hd⟩ := id hit
  obtain ⟨ot, hot, _, nt, hdt⟩ := ht
  unfold Builtin.SmallTypes.nextOf
  refine wpAny_bind (wpAny_callSpecial?_slot (name := Str.ofString "__next__") hit.typeIs F.slot_tuple_iterator_next (wpAny_call_entry F.slot_tuple_iterator_next hit.typeIs F.entry_tuple_iterator_next ?_ (F.args_tuple_iterator_next_1 _)))
  show wpAny _ _ (field (.ref it) 0 >>= _) _ _ s
  refine wpAny_bind (wpAny_field ho hd (x := .ref t) rfl ?_)
  show wpAny _ _ (if (Value.ref t == Value.none) = true then _ else _) _ _ s
  rw [if_neg (show ¬ ((Value.ref t == Value.none) = true) from Bool.false_ne_true)]
  show wpAny _ _ (field (.ref it) 1 >>= _) _ _ s
  refine wpAny_bind (wpAny_field ho hd (x := .int i 0) rfl ?_)
  show wpAny _ _ (seqItems? (.ref t) >>= _) _ _ s
  refine wpAny_bind (wpAny_seqItems hot hdt ?_)
  simp only [Int.toNat_natCast, hx]
  refine wpAny_bind (wpAny_rule (wpAny_bind (wpAny_setField ho hd (by simp) ?_)))
  show wpAny _ _ (newExc (.type "StopIteration") [] >>= _) _ _ _
  refine wpAny_bind ?_
  simp only [newExc, newTuple]
  refine wpAny_bind (wpAny_newObj_type ?_ (by size_fits))
  refine wpAny_bind (m := firstArgMember _ _) (wpAny_of_eq (a := Value.none) (by first | rfl | (simp only [firstArgMember]; rfl)) ?_)
  refine wpAny_newObj_type ?_ (by size_fits)
  simp only [raiseNew]
  refine wpAny_bind (wpAny_handled ?_)
  first | rw [show A.in1.handled = none from hh] | rw [hh]
  refine wpAny_bind (wpAny_pure (wpAny_throw ?_))
  exact q _ _ (((Heap.SameBut.update ..).extBut.push _).push _) ⟨_, Heap.get?_push_size _ rfl, rfl⟩
theorem draws_tup (hh : A.handled = none) (it t : Addr) (hne : t ≠ it) (items : Array Value) : Draws prog w A it [it, t] items.size (fun i v => items[i]? = some v) (fun i h => h.IsTupleIter it t i ∧ h.IsTuple t items) where
  live := fun _ _ st => let ⟨o, ho, _⟩ := st.1; ⟨o, ho⟩
  frame := fun _ _ _ st hk => ⟨st.1.at fun o e => hk it (by simp) o e, let ⟨o, ho, r⟩ := st.2; ⟨o, hk t (by simp) o ho, r⟩⟩
  item := fun i s Q E hi st hQ => by
    refine draw_tup_item st.1 st.2 (x := items[i]) (by simp [hi]) fun h' hit' hs' => ?_
    exact hQ _ h' s.toks (by simp [hi]) ⟨hit', st.2.extBut hs'.extBut hne⟩ hs'
  done := fun s Q E st hE => draw_tup_end hh st.1 st.2 (by simp) hE
theorem meets_enumT (t : Addr) (items : Array Value) (n : Nat) (dct : Option Addr) (sl : Array (Option Value)) :
    Meets (Builtin.«enumerate.__new__» ⟨[.type "enumerate", .ref t], []⟩) (fun _ R s => s.heap.get? t = some { cls := .type "tuple", dict := dct, data := .seq items n, slots := sl } ∧
      R (.ok (.ret (.ref (s.heap.push { cls := .type "tuple_iterator", data := .fields #[.ref t, .int 0 0] }).objs.size)))
        { s with heap := (s.heap.push { cls := .type "tuple_iterator", data := .fields #[.ref t, .int 0 0] }).push { cls := .type "enumerate", data := .fields #[.none, .bool false, .ref s.heap.objs.size, rawInt 0, .none, .none] } }) :=
  .of_wp fun prog w A R s h => by
    obtain ⟨hp, g, d, tk, os⟩ := s
    obtain ⟨hl, h⟩ := h
    have hsub := sub_enumerate
    have hT : Heap.IsTuple (Shared.heap ⟨hp, g, d, tk, os⟩) t items := ⟨_, hl, rfl, n, rfl⟩
    wp_walk using AutoSeq1.wpAny_loadPart' hl
    refine wpAny_stack_any fun st => wpAny_pure ?_
    split
    · rename_i c _ _ _ _ _
      cases (c == Value.type "enumerate")
      · wp_walk using AutoSeq1.wpAny_loadPart' hl, wpAny_pyIter_tuple hT
        exact ⟨_, rfl, h⟩
      · wp_walk using AutoSeq1.wpAny_loadPart' hl, wpAny_pyIter_tuple hT
        exact ⟨_, rfl, h⟩
    · wp_walk using AutoSeq1.wpAny_loadPart' hl, wpAny_pyIter_tuple hT
      exact ⟨_, rfl, h⟩
theorem call_enumT {t : Addr} {items : Array Value} {Q : Value → Shared → Prop} (hT : s.heap.IsTuple t items)
    (h : ∀ h', IsEnum h' (s.heap.objs.size + 1) s.heap.objs.size 0 .none → h'.IsTupleIter s.heap.objs.size t 0 → h'.objs.size = s.heap.objs.size + 2 → (∀ b o, s.heap.get? b = some o → h'.get? b = some o) → Q (.ref (s.heap.objs.size + 1)) { s with heap := h' }) :
    wpAny (model prog w) A (call (.type "enumerate") [.ref t]) Q E s := by
  obtain ⟨⟨c, dct, dt, sl⟩, hl, hc, n, hd⟩ := hT
  replace hc : c = .type "tuple" := hc
  replace hd : dt = .seq items n := hd
  subst hc hd
  refine callType_new F.called_enumerate (by decide) (F.typeCall_enumerate_1 _) (F.newCall_enumerate_1 _) (fun obj => F.args_object_init_2 obj _) F.entry_enumerate_new (meets_enumT t items n dct sl) ⟨hl, ?_⟩
  have hz : (s.heap.push { cls := .type "tuple_iterator", data := .fields #[.ref t, .int 0 0] }).objs.size = s.heap.objs.size + 1 := Heap.size_push ..
  show _ ∧ _
  rw [hz]
  have he : IsEnum ((s.heap.push { cls := .type "tuple_iterator", data := .fields #[.ref t, .int 0 0] }).push { cls := .type "enumerate", data := .fields #[.none, .bool false, .ref s.heap.objs.size, rawInt 0, .none, .none] }) (s.heap.objs.size + 1) s.heap.objs.size 0 .none := by
    have := Heap.get?_push_size (s.heap.push { cls := .type "tuple_iterator", data := .fields #[.ref t, .int 0 0] }) (o := { cls := .type "enumerate", data := .fields #[.none, .bool false, .ref s.heap.objs.size, rawInt 0, .none, .none] }) rfl
    rw [hz] at this
    exact this
  refine ⟨⟨_, he, rfl⟩, h _ he ⟨_, Heap.get?_push_of_some _ (Heap.get?_push_size _ rfl), rfl, rfl⟩ (by rw [Heap.size_push, hz]) fun b o x => Heap.get?_push_of_some _ (Heap.get?_push_of_some _ x)⟩
end

/-- a tuple's items as they stand at each turn, each in a new pair behind its number -/
def Itet (K : PySem.W.Frag) (a : Addr) : It :=
  ⟨fun i H => ∃ (xs : List V) (x : V), SqT K H a xs ∧ xs[i]? = some x, fun i H v H' => ∃ T x, v = .ref T ∧ H T = none ∧ H' = upd H T (.tup [.int (i : Nat), x]) ∧ ∀ xs, SqT K H a xs → xs[i]? = some x, fun i H => ∃ xs : List V, SqT K H a xs ∧ xs.length = i⟩
theorem turn_enumT {P : Program} {w : World} {K : PySem.W.Frag} {elts : List Expr} {kk : Nat} {tpos : Pos} (a e it : Addr) (ha : a ≠ it) (hae : a ≠ e) :
    Turn P w K (.Tuple elts kk tpos) (Itet K a) [e, it] e (fun i h => (∃ old, IsEnum h e it ((i : Nat) : Int) old) ∧ h.IsTupleIter it a i ∧ e ≠ it) where
  mem := by simp
  obj := fun i h st b hb => by
    obtain ⟨⟨old, he⟩, ⟨o, ho, hc, hd⟩, _⟩ := st
    have hb' : b = e ∨ b = it := by simpa using hb
    rcases hb' with rfl | rfl
    · exact ⟨_, he, fun v z => nomatch z⟩
    · exact ⟨o, ho, fun v z => by rw [hd] at z; cases z⟩
  keep := fun i h h' st k => by
    obtain ⟨⟨old, he⟩, hi, hne⟩ := st
    exact ⟨⟨old, k e (by simp) _ he⟩, hi.at fun o z => k it (by simp) o z, hne⟩
  item := by
    intro X hP hw hK hc i pins s σ H E I hf st hg
    subst hP hw hK
    obtain ⟨⟨old, he⟩, hit, hne⟩ := st
    obtain ⟨xs, x, hq, hx⟩ := hg
    obtain ⟨its, rv, p, hz⟩ := I.tuple hq
    obtain ⟨u, hu, ru⟩ := rv.get hx
    have hi : i < its.toArray.size := by
      have := (List.getElem?_eq_some_iff.mp hu).1
      simpa using this
    have hel : e < s.heap.objs.size := Heap.lt_size he
    have hil : it < s.heap.objs.size := by
      obtain ⟨_, z, _⟩ := hit
      exact Heap.lt_size z
    have D := draws_tup (prog := X.prog) (w := X.w) (A := X.A.in1) (I.ok.hd hc) it a ha its.toArray
    refine wpAny_pyNext_enum_itemD D he ⟨hit, p⟩ hi hne (by simp [hne, Ne.symm hae]) fun y h' tk hP ho hs' hT hsz hk => ?_
    obtain ⟨hit', _⟩ := hs'
    have ey : y = u := by
      have h1 : its[i]? = some y := by simpa using hP
      rw [hu] at h1
      exact (Option.some.inj h1).symm
    subst ey
    refine ⟨_, rfl, wpAny_letOwnedTupleGo_enum (s := { s with heap := h', toks := tk + 1 }) ho fun h'' he' sb => ?_⟩
    have hT2 : h''.get? s.heap.objs.size = some { cls := .type "tuple", data := .seq #[.int i tk, y] } := (sb.2 _ (Nat.ne_of_gt hel)).trans hT
    have new : ObjOk X.prog X.w (upd H s.heap.objs.size (.tup [.int (i : Nat), x])) h'' s.heap.objs.size (.tup [.int (i : Nat), x]) :=
      ⟨by show 2 ≤ sizeLine; decide, [.int i tk, y], .cons ⟨_, rfl⟩ (.cons ru .nil), ⟨_, hT2, rfl, _, rfl⟩⟩
    have I1 : Inv X pins σ (upd H s.heap.objs.size (.tup [.int (i : Nat), x])) { s with heap := h'', toks := tk + 1 } :=
      I.turnedNew (ch := [e, it]) (fun b ob hb z => (sb.2 b (fun zz => hb (by simp [zz]))).trans (hk b ob (fun zz => hb (by simp [zz])) (fun zz => hb (by simp [zz])) z)) hf (Nat.le_refl _) new
    refine ⟨.ref s.heap.objs.size, _, I1, rfl, ⟨_, x, rfl, I.hok.fresh (Nat.le_refl _), rfl, fun ys hy => by rw [I.tuple_inj hy hq]; exact hx⟩, ⟨⟨y, ?_⟩, hit'.at fun o z => (sb.2 it (Ne.symm hne)).trans z, hne⟩, fun b hb => ?_⟩
    · have e1 : ((i + 1 : Nat) : Int) = (i : Int) + 1 := by omega
      rw [e1]
      exact he'
    · have hb2 : b = e ∨ b = it := by simpa using hb
      have hb' : b < s.heap.objs.size := by
        rcases hb2 with z | z
        · rw [z]; exact hel
        · rw [z]; exact hil
      rw [upd_ne (Nat.ne_of_lt hb')]
      exact (hf b hb).1
  done := by
    intro X hP hw hK hc i pins s σ H E I hf st hg
    subst hP hw hK
    obtain ⟨⟨old, he⟩, hit, hne⟩ := st
    obtain ⟨xs, hq, hx⟩ := hg
    obtain ⟨its, rv, p, hz⟩ := I.tuple hq
    obtain ⟨f0, f1, f2, f3, f4, f5⟩ := hf it (by simp)
    have hl := rv.length
    have D := draws_tup (prog := X.prog) (w := X.w) (A := X.A.in1) (I.ok.hd hc) it a ha its.toArray
    have hn : its.toArray.size = i := by rw [List.size_toArray]; omega
    exact wpAny_pyNext_enum_endD D he (by rw [hn]; exact ⟨hit, p⟩) fun h' eb => ⟨rfl, I.turned (t' := s.toks) (fun b o hb z => eb b o hb z) f0 f1 f3 f4 f5⟩
  self := fun A i s Q E st h => by
    obtain ⟨⟨_, he⟩, _⟩ := st
    exact wpAny_pyIter_enum he h
/-- a text's signs, each in a new pair behind its number -/
def Ites (x : Str) : It :=
  ⟨fun i _ => i < x.cps.size, fun i H v H' => ∃ T c, v = .ref T ∧ H T = none ∧ H' = upd H T (.tup [.int (i : Nat), .str ⟨#[c]⟩]) ∧ x.cps[i]? = some c, fun i _ => x.cps.size = i⟩
theorem turn_enumS {P : Program} {w : World} {K : PySem.W.Frag} {elts : List Expr} {kk : Nat} {tpos : Pos} (x : Str) (t : Tok) (ty : String) (hty : ty = "str_ascii_iterator" ∨ ty = "str_iterator") (e it : Addr) :
    Turn P w K (.Tuple elts kk tpos) (Ites x) [e, it] e (fun i h => (∃ old, IsEnum h e it ((i : Nat) : Int) old) ∧ h.IsStrIter it ty x t i ∧ e ≠ it) where
  mem := by simp
  obj := fun i h st b hb => by
    obtain ⟨⟨old, he⟩, ⟨o, ho, hc, hd⟩, _⟩ := st
    have hb' : b = e ∨ b = it := by simpa using hb
    rcases hb' with rfl | rfl
    · exact ⟨_, he, fun v z => nomatch z⟩
    · exact ⟨o, ho, fun v z => by rw [hd] at z; cases z⟩
  keep := fun i h h' st k => by
    obtain ⟨⟨old, he⟩, ⟨o, ho, r⟩, hne⟩ := st
    exact ⟨⟨old, k e (by simp) _ he⟩, ⟨o, k it (by simp) o ho, r⟩, hne⟩
  item := by
    intro X hP hw hK hc i pins s σ H E I hf st hg
    subst hP hw hK
    obtain ⟨⟨old, he⟩, hit, hne⟩ := st
    have hel : e < s.heap.objs.size := Heap.lt_size he
    have hil : it < s.heap.objs.size := by
      obtain ⟨_, z, _⟩ := hit
      exact Heap.lt_size z
    have D : Draws X.prog X.w X.A.in1 it [it] x.cps.size (fun i v => ∃ c u, x.cps[i]? = some c ∧ v = .str ⟨#[c]⟩ u) (fun i h => h.IsStrIter it ty x t i) := by
      rcases hty with rfl | rfl
      · exact Draws.strAscii (A := X.A.in1) (I.ok.hd hc) it x t
      · exact Draws.strWide (A := X.A.in1) (I.ok.hd hc) it x t
    refine wpAny_pyNext_enum_itemD D he hit hg hne (by simp [hne]) fun y h' tk hP ho hs' hT hsz hk => ?_
    obtain ⟨c, u, hcx, rfl⟩ := hP
    obtain ⟨oi, hoi, ri⟩ := id hs'
    refine ⟨_, rfl, wpAny_letOwnedTupleGo_enum (s := { s with heap := h', toks := tk + 1 }) ho fun h'' he' sb => ?_⟩
    have hT2 : h''.get? s.heap.objs.size = some { cls := .type "tuple", data := .seq #[.int i tk, .str ⟨#[c]⟩ u] } := (sb.2 _ (Nat.ne_of_gt hel)).trans hT
    have new : ObjOk X.prog X.w (upd H s.heap.objs.size (.tup [.int (i : Nat), .str ⟨#[c]⟩])) h'' s.heap.objs.size (.tup [.int (i : Nat), .str ⟨#[c]⟩]) :=
      ⟨by show 2 ≤ sizeLine; decide, [.int i tk, .str ⟨#[c]⟩ u], .cons ⟨_, rfl⟩ (.cons ⟨_, rfl⟩ .nil), ⟨_, hT2, rfl, _, rfl⟩⟩
    have I1 : Inv X pins σ (upd H s.heap.objs.size (.tup [.int (i : Nat), .str ⟨#[c]⟩])) { s with heap := h'', toks := tk + 1 } :=
      I.turnedNew (ch := [e, it]) (fun b ob hb z => (sb.2 b (fun zz => hb (by simp [zz]))).trans (hk b ob (fun zz => hb (by simp [zz])) (fun zz => hb (by simp [zz])) z)) hf (Nat.le_refl _) new
    refine ⟨.ref s.heap.objs.size, _, I1, rfl, ⟨_, c, rfl, I.hok.fresh (Nat.le_refl _), rfl, hcx⟩, ⟨⟨.str ⟨#[c]⟩ u, ?_⟩, ⟨oi, (sb.2 it (Ne.symm hne)).trans hoi, ri⟩, hne⟩, fun b hb => ?_⟩
    · have e1 : ((i + 1 : Nat) : Int) = (i : Int) + 1 := by omega
      rw [e1]
      exact he'
    · have hb2 : b = e ∨ b = it := by simpa using hb
      have hb' : b < s.heap.objs.size := by
        rcases hb2 with z | z
        · rw [z]; exact hel
        · rw [z]; exact hil
      rw [upd_ne (Nat.ne_of_lt hb')]
      exact (hf b hb).1
  done := by
    intro X hP hw hK hc i pins s σ H E I hf st hg
    subst hP hw hK
    obtain ⟨⟨old, he⟩, hit, hne⟩ := st
    obtain ⟨f0, f1, f2, f3, f4, f5⟩ := hf it (by simp)
    have D : Draws X.prog X.w X.A.in1 it [it] x.cps.size (fun i v => ∃ c u, x.cps[i]? = some c ∧ v = .str ⟨#[c]⟩ u) (fun i h => h.IsStrIter it ty x t i) := by
      rcases hty with rfl | rfl
      · exact Draws.strAscii (A := X.A.in1) (I.ok.hd hc) it x t
      · exact Draws.strWide (A := X.A.in1) (I.ok.hd hc) it x t
    have hg : x.cps.size = i := hg
    exact wpAny_pyNext_enum_endD D he (by rw [hg]; exact hit) fun h' eb => ⟨rfl, I.turned (t' := s.toks) (fun b o hb z => eb b o hb z) f0 f1 f3 f4 f5⟩
  self := fun A i s Q E st h => by
    obtain ⟨⟨_, he⟩, _⟩ := st
    exact wpAny_pyIter_enum he h
/-- enumerate over a tuple or a text -/
def iEnumX (K : PySem.W.Frag) (ta : TA) : TI := fun σ H R => ta σ H fun vs H1 => (∃ a xs, vs = [.ref a] ∧ SqT K H1 a xs ∧ R (Itet K a) H1) ∨ ∃ x, vs = [.str x] ∧ R (Ites x) H1
theorem pi_enumX {X : Cx} {e : Expr} {ta : TA} {p pos tpos : Pos} {elts : List Expr} {kk : Nat} (hg : Gl X "enumerate") (hm : X.mg "enumerate" = none) (ha : PA X [e] ta) (hs : starEach [e] X.env = [(false, eval e X.env)] := by rfl) :
    PI X (.Tuple elts kk tpos) (.Call (.Name "enumerate" p) [e] [] pos) (iEnumX X.K ta) := by
  refine ⟨fun pins s σ H R I h => ?_⟩
  refine Call_ (ld_blt I hg hm boot_enumerate (PyProof.Rows.callWith_type1 (thn (ha.run pos pins s σ H _ I h) fun us s1 ⟨vs, H1, I1, r1, q1⟩ => ?_) hs rfl))
  rcases q1 with ⟨a, xs, ex, hq, q⟩ | ⟨x, ex, q⟩
  · subst ex
    cases r1 with
    | cons r rr =>
      cases rr
      cases r
      obtain ⟨its, rv, p', hz⟩ := I1.tuple hq
      have hlt : a < s1.heap.objs.size := by
        obtain ⟨o, ho, _⟩ := p'
        exact Heap.lt_size ho
      refine call_enumT p' fun h' he hit hsz hk => wpAny_pyIter_enum he ?_
      have I2 : Inv X pins σ H1 { s1 with heap := h' } := I1.kept (t' := s1.toks) hk
      refine ⟨s1.heap.objs.size + 1, [s1.heap.objs.size + 1, s1.heap.objs.size], _, _, H1, rfl, I2, turn_enumT a (s1.heap.objs.size + 1) s1.heap.objs.size (Nat.ne_of_lt hlt) (Nat.ne_of_lt (Nat.lt_succ_of_lt hlt)), ⟨⟨.none, he⟩, hit, Nat.succ_ne_self _⟩, fun b hb => ?_, q⟩
      have hb2 : b = s1.heap.objs.size + 1 ∨ b = s1.heap.objs.size := by simpa using hb
      have hle : s1.heap.objs.size ≤ b := by
        rcases hb2 with z | z
        · rw [z]; exact Nat.le_add_right _ _
        · rw [z]; exact Nat.le_refl _
      exact I1.fpOk hle (I1.hok.fresh hle)
  · subst ex
    cases r1 with
    | cons r rr =>
      cases rr
      obtain ⟨t, rfl⟩ := r
      refine call_enumerate_str fun h' he hit hsz hk => wpAny_pyIter_enum he ?_
      have I2 : Inv X pins σ H1 { s1 with heap := h' } := I1.kept (t' := s1.toks) hk
      refine ⟨s1.heap.objs.size + 1, [s1.heap.objs.size + 1, s1.heap.objs.size], _, _, H1, rfl, I2, turn_enumS x t (strIterType x) (by unfold strIterType; split <;> simp) (s1.heap.objs.size + 1) s1.heap.objs.size, ⟨⟨.none, he⟩, hit, Nat.succ_ne_self _⟩, fun b hb => ?_, q⟩
      have hb2 : b = s1.heap.objs.size + 1 ∨ b = s1.heap.objs.size := by simpa using hb
      have hle : s1.heap.objs.size ≤ b := by
        rcases hb2 with z | z
        · rw [z]; exact Nat.le_add_right _ _
        · rw [z]; exact Nat.le_refl _
      exact I1.fpOk hle (I1.hok.fresh hle)
/-- enumerate's pairs -/
def pairs : Nat → List PyData → List PyData
  | _, [] => []
  | k, d :: ds => .tuple [.int (k : Nat), d] :: pairs (k + 1) ds
theorem pairs_get : ∀ (ds : List PyData) (k i : Nat), (pairs k ds)[i]? = (ds[i]?).map fun d => .tuple [.int ((k + i : Nat)), d]
  | [], k, i => rfl
  | d :: ds, k, 0 => rfl
  | d :: ds, k, i + 1 => by
    rw [pairs, List.getElem?_cons_succ, pairs_get ds (k + 1) i, List.getElem?_cons_succ, show k + 1 + i = k + (i + 1) by omega]
theorem pairs_len : ∀ (ds : List PyData) (k : Nat), (pairs k ds).length = ds.length
  | [], _ => rfl
  | _ :: ds, k => by rw [pairs, List.length_cons, List.length_cons, pairs_len ds (k + 1)]
theorem snap_enumT {K : PySem.W.Frag} {a : Addr} {vs : List V} {ds : List PyData} : Snap K (Itet K a) (fun P => SqT K P a vs ∧ DqAll K P vs ds) (pairs 0 ds) where
  mono := fun P P' s h => ⟨seqT s h.1, h.2.mono s⟩
  go := fun i P H hi h s => by
    rw [pairs_len] at hi
    exact ⟨vs, vs[i]'(by rw [h.2.length]; exact hi), seqT s h.1, by simp⟩
  yld := fun i P H y H' d h s hd hy => by
    obtain ⟨T, x, rfl, hT, rfl, hx⟩ := hy
    rw [pairs_get] at hd
    cases e : ds[i]? with
    | none => rw [e] at hd; cases hd
    | some d0 =>
      rw [e] at hd
      cases hd
      obtain ⟨v, h1, h2⟩ := h.2.get e
      have h3 := hx vs (seqT s h.1)
      rw [h1] at h3
      rw [Option.some.inj h3] at h2
      have pT := sub_none s hT
      refine ⟨upd P T (.tup [.int (i : Nat), x]), Fw.same_upd pT, fun b o hb => ?_, Fw.same_upd hT, fun b o hb => ?_, ?_⟩
      · by_cases hbT : b = T
        · subst hbT
          rw [upd_same] at hb ⊢
          exact hb
        · rw [upd_ne hbT] at hb ⊢
          exact s _ _ hb
      · by_cases hbT : b = T
        · subst hbT
          exact .inr (.inl hT)
        · rw [upd_ne hbT] at hb
          exact .inl ⟨_, hb⟩
      · rw [Nat.zero_add]
        exact .tup (SqT.of upd_same) (.cons (.int _) (.cons (h2.mono (Fw.same_upd pT)) .nil))
  stop := fun P H h s => ⟨vs, seqT s h.1, by rw [h.2.length, pairs_len]⟩
theorem snap_enumS {K : PySem.W.Frag} {z : Str} : Snap K (Ites z) (fun _ => True) (pairs 0 (signs z)) where
  mono := fun _ _ _ _ => trivial
  go := fun i P H hi _ _ => by
    rw [pairs_len] at hi
    show i < z.cps.size
    simpa [signs] using hi
  yld := fun i P H y H' d _ s hd hy => by
    obtain ⟨T, c, rfl, hT, rfl, hx⟩ := hy
    rw [pairs_get] at hd
    unfold signs at hd
    rw [List.getElem?_map, Array.getElem?_toList, hx] at hd
    cases hd
    have pT := sub_none s hT
    refine ⟨upd P T (.tup [.int (i : Nat), .str ⟨#[c]⟩]), Fw.same_upd pT, fun b o hb => ?_, Fw.same_upd hT, fun b o hb => ?_, ?_⟩
    · by_cases hbT : b = T
      · subst hbT
        rw [upd_same] at hb ⊢
        exact hb
      · rw [upd_ne hbT] at hb ⊢
        exact s _ _ hb
    · by_cases hbT : b = T
      · subst hbT
        exact .inr (.inl hT)
      · rw [upd_ne hbT] at hb
        exact .inl ⟨_, hb⟩
    · rw [Nat.zero_add]
      exact .tup (SqT.of upd_same) (.cons (.int _) (.cons (.str _) .nil))
  stop := fun P H _ _ => by
    show z.cps.size = _
    rw [pairs_len]
    simp [signs]
/-- enumerate(data) -/
def sEnum (fa : SE PyData) : SE (List PyData) := bnd fa fun d => match d with
  | .tuple ys => ret (pairs 0 ys)
  | .str z => ret (pairs 0 (signs z))
  | _ => fun _ => none
section
variable {X : Cx} {m p : Bool} {a : Expr} {px pos tpos : Pos} {fa : SE PyData} {elts : List Expr} {kk : Nat}
theorem pxi_enum (hg : Gl X "enumerate") (hm : X.mg "enumerate" = none) (h : PX X m true a fa) (hs : starEach [a] X.env = [(false, eval a X.env)] := by rfl) : PXI X m (.Tuple elts kk tpos) (.Call (.Name "enumerate" px) [a] [] pos) (sEnum fa) :=
  pi_imp (pi_enumX hg hm (pa_cons h pa_nil hs) hs) fun σ H R => by
  rintro ⟨vs0, P, E, fps, ds, E', rel, hh, q⟩
  obtain ⟨d, E1, h1, hh⟩ := bnd_some hh
  split at hh
  · rename_i ys
    obtain ⟨rfl, rfl⟩ := ret_some hh
    refine ⟨vs0, P, E, fps, _, _, rel, h1, fun P1 H1 fps1 v r1 s1 m1' dv => ?_⟩
    cases dv with
    | @tup ad vs _ hx hv => exact .inl ⟨ad, vs, rfl, seqT r1.sub hx, q P1 H1 fps1 _ _ r1 s1 m1' snap_enumT ⟨hx, hv⟩⟩
  · rename_i z
    obtain ⟨rfl, rfl⟩ := ret_some hh
    refine ⟨vs0, P, E, fps, _, _, rel, h1, fun P1 H1 fps1 v r1 s1 m1' dv => ?_⟩
    exact .inr ⟨z, by rw [dq_str dv], q P1 H1 fps1 _ _ r1 s1 m1' snap_enumS trivial⟩
  · cases hh
end
end Fw
namespace Fw
open PySem PySem.Spec L2

/-- m answers, and what it answers fulfils Q -/
def Ok {α : Type} (m : Option (α × En)) (Q : α → En → Prop) : Prop := ∃ a E, m = some (a, E) ∧ Q a E
def OkV {α : Type} (m : Option α) (Q : α → Prop) : Prop := ∃ a, m = some a ∧ Q a
theorem Ok.imp {α : Type} {m : Option (α × En)} {Q R : α → En → Prop} (h : Ok m Q) (i : ∀ a E, Q a E → R a E) : Ok m R := by
  obtain ⟨a, E, h1, h2⟩ := h
  exact ⟨a, E, h1, i a E h2⟩
theorem ok_congr {α : Type} {m m' : Option (α × En)} {Q : α → En → Prop} (h : m = m') : Ok m Q = Ok m' Q := by rw [h]
theorem okV_congr {α : Type} {m m' : Option α} {Q : α → Prop} (h : m = m') : OkV m Q = OkV m' Q := by rw [h]
theorem ok_some {α : Type} {a : α} {E : En} {Q : α → En → Prop} : Ok (some (a, E)) Q = Q a E := by
  apply propext
  constructor
  · rintro ⟨_, _, h, q⟩
    cases h
    exact q
  · exact fun h => ⟨a, E, rfl, h⟩
theorem ok_none {α : Type} {Q : α → En → Prop} : Ok (none : Option (α × En)) Q = False := by
  apply propext
  constructor
  · rintro ⟨_, _, h, q⟩
    cases h
  · exact False.elim
theorem okV_some {α : Type} {a : α} {Q : α → Prop} : OkV (some a) Q = Q a := by
  apply propext
  constructor
  · rintro ⟨_, h, q⟩
    cases h
    exact q
  · exact fun h => ⟨a, rfl, h⟩
theorem okV_none {α : Type} {Q : α → Prop} : OkV (none : Option α) Q = False := by
  apply propext
  constructor
  · rintro ⟨_, h, q⟩
    cases h
  · exact False.elim
theorem okV_if {α : Type} {c : Prop} [Decidable c] {a : Option α} {Q : α → Prop} : OkV (if c then a else none) Q = (c ∧ OkV a Q) := by
  by_cases h : c
  · rw [if_pos h]
    exact propext ⟨fun x => ⟨h, x⟩, fun x => x.2⟩
  · rw [if_neg h, okV_none]
    exact propext ⟨False.elim, fun x => h x.1⟩
theorem ok_if {α : Type} {c : Prop} [Decidable c] {a b : Option (α × En)} {Q : α → En → Prop} : Ok (if c then a else b) Q = if c then Ok a Q else Ok b Q := by
  by_cases h : c
  · rw [if_pos h, if_pos h]
  · rw [if_neg h, if_neg h]
theorem ok_ret {α : Type} {a : α} {E : En} {Q : α → En → Prop} : Ok (ret a E) Q = Q a E := ok_some
theorem ok_bnd {α β : Type} {f : SE α} {k : α → SE β} {E : En} {Q : β → En → Prop} : Ok (bnd f k E) Q = Ok (f E) fun a E1 => Ok (k a E1) Q := by
  unfold bnd
  cases h : f E with
  | none => rw [ok_none, ok_none]
  | some r => rw [ok_some]
theorem ok_lft {α : Type} {o : Option α} {E : En} {Q : α → En → Prop} : Ok (lft o E) Q = OkV o fun a => Q a E := by
  unfold lft
  cases o with
  | none => exact ok_none.trans okV_none.symm
  | some a => rw [okV_some]; exact ok_some
theorem ok_bin {fa fb : SE PyData} {g : PyData → PyData → Option PyData} {E : En} {Q : PyData → En → Prop} : Ok (bin fa fb g E) Q = Ok (fa E) fun d E1 => Ok (fb E1) fun e E2 => OkV (g d e) fun a => Q a E2 := by
  unfold bin
  simp only [ok_bnd, ok_lft]
theorem ok_una {fa : SE PyData} {g : PyData → Option PyData} {E : En} {Q : PyData → En → Prop} : Ok (una fa g E) Q = Ok (fa E) fun d E1 => OkV (g d) fun a => Q a E1 := by
  unfold una
  simp only [ok_bnd, ok_lft]
theorem ok_binL {fa fb : SE PyData} {g : PyData → PyData → Option (List PyData)} {E : En} {Q : List PyData → En → Prop} : Ok (binL fa fb g E) Q = Ok (fa E) fun d E1 => Ok (fb E1) fun e E2 => OkV (g d e) fun a => Q a E2 := by
  unfold binL
  simp only [ok_bnd, ok_lft]
theorem ok_unaL {fa : SE PyData} {g : PyData → Option (List PyData)} {E : En} {Q : List PyData → En → Prop} : Ok (unaL fa g E) Q = Ok (fa E) fun d E1 => OkV (g d) fun a => Q a E1 := by
  unfold unaL
  simp only [ok_bnd, ok_lft]
theorem ok_mny {α β : Type} {fs : SE α} {g : α → Option β} {E : En} {Q : β → En → Prop} : Ok (mny fs g E) Q = Ok (fs E) fun d E1 => OkV (g d) fun a => Q a E1 := by
  unfold mny
  simp only [ok_bnd, ok_lft]
theorem ok_rdD {i : Nat} {E : En} {Q : PyData → En → Prop} : Ok (rdD i E) Q = match E[i]? with
    | some (.dat d) => Q d E
    | _ => False := by
  unfold rdD
  cases E[i]? with
  | none => exact ok_none
  | some s => cases s <;> first | exact ok_some | exact ok_none
theorem ok_rdO {i : Nat} {E : En} {Q : PyData → En → Prop} : Ok (rdO i E) Q = match E[i]? with
    | some (.own d) => Q (.list d) E
    | _ => False := by
  unfold rdO
  cases E[i]? with
  | none => exact ok_none
  | some s => cases s <;> first | exact ok_some | exact ok_none
theorem ok_rdA {i : Nat} {E : En} {Q : PyData → En → Prop} : Ok (rdA i E) Q = match E[i]? with
    | some (.dat d) => Q d E
    | some (.own d) => Q (.list d) (E.set i (.dat (.list d)))
    | _ => False := by
  unfold rdA
  cases E[i]? with
  | none => exact ok_none
  | some s => cases s <;> first | exact ok_some | exact ok_none
theorem ok_toB {f : SE PyData} {E : En} {Q : Bool → En → Prop} : Ok (toB f E) Q = Ok (f E) fun d E1 => match d with
    | .bool b => Q b E1
    | _ => False := by
  unfold toB
  rw [ok_bnd]
  congr 1
  funext d E1
  cases d <;> first | exact ok_some | exact ok_none
theorem ok_sAnd {a b : SE Bool} {E : En} {Q : Bool → En → Prop} : Ok (sAnd a b E) Q = Ok (a E) fun x E1 => if x then Ok (b E1) Q else Q false E1 := by
  unfold sAnd
  rw [ok_bnd]
  congr 1
  funext x E1
  cases x
  · exact ok_some
  · rfl
theorem ok_sOr {a b : SE Bool} {E : En} {Q : Bool → En → Prop} : Ok (sOr a b E) Q = Ok (a E) fun x E1 => if x then Q true E1 else Ok (b E1) Q := by
  unfold sOr
  rw [ok_bnd]
  congr 1
  funext x E1
  cases x
  · rfl
  · exact ok_some
theorem ok_sNot {a : SE Bool} {E : En} {Q : Bool → En → Prop} : Ok (sNot a E) Q = Ok (a E) fun x E1 => Q (!x) E1 := by
  unfold sNot
  rw [ok_bnd]
  congr 1
  funext x E1
  exact ok_some
theorem ok_vAnd {a b : SE PyData} {E : En} {Q : PyData → En → Prop} : Ok (vAnd a b E) Q = Ok (toB a E) fun x E1 => if x then Ok (b E1) Q else Q (.bool false) E1 := by
  unfold vAnd
  rw [ok_bnd]
  congr 1
  funext x E1
  cases x
  · exact ok_some
  · rfl
theorem ok_vOr {a b : SE PyData} {E : En} {Q : PyData → En → Prop} : Ok (vOr a b E) Q = Ok (toB a E) fun x E1 => if x then Q (.bool true) E1 else Ok (b E1) Q := by
  unfold vOr
  rw [ok_bnd]
  congr 1
  funext x E1
  cases x
  · rfl
  · exact ok_some
theorem ok_sIf {t : SE Bool} {a b : SE PyData} {E : En} {Q : PyData → En → Prop} : Ok (sIf t a b E) Q = Ok (t E) fun x E1 => if x then Ok (a E1) Q else Ok (b E1) Q := by
  unfold sIf
  rw [ok_bnd]
  congr 1
  funext x E1
  cases x <;> rfl
theorem ok_chn {a b c : SE PyData} {g1 g2 : PyData → PyData → Option PyData} {E : En} {Q : PyData → En → Prop} : Ok (chn a b c g1 g2 E) Q = Ok (a E) fun d E1 => Ok (b E1) fun e E2 => OkV (g1 d e) fun k => match k with
    | .bool true => Ok (c E2) fun w E3 => OkV (g2 e w) fun z => Q z E3
    | .bool false => Q (.bool false) E2
    | _ => False := by
  unfold chn
  rw [ok_bnd]
  congr 1
  funext d E1
  rw [ok_bnd]
  congr 1
  funext e E2
  rw [ok_bnd, ok_toB, ok_lft]
  congr 1
  funext k
  cases k with
  | bool x =>
    cases x
    · exact ok_some
    · show Ok (bnd c _ E2) Q = _
      rw [ok_bnd]
      congr 1
      funext w E3
      exact ok_lft
  | _ => rfl
theorem ok_sNil {E : En} {Q : List PyData → En → Prop} : Ok (sNil E) Q = Q [] E := ok_some
theorem ok_sCons {a : SE PyData} {fs : SE (List PyData)} {E : En} {Q : List PyData → En → Prop} : Ok (sCons a fs E) Q = Ok (a E) fun d E1 => Ok (fs E1) fun ds E2 => Q (d :: ds) E2 := by
  unfold sCons
  simp only [ok_bnd, ok_ret]
theorem ok_dTup {fs : SE (List PyData)} {E : En} {Q : PyData → En → Prop} : Ok (dTup fs E) Q = Ok (fs E) fun ds E1 => ds.length ≤ sizeLine ∧ Q (.tuple ds) E1 := by
  unfold dTup
  rw [ok_bnd]
  congr 1
  funext ds E1
  by_cases h : ds.length ≤ sizeLine
  · rw [if_pos h, ok_ret]
    exact propext ⟨fun x => ⟨h, x⟩, fun x => x.2⟩
  · rw [if_neg h, ok_none]
    exact propext ⟨False.elim, fun x => h x.1⟩
theorem ok_dLst {fs : SE (List PyData)} {E : En} {Q : List PyData → En → Prop} : Ok (dLst fs E) Q = Ok (fs E) fun ds E1 => ds.length ≤ sizeLine ∧ Q ds E1 := by
  unfold dLst
  rw [ok_bnd]
  congr 1
  funext ds E1
  by_cases h : ds.length ≤ sizeLine
  · rw [if_pos h, ok_ret]
    exact propext ⟨fun x => ⟨h, x⟩, fun x => x.2⟩
  · rw [if_neg h, ok_none]
    exact propext ⟨False.elim, fun x => h x.1⟩
theorem ok_m0S {a : SE PyData} {g : Str → Option PyData} {E : En} {Q : PyData → En → Prop} : Ok (m0S a g E) Q = Ok (a E) fun d E1 => match d with
    | .str s => OkV (g s) fun z => Q z E1
    | _ => False := by
  unfold m0S
  rw [ok_bnd]
  congr 1
  funext d E1
  cases d <;> first | exact ok_lft | exact ok_none
theorem ok_m1S {a b : SE PyData} {g : Str → PyData → Option PyData} {E : En} {Q : PyData → En → Prop} : Ok (m1S a b g E) Q = Ok (a E) fun d E1 => match d with
    | .str s => Ok (b E1) fun e E2 => OkV (g s e) fun z => Q z E2
    | _ => False := by
  unfold m1S
  rw [ok_bnd]
  congr 1
  funext d E1
  cases d <;> first
    | exact ok_none
    | (show Ok (bnd b _ E1) Q = _
       rw [ok_bnd]
       congr 1
       funext w E3
       exact ok_lft)
theorem ok_m1L {a b : SE PyData} {g : Str → PyData → Option (List PyData)} {E : En} {Q : List PyData → En → Prop} : Ok (m1L a b g E) Q = Ok (a E) fun d E1 => match d with
    | .str s => Ok (b E1) fun e E2 => OkV (g s e) fun z => Q z E2
    | _ => False := by
  unfold m1L
  rw [ok_bnd]
  congr 1
  funext d E1
  cases d <;> first
    | exact ok_none
    | (show Ok (bnd b _ E1) Q = _
       rw [ok_bnd]
       congr 1
       funext w E3
       exact ok_lft)
theorem ok_ixO {i : Nat} {fb : SE PyData} {E : En} {Q : PyData → En → Prop} : Ok (ixO i fb E) Q = ((own? i E).isSome = true ∧ Ok (fb E) fun e E1 => OkV (own? i E1) fun xs => OkV (gIx (.list xs) e) fun z => Q z E1) := by
  unfold ixO
  cases h : own? i E with
  | none =>
    rw [ok_none]
    exact propext ⟨False.elim, fun x => nomatch x.1⟩
  | some xs =>
    show Ok (bnd fb _ E) Q = _
    rw [ok_bnd]
    refine propext ⟨fun x => ⟨rfl, x.imp fun a E1 y => ?_⟩, fun x => x.2.imp fun a E1 y => ?_⟩
    · cases e : own? i E1 with
      | none => rw [e] at y; exact absurd y (by rw [ok_none]; exact id)
      | some b =>
        rw [e] at y
        exact ⟨b, rfl, (Eq.mp ok_lft y)⟩
    · obtain ⟨b, e, y⟩ := y
      rw [e]
      exact Eq.mpr ok_lft y
theorem ok_sPart {f : SE PyData} {E : En} {Q : Option Int → En → Prop} : Ok (sPart f E) Q = Ok (f E) fun d E1 => match d with
    | .int i => Q (some i) E1
    | _ => False := by
  unfold sPart
  rw [ok_bnd]
  congr 1
  funext d E1
  cases d <;> first | exact ok_some | exact ok_none
theorem ok_sSl {f : SE PyData} {fl fh : SE (Option Int)} {E : En} {Q : PyData → En → Prop} : Ok (sSl f fl fh E) Q = Ok (f E) fun d E1 => Ok (fl E1) fun lo E2 => Ok (fh E2) fun hi E3 => OkV (gSl d lo hi) fun z => Q z E3 := by
  unfold sSl
  simp only [ok_bnd, ok_lft]
theorem ok_tupO {i : Nat} {E : En} {Q : PyData → En → Prop} : Ok (tupO i E) Q = OkV (own? i E) fun xs => Q (.tuple xs) E := by
  unfold tupO
  cases own? i E with
  | none => exact ok_none.trans okV_none.symm
  | some xs => rw [okV_some]; exact ok_some
theorem ok_sItems {a : SE PyData} {E : En} {Q : List PyData → En → Prop} : Ok (sItems a E) Q = Ok (a E) fun d E1 => OkV (itemsOf d) fun ds => Q ds E1 := by
  unfold sItems
  simp only [ok_bnd, ok_lft]
theorem ok_sScr {i : Nat} {E : En} {Q : List PyData → En → Prop} : Ok (sScr i E) Q = match E[i]? with
    | some (.scr ns) => Q (ns.map .int) E
    | _ => False := by
  unfold sScr
  cases E[i]? with
  | none => exact ok_none
  | some s => cases s <;> first | exact ok_some | exact ok_none
theorem ok_sEnum {a : SE PyData} {E : En} {Q : List PyData → En → Prop} : Ok (sEnum a E) Q = Ok (a E) fun d E1 => match d with
    | .tuple ys => Q (pairs 0 ys) E1
    | .str z => Q (pairs 0 (signs z)) E1
    | _ => False := by
  unfold sEnum
  rw [ok_bnd]
  congr 1
  funext d E1
  cases d <;> first | exact ok_some | exact ok_none
theorem ok_sRng1 {a : SE PyData} {E : En} {Q : List PyData → En → Prop} : Ok (sRng1 a E) Q = Ok (a E) fun d E1 => match d with
    | .int j => (-(2 ^ 62) ≤ j ∧ j < 2 ^ 62) ∧ Q (rngL 0 j.toNat) E1
    | _ => False := by
  unfold sRng1
  rw [ok_bnd]
  congr 1
  funext d E1
  cases d with
  | int j =>
    show Ok ((if -(2 ^ 62) ≤ j ∧ j < 2 ^ 62 then ret (rngL 0 j.toNat) else fun _ => none) E1) Q = ((-(2 ^ 62) ≤ j ∧ j < 2 ^ 62) ∧ Q (rngL 0 j.toNat) E1)
    by_cases h : -(2 ^ 62) ≤ j ∧ j < 2 ^ 62
    · rw [if_pos h, ok_ret]
      exact propext ⟨fun x => ⟨h, x⟩, fun x => x.2⟩
    · rw [if_neg h, ok_none]
      exact propext ⟨False.elim, fun x => h x.1⟩
  | _ => exact ok_none
theorem ok_sRng2 {a b : SE PyData} {E : En} {Q : List PyData → En → Prop} : Ok (sRng2 a b E) Q = Ok (a E) fun d E1 => Ok (b E1) fun e E2 => match d, e with
    | .int i, .int j => (-(2 ^ 62) ≤ i ∧ i < 2 ^ 62 ∧ -(2 ^ 62) ≤ j ∧ j < 2 ^ 62) ∧ Q (rngL i (j - i).toNat) E2
    | _, _ => False := by
  unfold sRng2
  rw [ok_bnd]
  congr 1
  funext d E1
  rw [ok_bnd]
  congr 1
  funext e E2
  cases d with
  | int i =>
    cases e with
    | int j =>
      show Ok ((if -(2 ^ 62) ≤ i ∧ i < 2 ^ 62 ∧ -(2 ^ 62) ≤ j ∧ j < 2 ^ 62 then ret (rngL i (j - i).toNat) else fun _ => none) E2) Q = ((-(2 ^ 62) ≤ i ∧ i < 2 ^ 62 ∧ -(2 ^ 62) ≤ j ∧ j < 2 ^ 62) ∧ Q (rngL i (j - i).toNat) E2)
      by_cases h : -(2 ^ 62) ≤ i ∧ i < 2 ^ 62 ∧ -(2 ^ 62) ≤ j ∧ j < 2 ^ 62
      · rw [if_pos h, ok_ret]
        exact propext ⟨fun x => ⟨h, x⟩, fun x => x.2⟩
      · rw [if_neg h, ok_none]
        exact propext ⟨False.elim, fun x => h x.1⟩
    | _ => exact ok_none
  | _ => cases e <;> exact ok_none

theorem ok_seqS {f g : SS} {E : En} {Q : Fl → En → Prop} : Ok (seqS f g E) Q = Ok (f E) fun fl E1 => match fl with
    | .nx => Ok (g E1) Q
    | r => Q r E1 := by
  unfold seqS
  cases h : f E with
  | none => exact ok_none.trans ok_none.symm
  | some r =>
    obtain ⟨fl, E1⟩ := r
    rw [ok_some]
    cases fl <;> first | rfl | exact ok_some
theorem ok_nxt {E : En} {Q : Fl → En → Prop} : Ok (nxt E) Q = Q .nx E := ok_some
theorem ok_brkS {E : En} {Q : Fl → En → Prop} : Ok (brkS E) Q = Q .bk E := ok_some
theorem ok_cntS {E : En} {Q : Fl → En → Prop} : Ok (cntS E) Q = Q .ct E := ok_some
theorem ok_retN {E : En} {Q : Fl → En → Prop} : Ok (retN E) Q = Q (.rt (.dat .none)) E := ok_some
theorem ok_m {α β : Type} {m : Option (α × En)} {k : α → En → Option (β × En)} {Q : β → En → Prop} : Ok (match m with
    | some (a, E1) => k a E1
    | none => none) Q = Ok m fun a E1 => Ok (k a E1) Q := by
  cases m with
  | none => rw [ok_none, ok_none]
  | some r => rw [ok_some]
theorem ok_drpS {a : SE PyData} {E : En} {Q : Fl → En → Prop} : Ok (drpS a E) Q = Ok (a E) fun _ E1 => Q .nx E1 := by
  unfold drpS
  cases a E with
  | none => exact ok_none.trans ok_none.symm
  | some r =>
    obtain ⟨d, E1⟩ := r
    simp only [ok_some]
theorem ok_asg {i : Nat} {a : SE PyData} {E : En} {Q : Fl → En → Prop} : Ok (asg i a E) Q = Ok (a E) fun d E1 => Q .nx (E1.set i (.dat d)) := by
  unfold asg
  cases a E with
  | none => exact ok_none.trans ok_none.symm
  | some r =>
    obtain ⟨d, E1⟩ := r
    simp only [ok_some]
theorem ok_asgL {i : Nat} {a : SE (List PyData)} {E : En} {Q : Fl → En → Prop} : Ok (asgL i a E) Q = Ok (a E) fun d E1 => Q .nx (E1.set i (.own d)) := by
  unfold asgL
  cases a E with
  | none => exact ok_none.trans ok_none.symm
  | some r =>
    obtain ⟨d, E1⟩ := r
    simp only [ok_some]
theorem ok_asgG {b : PyData → En → Option En} {a : SE PyData} {E : En} {Q : Fl → En → Prop} : Ok (asgG b a E) Q = Ok (a E) fun d E1 => OkV (b d E1) fun E2 => Q .nx E2 := by
  unfold asgG
  cases h : a E with
  | none => rw [ok_none, ok_none]
  | some r =>
    obtain ⟨d, E1⟩ := r
    rw [ok_some]
    show Ok (match b d E1 with | some E2 => some (.nx, E2) | none => none) Q = _
    cases b d E1 with
    | none => exact ok_none.trans okV_none.symm
    | some E2 => rw [okV_some, ok_some]
theorem ok_augS {i : Nat} {fn : Int → Int → Int} {a : SE PyData} {E : En} {Q : Fl → En → Prop} : Ok (augS i fn a E) Q = match E[i]? with
    | some (.dat (.int k)) => Ok (a E) fun d E1 => match d with
      | .int j => Q .nx (E1.set i (.dat (.int (fn k j))))
      | _ => False
    | _ => False := by
  unfold augS
  cases E[i]? with
  | none => exact ok_none
  | some s =>
    cases s with
    | dat d =>
      cases d with
      | int k =>
        simp only
        cases a E with
        | none => exact ok_none.trans ok_none.symm
        | some r =>
          obtain ⟨d, E1⟩ := r
          rw [ok_some]
          cases d <;> first | exact ok_some | exact ok_none
      | _ => exact ok_none
    | _ => exact ok_none
theorem ok_ifS {t : SE Bool} {g h : SS} {E : En} {Q : Fl → En → Prop} : Ok (ifS t g h E) Q = Ok (t E) fun x E1 => if x then Ok (g E1) Q else Ok (h E1) Q := by
  unfold ifS
  cases t E with
  | none => rw [ok_none, ok_none]
  | some r =>
    obtain ⟨x, E1⟩ := r
    rw [ok_some]
    cases x <;> rfl
theorem ok_retD {a : SE PyData} {E : En} {Q : Fl → En → Prop} : Ok (retD a E) Q = Ok (a E) fun d E1 => Q (.rt (.dat d)) E1 := by
  unfold retD
  cases a E with
  | none => exact ok_none.trans ok_none.symm
  | some r =>
    obtain ⟨d, E1⟩ := r
    simp only [ok_some]
theorem ok_retL {a : SE (List PyData)} {E : En} {Q : Fl → En → Prop} : Ok (retL a E) Q = Ok (a E) fun d E1 => Q (.rt (.own d)) E1 := by
  unfold retL
  cases a E with
  | none => exact ok_none.trans ok_none.symm
  | some r =>
    obtain ⟨d, E1⟩ := r
    simp only [ok_some]
theorem ok_retO {i : Nat} {E : En} {Q : Fl → En → Prop} : Ok (retO i E) Q = OkV (own? i E) fun xs => Q (.rt (.own xs)) (E.set i .un) := by
  unfold retO
  cases own? i E with
  | none => exact ok_none.trans okV_none.symm
  | some r => simp only [ok_some, okV_some]
theorem ok_appO {i : Nat} {a : SE PyData} {E : En} {Q : Fl → En → Prop} : Ok (appO i a E) Q = ((own? i E).isSome = true ∧ Ok (a E) fun d E1 => OkV (own? i E1) fun xs => xs.length < sizeLine ∧ Q .nx (E1.set i (.own (xs ++ [d])))) := by
  unfold appO
  cases h : own? i E with
  | none =>
    rw [ok_none]
    exact propext ⟨False.elim, fun x => nomatch x.1⟩
  | some xs0 =>
    have hs : (some xs0).isSome = true := rfl
    have e0 : ∀ P : Prop, ((some xs0).isSome = true ∧ P) = P := fun P => propext ⟨fun x => x.2, fun x => ⟨rfl, x⟩⟩
    rw [e0]
    cases h : a E with
    | none => exact ok_none.trans ok_none.symm
    | some r =>
      obtain ⟨d, E1⟩ := r
      rw [ok_some]
      cases h1 : own? i E1 with
      | none => simp only [h1]; exact ok_none.trans okV_none.symm
      | some xs =>
        simp only [h1]
        rw [okV_some]
        by_cases hl : xs.length < sizeLine
        · rw [if_pos hl, ok_some]
          exact propext ⟨fun x => ⟨hl, x⟩, fun x => x.2⟩
        · rw [if_neg hl, ok_none]
          exact propext ⟨False.elim, fun x => hl x.1⟩
theorem ok_setO {i : Nat} {a fi : SE PyData} {E : En} {Q : Fl → En → Prop} : Ok (setO i a fi E) Q = Ok (a E) fun d E1 => (own? i E1).isSome = true ∧ Ok (fi E1) fun k E2 => match k with
    | .int k => OkV (own? i E2) fun xs => OkV (ixN xs.length k) fun j => Q .nx (E2.set i (.own (xs.set j d)))
    | _ => False := by
  unfold setO
  cases h : a E with
  | none => exact ok_none.trans ok_none.symm
  | some r =>
    obtain ⟨d, E1⟩ := r
    simp only [ok_some]
    cases h : own? i E1 with
    | none =>
      simp only [ok_none]
      exact propext ⟨False.elim, fun x => nomatch x.1⟩
    | some xs0 =>
      simp only
      have e0 : ∀ P : Prop, ((some xs0).isSome = true ∧ P) = P := fun P => propext ⟨fun x => x.2, fun x => ⟨rfl, x⟩⟩
      rw [e0]
      cases h : fi E1 with
      | none => exact ok_none.trans ok_none.symm
      | some r =>
        obtain ⟨k, E2⟩ := r
        simp only [ok_some]
        cases k with
        | int k =>
          simp only
          cases own? i E2 with
          | none => exact ok_none.trans okV_none.symm
          | some xs =>
            simp only [okV_some]
            cases ixN xs.length k with
            | none => exact ok_none.trans okV_none.symm
            | some j => simp only [ok_some, okV_some]
        | _ => exact ok_none
theorem ok_extO {i : Nat} {a : SE PyData} {E : En} {Q : Fl → En → Prop} : Ok (extO i a E) Q = ((own? i E).isSome = true ∧ Ok (a E) fun d E1 => OkV (own? i E1) fun xs => OkV (gList d) fun ys => xs.length + ys.length ≤ sizeLine ∧ Q .nx (E1.set i (.own (xs ++ ys)))) := by
  unfold extO
  cases h : own? i E with
  | none =>
    rw [ok_none]
    exact propext ⟨False.elim, fun x => nomatch x.1⟩
  | some xs0 =>
    have e0 : ∀ P : Prop, ((some xs0).isSome = true ∧ P) = P := fun P => propext ⟨fun x => x.2, fun x => ⟨rfl, x⟩⟩
    rw [e0]
    cases h : a E with
    | none => exact ok_none.trans ok_none.symm
    | some r =>
      obtain ⟨d, E1⟩ := r
      rw [ok_some]
      cases h1 : own? i E1 with
      | none =>
        rw [okV_none]
        show Ok (match own? i E1, gList d with | some xs, some ys => _ | _, _ => none) Q = _
        rw [h1]
        exact ok_none
      | some xs =>
        rw [okV_some]
        show Ok (match own? i E1, gList d with | some xs, some ys => _ | _, _ => none) Q = _
        rw [h1]
        cases h2 : gList d with
        | none => exact ok_none.trans okV_none.symm
        | some ys =>
          rw [okV_some]
          show Ok (if xs.length + ys.length ≤ sizeLine then some (Fl.nx, E1.set i (.own (xs ++ ys))) else none) Q = _
          by_cases hl : xs.length + ys.length ≤ sizeLine
          · rw [if_pos hl, ok_some]
            exact propext ⟨fun x => ⟨hl, x⟩, fun x => x.2⟩
          · rw [if_neg hl, ok_none]
            exact propext ⟨False.elim, fun x => hl x.1⟩
theorem ok_popS {i : Nat} {E : En} {Q : Fl → En → Prop} : Ok (popO i E) Q = OkV (own? i E) fun xs => xs.length ≠ 0 ∧ Q .nx (E.set i (.own xs.dropLast)) := by
  unfold popO
  cases own? i E with
  | none => exact ok_none.trans okV_none.symm
  | some xs =>
    simp only [okV_some]
    by_cases h : xs.length = 0
    · rw [if_pos h, ok_none]
      exact propext ⟨False.elim, fun x => x.1 h⟩
    · rw [if_neg h, ok_some]
      exact propext ⟨fun x => ⟨h, x⟩, fun x => x.2⟩
theorem ok_forS {it : SE (List PyData)} {bb : PyData → En → Option En} {g : SS} {E : En} {Q : Fl → En → Prop} : Ok (forS it bb g E) Q = Ok (it E) fun ds E1 => Ok (forL bb g ds E1) Q := by
  unfold forS
  cases it E with
  | none => exact ok_none.trans ok_none.symm
  | some r =>
    obtain ⟨d, E1⟩ := r
    simp only [ok_some]
theorem ok_forL_nil {bb : PyData → En → Option En} {g : SS} {E : En} {Q : Fl → En → Prop} : Ok (forL bb g [] E) Q = Q .nx E := ok_some
theorem ok_forL_cons {bb : PyData → En → Option En} {g : SS} {d : PyData} {ds : List PyData} {E : En} {Q : Fl → En → Prop} : Ok (forL bb g (d :: ds) E) Q = OkV (bb d E) fun E1 => Ok (g E1) fun fl E2 => match fl with
    | .nx => Ok (forL bb g ds E2) Q
    | .ct => Ok (forL bb g ds E2) Q
    | .bk => Q .nx E2
    | .rt s => Q (.rt s) E2 := by
  show Ok (match bb d E with | some E1 => _ | none => none) Q = _
  cases h : bb d E with
  | none => exact ok_none.trans okV_none.symm
  | some E1 =>
    rw [okV_some]
    show Ok (match g E1 with | some (.nx, E2) => forL bb g ds E2 | some (.ct, E2) => forL bb g ds E2 | some (.bk, E2) => some (.nx, E2) | r => r) Q = _
    cases h : g E1 with
    | none => exact ok_none.trans ok_none.symm
    | some r =>
      obtain ⟨fl, E2⟩ := r
      rw [ok_some]
      cases fl <;> first | rfl | exact ok_some
theorem ok_lcS {fs : SE (List PyData)} {vs : List Nat} {bb : PyData → En → Option En} {t : SE Bool} {fe : SE PyData} {E : En} {Q : List PyData → En → Prop} : Ok (lcS fs vs bb t fe E) Q = Ok (fs E) fun ds E1 => ds.length < sizeLine ∧ Ok (lcL vs bb t fe ds E1) Q := by
  unfold lcS
  cases h : fs E with
  | none => exact ok_none.trans ok_none.symm
  | some r =>
    obtain ⟨ds, E1⟩ := r
    rw [ok_some]
    show Ok (if ds.length < sizeLine then lcL vs bb t fe ds E1 else none) Q = _
    by_cases hl : ds.length < sizeLine
    · rw [if_pos hl]
      exact propext ⟨fun x => ⟨hl, x⟩, fun x => x.2⟩
    · rw [if_neg hl, ok_none]
      exact propext ⟨False.elim, fun x => hl x.1⟩
theorem ok_yesS {E : En} {Q : Bool → En → Prop} : Ok (yesS E) Q = Q true E := ok_some
theorem ok_lcL_nil {vs : List Nat} {bb : PyData → En → Option En} {t : SE Bool} {fe : SE PyData} {E : En} {Q : List PyData → En → Prop} : Ok (lcL vs bb t fe [] E) Q = Q [] E := ok_some
theorem ok_lcL_cons {vs : List Nat} {bb : PyData → En → Option En} {t : SE Bool} {fe : SE PyData} {d : PyData} {ds : List PyData} {E : En} {Q : List PyData → En → Prop} : Ok (lcL vs bb t fe (d :: ds) E) Q = OkV (wipE vs E) fun E0 => OkV (bb d E0) fun E1 => Ok (t E1) fun x E2 =>
    if x then Ok (fe E2) fun y E3 => Ok (lcL vs bb t fe ds (bakE vs E E3)) fun ys E4 => Q (y :: ys) E4 else Ok (lcL vs bb t fe ds (bakE vs E E2)) Q := by
  show Ok (match wipE vs E with | some E0 => _ | none => none) Q = _
  cases h : wipE vs E with
  | none => exact ok_none.trans okV_none.symm
  | some E0 =>
    rw [okV_some]
    show Ok (match bb d E0 with | some E1 => _ | none => none) Q = _
    cases h : bb d E0 with
    | none => exact ok_none.trans okV_none.symm
    | some E1 =>
      rw [okV_some]
      show Ok (match t E1 with | some (true, E2) => _ | some (false, E2) => _ | none => none) Q = _
      cases h : t E1 with
      | none => exact ok_none.trans ok_none.symm
      | some r =>
        obtain ⟨x, E2⟩ := r
        rw [ok_some]
        cases x with
        | false => rfl
        | true =>
          cases h : fe E2 with
          | none => simp only [h]; exact ok_none.trans ok_none.symm
          | some r =>
            obtain ⟨y, E3⟩ := r
            simp only [h, ok_some, if_pos]
            cases lcL vs bb t fe ds (bakE vs E E3) with
            | none => exact ok_none.trans ok_none.symm
            | some r =>
              obtain ⟨ys, E4⟩ := r
              simp only [ok_some]
theorem okV_callD {g : Fn} {ds : List PyData} {Q : PyData → Prop} : OkV (callD g ds) Q = Ok (g (ds.map .dat)) fun s _ => match s with
    | .dat d => Q d
    | .own xs => Q (.list xs)
    | _ => False := by
  unfold callD
  cases g (ds.map .dat) with
  | none => exact okV_none.trans ok_none.symm
  | some r =>
    obtain ⟨s, E⟩ := r
    rw [ok_some]
    cases s <;> first | exact okV_some | exact okV_none
theorem okV_callV {g : Fn} {ds : List PyData} {Q : List PyData → Prop} : OkV (callV g ds) Q = Ok (g (ds.map .dat)) fun s _ => match s with
    | .own xs => Q xs
    | _ => False := by
  unfold callV
  cases g (ds.map .dat) with
  | none => exact okV_none.trans ok_none.symm
  | some r =>
    obtain ⟨s, E⟩ := r
    rw [ok_some]
    cases s <;> first | exact okV_some | exact okV_none
theorem ok_callM {i : Nat} {g : Fn} {fs : SE (List PyData)} {E : En} {Q : Sl → En → Prop} : Ok (callM i g fs E) Q = ((own? i E).isSome = true ∧ Ok (fs E) fun ds E1 => OkV (own? i E1) fun xs => Ok (g (.own xs :: ds.map .dat)) fun r outs => match outs with
    | .own ys :: _ => Q r (E1.set i (.own ys))
    | _ => False) := by
  unfold callM
  cases h : own? i E with
  | none =>
    rw [ok_none]
    exact propext ⟨False.elim, fun x => nomatch x.1⟩
  | some xs0 =>
    have e0 : ∀ P : Prop, ((some xs0).isSome = true ∧ P) = P := fun P => propext ⟨fun x => x.2, fun x => ⟨rfl, x⟩⟩
    rw [e0]
    cases h : fs E with
    | none => exact ok_none.trans ok_none.symm
    | some r =>
      obtain ⟨ds, E1⟩ := r
      rw [ok_some]
      cases h1 : own? i E1 with
      | none => simp only [h1]; exact ok_none.trans okV_none.symm
      | some xs =>
        simp only [h1, okV_some]
        cases h : g (.own xs :: ds.map .dat) with
        | none => exact ok_none.trans ok_none.symm
        | some r =>
          obtain ⟨r, outs⟩ := r
          simp only [ok_some]
          cases outs with
          | nil => exact ok_none
          | cons o os => cases o <;> first | exact ok_some | exact ok_none
theorem ok_asD {f : SE Sl} {E : En} {Q : PyData → En → Prop} : Ok (asD f E) Q = Ok (f E) fun s E1 => match s with
    | .dat d => Q d E1
    | .own xs => Q (.list xs) E1
    | _ => False := by
  unfold asD
  cases f E with
  | none => exact ok_none.trans ok_none.symm
  | some r =>
    obtain ⟨s, E⟩ := r
    rw [ok_some]
    cases s <;> first | exact ok_some | exact ok_none
theorem ok_asL {f : SE Sl} {E : En} {Q : List PyData → En → Prop} : Ok (asL f E) Q = Ok (f E) fun s E1 => match s with
    | .own xs => Q xs E1
    | _ => False := by
  unfold asL
  cases f E with
  | none => exact ok_none.trans ok_none.symm
  | some r =>
    obtain ⟨s, E⟩ := r
    rw [ok_some]
    cases s <;> first | exact ok_some | exact ok_none
theorem ok_callS {i : Nat} {g : Fn} {E : En} {Q : List PyData → En → Prop} : Ok (callS i g E) Q = match E[i]? with
    | some (.scr ns) => Ok (g [.scr ns]) fun s _ => match s with
      | .own xs => Q xs E
      | _ => False
    | _ => False := by
  unfold callS
  cases E[i]? with
  | none => exact ok_none
  | some s =>
    cases s with
    | scr ns =>
      simp only
      cases g [.scr ns] with
      | none => exact ok_none.trans ok_none.symm
      | some r =>
        obtain ⟨s, E⟩ := r
        rw [ok_some]
        cases s <;> first | exact ok_some | exact ok_none
    | _ => exact ok_none
theorem ok_runF {n N : Nat} {body : SS} {as : List Sl} {Q : Sl → En → Prop} : Ok (runF n N body as) Q = (as.length = n ∧ Ok (body (as ++ List.replicate (N - n) .un)) fun fl E => match fl with
    | .rt s => OkV (collect as E) fun outs => Q s outs
    | .nx => OkV (collect as E) fun outs => Q (.dat .none) outs
    | _ => False) := by
  unfold runF
  by_cases hl : as.length = n
  · rw [if_pos hl]
    have e0 : ∀ P : Prop, (as.length = n ∧ P) = P := fun P => propext ⟨fun x => x.2, fun x => ⟨hl, x⟩⟩
    rw [e0]
    cases h : body (as ++ List.replicate (N - n) .un) with
    | none => exact ok_none.trans ok_none.symm
    | some r =>
      obtain ⟨fl, E⟩ := r
      rw [ok_some]
      cases fl with
      | rt s =>
        cases h : collect as E with
        | none => simp only [h]; exact ok_none.trans okV_none.symm
        | some o => simp only [h, ok_some, okV_some]
      | nx =>
        cases h : collect as E with
        | none => simp only [h]; exact ok_none.trans okV_none.symm
        | some o => simp only [h, ok_some, okV_some]
      | _ => exact ok_none
  · rw [if_neg hl, ok_none]
    exact propext ⟨False.elim, fun x => hl x.1⟩
end Fw
namespace Fw
open PySem PySem.Spec L2
theorem gAdd_ii {i j : Int} : gAdd (.int i) (.int j) = some (.int (i + j)) := rfl
theorem gAdd_ss {i j : Str} : gAdd (.str i) (.str j) = if i.length + j.length ≤ sizeLine then some (.str (i ++ j)) else none := rfl
theorem gAdd_tt {i j : List PyData} : gAdd (.tuple i) (.tuple j) = if i.length + j.length ≤ sizeLine then some (.tuple (i ++ j)) else none := rfl
theorem gSub_ii {i j : Int} : gSub (.int i) (.int j) = some (.int (i - j)) := rfl
theorem gMul_ii {i j : Int} : gMul (.int i) (.int j) = if cMul i j = true then some (.int (i * j)) else none := rfl
theorem cMul_r {i j : Int} (h1 : -(2 ^ 64) < j) (h2 : j < 2 ^ 64) : cMul i j = true := by
  unfold cMul
  rw [Bool.or_eq_true]
  exact .inr (decide_eq_true ⟨h1, h2⟩)
theorem cMul_l {i j : Int} (h1 : -(2 ^ 64) < i) (h2 : i < 2 ^ 64) : cMul i j = true := by
  unfold cMul
  rw [Bool.or_eq_true]
  exact .inl (decide_eq_true ⟨h1, h2⟩)
theorem gDiv_ii {i j : Int} : gDiv (.int i) (.int j) = if 0 < j ∧ j < 18446744073709551616 then some (.int (i / j)) else none := by
  show (if decide (0 < j ∧ j < 18446744073709551616) = true then _ else _) = _
  simp only [decide_eq_true_eq]
theorem gMod_ii {i j : Int} : gMod (.int i) (.int j) = if 0 < j then some (.int (i % j)) else none := by
  show (if decide (0 < j) = true then _ else _) = _
  simp only [decide_eq_true_eq]
theorem gNeg_i {i : Int} : gNeg (.int i) = some (.int (-i)) := rfl
theorem gLt_ii {i j : Int} : gLt (.int i) (.int j) = some (.bool (decide (i < j))) := rfl
theorem gGt_ii {i j : Int} : gGt (.int i) (.int j) = some (.bool (decide (j < i))) := rfl
theorem gGe_ii {i j : Int} : gGe (.int i) (.int j) = some (.bool (decide (j ≤ i))) := rfl
theorem gLe_ii {i j : Int} : gLe (.int i) (.int j) = some (.bool (decide (i ≤ j))) := rfl
theorem eqv_ii {i j : Int} : PyData.eqv (.int i) (.int j) = decide (i = j) := by
  unfold PyData.eqv
  rfl
theorem eqv_ss {i j : Str} : PyData.eqv (.str i) (.str j) = decide (i = j) := by
  unfold PyData.eqv
  rfl
theorem eqv_bb {i j : Bool} : PyData.eqv (.bool i) (.bool j) = (i == j) := by
  unfold PyData.eqv
  rfl
theorem eqv_nn : PyData.eqv .none .none = true := by unfold PyData.eqv; rfl
theorem eqv_ni {i : Int} : PyData.eqv .none (.int i) = false := by unfold PyData.eqv; rfl
theorem eqv_in {i : Int} : PyData.eqv (.int i) .none = false := by unfold PyData.eqv; rfl
theorem eqv_ns {i : Str} : PyData.eqv .none (.str i) = false := by unfold PyData.eqv; rfl
theorem eqv_sn {i : Str} : PyData.eqv (.str i) .none = false := by unfold PyData.eqv; rfl
theorem eqv_nb {i : Bool} : PyData.eqv .none (.bool i) = false := by unfold PyData.eqv; rfl
theorem eqv_bn {i : Bool} : PyData.eqv (.bool i) .none = false := by unfold PyData.eqv; rfl
theorem eqv_is {i : Int} {s : Str} : PyData.eqv (.int i) (.str s) = false := by unfold PyData.eqv; rfl
theorem eqv_si {i : Int} {s : Str} : PyData.eqv (.str s) (.int i) = false := by unfold PyData.eqv; rfl
theorem eqv_nt {xs : List PyData} : PyData.eqv .none (.tuple xs) = false := by unfold PyData.eqv; rfl
theorem eqv_tn {xs : List PyData} : PyData.eqv (.tuple xs) .none = false := by unfold PyData.eqv; rfl
theorem eqv_nl {xs : List PyData} : PyData.eqv .none (.list xs) = false := by unfold PyData.eqv; rfl
theorem eqv_ln {xs : List PyData} : PyData.eqv (.list xs) .none = false := by unfold PyData.eqv; rfl
theorem eqv_tt {xs ys : List PyData} : PyData.eqv (.tuple xs) (.tuple ys) = PyData.eqvAll xs ys := by rw [PyData.eqv]
theorem eqv_ll {xs ys : List PyData} : PyData.eqv (.list xs) (.list ys) = PyData.eqvAll xs ys := by rw [PyData.eqv]
theorem eqvA_nn : PyData.eqvAll [] [] = true := by rw [PyData.eqvAll]
theorem eqvA_cc {x y : PyData} {xs ys : List PyData} : PyData.eqvAll (x :: xs) (y :: ys) = (PyData.eqv x y && PyData.eqvAll xs ys) := by rw [PyData.eqvAll]
theorem eqvA_nc {y : PyData} {ys : List PyData} : PyData.eqvAll [] (y :: ys) = false := by rw [PyData.eqvAll]
theorem eqvA_cn {y : PyData} {ys : List PyData} : PyData.eqvAll (y :: ys) [] = false := by rw [PyData.eqvAll]
theorem gEq_ii {i j : Int} : gEq (.int i) (.int j) = some (.bool (decide (i = j))) := by rw [← eqv_ii]; rfl
theorem gEq_ss {i j : Str} : gEq (.str i) (.str j) = some (.bool (decide (i = j))) := by rw [← eqv_ss]; rfl
theorem gEq_bb {i j : Bool} : gEq (.bool i) (.bool j) = some (.bool (i == j)) := by rw [← eqv_bb]; rfl
theorem gEq_nn : gEq .none .none = some (.bool true) := by rw [← eqv_nn]; rfl
theorem gEq_in {i : Int} : gEq (.int i) .none = some (.bool false) := by rw [← eqv_in]; rfl
theorem gEq_ni {i : Int} : gEq .none (.int i) = some (.bool false) := by rw [← eqv_ni]; rfl
theorem gEq_sn {i : Str} : gEq (.str i) .none = some (.bool false) := by rw [← eqv_sn]; rfl
theorem gEq_ns {i : Str} : gEq .none (.str i) = some (.bool false) := by rw [← eqv_ns]; rfl
theorem gEq_si {i : Str} {j : Int} : gEq (.str i) (.int j) = some (.bool false) := by rw [← @eqv_si j i]; rfl
theorem gEq_is {i : Str} {j : Int} : gEq (.int j) (.str i) = some (.bool false) := by rw [← @eqv_is j i]; rfl
theorem gEq_tt {xs ys : List PyData} : gEq (.tuple xs) (.tuple ys) = if (SeqAt.shaped (.tuple xs) && SeqAt.shaped (.tuple ys)) = true then some (.bool (PyData.eqvAll xs ys)) else none := by rw [← eqv_tt]; rfl
theorem gEq_ll {xs ys : List PyData} : gEq (.list xs) (.list ys) = if (SeqAt.shaped (.list xs) && SeqAt.shaped (.list ys)) = true then some (.bool (PyData.eqvAll xs ys)) else none := by rw [← eqv_ll]; rfl
theorem gNe_ii {i j : Int} : gNe (.int i) (.int j) = some (.bool (!decide (i = j))) := by rw [← eqv_ii]; rfl
theorem gNe_ss {i j : Str} : gNe (.str i) (.str j) = some (.bool (!decide (i = j))) := by rw [← eqv_ss]; rfl
theorem gNe_bb {i j : Bool} : gNe (.bool i) (.bool j) = some (.bool (!(i == j))) := by rw [← eqv_bb]; rfl
theorem gNe_nn : gNe .none .none = some (.bool false) := by
  show some (PyData.bool (!PyData.eqv .none .none)) = _
  rw [eqv_nn]; rfl
theorem gNe_tt {xs ys : List PyData} : gNe (.tuple xs) (.tuple ys) = if (SeqAt.shaped (.tuple xs) && SeqAt.shaped (.tuple ys)) = true then some (.bool (!PyData.eqvAll xs ys)) else none := by rw [← eqv_tt]; rfl
theorem gNe_ll {xs ys : List PyData} : gNe (.list xs) (.list ys) = if (SeqAt.shaped (.list xs) && SeqAt.shaped (.list ys)) = true then some (.bool (!PyData.eqvAll xs ys)) else none := by rw [← eqv_ll]; rfl
theorem gNot_b {b : Bool} : gNot (.bool b) = some (.bool (!b)) := rfl
theorem gIsN_n : gIsN .none = some (.bool true) := rfl
theorem gIsN_i {i : Int} : gIsN (.int i) = some (.bool false) := rfl
theorem gIsN_b {i : Bool} : gIsN (.bool i) = some (.bool false) := rfl
theorem gIsN_s {i : Str} : gIsN (.str i) = some (.bool false) := rfl
theorem gIsN_t {i : List PyData} : gIsN (.tuple i) = some (.bool false) := rfl
theorem gIsN_l {i : List PyData} : gIsN (.list i) = some (.bool false) := rfl
theorem gNotN_n : gNotN .none = some (.bool false) := rfl
theorem gNotN_i {i : Int} : gNotN (.int i) = some (.bool true) := rfl
theorem gNotN_b {i : Bool} : gNotN (.bool i) = some (.bool true) := rfl
theorem gNotN_s {i : Str} : gNotN (.str i) = some (.bool true) := rfl
theorem gNotN_t {i : List PyData} : gNotN (.tuple i) = some (.bool true) := rfl
theorem gNotN_l {i : List PyData} : gNotN (.list i) = some (.bool true) := rfl
theorem gIx_l {ys : List PyData} {i : Int} : gIx (.list ys) (.int i) = atI ys i := rfl
theorem gIx_t {ys : List PyData} {i : Int} : gIx (.tuple ys) (.int i) = atI ys i := rfl
theorem gIx_s {z : Str} {i : Int} : gIx (.str z) (.int i) = if z.length ≤ sizeLine then (atI z.cps.toList i).map fun c => .str ⟨#[c]⟩ else none := rfl
theorem ixN_nat {n k : Nat} : ixN n (k : Int) = if k < n then some k else none := by
  unfold ixN
  rw [if_pos (by omega)]
  by_cases h : k < n
  · rw [if_pos (by omega), if_pos h]; simp
  · rw [if_neg (by omega), if_neg h]
theorem ixN_lit {n k : Nat} : ixN n (no_index (OfNat.ofNat k : Int)) = if k < n then some k else none := ixN_nat
theorem atI_nat {α : Type} {ys : List α} {n : Nat} : atI ys (n : Int) = ys[n]? := by
  unfold atI
  rw [ixN_nat]
  by_cases h : n < ys.length
  · rw [if_pos h]; rfl
  · rw [if_neg h]; simp; omega
theorem atI_lit {α : Type} {ys : List α} {n : Nat} : atI ys (no_index (OfNat.ofNat n : Int)) = ys[n]? := atI_nat
theorem atI_m1 {α : Type} {ys : List α} : atI ys (-1) = ys.getLast? := by
  unfold atI ixN
  rw [if_neg (by omega), List.getLast?_eq_getElem?]
  by_cases h : ys = []
  · subst h; rfl
  · have : 0 < ys.length := List.length_pos_iff.mpr h
    rw [if_pos (by omega)]
    show ys[((-1 : Int) + ys.length).toNat]? = _
    congr 1
    omega
theorem gLen_s {z : Str} : gLen (.str z) = if z.length ≤ sizeLine then some (.int z.length) else none := rfl
theorem gLen_l {z : List PyData} : gLen (.list z) = some (.int z.length) := rfl
theorem gLen_t {z : List PyData} : gLen (.tuple z) = some (.int z.length) := rfl
theorem gAbs_i {i : Int} : gAbs (.int i) = some (.int (if i < 0 then -i else i)) := rfl
theorem gInt_i {i : Int} : gInt (.int i) = some (.int i) := rfl
theorem gInt_b {i : Bool} : gInt (.bool i) = some (.int (if i then 1 else 0)) := rfl
theorem gInt_s {z : Str} : gInt (.str z) = if z.length ≤ 640 then (PySem.intText? z).map .int else none := rfl
theorem gOrd_s {z : Str} : gOrd (.str z) = if z.length = 1 then some (.int (z.cps.getD 0 0 : Nat)) else none := rfl
theorem gOrd_sign {c : Nat} : gOrd (.str ⟨#[c]⟩) = some (.int c) := rfl
theorem gStr_i {i : Int} : gStr (.int i) = if i.natAbs.log2 < 1920 then some (.str (toString i)) else none := rfl
theorem gStr_s {z : Str} : gStr (.str z) = some (.str z) := rfl
theorem gTuple_l {ys : List PyData} : gTuple (.list ys) = some (.tuple ys) := rfl
theorem gTuple_t {ys : List PyData} : gTuple (.tuple ys) = some (.tuple ys) := rfl
theorem gStrip_s {s t : Str} : gStrip s (.str t) = if s.length ≤ sizeLine then some (.str (Txt.stripChars s t)) else none := rfl
theorem gLstrip_s {s t : Str} : gLstrip s (.str t) = if s.length ≤ sizeLine then some (.str (Txt.lstripChars s t)) else none := rfl
theorem gSplit_s {s t : Str} : gSplit s (.str t) = if (t.length == 0) = false ∧ s.length + 2 ≤ sizeLine then some ((Txt.split s t).map .str) else none := rfl
theorem gPartition_s {s t : Str} : gPartition s (.str t) = if (t.length == 0) = false ∧ s.length ≤ sizeLine then some (.tuple [.str (Txt.partition s t).1, .str (Txt.partition s t).2.1, .str (Txt.partition s t).2.2]) else none := rfl
theorem strsOf_map (zs : List Str) : strsOf (zs.map .str) = some zs := by
  induction zs with
  | nil => rfl
  | cons z zs ih =>
    rw [List.map_cons, strsOf, ih]
    rfl
theorem gJoin_m {s : Str} {zs : List Str} : gJoin s (.list (zs.map .str)) = if (zs.map (·.length)).sum + zs.length * s.length ≤ 16777216 then some (.str (Txt.join s zs)) else none := by
  show (match strsOf (zs.map .str) with | some zs => _ | none => none) = _
  rw [strsOf_map]
theorem gCat_ll {xs ys : List PyData} : gCat (.list xs) (.list ys) = if xs.length + ys.length ≤ sizeLine then some (xs ++ ys) else none := rfl
theorem gSl_s {z : Str} {lo hi : Option Int} : gSl (.str z) lo hi = if z.length ≤ sizeLine then some (.str (cutS z lo hi)) else none := rfl
theorem gSl_t {z : List PyData} {lo hi : Option Int} : gSl (.tuple z) lo hi = some (.tuple (cutL z lo hi)) := rfl
theorem gSl_l {z : List PyData} {lo hi : Option Int} : gSl (.list z) lo hi = some (.list (cutL z lo hi)) := rfl
theorem itemsOf_l {z : List PyData} : itemsOf (.list z) = some z := rfl
theorem itemsOf_t {z : List PyData} : itemsOf (.tuple z) = some z := rfl
theorem itemsOf_s {z : Str} : itemsOf (.str z) = some (signs z) := rfl
theorem flat_map_str {zs : List Str} : (zs.map PyData.str).all flatD = true := by simp [flatD, Function.comp_def]
theorem flat_map_int {zs : List Int} : (zs.map PyData.int).all flatD = true := by simp [flatD, Function.comp_def]
theorem gIn_lf {d : PyData} {ys : List PyData} (h1 : flatD d = true) (h2 : ys.all flatD = true) : gIn d (.list ys) = some (.bool (ys.any fun y => PyData.eqv y d)) := by
  unfold gIn gInB
  cases d <;> first | (simp only [h1, h2, Bool.and_self, if_true]; rfl) | cases h1
theorem gIn_tf {d : PyData} {ys : List PyData} (h1 : flatD d = true) (h2 : ys.all flatD = true) : gIn d (.tuple ys) = some (.bool (ys.any fun y => PyData.eqv y d)) := by
  unfold gIn gInB
  cases d <;> first | (simp only [h1, h2, Bool.and_self, if_true]; rfl) | cases h1
theorem gNin_lf {d : PyData} {ys : List PyData} (h1 : flatD d = true) (h2 : ys.all flatD = true) : gNin d (.list ys) = some (.bool (!ys.any fun y => PyData.eqv y d)) := by
  unfold gNin gInB
  cases d <;> first | (simp only [h1, h2, Bool.and_self, if_true]; rfl) | cases h1
theorem gNin_tf {d : PyData} {ys : List PyData} (h1 : flatD d = true) (h2 : ys.all flatD = true) : gNin d (.tuple ys) = some (.bool (!ys.any fun y => PyData.eqv y d)) := by
  unfold gNin gInB
  cases d <;> first | (simp only [h1, h2, Bool.and_self, if_true]; rfl) | cases h1
theorem gIn_ld {d : PyData} {ys : List PyData} (h1 : flatD d = false) (h2 : SeqAt.shaped d = true) (h3 : SeqAt.shaped (.list ys) = true) : gIn d (.list ys) = some (.bool (ys.any fun y => PyData.eqv y d)) := by
  unfold gIn gInB
  cases d <;> simp only [h1, h2, h3, Bool.and_self, if_true, Bool.false_and, if_false, Bool.false_eq_true] <;> rfl
theorem gNin_ld {d : PyData} {ys : List PyData} (h1 : flatD d = false) (h2 : SeqAt.shaped d = true) (h3 : SeqAt.shaped (.list ys) = true) : gNin d (.list ys) = some (.bool (!ys.any fun y => PyData.eqv y d)) := by
  unfold gNin gInB
  cases d <;> simp only [h1, h2, h3, Bool.and_self, if_true, Bool.false_and, if_false, Bool.false_eq_true] <;> rfl
theorem gIn_td {d : PyData} {ys : List PyData} (h1 : flatD d = false) (h2 : SeqAt.shaped d = true) (h3 : SeqAt.shaped (.tuple ys) = true) : gIn d (.tuple ys) = some (.bool (ys.any fun y => PyData.eqv y d)) := by
  unfold gIn gInB
  cases d <;> simp only [h1, h2, h3, Bool.and_self, if_true, Bool.false_and, if_false, Bool.false_eq_true] <;> rfl
theorem cast_lit {n : Nat} : ((no_index (OfNat.ofNat n) : Nat) : Int) = OfNat.ofNat n := rfl
theorem ofString_inj {a b : String} : (Str.ofString a = Str.ofString b) = (a = b) := by
  apply propext
  constructor
  · intro h
    rw [Str.ofString_eq_toList, Str.ofString_eq_toList] at h
    have h2 : a.toList.map Char.toNat = b.toList.map Char.toNat := by
      have := congrArg Str.cps h
      simpa using this
    have h3 : a.toList = b.toList := by
      refine (List.map_inj_right ?_).mp h2
      intro x y e
      exact Char.toNat_inj.mp e
    exact String.toList_inj.mp h3
  · rintro rfl
    rfl
end Fw
namespace Fw
open PySem PySem.Spec L2
def YD_take : SS := (seqS (ifS (toB (bin (ixO 0 (ret (.int 2))) (ret (.int 0)) gEq)) (seqS (setO 0 (bin (ixO 0 (ret (.int 1))) (ret (.int 1)) gAdd) (ret (.int 1)))
  (seqS (ifS (toB (bin (ixO 0 (ret (.int 1))) (una (ixO 0 (ret (.int 0))) gLen) gLt)) (setO 0 (bin (ixO 0 (ret (.int 0))) (ixO 0 (ret (.int 1))) gIx) (ret (.int 2))) nxt)
  (ifS (toB (bin (ixO 0 (ret (.int 2))) (ret (.int 0)) gEq)) (seqS (setO 0 (bin (una (bin (bin (ixO 0 (ret (.int 3))) (ret (.int 48271)) gMul) (ret (.int 11)) gAdd) gInt) (ret (.int 2147483647)) gMod) (ret (.int 3)))
  (setO 0 (ixO 0 (ret (.int 3))) (ret (.int 2)))) nxt))) nxt)
  (seqS (asg 2 (bin (una (ixO 0 (ret (.int 2))) gInt) (rdD 1) gMod))
  (seqS (setO 0 (bin (ixO 0 (ret (.int 2))) (rdD 1) gDiv) (ret (.int 2)))
  (retD (rdD 2)))))
def S_take : Fn := runF 2 3 YD_take
theorem ix4_0 {a b c d : PyData} : gIx (.list [a, b, c, d]) (.int 0) = some a := rfl
theorem ix4_1 {a b c d : PyData} : gIx (.list [a, b, c, d]) (.int 1) = some b := rfl
theorem ix4_2 {a b c d : PyData} : gIx (.list [a, b, c, d]) (.int 2) = some c := rfl
theorem ix4_3 {a b c d : PyData} : gIx (.list [a, b, c, d]) (.int 3) = some d := rfl
theorem ixN_0 {n : Nat} : ixN (n + 1) 0 = some 0 := by unfold ixN; rw [if_pos (by omega), if_pos (by omega)]; rfl
theorem ixN4_1 : ixN 4 1 = some 1 := rfl
theorem ixN4_2 : ixN 4 2 = some 2 := rfl
theorem ixN4_3 : ixN 4 3 = some 3 := rfl
def drw (cs : List Int) (i c s : Int) : List PyData := [.list (cs.map .int), .int i, .int c, .int s]
def DrawOk (d : List PyData) : Prop := ∃ (cs : List Int) (i c s : Int), d = drw cs i c s ∧ (∀ x ∈ cs, 0 ≤ x) ∧ -1 ≤ i ∧ 0 ≤ c
theorem atI_ints {cs : List Int} {i : Int} (h0 : 0 ≤ i) (h1 : i < cs.length) : ∃ x ∈ cs, atI (cs.map PyData.int) i = some (.int x) := by
  have hn : i.toNat < cs.length := by omega
  refine ⟨cs[i.toNat], List.getElem_mem hn, ?_⟩
  unfold atI ixN
  rw [List.length_map, if_pos h0, if_pos h1]
  simp [hn]
def YD_tail : SS := (seqS (asg 2 (bin (una (ixO 0 (ret (.int 2))) gInt) (rdD 1) gMod))
  (seqS (setO 0 (bin (ixO 0 (ret (.int 2))) (rdD 1) gDiv) (ret (.int 2)))
  (retD (rdD 2))))
theorem take_tail {cs : List Int} {i c s m : Int} {Q : Fl → En → Prop} (hm : 0 < m) (hm2 : m < 18446744073709551616) (q : Q (.rt (.dat (.int (c % m)))) [.own (drw cs i (c / m) s), .dat (.int m), .dat (.int (c % m))]) :
    Ok (YD_tail [.own (drw cs i c s), .dat (.int m), .un]) Q := by
  unfold drw at q ⊢
  simp only [YD_tail, ok_some, ok_none, okV_some, okV_none, ↓okV_if, ↓ok_if, ↓ok_ret, ↓ok_bnd, ↓ok_lft, ↓ok_bin, ↓ok_una, ↓ok_binL, ↓ok_unaL, ↓ok_mny, ↓ok_rdD, ↓ok_rdO, ↓ok_rdA, ↓ok_toB, ↓ok_sAnd, ↓ok_sOr, ↓ok_sNot, ↓ok_vAnd, ↓ok_vOr, ↓ok_sIf, ↓ok_chn, ↓ok_sNil, ↓ok_sCons, ↓ok_dTup, ↓ok_dLst, ↓ok_m0S, ↓ok_m1S, ↓ok_m1L, ↓ok_ixO, ↓ok_sPart, ↓ok_sSl, ↓ok_tupO, ↓ok_sItems, ↓ok_sScr, ↓ok_sEnum, ↓ok_sRng1, ↓ok_sRng2, ↓ok_seqS, ↓ok_nxt, ↓ok_brkS, ↓ok_cntS, ↓ok_retN, ↓ok_drpS, ↓ok_asg, ↓ok_asgL, ↓ok_asgG, ↓ok_augS, ↓ok_ifS, ↓ok_retD, ↓ok_retL, ↓ok_retO, ↓ok_appO, ↓ok_setO, ↓ok_extO, ↓ok_popS, ↓ok_forS, ↓ok_forL_nil, ↓ok_lcS, ↓ok_lcL_nil, ↓okV_callD, ↓okV_callV, ↓ok_callM, ↓ok_asD, ↓ok_asL, ↓ok_callS, ↓ok_runF, own?, toN, toT, toNs, wipE, bakE, Fw.collect, ok_yesS, List.getElem?_cons_zero, List.getElem?_cons_succ, List.set_cons_zero, List.set_cons_succ, List.map_cons, List.map_nil, List.length_cons, List.length_nil, List.cons_append, List.nil_append, List.replicate_succ, List.replicate_zero, Nat.reduceAdd, Nat.reduceSub, Nat.reduceLeDiff, Nat.reduceLT, Nat.reduceEqDiff, Int.reduceLT, Int.reduceLE, Int.reduceNeg, Int.reducePow, Int.reduceEq, Option.isSome_some, Option.map_some, Option.map_none, true_and, and_true, if_true, if_false, ite_true, ite_false, Bool.false_eq_true, reduceIte, reduceCtorEq, ix4_0, ix4_1, ix4_2, ix4_3, gInt, gMod, gDiv, gI, ixN4_2]
  simp only [hm, hm2, and_self, decide_true, if_true, okV_some, true_and]
  exact q

theorem take_body {d : List PyData} (hd : DrawOk d) {m : Int} {Q : Fl → En → Prop} (hm : 0 < m) (hm2 : m < 18446744073709551616) (q : ∀ r d', 0 ≤ r → r < m → DrawOk d' → Q (.rt (.dat (.int r))) [.own d', .dat (.int m), .dat (.int r)]) :
    Ok (YD_take [.own d, .dat (.int m), .un]) Q := by
  obtain ⟨cs, i, c, s, rfl, hcs, hi, hc⟩ := hd
  have tl : ∀ i' c' s', -1 ≤ i' → 0 ≤ c' → Ok (YD_tail [.own (drw cs i' c' s'), .dat (.int m), .un]) Q := fun i' c' s' h1 h2 =>
    take_tail hm hm2 (q _ _ (Int.emod_nonneg _ (by omega)) (Int.emod_lt_of_pos _ hm) ⟨cs, i', c' / m, s', rfl, hcs, h1, Int.ediv_nonneg h2 (by omega)⟩)
  show Ok (seqS _ YD_tail _) Q
  rw [ok_seqS]
  by_cases h0 : c = 0
  · subst h0
    unfold drw at tl ⊢
    simp only [ok_some, ok_none, okV_some, okV_none, ↓okV_if, ↓ok_if, ↓ok_ret, ↓ok_bnd, ↓ok_lft, ↓ok_bin, ↓ok_una, ↓ok_binL, ↓ok_unaL, ↓ok_mny, ↓ok_rdD, ↓ok_rdO, ↓ok_rdA, ↓ok_toB, ↓ok_sAnd, ↓ok_sOr, ↓ok_sNot, ↓ok_vAnd, ↓ok_vOr, ↓ok_sIf, ↓ok_chn, ↓ok_sNil, ↓ok_sCons, ↓ok_dTup, ↓ok_dLst, ↓ok_m0S, ↓ok_m1S, ↓ok_m1L, ↓ok_ixO, ↓ok_sPart, ↓ok_sSl, ↓ok_tupO, ↓ok_sItems, ↓ok_sScr, ↓ok_sEnum, ↓ok_sRng1, ↓ok_sRng2, ↓ok_seqS, ↓ok_nxt, ↓ok_brkS, ↓ok_cntS, ↓ok_retN, ↓ok_drpS, ↓ok_asg, ↓ok_asgL, ↓ok_asgG, ↓ok_augS, ↓ok_ifS, ↓ok_retD, ↓ok_retL, ↓ok_retO, ↓ok_appO, ↓ok_setO, ↓ok_extO, ↓ok_popS, ↓ok_forS, ↓ok_forL_nil, ↓ok_lcS, ↓ok_lcL_nil, ↓okV_callD, ↓okV_callV, ↓ok_callM, ↓ok_asD, ↓ok_asL, ↓ok_callS, ↓ok_runF, own?, toN, toT, toNs, wipE, bakE, Fw.collect, ok_yesS, List.getElem?_cons_zero, List.getElem?_cons_succ, List.set_cons_zero, List.set_cons_succ, List.map_cons, List.map_nil, List.length_cons, List.length_nil, List.cons_append, List.nil_append, List.replicate_succ, List.replicate_zero, Nat.reduceAdd, Nat.reduceSub, Nat.reduceLeDiff, Nat.reduceLT, Nat.reduceEqDiff, Int.reduceLT, Int.reduceLE, Int.reduceNeg, Int.reducePow, Int.reduceEq, Option.isSome_some, Option.map_some, Option.map_none, true_and, and_true, if_true, if_false, ite_true, ite_false, Bool.false_eq_true, reduceIte, reduceCtorEq, gAdd_ii, gAdd_ss, gAdd_tt, gSub_ii, gMul_ii, gDiv_ii, gMod_ii, gNeg_i, gLt_ii, gGt_ii, gGe_ii, gLe_ii, eqv_ii, eqv_ss, eqv_bb, eqv_nn, eqv_ni, eqv_in, eqv_ns, eqv_sn, eqv_nb, eqv_bn, eqv_is, eqv_si, eqv_nt, eqv_tn, eqv_nl, eqv_ln, eqv_tt, eqv_ll, eqvA_nn, eqvA_cc, eqvA_nc, eqvA_cn, gEq_ii, gEq_ss, gEq_bb, gEq_nn, gEq_in, gEq_ni, gEq_sn, gEq_ns, gEq_si, gEq_is, gNe_ii, gNe_ss, gNe_bb, gNe_nn, gNot_b, gIsN_n, gIsN_i, gIsN_b, gIsN_s, gIsN_t, gIsN_l, gNotN_n, gNotN_i, gNotN_b, gNotN_s, gNotN_t, gNotN_l, gIx_l, gIx_t, gIx_s, gLen_s, gLen_l, gLen_t, gAbs_i, gInt_i, gInt_b, gInt_s, gOrd_sign, gDivmod_ii, gStr_i, gStr_s, gTuple_l, gTuple_t, gStrip_s, gLstrip_s, gSplit_s, gPartition_s, gJoin_m, gCat_ll, gSl_s, gSl_t, gSl_l, itemsOf_l, itemsOf_t, itemsOf_s, ofString_inj, cMul_r, cMul_l, ixN_lit, atI_lit, atI_m1, cast_lit, String.reduceEq, decide_true, decide_false, Int.reduceSub, Int.reduceAdd, Int.reduceMul, Int.reduceToNat, decide_true, List.length_map]
    by_cases hl : i + 1 < (cs.length : Int)
    · obtain ⟨x, hx, e⟩ := atI_ints (cs := cs) (i := i + 1) (by omega) hl
      have hx0 := hcs x hx
      simp only [hl, decide_true, ok_some, ok_none, okV_some, okV_none, ↓okV_if, ↓ok_if, ↓ok_ret, ↓ok_bnd, ↓ok_lft, ↓ok_bin, ↓ok_una, ↓ok_binL, ↓ok_unaL, ↓ok_mny, ↓ok_rdD, ↓ok_rdO, ↓ok_rdA, ↓ok_toB, ↓ok_sAnd, ↓ok_sOr, ↓ok_sNot, ↓ok_vAnd, ↓ok_vOr, ↓ok_sIf, ↓ok_chn, ↓ok_sNil, ↓ok_sCons, ↓ok_dTup, ↓ok_dLst, ↓ok_m0S, ↓ok_m1S, ↓ok_m1L, ↓ok_ixO, ↓ok_sPart, ↓ok_sSl, ↓ok_tupO, ↓ok_sItems, ↓ok_sScr, ↓ok_sEnum, ↓ok_sRng1, ↓ok_sRng2, ↓ok_seqS, ↓ok_nxt, ↓ok_brkS, ↓ok_cntS, ↓ok_retN, ↓ok_drpS, ↓ok_asg, ↓ok_asgL, ↓ok_asgG, ↓ok_augS, ↓ok_ifS, ↓ok_retD, ↓ok_retL, ↓ok_retO, ↓ok_appO, ↓ok_setO, ↓ok_extO, ↓ok_popS, ↓ok_forS, ↓ok_forL_nil, ↓ok_lcS, ↓ok_lcL_nil, ↓okV_callD, ↓okV_callV, ↓ok_callM, ↓ok_asD, ↓ok_asL, ↓ok_callS, ↓ok_runF, own?, toN, toT, toNs, wipE, bakE, Fw.collect, ok_yesS, List.getElem?_cons_zero, List.getElem?_cons_succ, List.set_cons_zero, List.set_cons_succ, List.map_cons, List.map_nil, List.length_cons, List.length_nil, List.cons_append, List.nil_append, List.replicate_succ, List.replicate_zero, Nat.reduceAdd, Nat.reduceSub, Nat.reduceLeDiff, Nat.reduceLT, Nat.reduceEqDiff, Int.reduceLT, Int.reduceLE, Int.reduceNeg, Int.reducePow, Int.reduceEq, Option.isSome_some, Option.map_some, Option.map_none, true_and, and_true, if_true, if_false, ite_true, ite_false, Bool.false_eq_true, reduceIte, reduceCtorEq, gAdd_ii, gAdd_ss, gAdd_tt, gSub_ii, gMul_ii, gDiv_ii, gMod_ii, gNeg_i, gLt_ii, gGt_ii, gGe_ii, gLe_ii, eqv_ii, eqv_ss, eqv_bb, eqv_nn, eqv_ni, eqv_in, eqv_ns, eqv_sn, eqv_nb, eqv_bn, eqv_is, eqv_si, eqv_nt, eqv_tn, eqv_nl, eqv_ln, eqv_tt, eqv_ll, eqvA_nn, eqvA_cc, eqvA_nc, eqvA_cn, gEq_ii, gEq_ss, gEq_bb, gEq_nn, gEq_in, gEq_ni, gEq_sn, gEq_ns, gEq_si, gEq_is, gNe_ii, gNe_ss, gNe_bb, gNe_nn, gNot_b, gIsN_n, gIsN_i, gIsN_b, gIsN_s, gIsN_t, gIsN_l, gNotN_n, gNotN_i, gNotN_b, gNotN_s, gNotN_t, gNotN_l, gIx_l, gIx_t, gIx_s, gLen_s, gLen_l, gLen_t, gAbs_i, gInt_i, gInt_b, gInt_s, gOrd_sign, gDivmod_ii, gStr_i, gStr_s, gTuple_l, gTuple_t, gStrip_s, gLstrip_s, gSplit_s, gPartition_s, gJoin_m, gCat_ll, gSl_s, gSl_t, gSl_l, itemsOf_l, itemsOf_t, itemsOf_s, ofString_inj, cMul_r, cMul_l, ixN_lit, atI_lit, atI_m1, cast_lit, String.reduceEq, decide_true, decide_false, Int.reduceSub, Int.reduceAdd, Int.reduceMul, Int.reduceToNat, e]
      by_cases h1 : x = 0
      · subst h1
        simp only [decide_true, ok_some, ok_none, okV_some, okV_none, ↓okV_if, ↓ok_if, ↓ok_ret, ↓ok_bnd, ↓ok_lft, ↓ok_bin, ↓ok_una, ↓ok_binL, ↓ok_unaL, ↓ok_mny, ↓ok_rdD, ↓ok_rdO, ↓ok_rdA, ↓ok_toB, ↓ok_sAnd, ↓ok_sOr, ↓ok_sNot, ↓ok_vAnd, ↓ok_vOr, ↓ok_sIf, ↓ok_chn, ↓ok_sNil, ↓ok_sCons, ↓ok_dTup, ↓ok_dLst, ↓ok_m0S, ↓ok_m1S, ↓ok_m1L, ↓ok_ixO, ↓ok_sPart, ↓ok_sSl, ↓ok_tupO, ↓ok_sItems, ↓ok_sScr, ↓ok_sEnum, ↓ok_sRng1, ↓ok_sRng2, ↓ok_seqS, ↓ok_nxt, ↓ok_brkS, ↓ok_cntS, ↓ok_retN, ↓ok_drpS, ↓ok_asg, ↓ok_asgL, ↓ok_asgG, ↓ok_augS, ↓ok_ifS, ↓ok_retD, ↓ok_retL, ↓ok_retO, ↓ok_appO, ↓ok_setO, ↓ok_extO, ↓ok_popS, ↓ok_forS, ↓ok_forL_nil, ↓ok_lcS, ↓ok_lcL_nil, ↓okV_callD, ↓okV_callV, ↓ok_callM, ↓ok_asD, ↓ok_asL, ↓ok_callS, ↓ok_runF, own?, toN, toT, toNs, wipE, bakE, Fw.collect, ok_yesS, List.getElem?_cons_zero, List.getElem?_cons_succ, List.set_cons_zero, List.set_cons_succ, List.map_cons, List.map_nil, List.length_cons, List.length_nil, List.cons_append, List.nil_append, List.replicate_succ, List.replicate_zero, Nat.reduceAdd, Nat.reduceSub, Nat.reduceLeDiff, Nat.reduceLT, Nat.reduceEqDiff, Int.reduceLT, Int.reduceLE, Int.reduceNeg, Int.reducePow, Int.reduceEq, Option.isSome_some, Option.map_some, Option.map_none, true_and, and_true, if_true, if_false, ite_true, ite_false, Bool.false_eq_true, reduceIte, reduceCtorEq, gAdd_ii, gAdd_ss, gAdd_tt, gSub_ii, gMul_ii, gDiv_ii, gMod_ii, gNeg_i, gLt_ii, gGt_ii, gGe_ii, gLe_ii, eqv_ii, eqv_ss, eqv_bb, eqv_nn, eqv_ni, eqv_in, eqv_ns, eqv_sn, eqv_nb, eqv_bn, eqv_is, eqv_si, eqv_nt, eqv_tn, eqv_nl, eqv_ln, eqv_tt, eqv_ll, eqvA_nn, eqvA_cc, eqvA_nc, eqvA_cn, gEq_ii, gEq_ss, gEq_bb, gEq_nn, gEq_in, gEq_ni, gEq_sn, gEq_ns, gEq_si, gEq_is, gNe_ii, gNe_ss, gNe_bb, gNe_nn, gNot_b, gIsN_n, gIsN_i, gIsN_b, gIsN_s, gIsN_t, gIsN_l, gNotN_n, gNotN_i, gNotN_b, gNotN_s, gNotN_t, gNotN_l, gIx_l, gIx_t, gIx_s, gLen_s, gLen_l, gLen_t, gAbs_i, gInt_i, gInt_b, gInt_s, gOrd_sign, gDivmod_ii, gStr_i, gStr_s, gTuple_l, gTuple_t, gStrip_s, gLstrip_s, gSplit_s, gPartition_s, gJoin_m, gCat_ll, gSl_s, gSl_t, gSl_l, itemsOf_l, itemsOf_t, itemsOf_s, ofString_inj, cMul_r, cMul_l, ixN_lit, atI_lit, atI_m1, cast_lit, String.reduceEq, decide_true, decide_false, Int.reduceSub, Int.reduceAdd, Int.reduceMul, Int.reduceToNat]
        exact tl _ _ _ (by omega) (Int.emod_nonneg _ (by omega))
      · simp only [h1, decide_false, ok_some, ok_none, okV_some, okV_none, ↓okV_if, ↓ok_if, ↓ok_ret, ↓ok_bnd, ↓ok_lft, ↓ok_bin, ↓ok_una, ↓ok_binL, ↓ok_unaL, ↓ok_mny, ↓ok_rdD, ↓ok_rdO, ↓ok_rdA, ↓ok_toB, ↓ok_sAnd, ↓ok_sOr, ↓ok_sNot, ↓ok_vAnd, ↓ok_vOr, ↓ok_sIf, ↓ok_chn, ↓ok_sNil, ↓ok_sCons, ↓ok_dTup, ↓ok_dLst, ↓ok_m0S, ↓ok_m1S, ↓ok_m1L, ↓ok_ixO, ↓ok_sPart, ↓ok_sSl, ↓ok_tupO, ↓ok_sItems, ↓ok_sScr, ↓ok_sEnum, ↓ok_sRng1, ↓ok_sRng2, ↓ok_seqS, ↓ok_nxt, ↓ok_brkS, ↓ok_cntS, ↓ok_retN, ↓ok_drpS, ↓ok_asg, ↓ok_asgL, ↓ok_asgG, ↓ok_augS, ↓ok_ifS, ↓ok_retD, ↓ok_retL, ↓ok_retO, ↓ok_appO, ↓ok_setO, ↓ok_extO, ↓ok_popS, ↓ok_forS, ↓ok_forL_nil, ↓ok_lcS, ↓ok_lcL_nil, ↓okV_callD, ↓okV_callV, ↓ok_callM, ↓ok_asD, ↓ok_asL, ↓ok_callS, ↓ok_runF, own?, toN, toT, toNs, wipE, bakE, Fw.collect, ok_yesS, List.getElem?_cons_zero, List.getElem?_cons_succ, List.set_cons_zero, List.set_cons_succ, List.map_cons, List.map_nil, List.length_cons, List.length_nil, List.cons_append, List.nil_append, List.replicate_succ, List.replicate_zero, Nat.reduceAdd, Nat.reduceSub, Nat.reduceLeDiff, Nat.reduceLT, Nat.reduceEqDiff, Int.reduceLT, Int.reduceLE, Int.reduceNeg, Int.reducePow, Int.reduceEq, Option.isSome_some, Option.map_some, Option.map_none, true_and, and_true, if_true, if_false, ite_true, ite_false, Bool.false_eq_true, reduceIte, reduceCtorEq, gAdd_ii, gAdd_ss, gAdd_tt, gSub_ii, gMul_ii, gDiv_ii, gMod_ii, gNeg_i, gLt_ii, gGt_ii, gGe_ii, gLe_ii, eqv_ii, eqv_ss, eqv_bb, eqv_nn, eqv_ni, eqv_in, eqv_ns, eqv_sn, eqv_nb, eqv_bn, eqv_is, eqv_si, eqv_nt, eqv_tn, eqv_nl, eqv_ln, eqv_tt, eqv_ll, eqvA_nn, eqvA_cc, eqvA_nc, eqvA_cn, gEq_ii, gEq_ss, gEq_bb, gEq_nn, gEq_in, gEq_ni, gEq_sn, gEq_ns, gEq_si, gEq_is, gNe_ii, gNe_ss, gNe_bb, gNe_nn, gNot_b, gIsN_n, gIsN_i, gIsN_b, gIsN_s, gIsN_t, gIsN_l, gNotN_n, gNotN_i, gNotN_b, gNotN_s, gNotN_t, gNotN_l, gIx_l, gIx_t, gIx_s, gLen_s, gLen_l, gLen_t, gAbs_i, gInt_i, gInt_b, gInt_s, gOrd_sign, gDivmod_ii, gStr_i, gStr_s, gTuple_l, gTuple_t, gStrip_s, gLstrip_s, gSplit_s, gPartition_s, gJoin_m, gCat_ll, gSl_s, gSl_t, gSl_l, itemsOf_l, itemsOf_t, itemsOf_s, ofString_inj, cMul_r, cMul_l, ixN_lit, atI_lit, atI_m1, cast_lit, String.reduceEq, decide_true, decide_false, Int.reduceSub, Int.reduceAdd, Int.reduceMul, Int.reduceToNat]
        exact tl _ _ _ (by omega) hx0
    · simp only [hl, decide_false, decide_true, ok_some, ok_none, okV_some, okV_none, ↓okV_if, ↓ok_if, ↓ok_ret, ↓ok_bnd, ↓ok_lft, ↓ok_bin, ↓ok_una, ↓ok_binL, ↓ok_unaL, ↓ok_mny, ↓ok_rdD, ↓ok_rdO, ↓ok_rdA, ↓ok_toB, ↓ok_sAnd, ↓ok_sOr, ↓ok_sNot, ↓ok_vAnd, ↓ok_vOr, ↓ok_sIf, ↓ok_chn, ↓ok_sNil, ↓ok_sCons, ↓ok_dTup, ↓ok_dLst, ↓ok_m0S, ↓ok_m1S, ↓ok_m1L, ↓ok_ixO, ↓ok_sPart, ↓ok_sSl, ↓ok_tupO, ↓ok_sItems, ↓ok_sScr, ↓ok_sEnum, ↓ok_sRng1, ↓ok_sRng2, ↓ok_seqS, ↓ok_nxt, ↓ok_brkS, ↓ok_cntS, ↓ok_retN, ↓ok_drpS, ↓ok_asg, ↓ok_asgL, ↓ok_asgG, ↓ok_augS, ↓ok_ifS, ↓ok_retD, ↓ok_retL, ↓ok_retO, ↓ok_appO, ↓ok_setO, ↓ok_extO, ↓ok_popS, ↓ok_forS, ↓ok_forL_nil, ↓ok_lcS, ↓ok_lcL_nil, ↓okV_callD, ↓okV_callV, ↓ok_callM, ↓ok_asD, ↓ok_asL, ↓ok_callS, ↓ok_runF, own?, toN, toT, toNs, wipE, bakE, Fw.collect, ok_yesS, List.getElem?_cons_zero, List.getElem?_cons_succ, List.set_cons_zero, List.set_cons_succ, List.map_cons, List.map_nil, List.length_cons, List.length_nil, List.cons_append, List.nil_append, List.replicate_succ, List.replicate_zero, Nat.reduceAdd, Nat.reduceSub, Nat.reduceLeDiff, Nat.reduceLT, Nat.reduceEqDiff, Int.reduceLT, Int.reduceLE, Int.reduceNeg, Int.reducePow, Int.reduceEq, Option.isSome_some, Option.map_some, Option.map_none, true_and, and_true, if_true, if_false, ite_true, ite_false, Bool.false_eq_true, reduceIte, reduceCtorEq, gAdd_ii, gAdd_ss, gAdd_tt, gSub_ii, gMul_ii, gDiv_ii, gMod_ii, gNeg_i, gLt_ii, gGt_ii, gGe_ii, gLe_ii, eqv_ii, eqv_ss, eqv_bb, eqv_nn, eqv_ni, eqv_in, eqv_ns, eqv_sn, eqv_nb, eqv_bn, eqv_is, eqv_si, eqv_nt, eqv_tn, eqv_nl, eqv_ln, eqv_tt, eqv_ll, eqvA_nn, eqvA_cc, eqvA_nc, eqvA_cn, gEq_ii, gEq_ss, gEq_bb, gEq_nn, gEq_in, gEq_ni, gEq_sn, gEq_ns, gEq_si, gEq_is, gNe_ii, gNe_ss, gNe_bb, gNe_nn, gNot_b, gIsN_n, gIsN_i, gIsN_b, gIsN_s, gIsN_t, gIsN_l, gNotN_n, gNotN_i, gNotN_b, gNotN_s, gNotN_t, gNotN_l, gIx_l, gIx_t, gIx_s, gLen_s, gLen_l, gLen_t, gAbs_i, gInt_i, gInt_b, gInt_s, gOrd_sign, gDivmod_ii, gStr_i, gStr_s, gTuple_l, gTuple_t, gStrip_s, gLstrip_s, gSplit_s, gPartition_s, gJoin_m, gCat_ll, gSl_s, gSl_t, gSl_l, itemsOf_l, itemsOf_t, itemsOf_s, ofString_inj, cMul_r, cMul_l, ixN_lit, atI_lit, atI_m1, cast_lit, String.reduceEq, decide_true, decide_false, Int.reduceSub, Int.reduceAdd, Int.reduceMul, Int.reduceToNat]
      exact tl _ _ _ (by omega) (Int.emod_nonneg _ (by omega))
  · unfold drw at tl ⊢
    simp only [h0, decide_false, ok_some, ok_none, okV_some, okV_none, ↓okV_if, ↓ok_if, ↓ok_ret, ↓ok_bnd, ↓ok_lft, ↓ok_bin, ↓ok_una, ↓ok_binL, ↓ok_unaL, ↓ok_mny, ↓ok_rdD, ↓ok_rdO, ↓ok_rdA, ↓ok_toB, ↓ok_sAnd, ↓ok_sOr, ↓ok_sNot, ↓ok_vAnd, ↓ok_vOr, ↓ok_sIf, ↓ok_chn, ↓ok_sNil, ↓ok_sCons, ↓ok_dTup, ↓ok_dLst, ↓ok_m0S, ↓ok_m1S, ↓ok_m1L, ↓ok_ixO, ↓ok_sPart, ↓ok_sSl, ↓ok_tupO, ↓ok_sItems, ↓ok_sScr, ↓ok_sEnum, ↓ok_sRng1, ↓ok_sRng2, ↓ok_seqS, ↓ok_nxt, ↓ok_brkS, ↓ok_cntS, ↓ok_retN, ↓ok_drpS, ↓ok_asg, ↓ok_asgL, ↓ok_asgG, ↓ok_augS, ↓ok_ifS, ↓ok_retD, ↓ok_retL, ↓ok_retO, ↓ok_appO, ↓ok_setO, ↓ok_extO, ↓ok_popS, ↓ok_forS, ↓ok_forL_nil, ↓ok_lcS, ↓ok_lcL_nil, ↓okV_callD, ↓okV_callV, ↓ok_callM, ↓ok_asD, ↓ok_asL, ↓ok_callS, ↓ok_runF, own?, toN, toT, toNs, wipE, bakE, Fw.collect, ok_yesS, List.getElem?_cons_zero, List.getElem?_cons_succ, List.set_cons_zero, List.set_cons_succ, List.map_cons, List.map_nil, List.length_cons, List.length_nil, List.cons_append, List.nil_append, List.replicate_succ, List.replicate_zero, Nat.reduceAdd, Nat.reduceSub, Nat.reduceLeDiff, Nat.reduceLT, Nat.reduceEqDiff, Int.reduceLT, Int.reduceLE, Int.reduceNeg, Int.reducePow, Int.reduceEq, Option.isSome_some, Option.map_some, Option.map_none, true_and, and_true, if_true, if_false, ite_true, ite_false, Bool.false_eq_true, reduceIte, reduceCtorEq, gAdd_ii, gAdd_ss, gAdd_tt, gSub_ii, gMul_ii, gDiv_ii, gMod_ii, gNeg_i, gLt_ii, gGt_ii, gGe_ii, gLe_ii, eqv_ii, eqv_ss, eqv_bb, eqv_nn, eqv_ni, eqv_in, eqv_ns, eqv_sn, eqv_nb, eqv_bn, eqv_is, eqv_si, eqv_nt, eqv_tn, eqv_nl, eqv_ln, eqv_tt, eqv_ll, eqvA_nn, eqvA_cc, eqvA_nc, eqvA_cn, gEq_ii, gEq_ss, gEq_bb, gEq_nn, gEq_in, gEq_ni, gEq_sn, gEq_ns, gEq_si, gEq_is, gNe_ii, gNe_ss, gNe_bb, gNe_nn, gNot_b, gIsN_n, gIsN_i, gIsN_b, gIsN_s, gIsN_t, gIsN_l, gNotN_n, gNotN_i, gNotN_b, gNotN_s, gNotN_t, gNotN_l, gIx_l, gIx_t, gIx_s, gLen_s, gLen_l, gLen_t, gAbs_i, gInt_i, gInt_b, gInt_s, gOrd_sign, gDivmod_ii, gStr_i, gStr_s, gTuple_l, gTuple_t, gStrip_s, gLstrip_s, gSplit_s, gPartition_s, gJoin_m, gCat_ll, gSl_s, gSl_t, gSl_l, itemsOf_l, itemsOf_t, itemsOf_s, ofString_inj, cMul_r, cMul_l, ixN_lit, atI_lit, atI_m1, cast_lit, String.reduceEq, decide_true, decide_false, Int.reduceSub, Int.reduceAdd, Int.reduceMul, Int.reduceToNat]
    exact tl i c s hi hc
theorem take_ok {d : List PyData} (hd : DrawOk d) {m : Int} {Q : Sl → En → Prop} (hm : 0 < m) (hm2 : m < 18446744073709551616) (q : ∀ r d', 0 ≤ r → r < m → DrawOk d' → Q (.dat (.int r)) [.own d', .un]) :
    Ok (S_take [.own d, .dat (.int m)]) Q := by
  unfold S_take
  rw [ok_runF]
  refine ⟨rfl, take_body hd hm hm2 fun r d' h1 h2 h3 => ?_⟩
  simp only [own?, toN, toT, toNs, wipE, bakE, Fw.collect, ok_yesS, List.getElem?_cons_zero, List.getElem?_cons_succ, List.set_cons_zero, List.set_cons_succ, List.map_cons, List.map_nil, List.length_cons, List.length_nil, List.cons_append, List.nil_append, List.replicate_succ, List.replicate_zero, Nat.reduceAdd, Nat.reduceSub, Nat.reduceLeDiff, Nat.reduceLT, Nat.reduceEqDiff, Int.reduceLT, Int.reduceLE, Int.reduceNeg, Int.reducePow, Int.reduceEq, Option.isSome_some, Option.map_some, Option.map_none, true_and, and_true, if_true, if_false, ite_true, ite_false, Bool.false_eq_true, reduceIte, reduceCtorEq, ok_some, ok_none, okV_some, okV_none, ↓okV_if, ↓ok_if, ↓ok_ret, ↓ok_bnd, ↓ok_lft, ↓ok_bin, ↓ok_una, ↓ok_binL, ↓ok_unaL, ↓ok_mny, ↓ok_rdD, ↓ok_rdO, ↓ok_rdA, ↓ok_toB, ↓ok_sAnd, ↓ok_sOr, ↓ok_sNot, ↓ok_vAnd, ↓ok_vOr, ↓ok_sIf, ↓ok_chn, ↓ok_sNil, ↓ok_sCons, ↓ok_dTup, ↓ok_dLst, ↓ok_m0S, ↓ok_m1S, ↓ok_m1L, ↓ok_ixO, ↓ok_sPart, ↓ok_sSl, ↓ok_tupO, ↓ok_sItems, ↓ok_sScr, ↓ok_sEnum, ↓ok_sRng1, ↓ok_sRng2, ↓ok_seqS, ↓ok_nxt, ↓ok_brkS, ↓ok_cntS, ↓ok_retN, ↓ok_drpS, ↓ok_asg, ↓ok_asgL, ↓ok_asgG, ↓ok_augS, ↓ok_ifS, ↓ok_retD, ↓ok_retL, ↓ok_retO, ↓ok_appO, ↓ok_setO, ↓ok_extO, ↓ok_popS, ↓ok_forS, ↓ok_forL_nil, ↓ok_lcS, ↓ok_lcL_nil, ↓okV_callD, ↓okV_callV, ↓ok_callM, ↓ok_asD, ↓ok_asL, ↓ok_callS, ↓ok_runF, collect]
  exact q r d' h1 h2 h3
def LD_draw : SS := (asg 1 (bin (una (bin (bin (bin (rdD 1) (ret (.int 48271)) gMul) (bin (una (una (rdD 2) gInt) gAbs) (ret (.int 65521)) gMod) gAdd) (ret (.int 1)) gAdd) gInt) (ret (.int 2147483647)) gMod))
def CD_draw : SE PyData := (una (una (rdD 2) gInt) gAbs)
def YD_draw : SS := (seqS (asg 1 (ret (.int 7)))
  (seqS (forS (sScr 0) (toN 2) LD_draw)
  (retL (dLst (sCons (bnd (lcS (sScr 0) [2] (toN 2) yesS CD_draw) fun ds => ret (.list ds)) (sCons (una (ret (.int 1)) gNeg) (sCons (ret (.int 0)) (sCons (rdD 1) sNil))))))))
def S_draw : Fn := runF 1 3 YD_draw
theorem draw_for {Q : Fl → En → Prop} {all : List Int} : ∀ {ns : List Int} {s : Int} {x : Sl}, (∀ ys, x ≠ .own ys) → (∀ s x, (∀ ys, x ≠ .own ys) → Q .nx [.scr all, .dat (.int s), x]) → Ok (forL (toN 2) LD_draw (ns.map .int) [.scr all, .dat (.int s), x]) Q
  | [], s, x, hx, q => by
    rw [List.map_nil, ok_forL_nil]
    exact q _ _ hx
  | n :: ns, s, x, hx, q => by
    rw [List.map_cons, ok_forL_cons]
    simp only [LD_draw, ok_some, ok_none, okV_some, okV_none, ↓okV_if, ↓ok_if, ↓ok_ret, ↓ok_bnd, ↓ok_lft, ↓ok_bin, ↓ok_una, ↓ok_binL, ↓ok_unaL, ↓ok_mny, ↓ok_rdD, ↓ok_rdO, ↓ok_rdA, ↓ok_toB, ↓ok_sAnd, ↓ok_sOr, ↓ok_sNot, ↓ok_vAnd, ↓ok_vOr, ↓ok_sIf, ↓ok_chn, ↓ok_sNil, ↓ok_sCons, ↓ok_dTup, ↓ok_dLst, ↓ok_m0S, ↓ok_m1S, ↓ok_m1L, ↓ok_ixO, ↓ok_sPart, ↓ok_sSl, ↓ok_tupO, ↓ok_sItems, ↓ok_sScr, ↓ok_sEnum, ↓ok_sRng1, ↓ok_sRng2, ↓ok_seqS, ↓ok_nxt, ↓ok_brkS, ↓ok_cntS, ↓ok_retN, ↓ok_drpS, ↓ok_asg, ↓ok_asgL, ↓ok_asgG, ↓ok_augS, ↓ok_ifS, ↓ok_retD, ↓ok_retL, ↓ok_retO, ↓ok_appO, ↓ok_setO, ↓ok_extO, ↓ok_popS, ↓ok_forS, ↓ok_forL_nil, ↓ok_lcS, ↓ok_lcL_nil, ↓okV_callD, ↓okV_callV, ↓ok_callM, ↓ok_asD, ↓ok_asL, ↓ok_callS, ↓ok_runF, own?, toN, toT, toNs, wipE, bakE, Fw.collect, ok_yesS, List.getElem?_cons_zero, List.getElem?_cons_succ, List.set_cons_zero, List.set_cons_succ, List.map_cons, List.map_nil, List.length_cons, List.length_nil, List.cons_append, List.nil_append, List.replicate_succ, List.replicate_zero, Nat.reduceAdd, Nat.reduceSub, Nat.reduceLeDiff, Nat.reduceLT, Nat.reduceEqDiff, Int.reduceLT, Int.reduceLE, Int.reduceNeg, Int.reducePow, Int.reduceEq, Option.isSome_some, Option.map_some, Option.map_none, true_and, and_true, if_true, if_false, ite_true, ite_false, Bool.false_eq_true, reduceIte, reduceCtorEq, gAdd_ii, gAdd_ss, gAdd_tt, gSub_ii, gMul_ii, gDiv_ii, gMod_ii, gNeg_i, gLt_ii, gGt_ii, gGe_ii, gLe_ii, eqv_ii, eqv_ss, eqv_bb, eqv_nn, eqv_ni, eqv_in, eqv_ns, eqv_sn, eqv_nb, eqv_bn, eqv_is, eqv_si, eqv_nt, eqv_tn, eqv_nl, eqv_ln, eqv_tt, eqv_ll, eqvA_nn, eqvA_cc, eqvA_nc, eqvA_cn, gEq_ii, gEq_ss, gEq_bb, gEq_nn, gEq_in, gEq_ni, gEq_sn, gEq_ns, gEq_si, gEq_is, gNe_ii, gNe_ss, gNe_bb, gNe_nn, gNot_b, gIsN_n, gIsN_i, gIsN_b, gIsN_s, gIsN_t, gIsN_l, gNotN_n, gNotN_i, gNotN_b, gNotN_s, gNotN_t, gNotN_l, gIx_l, gIx_t, gIx_s, gLen_s, gLen_l, gLen_t, gAbs_i, gInt_i, gInt_b, gInt_s, gOrd_sign, gDivmod_ii, gStr_i, gStr_s, gTuple_l, gTuple_t, gStrip_s, gLstrip_s, gSplit_s, gPartition_s, gJoin_m, gCat_ll, gSl_s, gSl_t, gSl_l, itemsOf_l, itemsOf_t, itemsOf_s, ofString_inj, cMul_r, cMul_l, ixN_lit, atI_lit, atI_m1, cast_lit, String.reduceEq, decide_true, decide_false, Int.reduceSub, Int.reduceAdd, Int.reduceMul, Int.reduceToNat]
    exact draw_for (fun _ => nofun) q
theorem draw_comp {Q : List PyData → En → Prop} {all : List Int} {s : Int} {x : Sl} (hx : ∀ ys, x ≠ .own ys) : ∀ {ns : List Int}, Q (ns.map fun n => .int (if n < 0 then -n else n)) [.scr all, .dat (.int s), x] → Ok (lcL [2] (toN 2) yesS CD_draw (ns.map .int) [.scr all, .dat (.int s), x]) Q
  | [], q => by
    rw [List.map_nil, ok_lcL_nil]
    exact q
  | n :: ns, q => by
    have hw : wipE [2] [Sl.scr all, Sl.dat (.int s), x] = some [Sl.scr all, Sl.dat (.int s), .un] := by
      cases x <;> first | rfl | exact absurd rfl (hx _)
    rw [List.map_cons, ok_lcL_cons, hw, okV_some]
    simp only [CD_draw, ok_some, ok_none, okV_some, okV_none, ↓okV_if, ↓ok_if, ↓ok_ret, ↓ok_bnd, ↓ok_lft, ↓ok_bin, ↓ok_una, ↓ok_binL, ↓ok_unaL, ↓ok_mny, ↓ok_rdD, ↓ok_rdO, ↓ok_rdA, ↓ok_toB, ↓ok_sAnd, ↓ok_sOr, ↓ok_sNot, ↓ok_vAnd, ↓ok_vOr, ↓ok_sIf, ↓ok_chn, ↓ok_sNil, ↓ok_sCons, ↓ok_dTup, ↓ok_dLst, ↓ok_m0S, ↓ok_m1S, ↓ok_m1L, ↓ok_ixO, ↓ok_sPart, ↓ok_sSl, ↓ok_tupO, ↓ok_sItems, ↓ok_sScr, ↓ok_sEnum, ↓ok_sRng1, ↓ok_sRng2, ↓ok_seqS, ↓ok_nxt, ↓ok_brkS, ↓ok_cntS, ↓ok_retN, ↓ok_drpS, ↓ok_asg, ↓ok_asgL, ↓ok_asgG, ↓ok_augS, ↓ok_ifS, ↓ok_retD, ↓ok_retL, ↓ok_retO, ↓ok_appO, ↓ok_setO, ↓ok_extO, ↓ok_popS, ↓ok_forS, ↓ok_forL_nil, ↓ok_lcS, ↓ok_lcL_nil, ↓okV_callD, ↓okV_callV, ↓ok_callM, ↓ok_asD, ↓ok_asL, ↓ok_callS, ↓ok_runF, own?, toN, toT, toNs, wipE, bakE, Fw.collect, ok_yesS, List.getElem?_cons_zero, List.getElem?_cons_succ, List.set_cons_zero, List.set_cons_succ, List.map_cons, List.map_nil, List.length_cons, List.length_nil, List.cons_append, List.nil_append, List.replicate_succ, List.replicate_zero, Nat.reduceAdd, Nat.reduceSub, Nat.reduceLeDiff, Nat.reduceLT, Nat.reduceEqDiff, Int.reduceLT, Int.reduceLE, Int.reduceNeg, Int.reducePow, Int.reduceEq, Option.isSome_some, Option.map_some, Option.map_none, true_and, and_true, if_true, if_false, ite_true, ite_false, Bool.false_eq_true, reduceIte, reduceCtorEq, gAdd_ii, gAdd_ss, gAdd_tt, gSub_ii, gMul_ii, gDiv_ii, gMod_ii, gNeg_i, gLt_ii, gGt_ii, gGe_ii, gLe_ii, eqv_ii, eqv_ss, eqv_bb, eqv_nn, eqv_ni, eqv_in, eqv_ns, eqv_sn, eqv_nb, eqv_bn, eqv_is, eqv_si, eqv_nt, eqv_tn, eqv_nl, eqv_ln, eqv_tt, eqv_ll, eqvA_nn, eqvA_cc, eqvA_nc, eqvA_cn, gEq_ii, gEq_ss, gEq_bb, gEq_nn, gEq_in, gEq_ni, gEq_sn, gEq_ns, gEq_si, gEq_is, gNe_ii, gNe_ss, gNe_bb, gNe_nn, gNot_b, gIsN_n, gIsN_i, gIsN_b, gIsN_s, gIsN_t, gIsN_l, gNotN_n, gNotN_i, gNotN_b, gNotN_s, gNotN_t, gNotN_l, gIx_l, gIx_t, gIx_s, gLen_s, gLen_l, gLen_t, gAbs_i, gInt_i, gInt_b, gInt_s, gOrd_sign, gDivmod_ii, gStr_i, gStr_s, gTuple_l, gTuple_t, gStrip_s, gLstrip_s, gSplit_s, gPartition_s, gJoin_m, gCat_ll, gSl_s, gSl_t, gSl_l, itemsOf_l, itemsOf_t, itemsOf_s, ofString_inj, cMul_r, cMul_l, ixN_lit, atI_lit, atI_m1, cast_lit, String.reduceEq, decide_true, decide_false, Int.reduceSub, Int.reduceAdd, Int.reduceMul, Int.reduceToNat, bakE]
    exact draw_comp hx q
theorem draw_ok {ns : List Int} (hn : ns.length ≤ 63) {Q : Sl → En → Prop} (q : ∀ d, DrawOk d → Q (.own d) [.un]) : Ok (S_draw [.scr ns]) Q := by
  unfold S_draw
  rw [ok_runF]
  refine ⟨rfl, ?_⟩
  simp only [YD_draw, ok_some, ok_none, okV_some, okV_none, ↓okV_if, ↓ok_if, ↓ok_ret, ↓ok_bnd, ↓ok_lft, ↓ok_bin, ↓ok_una, ↓ok_binL, ↓ok_unaL, ↓ok_mny, ↓ok_rdD, ↓ok_rdO, ↓ok_rdA, ↓ok_toB, ↓ok_sAnd, ↓ok_sOr, ↓ok_sNot, ↓ok_vAnd, ↓ok_vOr, ↓ok_sIf, ↓ok_chn, ↓ok_sNil, ↓ok_sCons, ↓ok_dTup, ↓ok_dLst, ↓ok_m0S, ↓ok_m1S, ↓ok_m1L, ↓ok_ixO, ↓ok_sPart, ↓ok_sSl, ↓ok_tupO, ↓ok_sItems, ↓ok_sScr, ↓ok_sEnum, ↓ok_sRng1, ↓ok_sRng2, ↓ok_seqS, ↓ok_nxt, ↓ok_brkS, ↓ok_cntS, ↓ok_retN, ↓ok_drpS, ↓ok_asg, ↓ok_asgL, ↓ok_asgG, ↓ok_augS, ↓ok_ifS, ↓ok_retD, ↓ok_retL, ↓ok_retO, ↓ok_appO, ↓ok_setO, ↓ok_extO, ↓ok_popS, ↓ok_forS, ↓ok_forL_nil, ↓ok_lcS, ↓ok_lcL_nil, ↓okV_callD, ↓okV_callV, ↓ok_callM, ↓ok_asD, ↓ok_asL, ↓ok_callS, ↓ok_runF, own?, toN, toT, toNs, wipE, bakE, Fw.collect, ok_yesS, List.getElem?_cons_zero, List.getElem?_cons_succ, List.set_cons_zero, List.set_cons_succ, List.map_cons, List.map_nil, List.length_cons, List.length_nil, List.cons_append, List.nil_append, List.replicate_succ, List.replicate_zero, Nat.reduceAdd, Nat.reduceSub, Nat.reduceLeDiff, Nat.reduceLT, Nat.reduceEqDiff, Int.reduceLT, Int.reduceLE, Int.reduceNeg, Int.reducePow, Int.reduceEq, Option.isSome_some, Option.map_some, Option.map_none, true_and, and_true, if_true, if_false, ite_true, ite_false, Bool.false_eq_true, reduceIte, reduceCtorEq, gAdd_ii, gAdd_ss, gAdd_tt, gSub_ii, gMul_ii, gDiv_ii, gMod_ii, gNeg_i, gLt_ii, gGt_ii, gGe_ii, gLe_ii, eqv_ii, eqv_ss, eqv_bb, eqv_nn, eqv_ni, eqv_in, eqv_ns, eqv_sn, eqv_nb, eqv_bn, eqv_is, eqv_si, eqv_nt, eqv_tn, eqv_nl, eqv_ln, eqv_tt, eqv_ll, eqvA_nn, eqvA_cc, eqvA_nc, eqvA_cn, gEq_ii, gEq_ss, gEq_bb, gEq_nn, gEq_in, gEq_ni, gEq_sn, gEq_ns, gEq_si, gEq_is, gNe_ii, gNe_ss, gNe_bb, gNe_nn, gNot_b, gIsN_n, gIsN_i, gIsN_b, gIsN_s, gIsN_t, gIsN_l, gNotN_n, gNotN_i, gNotN_b, gNotN_s, gNotN_t, gNotN_l, gIx_l, gIx_t, gIx_s, gLen_s, gLen_l, gLen_t, gAbs_i, gInt_i, gInt_b, gInt_s, gOrd_sign, gDivmod_ii, gStr_i, gStr_s, gTuple_l, gTuple_t, gStrip_s, gLstrip_s, gSplit_s, gPartition_s, gJoin_m, gCat_ll, gSl_s, gSl_t, gSl_l, itemsOf_l, itemsOf_t, itemsOf_s, ofString_inj, cMul_r, cMul_l, ixN_lit, atI_lit, atI_m1, cast_lit, String.reduceEq, decide_true, decide_false, Int.reduceSub, Int.reduceAdd, Int.reduceMul, Int.reduceToNat]
  refine draw_for (fun _ => nofun) fun s x hx => ?_
  simp only [ok_some, ok_none, okV_some, okV_none, ↓okV_if, ↓ok_if, ↓ok_ret, ↓ok_bnd, ↓ok_lft, ↓ok_bin, ↓ok_una, ↓ok_binL, ↓ok_unaL, ↓ok_mny, ↓ok_rdD, ↓ok_rdO, ↓ok_rdA, ↓ok_toB, ↓ok_sAnd, ↓ok_sOr, ↓ok_sNot, ↓ok_vAnd, ↓ok_vOr, ↓ok_sIf, ↓ok_chn, ↓ok_sNil, ↓ok_sCons, ↓ok_dTup, ↓ok_dLst, ↓ok_m0S, ↓ok_m1S, ↓ok_m1L, ↓ok_ixO, ↓ok_sPart, ↓ok_sSl, ↓ok_tupO, ↓ok_sItems, ↓ok_sScr, ↓ok_sEnum, ↓ok_sRng1, ↓ok_sRng2, ↓ok_seqS, ↓ok_nxt, ↓ok_brkS, ↓ok_cntS, ↓ok_retN, ↓ok_drpS, ↓ok_asg, ↓ok_asgL, ↓ok_asgG, ↓ok_augS, ↓ok_ifS, ↓ok_retD, ↓ok_retL, ↓ok_retO, ↓ok_appO, ↓ok_setO, ↓ok_extO, ↓ok_popS, ↓ok_forS, ↓ok_forL_nil, ↓ok_lcS, ↓ok_lcL_nil, ↓okV_callD, ↓okV_callV, ↓ok_callM, ↓ok_asD, ↓ok_asL, ↓ok_callS, ↓ok_runF, own?, toN, toT, toNs, wipE, bakE, Fw.collect, ok_yesS, List.getElem?_cons_zero, List.getElem?_cons_succ, List.set_cons_zero, List.set_cons_succ, List.map_cons, List.map_nil, List.length_cons, List.length_nil, List.cons_append, List.nil_append, List.replicate_succ, List.replicate_zero, Nat.reduceAdd, Nat.reduceSub, Nat.reduceLeDiff, Nat.reduceLT, Nat.reduceEqDiff, Int.reduceLT, Int.reduceLE, Int.reduceNeg, Int.reducePow, Int.reduceEq, Option.isSome_some, Option.map_some, Option.map_none, true_and, and_true, if_true, if_false, ite_true, ite_false, Bool.false_eq_true, reduceIte, reduceCtorEq, gAdd_ii, gAdd_ss, gAdd_tt, gSub_ii, gMul_ii, gDiv_ii, gMod_ii, gNeg_i, gLt_ii, gGt_ii, gGe_ii, gLe_ii, eqv_ii, eqv_ss, eqv_bb, eqv_nn, eqv_ni, eqv_in, eqv_ns, eqv_sn, eqv_nb, eqv_bn, eqv_is, eqv_si, eqv_nt, eqv_tn, eqv_nl, eqv_ln, eqv_tt, eqv_ll, eqvA_nn, eqvA_cc, eqvA_nc, eqvA_cn, gEq_ii, gEq_ss, gEq_bb, gEq_nn, gEq_in, gEq_ni, gEq_sn, gEq_ns, gEq_si, gEq_is, gNe_ii, gNe_ss, gNe_bb, gNe_nn, gNot_b, gIsN_n, gIsN_i, gIsN_b, gIsN_s, gIsN_t, gIsN_l, gNotN_n, gNotN_i, gNotN_b, gNotN_s, gNotN_t, gNotN_l, gIx_l, gIx_t, gIx_s, gLen_s, gLen_l, gLen_t, gAbs_i, gInt_i, gInt_b, gInt_s, gOrd_sign, gDivmod_ii, gStr_i, gStr_s, gTuple_l, gTuple_t, gStrip_s, gLstrip_s, gSplit_s, gPartition_s, gJoin_m, gCat_ll, gSl_s, gSl_t, gSl_l, itemsOf_l, itemsOf_t, itemsOf_s, ofString_inj, cMul_r, cMul_l, ixN_lit, atI_lit, atI_m1, cast_lit, String.reduceEq, decide_true, decide_false, Int.reduceSub, Int.reduceAdd, Int.reduceMul, Int.reduceToNat]
  have hz := sizeLine_eq
  refine ⟨by rw [List.length_map]; omega, draw_comp hx ?_⟩
  simp only [ok_some, ok_none, okV_some, okV_none, ↓okV_if, ↓ok_if, ↓ok_ret, ↓ok_bnd, ↓ok_lft, ↓ok_bin, ↓ok_una, ↓ok_binL, ↓ok_unaL, ↓ok_mny, ↓ok_rdD, ↓ok_rdO, ↓ok_rdA, ↓ok_toB, ↓ok_sAnd, ↓ok_sOr, ↓ok_sNot, ↓ok_vAnd, ↓ok_vOr, ↓ok_sIf, ↓ok_chn, ↓ok_sNil, ↓ok_sCons, ↓ok_dTup, ↓ok_dLst, ↓ok_m0S, ↓ok_m1S, ↓ok_m1L, ↓ok_ixO, ↓ok_sPart, ↓ok_sSl, ↓ok_tupO, ↓ok_sItems, ↓ok_sScr, ↓ok_sEnum, ↓ok_sRng1, ↓ok_sRng2, ↓ok_seqS, ↓ok_nxt, ↓ok_brkS, ↓ok_cntS, ↓ok_retN, ↓ok_drpS, ↓ok_asg, ↓ok_asgL, ↓ok_asgG, ↓ok_augS, ↓ok_ifS, ↓ok_retD, ↓ok_retL, ↓ok_retO, ↓ok_appO, ↓ok_setO, ↓ok_extO, ↓ok_popS, ↓ok_forS, ↓ok_forL_nil, ↓ok_lcS, ↓ok_lcL_nil, ↓okV_callD, ↓okV_callV, ↓ok_callM, ↓ok_asD, ↓ok_asL, ↓ok_callS, ↓ok_runF, own?, toN, toT, toNs, wipE, bakE, Fw.collect, ok_yesS, List.getElem?_cons_zero, List.getElem?_cons_succ, List.set_cons_zero, List.set_cons_succ, List.map_cons, List.map_nil, List.length_cons, List.length_nil, List.cons_append, List.nil_append, List.replicate_succ, List.replicate_zero, Nat.reduceAdd, Nat.reduceSub, Nat.reduceLeDiff, Nat.reduceLT, Nat.reduceEqDiff, Int.reduceLT, Int.reduceLE, Int.reduceNeg, Int.reducePow, Int.reduceEq, Option.isSome_some, Option.map_some, Option.map_none, true_and, and_true, if_true, if_false, ite_true, ite_false, Bool.false_eq_true, reduceIte, reduceCtorEq, gAdd_ii, gAdd_ss, gAdd_tt, gSub_ii, gMul_ii, gDiv_ii, gMod_ii, gNeg_i, gLt_ii, gGt_ii, gGe_ii, gLe_ii, eqv_ii, eqv_ss, eqv_bb, eqv_nn, eqv_ni, eqv_in, eqv_ns, eqv_sn, eqv_nb, eqv_bn, eqv_is, eqv_si, eqv_nt, eqv_tn, eqv_nl, eqv_ln, eqv_tt, eqv_ll, eqvA_nn, eqvA_cc, eqvA_nc, eqvA_cn, gEq_ii, gEq_ss, gEq_bb, gEq_nn, gEq_in, gEq_ni, gEq_sn, gEq_ns, gEq_si, gEq_is, gNe_ii, gNe_ss, gNe_bb, gNe_nn, gNot_b, gIsN_n, gIsN_i, gIsN_b, gIsN_s, gIsN_t, gIsN_l, gNotN_n, gNotN_i, gNotN_b, gNotN_s, gNotN_t, gNotN_l, gIx_l, gIx_t, gIx_s, gLen_s, gLen_l, gLen_t, gAbs_i, gInt_i, gInt_b, gInt_s, gOrd_sign, gDivmod_ii, gStr_i, gStr_s, gTuple_l, gTuple_t, gStrip_s, gLstrip_s, gSplit_s, gPartition_s, gJoin_m, gCat_ll, gSl_s, gSl_t, gSl_l, itemsOf_l, itemsOf_t, itemsOf_s, ofString_inj, cMul_r, cMul_l, ixN_lit, atI_lit, atI_m1, cast_lit, String.reduceEq, decide_true, decide_false, Int.reduceSub, Int.reduceAdd, Int.reduceMul, Int.reduceToNat]
  refine ⟨by omega, q _ ⟨ns.map fun n => if n < 0 then -n else n, -1, 0, s, ?_, fun x hx => ?_, by omega, by omega⟩⟩
  · unfold drw
    rw [List.map_map]
    rfl
  · obtain ⟨n, _, rfl⟩ := List.mem_map.mp hx
    split <;> omega
end Fw
namespace Fw
open PySem PySem.Spec L2
theorem Ok.of {α : Type} {m : Option (α × En)} {Q : α → En → Prop} {a : α} {E : En} (h : m = some (a, E)) (q : Q a E) : Ok m Q := ⟨a, E, h, q⟩
theorem OkV.imp {α : Type} {m : Option α} {Q R : α → Prop} (h : OkV m Q) (i : ∀ a, Q a → R a) : OkV m R := by
  obtain ⟨a, h1, h2⟩ := h
  exact ⟨a, h1, i a h2⟩
/-- one turn of a comprehension -/
def turn (vs : List Nat) (bb : PyData → En → Option En) (t : SE Bool) (fe : SE PyData) (E : En) (d : PyData) (Q : Option PyData → En → Prop) : Prop :=
  OkV (wipE vs E) fun E0 => OkV (bb d E0) fun E1 => Ok (t E1) fun b E2 => if b then Ok (fe E2) fun y E3 => Q (some y) (bakE vs E E3) else Q none (bakE vs E E2)
theorem lcL_turn {vs : List Nat} {bb : PyData → En → Option En} {t : SE Bool} {fe : SE PyData} {E : En} {d : PyData} {ds : List PyData} {Q : List PyData → En → Prop} {R : Option PyData → En → Prop} (h : turn vs bb t fe E d R)
    (q1 : ∀ y E', R (some y) E' → Ok (lcL vs bb t fe ds E') fun ys E4 => Q (y :: ys) E4) (q2 : ∀ E', R none E' → Ok (lcL vs bb t fe ds E') Q) : Ok (lcL vs bb t fe (d :: ds) E) Q := by
  rw [ok_lcL_cons]
  refine OkV.imp h fun E0 h => h.imp fun E1 h => h.imp fun b E2 h => ?_
  cases b with
  | true =>
    rw [if_pos rfl] at h ⊢
    exact h.imp fun y E3 h3 => q1 y _ h3
  | false =>
    rw [if_neg Bool.false_ne_true] at h ⊢
    exact q2 _ h
theorem lcL_inv {vs : List Nat} {bb : PyData → En → Option En} {t : SE Bool} {fe : SE PyData} (I : En → Prop) (P : PyData → Prop) : ∀ (ds : List PyData) (E : En) (Q : List PyData → En → Prop), I E →
    (∀ d ∈ ds, ∀ E, I E → turn vs bb t fe E d fun o E' => I E' ∧ ∀ y, o = some y → P y) → (∀ ys E', ys.length ≤ ds.length → (∀ y ∈ ys, P y) → I E' → Q ys E') → Ok (lcL vs bb t fe ds E) Q
  | [], E, Q, i, _, q => by
    rw [ok_lcL_nil]
    exact q [] E (Nat.le_refl _) (fun _ h => nomatch h) i
  | d :: ds, E, Q, i, h, q => by
    refine lcL_turn (h d (List.mem_cons_self ..) E i) (fun y E' r => ?_) (fun E' r => ?_)
    · refine lcL_inv I P ds E' _ r.1 (fun z hz => h z (List.mem_cons_of_mem _ hz)) fun ys E4 hl hp i4 => ?_
      refine q (y :: ys) E4 (by simp only [List.length_cons]; omega) (fun z hz => ?_) i4
      rcases List.mem_cons.mp hz with rfl | hz
      · exact r.2 _ rfl
      · exact hp z hz
    · exact lcL_inv I P ds E' _ r.1 (fun z hz => h z (List.mem_cons_of_mem _ hz)) fun ys E4 hl hp i4 => q ys E4 (by simp only [List.length_cons]; omega) hp i4
/-- a comprehension without a test: an item for each -/
theorem lcL_all {vs : List Nat} {bb : PyData → En → Option En} {t : SE Bool} {fe : SE PyData} (I : En → Prop) (P : PyData → Prop) : ∀ (ds : List PyData) (E : En) (Q : List PyData → En → Prop), I E →
    (∀ d ∈ ds, ∀ E, I E → turn vs bb t fe E d fun o E' => I E' ∧ ∃ y, o = some y ∧ P y) → (∀ ys E', ys.length = ds.length → (∀ y ∈ ys, P y) → I E' → Q ys E') → Ok (lcL vs bb t fe ds E) Q
  | [], E, Q, i, _, q => by
    rw [ok_lcL_nil]
    exact q [] E rfl (fun _ h => nomatch h) i
  | d :: ds, E, Q, i, h, q => by
    refine lcL_turn (h d (List.mem_cons_self ..) E i) (fun y E' r => ?_) (fun E' r => ?_)
    · obtain ⟨i', y', e, py⟩ := r
      cases e
      refine lcL_all I P ds E' _ i' (fun z hz => h z (List.mem_cons_of_mem _ hz)) fun ys E4 hl hp i4 => ?_
      refine q (y :: ys) E4 (by simp only [List.length_cons]; omega) (fun z hz => ?_) i4
      rcases List.mem_cons.mp hz with rfl | hz
      · exact py
      · exact hp z hz
    · obtain ⟨_, _, e, _⟩ := r
      cases e
/-- a comprehension that leaves the slots as they are -/
theorem lcL_map {α : Type} {vs : List Nat} {bb : PyData → En → Option En} {t : SE Bool} {fe : SE PyData} {E : En} (item val : α → PyData) (p : α → Bool) : ∀ (xs : List α) (Q : List PyData → En → Prop),
    (∀ x ∈ xs, turn vs bb t fe E (item x) fun o E' => E' = E ∧ o = if p x then some (val x) else none) → Q ((xs.filter p).map val) E → Ok (lcL vs bb t fe (xs.map item) E) Q
  | [], Q, _, q => by
    rw [List.map_nil, ok_lcL_nil]
    exact q
  | x :: xs, Q, h, q => by
    rw [List.map_cons]
    refine lcL_turn (h x (List.mem_cons_self ..)) (fun y E' r => ?_) (fun E' r => ?_)
    · obtain ⟨rfl, r⟩ := r
      refine lcL_map item val p xs _ (fun z hz => h z (List.mem_cons_of_mem _ hz)) ?_
      by_cases hp : p x = true
      · rw [if_pos hp] at r
        cases r
        rw [List.filter_cons_of_pos hp] at q
        exact q
      · rw [if_neg hp] at r
        cases r
    · obtain ⟨rfl, r⟩ := r
      refine lcL_map item val p xs _ (fun z hz => h z (List.mem_cons_of_mem _ hz)) ?_
      by_cases hp : p x = true
      · rw [if_pos hp] at r
        cases r
      · rw [List.filter_cons_of_neg hp] at q
        exact q
/-- what holds behind a turn of a loop -/
def stp (I : En → Prop) (Q : Fl → En → Prop) (fl : Fl) (E : En) : Prop := match fl with
  | .nx => I E
  | .ct => I E
  | .bk => Q .nx E
  | .rt s => Q (.rt s) E
theorem stp_nx {I : En → Prop} {Q : Fl → En → Prop} {E : En} : stp I Q .nx E = I E := rfl
theorem stp_ct {I : En → Prop} {Q : Fl → En → Prop} {E : En} : stp I Q .ct E = I E := rfl
theorem stp_bk {I : En → Prop} {Q : Fl → En → Prop} {E : En} : stp I Q .bk E = Q .nx E := rfl
theorem stp_rt {I : En → Prop} {Q : Fl → En → Prop} {E : En} {s : Sl} : stp I Q (.rt s) E = Q (.rt s) E := rfl
/-- a loop -/
theorem forL_inv {bb : PyData → En → Option En} {g : SS} (I : Nat → En → Prop) : ∀ (ds : List PyData) (k : Nat) (E : En) (Q : Fl → En → Prop), I k E →
    (∀ i d, ds[i]? = some d → ∀ E, I (k + i) E → OkV (bb d E) fun E1 => Ok (g E1) (stp (I (k + i + 1)) Q)) → (∀ E', I (k + ds.length) E' → Q .nx E') → Ok (forL bb g ds E) Q
  | [], k, E, Q, i, _, q => by
    rw [ok_forL_nil]
    exact q E i
  | d :: ds, k, E, Q, i, h, q => by
    rw [ok_forL_cons]
    have hr : ∀ E2, I (k + 1) E2 → Ok (forL bb g ds E2) Q := fun E2 i2 => by
      refine forL_inv I ds (k + 1) E2 Q i2 (fun j z hz E3 i3 => ?_) (fun E' i' => q E' ?_)
      · have := h (j + 1) z hz E3 (by rw [show k + (j + 1) = k + 1 + j by omega]; exact i3)
        rw [show k + (j + 1) + 1 = k + 1 + j + 1 by omega] at this
        exact this
      · rw [List.length_cons, show k + (ds.length + 1) = k + 1 + ds.length by omega]
        exact i'
    refine (h 0 d rfl E i).imp fun E1 h => h.imp fun fl E2 h => ?_
    cases fl with
    | nx => exact hr E2 h
    | ct => exact hr E2 h
    | bk => exact h
    | rt s => exact h
/-- a loop whose invariant doesn't count -/
theorem forL_inv' {bb : PyData → En → Option En} {g : SS} (I : En → Prop) (ds : List PyData) (E : En) (Q : Fl → En → Prop) (i : I E)
    (h : ∀ d ∈ ds, ∀ E, I E → OkV (bb d E) fun E1 => Ok (g E1) (stp I Q)) (q : ∀ E', I E' → Q .nx E') : Ok (forL bb g ds E) Q :=
  forL_inv (fun _ => I) ds 0 E Q i (fun j d hd E i => h d (List.mem_of_getElem? hd) E i) q
/-- a while loop: the number gets less in each turn -/
theorem whN_inv {t : SE Bool} {g : SS} (I : Nat → En → Prop) {Q : Fl → En → Prop} (h : ∀ k E, I k E → Ok (t E) fun b E1 => if b then Ok (g E1) (stp (fun E2 => ∃ j, j < k ∧ I j E2) Q) else Q .nx E1) :
    ∀ (n k : Nat) (E : En), I k E → k < n → Ok (whN t g n E) Q
  | 0, k, E, _, hk => absurd hk (Nat.not_lt_zero _)
  | n + 1, k, E, i, hk => by
    obtain ⟨b, E1, e1, h1⟩ := h k E i
    cases b with
    | false =>
      rw [if_neg Bool.false_ne_true] at h1
      exact ⟨.nx, E1, by unfold whN; rw [e1], h1⟩
    | true =>
      rw [if_pos rfl] at h1
      obtain ⟨fl, E2, e2, h2⟩ := h1
      cases fl with
      | nx =>
        obtain ⟨j, hj, ij⟩ := h2
        obtain ⟨fl, E3, e3, q⟩ := whN_inv I h n j E2 ij (by omega)
        exact ⟨fl, E3, by unfold whN; rw [e1]; simp only [e2]; exact e3, q⟩
      | ct =>
        obtain ⟨j, hj, ij⟩ := h2
        obtain ⟨fl, E3, e3, q⟩ := whN_inv I h n j E2 ij (by omega)
        exact ⟨fl, E3, by unfold whN; rw [e1]; simp only [e2]; exact e3, q⟩
      | bk => exact ⟨.nx, E2, by unfold whN; rw [e1]; simp only [e2], h2⟩
      | rt s => exact ⟨.rt s, E2, by unfold whN; rw [e1]; simp only [e2], h2⟩
theorem whS_inv {t : SE Bool} {g : SS} (I : Nat → En → Prop) {Q : Fl → En → Prop} (k : Nat) (E : En) (i : I k E) (hk : k < 1099511627776)
    (h : ∀ k E, I k E → Ok (t E) fun b E1 => if b then Ok (g E1) (stp (fun E2 => ∃ j, j < k ∧ I j E2) Q) else Q .nx E1) : Ok (whS t g E) Q := whN_inv I h fuelC k E i hk
theorem forL_any {α : Type} {bb : PyData → En → Option En} {g : SS} (item : α → PyData) (p : α → Bool) (I : En → Prop) (R : Sl) : ∀ (xs : List α) (E : En) (Q : Fl → En → Prop), I E →
    (∀ x ∈ xs, ∀ E, I E → OkV (bb (item x) E) fun E1 => Ok (g E1) fun fl E2 => I E2 ∧ fl = if p x then .rt R else .nx) → (∀ E', I E' → Q (if xs.any p then .rt R else .nx) E') → Ok (forL bb g (xs.map item) E) Q
  | [], E, Q, i, _, q => by
    rw [List.map_nil, ok_forL_nil]
    exact q E i
  | x :: xs, E, Q, i, h, q => by
    rw [List.map_cons, ok_forL_cons]
    refine (h x (List.mem_cons_self ..) E i).imp fun E1 h1 => h1.imp fun fl E2 h2 => ?_
    obtain ⟨i2, rfl⟩ := h2
    cases hp : p x with
    | true =>
      simp only [if_true]
      have := q E2 i2
      rw [List.any_cons, hp, Bool.true_or] at this
      exact this
    | false =>
      simp only [Bool.false_eq_true, if_false]
      refine forL_any item p I R xs E2 Q i2 (fun z hz => h z (List.mem_cons_of_mem _ hz)) fun E' i' => ?_
      have := q E' i'
      rw [List.any_cons, hp, Bool.false_or] at this
      exact this
theorem flat_map_strf {α : Type} {xs : List α} {f : α → Str} : (xs.map fun x => PyData.str (f x)).all flatD = true := by simp [flatD, Function.comp_def]
theorem len_sub (x : Str) (i j : Nat) : (Builtin.Str.strSub x i j).length ≤ x.length := by
  unfold Builtin.Str.strSub Str.length
  rw [Array.size_extract]
  omega
theorem len_stripBy (g : Nat → Bool) (l r : Bool) (x : Str) : (Txt.stripBy g l r x).length ≤ x.length := by
  unfold Txt.stripBy
  split
  · exact Nat.le_refl _
  · exact len_sub _ _ _
theorem len_strip (x y : Str) : (Txt.stripChars x y).length ≤ x.length := len_stripBy _ _ _ _
theorem len_lstrip (x y : Str) : (Txt.lstripChars x y).length ≤ x.length := len_stripBy _ _ _ _
theorem len_split (x y : Str) : ∀ p ∈ Txt.split x y, p.length ≤ x.length := by
  intro p hp
  unfold Txt.split at hp
  split at hp
  · rw [List.mem_singleton.mp hp]; exact Nat.le_refl _
  · split at hp
    · rw [List.mem_singleton.mp hp]; exact Nat.le_refl _
    · unfold Builtin.Str.partsBetween at hp
      obtain ⟨q, _, rfl⟩ := List.mem_map.mp hp
      exact len_sub _ _ _
theorem count_split (x y : Str) : (Txt.split x y).length ≤ x.length + 2 := by
  unfold Txt.split
  split
  · simp
  · split
    · simp
    · rw [length_partsBetween]
      have := StrLaws.occ_length_le_len x y 0 x.length (x.length + 1)
      omega
theorem len_join {zs : List Str} {s : Str} : (Txt.join s zs).length = (zs.map (·.length)).sum + (zs.length - 1) * s.length := size_glued s zs
theorem sum_one {zs : List Str} (h : ∀ z ∈ zs, z.length = 1) : (zs.map (·.length)).sum = zs.length := by
  induction zs with
  | nil => rfl
  | cons z zs ih =>
    rw [List.map_cons, List.sum_cons, ih fun w hw => h w (List.mem_cons_of_mem _ hw), h z (List.mem_cons_self ..), List.length_cons]
    omega
def Sign (d : PyData) : Prop := ∃ c : Nat, d = .str ⟨#[c]⟩
theorem signs_map {ys : List PyData} (h : ∀ y ∈ ys, Sign y) : ∃ zs : List Str, ys = zs.map .str ∧ zs.length = ys.length ∧ ∀ z ∈ zs, z.length = 1 := by
  induction ys with
  | nil => exact ⟨[], rfl, rfl, fun _ h => nomatch h⟩
  | cons y ys ih =>
    obtain ⟨zs, e, hl, h1⟩ := ih fun w hw => h w (List.mem_cons_of_mem _ hw)
    obtain ⟨c, rfl⟩ := h y (List.mem_cons_self ..)
    refine ⟨⟨#[c]⟩ :: zs, by rw [e]; rfl, by simp [hl], fun z hz => ?_⟩
    rcases List.mem_cons.mp hz with rfl | hz
    · rfl
    · exact h1 z hz
theorem strOk_lit (s : String) : PyData.strOk (Str.ofString s) = true := by
  rw [Str.ofString_eq_toList]
  unfold PyData.strOk
  simp only [List.size_toArray, List.all_toArray', List.all_map, List.all_eq_true, Function.comp_def, decide_eq_true_eq]
  intro c _
  have h : c.toNat.isValidChar := c.valid
  unfold Nat.isValidChar at h
  omega
theorem one_sign {s : Str} {n : Nat} (hs : s.length = n) (hn : n ≤ sizeLine) {r : Int} (h0 : 0 ≤ r) (h1 : r < n) : ∃ c : Nat, c ∈ s.cps.toList ∧ gIx (.str s) (.int r) = some (.str ⟨#[c]⟩) := by
  have hr : r.toNat < s.cps.toList.length := by
    have : s.cps.toList.length = s.length := by simp [Str.length]
    omega
  obtain ⟨k, rfl⟩ := Int.eq_ofNat_of_zero_le h0
  have hk : k < s.cps.toList.length := by simpa using hr
  refine ⟨s.cps.toList[k], List.getElem_mem hk, ?_⟩
  rw [gIx_s, if_pos (by omega), Fw.atI_nat, List.getElem?_eq_getElem hk]
  rfl
theorem atI_mem {α : Type} {ys : List α} {r : Int} (h0 : 0 ≤ r) (h1 : r < ys.length) : ∃ y ∈ ys, atI ys r = some y := by
  obtain ⟨k, rfl⟩ := Int.eq_ofNat_of_zero_le h0
  have hk : k < ys.length := by omega
  exact ⟨ys[k], List.getElem_mem hk, by rw [Fw.atI_nat, List.getElem?_eq_getElem hk]⟩
theorem cutL_map {α β : Type} (f : α → β) (xs : List α) (lo hi : Option Int) : cutL (xs.map f) lo hi = (cutL xs lo hi).map f := by
  simp only [cutL, List.length_map, List.map_take, List.map_drop]
theorem cutL_mem {α : Type} {xs : List α} {lo hi : Option Int} {x : α} (h : x ∈ cutL xs lo hi) : x ∈ xs := List.mem_of_mem_drop (List.mem_of_mem_take h)
theorem cutL_len {α : Type} (xs : List α) (lo hi : Option Int) : (cutL xs lo hi).length ≤ xs.length := by
  unfold cutL
  rw [List.length_take, List.length_drop]
  omega
theorem any_map {α : Type} (xs : List α) (f : α → PyData) (p : PyData → Bool) : (xs.map f).any p = xs.any fun x => p (f x) := by
  rw [List.any_map]; rfl
abbrev ii (xs : List Int) : List PyData := xs.map .int
theorem canAll_ints (xs : List Int) : PyData.canLayAll0 (ii xs) = true := by
  induction xs with
  | nil => rfl
  | cons x xs ih =>
    show PyData.canLayAll0 (.int x :: ii xs) = true
    rw [PyData.canLayAll0, ih, PyData.canLay0]
    rfl
theorem depthAll_ints (xs : List Int) : PyData.depthAll (ii xs) = 0 := by
  induction xs with
  | nil => simp [PyData.depthAll]
  | cons x xs ih =>
    show PyData.depthAll (.int x :: ii xs) = 0
    rw [PyData.depthAll, ih]
    simp [PyData.depth]
theorem shaped_ints (xs : List Int) : SeqAt.shaped (.tuple (ii xs)) = true := by
  simp [SeqAt.shaped, PyData.canLay0, PyData.depth, canAll_ints, depthAll_ints]
theorem shaped_lints (xs : List Int) : SeqAt.shaped (.list (ii xs)) = true := by
  simp [SeqAt.shaped, PyData.canLay0, PyData.depth, canAll_ints, depthAll_ints]
theorem eqvAll_ints (xs ys : List Int) : PyData.eqvAll (ii xs) (ii ys) = decide (xs = ys) := by
  induction xs generalizing ys with
  | nil =>
    cases ys with
    | nil => simp [eqvA_nn]
    | cons y ys => simp [eqvA_nc]
  | cons x xs ih =>
    cases ys with
    | nil => simp [eqvA_cn]
    | cons y ys =>
      show PyData.eqvAll (.int x :: ii xs) (.int y :: ii ys) = _
      rw [eqvA_cc, ih, eqv_ii]
      simp [Bool.decide_and]
theorem gEq_ints (xs ys : List Int) : gEq (.tuple (ii xs)) (.tuple (ii ys)) = some (.bool (decide (xs = ys))) := by
  rw [gEq_tt, if_pos (by rw [shaped_ints, shaped_ints]; rfl), eqvAll_ints]
theorem gNe_ints (xs ys : List Int) : gNe (.tuple (ii xs)) (.tuple (ii ys)) = some (.bool (!decide (xs = ys))) := by
  rw [gNe_tt, if_pos (by rw [shaped_ints, shaped_ints]; rfl), eqvAll_ints]
theorem gIn_ints (x : Int) (ys : List Int) : gIn (.int x) (.tuple (ii ys)) = some (.bool (decide (x ∈ ys))) := by
  rw [gIn_tf rfl flat_map_int, any_map]
  simp only [eqv_ii]
  congr 2
  rw [Bool.eq_iff_iff]
  simp
theorem gIn_lints (x : Int) (ys : List Int) : gIn (.int x) (.list (ii ys)) = some (.bool (decide (x ∈ ys))) := by
  rw [gIn_lf rfl flat_map_int, any_map]
  simp only [eqv_ii]
  congr 2
  rw [Bool.eq_iff_iff]
  simp
theorem atI_ii {xs : List Int} {k : Nat} (h : k < xs.length) : atI (ii xs) (k : Int) = some (.int xs[k]) := by
  rw [Fw.atI_nat, List.getElem?_map, List.getElem?_eq_getElem h]
  rfl
theorem isi_tuple {xs : List PyData} : gIsi "tuple" (.tuple xs) = some (.bool true) := rfl
theorem sIx_nat {n d k : Nat} : HT.sIx n d (some (k : Int)) = min k n := by
  unfold HT.sIx
  show (if (k : Int) < 0 then _ else _) = _
  rw [if_neg (by omega)]
  simp
end Fw
namespace Fw
open PySem PySem.Spec L2
open PyProof.Rows hiding St
/-- an expression, where a token is out -/
def PXt (X : Cx) (m p : Bool) (e : Expr) (f : SE PyData) : Prop := PET X e (tX X.K m p f)
section
variable {X : Cx} {m m1 m2 p p1 p2 : Bool} {a b e : Expr} {j k : Nat} {pos p0 apos c0 c1 : Pos} {fa fb f : SE PyData} {y z c : Str}
theorem PX.t (h : PX X m p e f) : PXt X m p e f := CwR.PET.of h
theorem pet_imp {t u : TE} (h : PET X e t) (i : ∀ σ H Q, u σ H Q → t σ H Q) : PET X e u := fun pins s σ H Q h0 I q => h pins s σ H Q h0 I (i σ H Q q)
def rplS (fa : SE PyData) (y z : Str) : SE PyData := bnd fa fun d => match d with
  | .str x => if x.length + (x.length + 1) * z.length ≤ 16777216 then ret (.str (Txt.replace x y z)) else fun _ => none
  | _ => fun _ => none
theorem rpl_core {K : PySem.W.Frag} {σ : L2.St} {H : Hp} {Q : VK} (h : tX K m true (rplS fa y z) σ H Q) : CwR.tReplC (tX K m p fa) y z σ H Q := by
  obtain ⟨vs0, P, E, fps, d, E', rel, hh, q⟩ := h
  obtain ⟨d1, E1, h1, hh⟩ := bnd_some hh
  split at hh
  · rename_i x
    split at hh
    · rename_i hl
      obtain ⟨rfl, rfl⟩ := ret_some hh
      refine ⟨vs0, P, E, fps, _, _, rel, h1, fun P1 H1 fps1 v r1 s1 m1' dv => ⟨x, ?_, hl, q P1 H1 fps1 _ r1 s1 m1' (.str _)⟩⟩
      cases p <;> exact dq_str dv
    · cases hh
  · cases hh
theorem pxt_repl (ho : PXt X m p a fa) (hyz : (y == z) = false := by decide)
    (hst : starEach [.Constant (.str y) j c0, .Constant (.str z) k c1] X.env = [(false, eval (.Constant (.str y) j c0) X.env), (false, eval (.Constant (.str z) k c1) X.env)] := by rfl)
    (hbase : attributeBase a "replace" X.env (eval a X.env) = eval a X.env := by rfl) (hline : (apos.endLine == pos.line) = true := by rfl) :
    PXt X m true (.Call (.Attribute a "replace" apos) [.Constant (.str y) j c0, .Constant (.str z) k c1] [] pos) (rplS fa y z) :=
  pet_imp (CwR.pet_replT ho hyz hst hbase hline) fun σ H Q h => rpl_core h
theorem px_addT (hb : PXt X m2 true b fb) : PX X m2 true (.BinOp (.Constant (.str c) j p0) .Add b pos) (bin (ret (.str c)) fb gAdd) := by
  refine px_op2 (m1 := false) (m2 := m2) (p1 := true) (p2 := true) (r := rAddA X.K) ⟨fun pins s σ H Q I h => ?_⟩ vo_add (.inl rfl)
  obtain ⟨vs0, P, E, fps, d, E', rel, hh, q⟩ := h
  obtain ⟨rfl, rfl⟩ := ret_some hh
  refine wpAny_BinOp (Calls.Constant_str ?_)
  have h1 := q P H fps (.str c) rel (.refl _ _ _) (fun _ => Same.refl H) (.str c)
  exact thn (hb pins { s with toks := s.toks + 1 } σ H _ (by show 1 ≤ s.toks + 1; omega) (I.tok _) h1) fun u s2 ⟨y, H2, I2, r2, q2⟩ => op_addA pins s2 σ H2 (.str c) y _ u Q I2 ⟨_, rfl⟩ r2 q2
theorem ok_rplS {E : En} {Q : PyData → En → Prop} : Ok (rplS fa y z E) Q = Ok (fa E) fun d E1 => match d with
    | .str x => x.length + (x.length + 1) * z.length ≤ 16777216 ∧ Q (.str (Txt.replace x y z)) E1
    | _ => False := by
  unfold rplS
  rw [ok_bnd]
  congr 1
  funext d E1
  cases d with
  | str x =>
    simp only
    by_cases hl : x.length + (x.length + 1) * z.length ≤ 16777216
    · rw [if_pos hl, ok_ret]
      exact propext ⟨fun q => ⟨hl, q⟩, fun q => q.2⟩
    · rw [if_neg hl, ok_none]
      exact propext ⟨False.elim, fun q => hl q.1⟩
  | _ => exact ok_none
theorem rplS_ok {E E1 : En} {x : Str} {Q : PyData → En → Prop} (h : fa E = some (.str x, E1)) (hl : x.length + (x.length + 1) * z.length ≤ 16777216) (q : Q (.str (Txt.replace x y z)) E1) : ∃ a E2, rplS fa y z E = some (a, E2) ∧ Q a E2 := by
  refine ⟨_, E1, ?_, q⟩
  unfold rplS bnd
  rw [h]
  simp only [hl, if_true]
  rfl
end
end Fw
namespace Fw
open PySem PySem.Spec L2
def T (l : List Nat) : Str := ⟨l.toArray⟩
section
variable {a b l w : List Nat} {c : Nat} {i j : Int}
theorem T_toList : (T l).cps.toList = l := rfl
theorem T_of (s : Str) : s = T s.cps.toList := by cases s; rfl
theorem T_len : (T l).length = l.length := by simp [T, Str.length]
theorem T_app : T a ++ T b = T (a ++ b) := by
  show (⟨a.toArray ++ b.toArray⟩ : Str) = ⟨(a ++ b).toArray⟩
  simp
theorem T_inj : (T a = T b) = (a = b) := by
  apply propext
  refine ⟨fun h => ?_, fun h => by rw [h]⟩
  have := congrArg (fun s : Str => s.cps.toList) h
  exact this
theorem T_sign : (⟨#[c]⟩ : Str) = T [c] := rfl
theorem T_empty : Str.empty = T [] := rfl
theorem T_cut {lo hi : Option Int} : cutS (T l) lo hi = T (cutL l lo hi) := by
  unfold cutS cutL T
  simp [Str.length]
theorem T_signs : signs (T l) = l.map fun c => .str (T [c]) := rfl
theorem T_lit (s : String) : Str.ofString s = T (s.toList.map Char.toNat) := by
  rw [Str.ofString_eq_toList]
  rfl
def trimR (w l : List Nat) : List Nat := (l.reverse.dropWhile fun c => decide (c ∈ w)).reverse
def trimL (w l : List Nat) : List Nat := trimR w (l.dropWhile fun c => decide (c ∈ w))
theorem drop_tw (p : Nat → Bool) (l : List Nat) : l.drop (l.takeWhile p).length = l.dropWhile p := by
  induction l with
  | nil => rfl
  | cons x l ih =>
    rw [List.takeWhile_cons, List.dropWhile_cons]
    split
    · rw [List.length_cons, List.drop_succ_cons, ih]
    · rfl
theorem T_strip : Txt.stripChars (T l) (T w) = T (trimL w l) := by
  have e0 : ∀ c, (T w).cps.contains c = decide (c ∈ w) := fun c => by simp [T]
  have e1 : (T w).cps.contains = fun c => decide (c ∈ w) := funext e0
  unfold Txt.stripChars
  rw [e1, PyProof.Rows.stripBy_eq, PyProof.Rows.strSub_mk]
  unfold PySem.stripLo PySem.stripHi
  simp only [if_true, T_toList, T_len]
  rw [drop_tw]
  show T _ = _
  unfold trimL trimR
  congr 1
  generalize hp : (fun c => decide (c ∈ w)) = p
  have h1 : (l.takeWhile p).length + (l.dropWhile p).length = l.length := by
    have := congrArg List.length (List.takeWhile_append_dropWhile (p := p) (l := l))
    rwa [List.length_append] at this
  generalize l.dropWhile p = d at h1 ⊢
  have h2 : (d.reverse.takeWhile p).length + (d.reverse.dropWhile p).length = d.length := by
    have := congrArg List.length (List.takeWhile_append_dropWhile (p := p) (l := d.reverse))
    rwa [List.length_append, List.length_reverse] at this
  have h3 : d = (d.reverse.dropWhile p).reverse ++ (d.reverse.takeWhile p).reverse := by
    rw [← List.reverse_append, List.takeWhile_append_dropWhile, List.reverse_reverse]
  have h4 : l.length - (d.reverse.takeWhile p).length - (l.takeWhile p).length = (d.reverse.dropWhile p).reverse.length := by
    rw [List.length_reverse]; omega
  rw [h4]
  conv => lhs; arg 2; rw [h3]
  rw [List.take_left]
theorem gIn_T : gIn (.str (T [c])) (.str (T l)) = some (.bool (decide (c ∈ l))) := rfl
theorem gNin_T : gNin (.str (T [c])) (.str (T l)) = some (.bool (!decide (c ∈ l))) := rfl
theorem eq_T (s : Str) : ∃ l, s = T l := ⟨_, T_of s⟩
theorem T_join {ls : List (List Nat)} (s : List Nat) : Txt.join (T s) (ls.map T) = T (s.intercalate ls) := by
  rw [T_of (Txt.join _ _), T_inj]
  cases ls with
  | nil => rfl
  | cons p r =>
    show (Builtin.Str.glued (T s) (T p :: r.map T)).cps.toList = _
    rw [PySem.StrLaws.glued_list]
    have h : ∀ r : List (List Nat), PySem.StrLaws.glueL (T s).cps.toList (r.map T) = (r.map fun x => s ++ x).flatten := by
      intro r
      induction r with
      | nil => rfl
      | cons x r ih =>
        show (T s).cps.toList ++ ((T x).cps.toList ++ PySem.StrLaws.glueL _ _) = _
        rw [ih]
        simp [T_toList]
    show p ++ PySem.StrLaws.glueL _ _ = _
    rw [h]
    clear h
    induction r generalizing p with
    | nil => simp [List.intercalate]
    | cons x r ih =>
      have := ih x
      simp only [List.intercalate, List.intersperse_cons₂, List.flatten_cons, List.map_cons] at this ⊢
      rw [← this]
      simp
end
end Fw
namespace Fw
open PySem PySem.Spec L2
open PyProof.Rows hiding St
section
variable {X : Cx} {a : Expr} {px pos : Pos}
/-- tuple(name), whether the list is owned or not -/
def tupA (i : Nat) : SE PyData := fun E => match E[i]? with
  | some (.own xs) => some (.tuple xs, E)
  | some (.dat d) => (gTuple d).map fun z => (z, E)
  | _ => none
theorem px_tupA {i : Nat} (hg : Gl X "tuple") (hm : X.mg "tuple" = none) (ha : PE X a (tVar i)) (he : starEach [a] X.env = (false, eval a X.env) :: starEach [] X.env := by rfl) : PX X false true (.Call (.Name "tuple" px) [a] [] pos) (tupA i) :=
  pe_imp (pe_callTy (T := "tuple") call_tuple_of hg hm (by decide +kernel) (pa_cons ha pa_nil he) (by decide) (by decide) he rfl) fun σ H Q => by
  rintro ⟨vs0, P, E, fps, d, E', rel, hh, q⟩
  unfold tupA at hh
  split at hh
  · rename_i xs e0
    cases hh
    have e1 : own? i E = some xs := by unfold own?; rw [e0]
    obtain ⟨ad, vs, es, -, -, hv, dv⟩ := rel.ownAt e1
    refine ⟨_, es, ad, vs, rfl, .inl ⟨SqL.of hv, fun p0 hp => ?_⟩⟩
    have s1 : Same P (upd P p0 (.tup vs)) := Fw.same_upd (sub_none rel.sub hp)
    exact q (upd P p0 (.tup vs)) (upd H p0 (.tup vs)) fps (.ref p0) (rel.alloc s1 (same_upd2 rel.sub hp) (Fw.same_upd hp) (fresh_upd hp)) (.alloc s1 (Fw.same_upd hp) (fresh_upd hp)) (fun _ => Fw.same_upd hp) (.tup (SqT.of upd_same) (dv.mono s1))
  · rename_i d1 e0
    cases hz : gTuple d1 with
    | none => rw [hz] at hh; cases hh
    | some z =>
      rw [hz] at hh
      cases hh
      obtain ⟨ov, e2, s⟩ := rel.sl i _ e0
      generalize hfp : fps i = fp at s
      cases s with
      | dat dv => exact ⟨_, e2, vu_tuple P H _ d1 _ Q rel.sub dv hz fun P' H' w pp su hh fr dw => q P' H' fps w (rel.alloc pp su hh fr) (.alloc pp hh fr) (fun _ => hh) dw⟩
  · cases hh
theorem ok_tupA {i : Nat} {E : En} {Q : PyData → En → Prop} : Ok (tupA i E) Q = match E[i]? with
    | some (.own xs) => Q (.tuple xs) E
    | some (.dat d) => OkV (gTuple d) fun z => Q z E
    | _ => False := by
  unfold tupA
  cases E[i]? with
  | none => exact ok_none
  | some s =>
    cases s with
    | own xs => exact ok_some
    | dat d =>
      show Ok ((gTuple d).map fun z => (z, E)) Q = OkV (gTuple d) fun z => Q z E
      cases gTuple d with
      | none => exact ok_none.trans okV_none.symm
      | some z => rw [okV_some]; exact ok_some
    | _ => exact ok_none
end
end Fw
namespace FwP
open PySem Builtin Builtin.Str Builtin.Int
theorem gv_ljust2 (x : Str) (i : Int) (c : Nat) (t u v : Tok) (hr : (decide (i < -(2 ^ 63 : Int)) || decide (i ≥ 2 ^ 63)) = false) (hl : tooLong i.toNat = false) :
    Gives (Builtin.«str.ljust» ⟨[.str x t, .int i u, .str ⟨#[c]⟩ v], []⟩) (if i ≤ x.length then .val (.str x t) else .str (Builtin.Str.padded x 0 (i.toNat - x.length) c)) := by
  show Gives (do
    let width ← asSsize s!"str.{"ljust"}" (.int i u)
    let fill ← Builtin.Str.fillChar "ljust" (some (.str ⟨#[c]⟩ v))
    if width ≤ x.length then (do rule s!"str.{"ljust"}.long-enough"; ret (.str x t)) else
    if tooLong width.toNat = true then unsupported s!"str.{"ljust"}:memory" else retStr (Builtin.Str.padded x 0 (width.toNat - x.length) fill)) _
  rw [asSsize_int _ _ _ hr]
  show Gives (if i ≤ x.length then (do rule s!"str.{"ljust"}.long-enough"; ret (.str x t)) else
    if tooLong i.toNat = true then unsupported s!"str.{"ljust"}:memory" else retStr (Builtin.Str.padded x 0 (i.toNat - x.length) c)) _
  rw [hl]
  by_cases h : i ≤ (x.length : Int)
  · rw [if_pos h, if_pos h]; exact .rule (.of_eq rfl)
  · rw [if_neg h, if_neg h]; exact .of_eq rfl
end FwP
namespace Fw
open PySem PySem.Spec L2
open PyProof.Rows hiding St
section
variable {X : Cx} {m m1 m2 p p1 p2 : Bool} {a b e o : Expr} {es : List Expr} {pos apos : Pos} {f fa fb fo : SE PyData} {fs : SE (List PyData)}
def strM (fo : SE PyData) (fs : SE (List PyData)) (g : Str → List PyData → Option PyData) : SE PyData := bnd fo fun d => match d with
  | .str s => bnd fs fun ds => lft (g s ds)
  | _ => fun _ => none
theorem ok_strM {g : Str → List PyData → Option PyData} {E : En} {Q : PyData → En → Prop} : Ok (strM fo fs g E) Q = Ok (fo E) fun d E1 => match d with
    | .str s => Ok (fs E1) fun ds E2 => OkV (g s ds) fun z => Q z E2
    | _ => False := by
  unfold strM
  rw [ok_bnd]
  congr 1
  funext d E1
  cases d with
  | str s => simp only [ok_bnd, ok_lft]
  | _ => exact ok_none
theorem px_strM {name : Str} {id : String} {r : V → List V → Hp → VK → Prop} {g : Str → List PyData → Option PyData} (slot : Slot "str" name id) (hty : typeOf (.builtin id) = pure (.type "method_descriptor")) (hm : MtR X id r)
    (v : ∀ (P H : Hp) (s : Str) (ys : List V) (ds : List PyData) (z : PyData) (Q : VK), Same P H → DqAll X.K P ys ds → g s ds = some z → After X.K P H z Q → r (.str s) ys H Q) (ho : PX X m1 p o fo) (ha : PXA X m2 (e :: es) fs)
    (hbase : attributeBase o name X.env (eval o X.env) = eval o X.env := by rfl)
    (hfew : ((backTo pos (starEach (e :: es) X.env)).all (fun x => !x.1) && (backToKw pos (keywordEach [] X.env)).all (fun x => x.1.isSome)
      && decide ((e :: es).length + ([] : List Keyword).length + (if ([] : List Keyword).isEmpty then 0 else 1) < 30)) = true := by rfl)
    (hline : (apos.endLine == pos.line) = true := by rfl) (hs : starEach (e :: es) X.env = (false, eval e X.env) :: starEach es X.env := by rfl) (hplain : (backTo pos (starEach es X.env)).any (·.1) = false := by rfl) :
    PX X (m1 || m2) true (.Call (.Attribute o name apos) (e :: es) [] pos) (strM fo fs g) :=
  pe_imp (pe_bm PySem.F.plainAttrs_str slot hty hm ho ha hbase hfew hline hs hplain) fun σ H Q => by
  rintro ⟨vs0, P, E, fps, d, E', rel, hh, q⟩
  obtain ⟨d1, E1, h1, hh⟩ := bnd_some hh
  split at hh
  · rename_i s
    obtain ⟨ds, E2, h2, hh⟩ := bnd_some hh
    obtain ⟨h3, rfl⟩ := lft_some hh
    refine ⟨vs0, P, E, fps, _, E1, rel, h1, fun P1 H1 fps1 x r1 s1 m1' dx => ?_⟩
    have ex : x = .str s := by cases p <;> exact dq_str dx
    subst ex
    refine ⟨rfl, vs0, P1, E1, fps1, ds, _, r1, h2, fun P2 H2 fps2 ys r2 s2 m2' dy => ?_⟩
    refine v P2 H2 s ys ds d Q r2.sub dy h3 fun P3 H3 w pp su hh fr dw => ?_
    refine q P3 H3 fps2 w (r2.alloc pp su hh fr) ((s1.trans s2).trans (.alloc pp hh fr)) (fun hm => ?_) dw
    rw [Bool.or_eq_false_iff] at hm
    exact ((m1' hm.1).trans (m2' hm.2)).trans hh
  · cases hh
def padTo (s : Str) (i : Int) (c : Nat) : Str := if i ≤ s.length then s else Builtin.Str.padded s 0 (i.toNat - s.length) c
theorem mt_ljustC : MtR X "str.ljust" (fun x xs H Q => ∃ (a : Str) (i : Int) (c : Nat), x = .str a ∧ xs = [.int i, .str ⟨#[c]⟩] ∧ PadOk i = true ∧ Q (.str (padTo a i c)) H) := by
  intro pins s σ H x xs v us Q I rx rs h
  obtain ⟨a, i, c, rfl, rfl, hp, q⟩ := h
  obtain ⟨t, rfl⟩ := rx
  cases rs with
  | cons r1 rs =>
    cases rs with
    | cons r2 rs =>
      cases rs
      obtain ⟨u, rfl⟩ := r1
      obtain ⟨w, rfl⟩ := r2
      exact call_gives PySem.F.slot_str_ljust (typeIs_str _ _ _) PySem.F.entry_str_ljust (PySem.F.args_str_ljust_3 _ _ _) (FwP.gv_ljust2 a i c t u w (PadOk.parts hp).1 (PadOk.parts hp).2) (post_val_or_made (fits_padR c (PadOk.parts hp).2) fun t' k => ⟨.str (padTo a i c), H, I.tok k, ⟨t', rfl⟩, q⟩)
def gLjust (s : Str) : List PyData → Option PyData
  | [.int i, .str f] => match f.cps.toList with
    | [c] => if PadOk i = true then some (.str (padTo s i c)) else none
    | _ => none
  | _ => none
theorem sgn_of {f : Str} {c : Nat} (h : f.cps.toList = [c]) : f = ⟨#[c]⟩ := by
  cases f with
  | mk cps => exact congrArg Str.mk (Array.toList_inj.mp h)
theorem px_ljust (ho : PX X m1 p o fo) (ha : PXA X m2 (e :: es) fs)
    (hbase : attributeBase o "ljust" X.env (eval o X.env) = eval o X.env := by rfl)
    (hfew : ((backTo pos (starEach (e :: es) X.env)).all (fun x => !x.1) && (backToKw pos (keywordEach [] X.env)).all (fun x => x.1.isSome)
      && decide ((e :: es).length + ([] : List Keyword).length + (if ([] : List Keyword).isEmpty then 0 else 1) < 30)) = true := by rfl)
    (hline : (apos.endLine == pos.line) = true := by rfl) (hs : starEach (e :: es) X.env = (false, eval e X.env) :: starEach es X.env := by rfl) (hplain : (backTo pos (starEach es X.env)).any (·.1) = false := by rfl) :
    PX X (m1 || m2) true (.Call (.Attribute o "ljust" apos) (e :: es) [] pos) (strM fo fs gLjust) :=
  px_strM PySem.F.slot_str_ljust PySem.F.type_str_ljust mt_ljustC (by
    intro P H s ys ds z Q su dy hg q
    unfold gLjust at hg
    split at hg
    · split at hg
      · rename_i c hf
        split at hg
        · rename_i hp
          cases hg
          cases dy with
          | cons h1 r1 =>
            cases r1 with
            | cons h2 r2 =>
              cases r2
              rw [dq_int h1, dq_str h2, sgn_of hf]
              exact ⟨s, _, c, rfl, rfl, hp, q.at su (.str _)⟩
        · cases hg
      · cases hg
    · cases hg) ho ha hbase hfew hline hs hplain
theorem gLjust_T {l : List Nat} {i : Int} {c : Nat} : gLjust (T l) [.int i, .str (T [c])] = if PadOk i = true then some (.str (T (l ++ List.replicate (i.toNat - l.length) c))) else none := by
  show (if PadOk i = true then some (PyData.str (padTo (T l) i c)) else none) = _
  have : padTo (T l) i c = T (l ++ List.replicate (i.toNat - l.length) c) := by
    unfold padTo
    rw [T_len]
    split
    · rename_i h
      have : i.toNat - l.length = 0 := by omega
      rw [this]; simp
    · rw [T_of (Builtin.Str.padded _ _ _ _), T_inj]
      simp [Builtin.Str.padded, T]
  rw [this]
def gFind (s : Str) : List PyData → Option PyData
  | [.str f] => some (.int (Txt.find s f))
  | _ => none
def gStarts (s : Str) : List PyData → Option PyData
  | [.str f] => some (.bool (Txt.startswith s f))
  | _ => none
section
variable (ho : PX X m1 p o fo) (ha : PXA X m2 (e :: es) fs)
    (hfew : ((backTo pos (starEach (e :: es) X.env)).all (fun x => !x.1) && (backToKw pos (keywordEach [] X.env)).all (fun x => x.1.isSome)
      && decide ((e :: es).length + ([] : List Keyword).length + (if ([] : List Keyword).isEmpty then 0 else 1) < 30)) = true := by rfl)
    (hline : (apos.endLine == pos.line) = true := by rfl) (hs : starEach (e :: es) X.env = (false, eval e X.env) :: starEach es X.env := by rfl) (hplain : (backTo pos (starEach es X.env)).any (·.1) = false := by rfl)
include ho ha hfew hline hs hplain
theorem px_find (hbase : attributeBase o "find" X.env (eval o X.env) = eval o X.env := by rfl) : PX X (m1 || m2) true (.Call (.Attribute o "find" apos) (e :: es) [] pos) (strM fo fs gFind) :=
  px_strM PySem.F.slot_str_find PySem.F.type_str_find mt_find (by
    intro P H s ys ds z Q su dy hg q
    unfold gFind at hg
    split at hg
    · cases hg
      cases dy with
      | cons h1 r1 =>
        cases r1
        rw [dq_str h1]
        exact ⟨s, _, rfl, rfl, q.at su (.int _)⟩
    · cases hg) ho ha hbase hfew hline hs hplain
theorem px_starts (hbase : attributeBase o "startswith" X.env (eval o X.env) = eval o X.env := by rfl) : PX X (m1 || m2) true (.Call (.Attribute o "startswith" apos) (e :: es) [] pos) (strM fo fs gStarts) :=
  px_strM PySem.F.slot_str_startswith PySem.F.type_str_startswith mt_startswith (by
    intro P H s ys ds z Q su dy hg q
    unfold gStarts at hg
    split at hg
    · cases hg
      cases dy with
      | cons h1 r1 =>
        cases r1
        rw [dq_str h1]
        exact ⟨s, _, rfl, rfl, q.at su (.bl _)⟩
    · cases hg) ho ha hbase hfew hline hs hplain
end
def cPow (i j : Int) : Bool := decide (0 ≤ j ∧ j ≤ 1000000 ∧ i.natAbs < 2 ^ 64)
def gPow := gI cPow fun i j => .int (i ^ j.toNat)
theorem px_pow (ha : PX X m1 true a fa) (hb : PX X m2 true b fb) : PX X (m1 || m2) true (.BinOp a .Pow b pos) (bin fa fb gPow) := px_op2 (pe_op op_pow ha hb) (vo_I (C := CPow) (fun i j h => show 0 ≤ j ∧ j ≤ 1000000 ∧ i.natAbs < 2 ^ 64 from of_decide_eq_true h) fun _ _ _ => .int _) (.inl rfl)
def cShl (i j : Int) : Bool := decide (0 ≤ j ∧ (Builtin.Int.intBits i : Int) + j ≤ 2 ^ 27)
def gShl := gI cShl fun i j => .int (i * 2 ^ j.toNat)
theorem px_shl (ha : PX X m1 true a fa) (hb : PX X m2 true b fb) : PX X (m1 || m2) true (.BinOp a .LShift b pos) (bin fa fb gShl) := px_op2 (pe_op op_shlW ha hb) (vo_I (C := CShl) (fun i j h => show 0 ≤ j ∧ (Builtin.Int.intBits i : Int) + j ≤ 2 ^ 27 from of_decide_eq_true h) fun _ _ _ => .int _) (.inl rfl)
def gShr := gI (fun _ j => decide (0 ≤ j)) fun i j => .int (i / 2 ^ j.toNat)
theorem px_shr (ha : PX X m1 true a fa) (hb : PX X m2 true b fb) : PX X (m1 || m2) true (.BinOp a .RShift b pos) (bin fa fb gShr) := px_op2 (pe_op op_shr ha hb) (vo_I (C := fun _ j => 0 ≤ j) (fun i j h => of_decide_eq_true h) fun _ _ _ => .int _) (.inl rfl)
def gBand := gI (fun _ _ => true) fun i j => .int (Builtin.bitAnd i j)
def gBor := gI (fun _ _ => true) fun i j => .int (Builtin.bitOr i j)
theorem px_band (ha : PX X m1 true a fa) (hb : PX X m2 true b fb) : PX X (m1 || m2) true (.BinOp a .BitAnd b pos) (bin fa fb gBand) := px_op2 (pe_op op_and ha hb) (vo_I0 fun _ _ _ => .int _) (.inl rfl)
theorem px_bor (ha : PX X m1 true a fa) (hb : PX X m2 true b fb) : PX X (m1 || m2) true (.BinOp a .BitOr b pos) (bin fa fb gBor) := px_op2 (pe_op op_or ha hb) (vo_I0 fun _ _ _ => .int _) (.inl rfl)
end
end Fw
namespace Fw
open PySem PySem.Spec L2
open PyProof.Rows hiding St
section
variable {X : Cx} {m m1 m2 p p1 p2 : Bool} {a b e o : Expr} {es : List Expr} {pos px apos : Pos} {f fa fb fo : SE PyData} {fs : SE (List PyData)} {x : Str}
theorem mt_tidx : MtR X "tuple.index" (fun x xs H Q => ∃ (q0 : Addr) (ys : List V) (z y : V) (j : Nat), x = .ref q0 ∧ xs = [z] ∧ SqT X.K H q0 ys ∧ ys.all flatV = true ∧ flatV z = true ∧ ys[j]? = some y ∧ eqV y z = true ∧
    (∀ (k : Nat) (w : V), k < j → ys[k]? = some w → eqV w z = false) ∧ Q (.int (j : Nat)) H) := by
  intro pins s σ H x xs v us Q I rx rs h
  obtain ⟨q0, ys, z, y, j, rfl, rfl, hq, hf, hz, hy, hyz, hno, q⟩ := h
  cases rx
  cases rs with
  | cons rz rs =>
    rename_i uz uzs
    cases rs
    obtain ⟨its, r, ⟨⟨c1, d1, dt, s1⟩, hob, hcl, n, hdt⟩, hlen⟩ := I.tuple hq
    replace hcl : c1 = .type "tuple" := hcl
    replace hdt : dt = .seq its.toArray n := hdt
    subst hcl hdt
    have hsz : its.toArray.size = ys.length := by
      rw [List.size_toArray]
      exact r.length.symm
    have item : ∀ (k : Nat) (hk : k < its.toArray.size) (w : V), ys[k]? = some w → eqU z its.toArray[k] = eqV w z := fun k hk w hw => by
      obtain ⟨u, hu, ru⟩ := r.get hw
      have e1 := (List.getElem?_eq_some_iff.mp hu).2
      have e2 : its.toArray[k] = u := by rw [← e1]; simp
      rw [e2]
      exact eqU_of ru (List.all_eq_true.mp hf w (List.mem_of_getElem? hw))
    have hjy := (List.getElem?_eq_some_iff.mp hy).1
    have hj : j < its.toArray.size := by omega
    refine call_meets PySem.F.slot_tuple_index ⟨_, hob, rfl⟩ PySem.F.entry_tuple_index (PySem.F.args_tuple_index_2 _ _) (TI.tuple_indexAt q0 its.toArray n d1 s1 uz (eqU z) j hj ?_ ?_) ?_
    · rw [item j hj y hy]
      exact hyz
    · intro k hk hkj
      have hk2 : k < ys.length := by omega
      rw [item k hk ys[k] (List.getElem?_eq_getElem hk2)]
      exact hno k _ hkj (List.getElem?_eq_getElem hk2)
    · exact ⟨hob, fun w hw => mem_eqAt rz hz r hf w (by simpa using hw), ⟨.int (j : Nat), H, I.tok _, ⟨_, rfl⟩, q⟩⟩
/-- a constant tuple whose object is known -/
def CnT (K : PySem.W.Frag) (mg : Str → Option Value) (x : Str) (ds : List PyData) : Prop := ∃ q0 : Addr, (∃ u, mg x = some u ∧ RelV (.ref q0) u) ∧ Kn K (.ref q0) (.tuple ds) ∧ ∃ o, K.lookup q0 = some o ∧ o.cls = .type "tuple" ∧ o.dict = none
theorem CnT.of {K : PySem.W.Frag} {mg : Str → Option Value} {h : Heap} {x : Str} {c : Addr} {its : Array Value} {n : Nat} {sl : Array (Option Value)} {vs : List V} {ds : List PyData} (X : K.In h) (G : h.Ns mainGlobals mg) (a : PySem.W.nsIn K mainGlobals x = some (some (.ref c)))
    (l : K.lookup c = some ⟨.type "tuple", none, .seq its n, sl⟩) (e : flatsOf its.toList = some (vs, ds)) (hz : its.size ≤ sizeLine) : CnT K mg x ds := by
  obtain ⟨h1, h2⟩ := flats_rel e
  exact ⟨c, ⟨_, PySem.W.mg_of X G a, rfl⟩, fun P => .tup (.inr ⟨_, its, n, l, rfl, rfl, hz, h1⟩) (h2 K P), _, l, rfl, rfl⟩
theorem relRef (a : Addr) : RelV (.ref a) (.ref a) := rfl
theorem Kn.flat {K : PySem.W.Frag} {c : Addr} {dd : Option Addr} {its : Array Value} {n : Nat} {sl : Array (Option Value)} {vs : List V} {ds : List PyData} (l : K.lookup c = some ⟨.type "tuple", dd, .seq its n, sl⟩) (e : flatsOf its.toList = some (vs, ds)) (hz : its.size ≤ sizeLine) : Kn K (.ref c) (.tuple ds) := by
  obtain ⟨h1, h2⟩ := flats_rel e
  exact fun P => .tup (.inr ⟨_, its, n, l, rfl, rfl, hz, h1⟩) (h2 K P)
theorem Kn.node {K : PySem.W.Frag} {c : Addr} {dd : Option Addr} {its : Array Value} {n : Nat} {sl : Array (Option Value)} {vs : List V} {ds : List PyData} (l : K.lookup c = some ⟨.type "tuple", dd, .seq its n, sl⟩) (r : Vals vs its.toList) (hz : its.size ≤ sizeLine) (k : ∀ P, DqAll K P vs ds) : Kn K (.ref c) (.tuple ds) :=
  fun P => .tup (.inr ⟨_, its, n, l, rfl, rfl, hz, r⟩) (k P)
theorem Cn.of {K : PySem.W.Frag} {mg : Str → Option Value} {h : Heap} {x : Str} {c : Addr} {d : PyData} (X : K.In h) (G : h.Ns mainGlobals mg) (a : PySem.W.nsIn K mainGlobals x = some (some (.ref c))) (k : Kn K (.ref c) d) : Cn K mg x d := ⟨.ref c, ⟨_, PySem.W.mg_of X G a, rfl⟩, k⟩
def gTidx (ds : List PyData) (e : PyData) : Option PyData := if flatD e && ds.all flatD then (ds.findIdx? fun y => PyData.eqv y e).map fun (j : Nat) => .int (j : Nat) else none
theorem idx_of {α : Type} {ds : List α} {q : α → Bool} {j : Nat} (h : ds.findIdx? q = some j) : ∃ z, ds[j]? = some z ∧ q z = true ∧ ∀ (k : Nat) (w : α), k < j → ds[k]? = some w → q w = false := by
  rw [List.findIdx?_eq_some_iff_getElem] at h
  obtain ⟨hj, h1, h2⟩ := h
  refine ⟨ds[j], List.getElem?_eq_getElem hj, h1, fun k w hk hw => ?_⟩
  have := h2 k hk
  obtain ⟨hk2, e⟩ := List.getElem?_eq_some_iff.mp hw
  rw [← e]
  simpa using this
theorem px_tidx {ds : List PyData} (hgl : Gl X x) (hc : CnT X.K X.mg x ds) (hb : PX X m true b fb) (hd : (x == ("__debug__" : Str)) = false := by decide)
    (hbase : attributeBase (.Name x px) "index" X.env (eval (.Name x px) X.env) = eval (.Name x px) X.env := by rfl)
    (hfew : ((backTo pos (starEach [b] X.env)).all (fun x => !x.1) && (backToKw pos (keywordEach [] X.env)).all (fun x => x.1.isSome)
      && decide ([b].length + ([] : List Keyword).length + (if ([] : List Keyword).isEmpty then 0 else 1) < 30)) = true := by rfl)
    (hline : (apos.endLine == pos.line) = true := by rfl) (hs : starEach [b] X.env = (false, eval b X.env) :: starEach [] X.env := by rfl) (hplain : (backTo pos (starEach [] X.env)).any (·.1) = false := by rfl) :
    PX X m true (.Call (.Attribute (.Name x px) "index" apos) [b] [] pos) (una fb (gTidx ds)) := by
  obtain ⟨q0, ⟨u, hu, ru⟩, hk, o0, hl, hcl, hdn⟩ := hc
  refine pe_imp (pe_bm PySem.F.plainAttrs_tuple PySem.F.slot_tuple_index PySem.F.type_tuple_index mt_tidx (pe_glob hgl hu ru hd) (pa_cons hb pa_nil hs) hbase hfew hline hs hplain) fun σ H Q => ?_
  rintro ⟨vs0, P, E, fps, d, E', rel, hh, q⟩
  obtain ⟨d1, E1, h1, hh⟩ := bnd_some hh
  obtain ⟨h2, rfl⟩ := lft_some hh
  refine ⟨.inr (.inl ⟨rfl, o0, hl, hcl, hdn⟩), vs0, P, E, fps, d1, _, rel, h1, fun P1 H1 fps1 y r1 s1 m1' dy => ?_⟩
  unfold gTidx at h2
  split at h2
  · rename_i hfl
    rw [Bool.and_eq_true] at hfl
    cases hj : ds.findIdx? (fun y => PyData.eqv y d1) with
    | none => rw [hj] at h2; cases h2
    | some j =>
      rw [hj] at h2
      cases h2
      obtain ⟨z, hz, hzj, hno⟩ := idx_of hj
      have dk := hk P1
      cases dk with
      | @tup _ vs _ hseq hv =>
        have hvf : vs.all flatV = true := by rw [all_flat hv]; exact hfl.2
        obtain ⟨w, hw, dw⟩ := hv.get hz
        have e1 : ∀ {w' : V} {z' : PyData}, Dq X.K P1 w' z' → flatD z' = true → eqV w' y = PyData.eqv z' d1 := fun a b => eqV_of a dy b hfl.1
        refine ⟨q0, vs, y, w, j, rfl, rfl, seqT r1.sub hseq, hvf, by rw [flat_of dy]; exact hfl.1, hw, ?_, fun k w' hk' hw' => ?_, ?_⟩
        · rw [e1 dw (List.all_eq_true.mp hfl.2 z (List.mem_of_getElem? hz))]
          exact hzj
        · obtain ⟨z', hz', dw'⟩ := hv.getV hw'
          rw [e1 dw' (List.all_eq_true.mp hfl.2 z' (List.mem_of_getElem? hz'))]
          exact hno k z' hk' hz'
        · exact q P1 H1 fps1 _ r1 s1 m1' (.int _)
  · cases h2
def gLidx (d e : PyData) : Option PyData := match d with
  | .list ys => if SeqAt.shaped (.list ys) && SeqAt.shaped e then (ys.findIdx? fun y => PyData.eqv y e).map fun (j : Nat) => .int (j : Nat) else none
  | _ => none
theorem px_lidx {k : Nat} (hr : Room k X.A) (ho : PX X m1 true o fo) (hb : PX X m2 true b fb)
    (hbase : attributeBase o "index" X.env (eval o X.env) = eval o X.env := by rfl)
    (hfew : ((backTo pos (starEach [b] X.env)).all (fun x => !x.1) && (backToKw pos (keywordEach [] X.env)).all (fun x => x.1.isSome)
      && decide ([b].length + ([] : List Keyword).length + (if ([] : List Keyword).isEmpty then 0 else 1) < 30)) = true := by rfl)
    (hline : (apos.endLine == pos.line) = true := by rfl) (hs : starEach [b] X.env = (false, eval b X.env) :: starEach [] X.env := by rfl) (hplain : (backTo pos (starEach [] X.env)).any (·.1) = false := by rfl) :
    PX X (m1 || m2) true (.Call (.Attribute o "index" apos) [b] [] pos) (bin fo fb gLidx) := by
  refine pe_imp (pe_bm PySem.F.plainAttrs_list PySem.F.slot_list_index PySem.F.type_list_index (mt_indexD (Room.u65 hr)) ho (pa_cons hb pa_nil hs) hbase hfew hline hs hplain) fun σ H Q => ?_
  rintro ⟨vs0, P, E, fps, d, E', rel, hh, q⟩
  obtain ⟨d1, E1, h1, hh⟩ := bnd_some hh
  obtain ⟨d2, E2, h2, hh⟩ := bnd_some hh
  obtain ⟨h3, rfl⟩ := lft_some hh
  unfold gLidx at h3
  split at h3
  · rename_i ys hh2
    split at h3
    · rename_i hsh
      rw [Bool.and_eq_true] at hsh
      cases hj : ys.findIdx? (fun y => PyData.eqv y d2) with
      | none => rw [hj] at h3; cases h3
      | some j =>
        rw [hj] at h3
        cases h3
        obtain ⟨z, hz, hzj, hno⟩ := idx_of hj
        refine ⟨vs0, P, E, fps, _, E1, rel, h1, fun P1 H1 fps1 x r1 s1 m1' dx => ?_⟩
        have dx' : Dq X.K P1 x (.list ys) := dx
        cases dx with
        | @lst ad vs _ hx hv =>
          refine ⟨.inl ⟨rfl, vs, SqL.of (r1.sub _ _ hx)⟩, vs0, P1, E1, fps1, d2, _, r1, h2, fun P2 H2 fps2 y r2 s2 m2' dy => ?_⟩
          refine ⟨ad, y, d2, ys, j, z, rfl, rfl, (Dq.mono (s2.pp.trans r2.sub) dx').dp, (Dq.mono r2.sub dy).dp, hsh.1, hsh.2, hz, hzj, hno, ?_⟩
          refine q P2 H2 fps2 _ r2 (s1.trans s2) (fun hm => ?_) (.int _)
          rw [Bool.or_eq_false_iff] at hm
          exact (m1' hm.1).trans (m2' hm.2)
    · cases h3
  · cases h3
def gRep : PyData → PyData → Option (List PyData)
  | .list xs, .int k => if 0 ≤ k ∧ k < 2 ^ 40 ∧ xs.length * k.toNat ≤ sizeLine then some (List.replicate k.toNat xs).flatten else none
  | _, _ => none
theorem DqAll.rep {K : PySem.W.Frag} {H : Hp} {vs : List V} {ds : List PyData} (h : DqAll K H vs ds) : ∀ n : Nat, DqAll K H (List.replicate n vs).flatten (List.replicate n ds).flatten
  | 0 => .nil
  | n + 1 => by
    rw [List.replicate_succ, List.replicate_succ, List.flatten_cons, List.flatten_cons]
    exact h.append (DqAll.rep h n)
theorem pl_rep (ha : PX X m1 true a fa) (hb : PX X m2 true b fb) : PL X (m1 || m2) (.BinOp a .Mult b pos) (binL fa fb gRep) := pl_op2 (pe_op op_rep ha hb) (by
  intro P H x y d e zs Q su dx dy hg q
  unfold gRep at hg
  split at hg
  · split at hg
    · rename_i xs k hl
      cases dx with
      | @lst l vs _ hx hv =>
        cases hg
        have l1 := hv.length
        rw [dq_int dy]
        exact ⟨_, k, vs, rfl, rfl, su _ _ hx, by omega, by omega, by rw [l1]; exact hl.2.2, fun p0 hp => q.new su hp (hv.rep _)⟩
    · cases hg
  · cases hg) (.inl rfl)
end
end Fw
namespace Fw
open PySem PySem.Spec L2
open PyProof.Rows hiding St
section
variable {X : Cx} {m m1 m2 m3 m4 p p1 p2 : Bool} {a b c d e : Expr} {pos : Pos} {fa fb fc fd : SE PyData}
theorem vo_lt {K : PySem.W.Frag} : VO K p1 p2 (rI0 fun i j => .bl (decide (i < j))) gLt := vo_I0 fun _ _ _ => .bl _
/-- x op y op z op u -/
def tChain3 (r1 r2 r3 : R2) (ta tb tc td : TE) : TE := fun σ H Q => ta σ H fun x H1 => tb σ H1 fun y H2 => r1 x y H2 fun z H3 => ∃ k, z = .bl k ∧
  (if k = true then tc σ H3 fun w H4 => r2 y w H4 fun z2 H5 => ∃ k2, z2 = .bl k2 ∧ (if k2 = true then td σ H5 fun u H6 => r3 w u H6 Q else Q (.bl false) H5) else Q (.bl false) H3)
theorem pe_chain3 {op op' op'' : CmpOp} {r1 r2 r3 : R2} {ta tb tc td : TE} (ho : OpR X (compareOp op) r1) (ho' : OpR X (compareOp op') r2) (ho'' : OpR X (compareOp op'') r3) (ha : PE X a ta) (hb : PE X b tb) (hc : PE X c tc) (hd : PE X d td)
    (hm : lastMarks [op, op', op''] [b, c, d] = false := by with_unfolding_all rfl) : PE X (.Compare a [op, op', op''] [b, c, d] pos) (tChain3 r1 r2 r3 ta tb tc td) := by
  refine ⟨fun pins s σ H Q I h => ?_⟩
  refine Compare_chain (thn (ha.run pins s σ H _ I h) fun v s1 ⟨x, H1, I1, q0, q1⟩ => chain_link (thn (hb.run pins s1 σ H1 _ I1 q1) fun u s2 ⟨y, H2, I2, q02, q2⟩ =>
    thn (ho pins s2 σ H2 x y v u _ I2 q0 q02 q2) fun d0 s3 ⟨z, H3, I3, q03, k, e, q3⟩ => ?_)) hm
  subst e
  cases q03
  refine wpAny_truthy_bool ?_
  cases k with
  | false => exact ite_ff ⟨.bl false, H3, I3, rfl, q3⟩
  | true =>
    refine ite_tt (chain_link (thn (hc.run pins s3 σ H3 _ I3 q3) fun w s4 ⟨z', H4, I4, q04, q4⟩ => thn (ho' pins s4 σ H4 y z' u w _ I4 q02 q04 q4) fun d5 s5 ⟨z2, H5, I5, q05, k2, e2, q5⟩ => ?_))
    subst e2
    cases q05
    refine wpAny_truthy_bool ?_
    cases k2 with
    | false => exact ite_ff ⟨.bl false, H5, I5, rfl, q5⟩
    | true => exact ite_tt (chain_last (thn (hd.run pins s5 σ H5 _ I5 q5) fun w' s6 ⟨z6, H6, I6, q06, q6⟩ => ho'' pins s6 σ H6 z' z6 w w' Q I6 q04 q06 q6))
def chn3 (fa fb fc fd : SE PyData) (g1 g2 g3 : PyData → PyData → Option PyData) : SE PyData := bnd fa fun d => bnd fb fun e => bnd (toB (lft (g1 d e))) fun k => if k then
  (bnd fc fun w => bnd (toB (lft (g2 e w))) fun k2 => if k2 then bnd fd fun u => lft (g3 w u) else ret (.bool false)) else ret (.bool false)
theorem chn3_core {K : PySem.W.Frag} {r1 r2 r3 : R2} {g1 g2 g3 : PyData → PyData → Option PyData} (v1 : VO K true true r1 g1) (v2 : VO K true true r2 g2) (v3 : VO K true true r3 g3) {σ : St} {H : Hp} {Q : VK}
    (h : tX K (m1 || (m2 || (m3 || m4))) true (chn3 fa fb fc fd g1 g2 g3) σ H Q) : tChain3 r1 r2 r3 (tX K m1 true fa) (tX K m2 true fb) (tX K m3 true fc) (tX K m4 true fd) σ H Q := by
  obtain ⟨vs0, P, E, fps, d, E', rel, hh, q⟩ := h
  obtain ⟨d1, E1, h1, hh⟩ := bnd_some hh
  obtain ⟨d2, E2, h2, hh⟩ := bnd_some hh
  obtain ⟨k, E3, h3, hh⟩ := bnd_some hh
  obtain ⟨h3', rfl⟩ := lft_some (toB_some h3)
  refine ⟨vs0, P, E, fps, d1, E1, rel, h1, fun P1 H1 fps1 x q1 s1 m1' dx => ⟨vs0, P1, E1, fps1, d2, _, q1, h2, fun P2 H2 fps2 y q2 s2 m2' dy => ?_⟩⟩
  refine v1 P2 H2 x y d1 d2 _ _ q2.sub (Dq.mono s2.pp dx) dy h3' fun P3 H3 z pp su hh3 fr dz => ⟨k, dq_bl dz, ?_⟩
  have q3 := q2.alloc pp su hh3 fr
  have s3 := (s1.trans s2).trans (Step.alloc (F := In fps2) pp hh3 fr)
  cases k with
  | false =>
    rw [if_neg Bool.false_ne_true] at hh
    obtain ⟨rfl, rfl⟩ := ret_some hh
    rw [if_neg Bool.false_ne_true]
    refine q P3 H3 fps2 _ q3 s3 (fun hm => ?_) (.bl false)
    rw [Bool.or_eq_false_iff, Bool.or_eq_false_iff] at hm
    exact ((m1' hm.1).trans (m2' hm.2.1)).trans hh3
  | true =>
    rw [if_pos rfl] at hh
    rw [if_pos rfl]
    obtain ⟨d4, E4, h4, hh⟩ := bnd_some hh
    obtain ⟨k2, E5, h5, hh⟩ := bnd_some hh
    obtain ⟨h5', rfl⟩ := lft_some (toB_some h5)
    refine ⟨vs0, P3, _, fps2, d4, _, q3, h4, fun P4 H4 fps4 w q4 s4 m4' dw => ?_⟩
    refine v2 P4 H4 y w d2 d4 _ _ q4.sub (Dq.mono (pp.trans s4.pp) dy) dw h5' fun P5 H5 u pp5 su5 hh5 fr5 du => ⟨k2, dq_bl du, ?_⟩
    have q5 := q4.alloc pp5 su5 hh5 fr5
    have s5 := (s3.trans s4).trans (Step.alloc (F := In fps4) pp5 hh5 fr5)
    cases k2 with
    | false =>
      rw [if_neg Bool.false_ne_true] at hh
      obtain ⟨rfl, rfl⟩ := ret_some hh
      rw [if_neg Bool.false_ne_true]
      refine q P5 H5 fps4 _ q5 s5 (fun hm => ?_) (.bl false)
      rw [Bool.or_eq_false_iff, Bool.or_eq_false_iff, Bool.or_eq_false_iff] at hm
      exact ((((m1' hm.1).trans (m2' hm.2.1)).trans hh3).trans (m4' hm.2.2.1)).trans hh5
    | true =>
      rw [if_pos rfl] at hh
      rw [if_pos rfl]
      obtain ⟨d6, E6, h6, hh⟩ := bnd_some hh
      obtain ⟨h7, rfl⟩ := lft_some hh
      refine ⟨vs0, P5, _, fps4, d6, _, q5, h6, fun P6 H6 fps6 w6 q6 s6 m6' dw6 => ?_⟩
      refine v3 P6 H6 w w6 d4 d6 d _ q6.sub (Dq.mono (pp5.trans s6.pp) dw) dw6 h7 fun P7 H7 u7 pp7 su7 hh7 fr7 du7 => ?_
      refine q P7 H7 fps6 u7 (q6.alloc pp7 su7 hh7 fr7) ((s5.trans s6).trans (.alloc pp7 hh7 fr7)) (fun hm => ?_) du7
      rw [Bool.or_eq_false_iff, Bool.or_eq_false_iff, Bool.or_eq_false_iff] at hm
      exact ((((((m1' hm.1).trans (m2' hm.2.1)).trans hh3).trans (m4' hm.2.2.1)).trans hh5).trans (m6' hm.2.2.2)).trans hh7
theorem px_ch2 {op op' : CmpOp} {r1 r2 : R2} {g1 g2 : PyData → PyData → Option PyData} (o1 : OpR X (compareOp op) r1) (v1 : VO X.K true true r1 g1) (o2 : OpR X (compareOp op') r2) (v2 : VO X.K true true r2 g2)
    (ha : PX X m1 true a fa) (hb : PX X m2 true b fb) (hc : PX X m3 true c fc) (hm : lastMarks [op, op'] [b, c] = false) : PX X (m1 || (m2 || m3)) true (.Compare a [op, op'] [b, c] pos) (chn fa fb fc g1 g2) := pe_imp (pe_chain o1 o2 ha hb hc hm) fun σ H Q h => chn_core v1 v2 h
theorem px_ch3 {op op' op'' : CmpOp} {r1 r2 r3 : R2} {g1 g2 g3 : PyData → PyData → Option PyData} (o1 : OpR X (compareOp op) r1) (v1 : VO X.K true true r1 g1) (o2 : OpR X (compareOp op') r2) (v2 : VO X.K true true r2 g2) (o3 : OpR X (compareOp op'') r3) (v3 : VO X.K true true r3 g3)
    (ha : PX X m1 true a fa) (hb : PX X m2 true b fb) (hc : PX X m3 true c fc) (hd : PX X m4 true d fd) (hm : lastMarks [op, op', op''] [b, c, d] = false) : PX X (m1 || (m2 || (m3 || m4))) true (.Compare a [op, op', op''] [b, c, d] pos) (chn3 fa fb fc fd g1 g2 g3) := pe_imp (pe_chain3 o1 o2 o3 ha hb hc hd hm) fun σ H Q h => chn3_core v1 v2 v3 h
theorem px_lelt (ha : PX X m1 true a fa) (hb : PX X m2 true b fb) (hc : PX X m3 true c fc) : PX X (m1 || (m2 || m3)) true (.Compare a [.LtE, .Lt] [b, c] pos) (chn fa fb fc gLe gLt) := px_ch2 op_leA vo_le op_lt vo_lt ha hb hc (nomark c)
theorem px_lelelt (ha : PX X m1 true a fa) (hb : PX X m2 true b fb) (hc : PX X m3 true c fc) (hd : PX X m4 true d fd) : PX X (m1 || (m2 || (m3 || m4))) true (.Compare a [.LtE, .LtE, .Lt] [b, c, d] pos) (chn3 fa fb fc fd gLe gLe gLt) := px_ch3 op_leA vo_le op_leA vo_le op_lt vo_lt ha hb hc hd (nomark d)
theorem ok_chn3 {g1 g2 g3 : PyData → PyData → Option PyData} {E : En} {Q : PyData → En → Prop} : Ok (chn3 fa fb fc fd g1 g2 g3 E) Q = Ok (fa E) fun d E1 => Ok (fb E1) fun e E2 => OkV (g1 d e) fun k => match k with
    | .bool true => Ok (fc E2) fun w E3 => OkV (g2 e w) fun k2 => match k2 with
      | .bool true => Ok (fd E3) fun u E4 => OkV (g3 w u) fun z => Q z E4
      | .bool false => Q (.bool false) E3
      | _ => False
    | .bool false => Q (.bool false) E2
    | _ => False := by
  unfold chn3
  rw [ok_bnd]
  congr 1
  funext d E1
  rw [ok_bnd]
  congr 1
  funext e E2
  rw [ok_bnd, ok_toB, ok_lft]
  congr 1
  funext k
  cases k with
  | bool x =>
    cases x
    · exact ok_some
    · show Ok (bnd fc _ E2) Q = _
      rw [ok_bnd]
      congr 1
      funext w E3
      rw [ok_bnd, ok_toB, ok_lft]
      congr 1
      funext k2
      cases k2 with
      | bool y =>
        cases y
        · exact ok_some
        · show Ok (bnd fd _ E3) Q = _
          rw [ok_bnd]
          congr 1
          funext u E4
          exact ok_lft
      | _ => rfl
  | _ => rfl
theorem pt_chain3 {op op' op'' : CmpOp} {r1 r2 r3 : R2} {ta tb tc td : TE} (ho : OpR X (compareOp op) r1) (ho' : OpR X (compareOp op') r2) (ho'' : OpR X (compareOp op'') r3) (ha : PE X a ta) (hb : PE X b tb) (hc : PE X c tc) (hd : PE X d td)
    (hm : lastMarks [op, op', op''] [b, c, d] = false := by with_unfolding_all rfl) : PT X (.Compare a [op, op', op''] [b, c, d] pos) (tTest (tChain3 r1 r2 r3 ta tb tc td)) := by
  refine ⟨fun pins s σ H Q I h => ?_⟩
  refine isTrue_chain (thn (ha.run pins s σ H _ I h) fun v s1 ⟨x, H1, I1, q0, q1⟩ => test_link (thn (hb.run pins s1 σ H1 _ I1 q1) fun u s2 ⟨y, H2, I2, q02, q2⟩ =>
    thn (ho pins s2 σ H2 x y v u _ I2 q0 q02 q2) fun d0 s3 ⟨z, H3, I3, q03, k, e, q3⟩ => ?_)) hm
  subst e
  cases q03
  refine wpAny_truthy_bool ?_
  cases k with
  | false =>
    obtain ⟨k', e', q'⟩ := q3
    cases e'
    exact ite_ff ⟨H3, I3, q'⟩
  | true =>
    refine ite_tt (test_link (thn (hc.run pins s3 σ H3 _ I3 q3) fun w s4 ⟨z', H4, I4, q04, q4⟩ => thn (ho' pins s4 σ H4 y z' u w _ I4 q02 q04 q4) fun d5 s5 ⟨z2, H5, I5, q05, k2, e2, q5⟩ => ?_))
    subst e2
    cases q05
    refine wpAny_truthy_bool ?_
    cases k2 with
    | false =>
      obtain ⟨k', e', q'⟩ := q5
      cases e'
      exact ite_ff ⟨H5, I5, q'⟩
    | true =>
      refine ite_tt (test_last (thn (hd.run pins s5 σ H5 _ I5 q5) fun w' s6 ⟨z6, H6, I6, q06, q6⟩ => thn (ho'' pins s6 σ H6 z' z6 w w' _ I6 q04 q06 q6) fun d' s7 ⟨z7, H7, I7, q7, k7, e7, q8⟩ => ?_))
      subst e7
      cases q7
      exact wpAny_truthy_bool ⟨H7, I7, q8⟩
theorem pt_lelt (ha : PX X m1 true a fa) (hb : PX X m2 true b fb) (hc : PX X m3 true c fc) : PXT X (m1 || (m2 || m3)) (.Compare a [.LtE, .Lt] [b, c] pos) (toB (chn fa fb fc gLe gLt)) := pt_imp (pt_chain op_leA op_lt ha hb hc (nomark c)) fun σ H Q => by
  rintro ⟨vs0, P, E, fps, d, E', rel, hh, q⟩
  refine chn_core vo_le vo_lt ⟨vs0, P, E, fps, .bool d, E', rel, toB_some hh, fun P' H' fps' v r' st sm dv => ⟨d, dq_bl dv, q P' H' fps' r' st sm⟩⟩
theorem pt_lelelt (ha : PX X m1 true a fa) (hb : PX X m2 true b fb) (hc : PX X m3 true c fc) (hd : PX X m4 true d fd) : PXT X (m1 || (m2 || (m3 || m4))) (.Compare a [.LtE, .LtE, .Lt] [b, c, d] pos) (toB (chn3 fa fb fc fd gLe gLe gLt)) := pt_imp (pt_chain3 op_leA op_leA op_lt ha hb hc hd (nomark d)) fun σ H Q => by
  rintro ⟨vs0, P, E, fps, d, E', rel, hh, q⟩
  refine chn3_core vo_le vo_le vo_lt ⟨vs0, P, E, fps, .bool d, E', rel, toB_some hh, fun P' H' fps' v r' st sm dv => ⟨d, dq_bl dv, q P' H' fps' r' st sm⟩⟩
def gGtS : PyData → PyData → Option PyData
  | .str x, .str y => some (.bool (decide (y.cps.toList < x.cps.toList)))
  | _, _ => none
def gLtS : PyData → PyData → Option PyData
  | .str x, .str y => some (.bool (decide (x.cps.toList < y.cps.toList)))
  | _, _ => none
def gGeS : PyData → PyData → Option PyData
  | .str x, .str y => some (.bool (!decide (x.cps.toList < y.cps.toList)))
  | _, _ => none
theorem vo_gts {K : PySem.W.Frag} : VO K p1 p2 (fun x y H Q => ∃ i j, x = V.str i ∧ y = V.str j ∧ Q (.bl (decide (j.cps.toList < i.cps.toList))) H) gGtS := by
  intro P H x y d e z Q su dx dy hg q
  unfold gGtS at hg
  split at hg
  · cases hg
    rw [dq_str dx, dq_str dy]
    exact ⟨_, _, rfl, rfl, q.at su (.bl _)⟩
  · cases hg
theorem vo_lts {K : PySem.W.Frag} : VO K p1 p2 (fun x y H Q => ∃ i j, x = V.str i ∧ y = V.str j ∧ Q (.bl (decide (i.cps.toList < j.cps.toList))) H) gLtS := by
  intro P H x y d e z Q su dx dy hg q
  unfold gLtS at hg
  split at hg
  · cases hg
    rw [dq_str dx, dq_str dy]
    exact ⟨_, _, rfl, rfl, q.at su (.bl _)⟩
  · cases hg
theorem vo_ges {K : PySem.W.Frag} : VO K p1 p2 (fun x y H Q => ∃ i j, x = V.str i ∧ y = V.str j ∧ Q (.bl (!decide (i.cps.toList < j.cps.toList))) H) gGeS := by
  intro P H x y d e z Q su dx dy hg q
  unfold gGeS at hg
  split at hg
  · cases hg
    rw [dq_str dx, dq_str dy]
    exact ⟨_, _, rfl, rfl, q.at su (.bl _)⟩
  · cases hg
theorem px_gts (ha : PX X m1 p1 a fa) (hb : PX X m2 p2 b fb) (hf : p1 = true ∨ m2 = false) : PX X (m1 || m2) true (.Compare a [.Gt] [b] pos) (bin fa fb gGtS) := px_op2 (pe_cmpR op_gt_str ha hb (nomark _)) vo_gts hf
theorem px_lts (ha : PX X m1 p1 a fa) (hb : PX X m2 p2 b fb) (hf : p1 = true ∨ m2 = false) : PX X (m1 || m2) true (.Compare a [.Lt] [b] pos) (bin fa fb gLtS) := px_op2 (pe_cmpR op_lt_str ha hb (nomark _)) vo_lts hf
theorem px_ges (ha : PX X m1 p1 a fa) (hb : PX X m2 p2 b fb) (hf : p1 = true ∨ m2 = false) : PX X (m1 || m2) true (.Compare a [.GtE] [b] pos) (bin fa fb gGeS) := px_op2 (pe_cmpR op_ge_str ha hb (nomark _)) vo_ges hf
theorem pt_gts' (ha : PX X m1 p1 a fa) (hb : PX X m2 p2 b fb) (hf : p1 = true ∨ m2 = false) : PXT X (m1 || m2) (.Compare a [.Gt] [b] pos) (toB (bin fa fb gGtS)) := pt_op2 (pt_cmpR op_gt_str ha hb (nomark _)) vo_gts hf
theorem pt_lts' (ha : PX X m1 p1 a fa) (hb : PX X m2 p2 b fb) (hf : p1 = true ∨ m2 = false) : PXT X (m1 || m2) (.Compare a [.Lt] [b] pos) (toB (bin fa fb gLtS)) := pt_op2 (pt_cmpR op_lt_str ha hb (nomark _)) vo_lts hf
theorem pt_ges' (ha : PX X m1 p1 a fa) (hb : PX X m2 p2 b fb) (hf : p1 = true ∨ m2 = false) : PXT X (m1 || m2) (.Compare a [.GtE] [b] pos) (toB (bin fa fb gGeS)) := pt_op2 (pt_cmpR op_ge_str ha hb (nomark _)) vo_ges hf
end
section
theorem ok_jns0 {acc : Str} {E : En} {Q : PyData → En → Prop} : Ok (jns [] acc E) Q = Q (.str acc) E := by
  unfold jns
  exact ok_ret
theorem ok_jns1 {f : SE PyData} {fs : List (SE PyData)} {acc : Str} {E : En} {Q : PyData → En → Prop} : Ok (jns (f :: fs) acc E) Q = Ok (f E) fun d E1 => match d with
    | .str y => (acc ++ y).length ≤ sizeLine ∧ Ok (jns fs (acc ++ y) E1) Q
    | _ => False := by
  rw [jns, ok_bnd]
  congr 1
  funext d E1
  cases d with
  | str y =>
    apply propext
    by_cases h : (acc ++ y).length ≤ sizeLine
    · simp only [if_pos h]
      exact ⟨fun q => ⟨h, q⟩, fun q => q.2⟩
    · simp only [if_neg h]
      exact ⟨fun q => (by obtain ⟨_, _, e, _⟩ := q; cases e), fun q => absurd q.1 h⟩
  | _ => exact ok_none
end
end Fw
namespace Fw
open PySem PySem.Spec L2
open PyProof.Rows hiding St
/-- the turns, by the place in the list as it stands -/
def forN (i : Nat) (bb : PyData → En → Option En) (g : SS) : Nat → Nat → SS
  | 0, _, _ => none
  | n + 1, j, E => match E[i]? with
    | some (.own ys) => match ys[j]? with
      | none => some (.nx, E)
      | some d => match bb d E with
        | some E1 => match g E1 with
          | some (.nx, E2) => forN i bb g n (j + 1) E2
          | some (.ct, E2) => forN i bb g n (j + 1) E2
          | some (.bk, E2) => some (.nx, E2)
          | r => r
        | none => none
    | _ => none
def forO (i : Nat) (bb : PyData → En → Option En) (g : SS) : SS := fun E => forN i bb g fuelC 0 E
section
variable {X : Cx} {n n' : Nat} {tg e : Expr} {sts : List Stmt} {pos : Pos} {g : SS}
/-- the values of the first slots that own -/
def ownV (n : Nat) (E : En) (σ : L2.St) : List V := (List.range n).map fun j => match E[j]? with
  | some (.own _) => (match σ[j]? with | some (some v) => v | _ => .non)
  | _ => .non
theorem ownV_len {E : En} {σ : L2.St} : (ownV n E σ).length = n := by simp [ownV]
theorem ownV_get {E : En} {σ : L2.St} {j : Nat} (h : j < n) : (ownV n E σ)[j]? = some (match E[j]? with
  | some (.own _) => (match σ[j]? with | some (some v) => v | _ => .non)
  | _ => .non) := by
  unfold ownV
  rw [List.getElem?_map, List.getElem?_range h]
  rfl
theorem Rel.toOwn {K : PySem.W.Frag} {vs0 : List V} {P H : Hp} {E : En} {σ : L2.St} {fps : Nat → List Addr} (r : Rel K vs0 P E σ H fps) (n : Nat) : Rel K (ownV n E σ) P E σ H fps where
  sub := r.sub
  len := r.len
  sl := r.sl
  out := r.out
  dj := r.dj
  par := fun j xs v hv he => by
    have hj : j < n := by
      have := (List.getElem?_eq_some_iff.mp hv).1
      rwa [ownV_len] at this
    rw [ownV_get hj, he] at hv
    obtain ⟨ov, e2, s⟩ := r.sl j _ he
    generalize fps j = fp at s
    cases s with
    | own _ _ _ =>
      rw [e2] at hv
      simp only [Option.some.injEq] at hv
      rw [e2, ← hv]
theorem Rel.ofOwn {K : PySem.W.Frag} {vs0 : List V} {P H P2 H2 : Hp} {E E2 : En} {σ σ2 : L2.St} {fps fps2 : Nat → List Addr} (r : Rel K vs0 P E σ H fps) (hn : vs0.length ≤ n) (r2 : Rel K (ownV n E σ) P2 E2 σ2 H2 fps2) : Rel K vs0 P2 E2 σ2 H2 fps2 where
  sub := r2.sub
  len := r2.len
  sl := r2.sl
  out := r2.out
  dj := r2.dj
  par := fun j xs v hv he => by
    have hj : j < n := Nat.lt_of_lt_of_le (List.getElem?_eq_some_iff.mp hv).1 hn
    have h1 := r2.par j xs _ (ownV_get hj) he
    obtain ⟨ov, e2, s⟩ := r2.sl j _ he
    generalize fps2 j = fp at s
    cases s with
    | own _ _ _ =>
      rw [e2] at h1
      split at h1
      · rename_i ys e1
        have h3 := r.par j ys v hv e1
        rw [h3] at h1
        rw [e2, h1]
      · cases h1
theorem pxs_forO {i : Nat} {ts : List Nat} {bb : PyData → En → Option En} (hin : i < n') (hnn : n ≤ n') (hp : PassesOwn (model X.prog X.w) X.A X.env X.xe) (hc : X.calm = true) (hv : PE X e (tVar i)) (hg : PXG X ts tg bb) (hb : PXS X n' sts g)
    (hs : ∀ x, foldedSetIterable e X.env x = pure x := by intro _; rfl) : PXS1 X n (.For tg e sts [] pos) (forO i bb g) := ps_imp (ps_for hp hc (pi_list hv) hg hb hs) fun D σ H => by
  rintro ⟨vs0, P, E, fps, fl, E', hn, r, hf, q⟩
  have back : ∀ {P2 H2 : Hp} {E2 : En} {σ2 : L2.St} {fps2 : Nat → List Addr}, Rel X.K (ownV n' E σ) P2 E2 σ2 H2 fps2 → Rel X.K vs0 P2 E2 σ2 H2 fps2 := fun r2 => r.ofOwn (by omega) r2
  have r0 := r.toOwn n'
  unfold forO at hf
  have hf0 := hf
  unfold fuelC forN at hf
  split at hf
  · rename_i ys0 e0
    clear hf
    obtain ⟨ov, e2, s⟩ := r.sl i _ e0
    generalize hfp : fps i = fp at s
    cases s with
    | @own ad vs _ hP hH hdq =>
      have hid : (ownV n' E σ)[i]? = some (.ref ad) := by rw [ownV_get hin, e0, e2]
      refine ⟨_, e2, ad, rfl, ⟨vs, SqL.of hH⟩, fun j k σ2 H2 => ∃ P2 E2 fps2, Rel X.K (ownV n' E σ) P2 E2 σ2 H2 fps2 ∧ Step (In fps) P H (In fps2) P2 H2 ∧ forN i bb g k j E2 = some (fl, E'), ⟨fuelC, P, E, fps, r0, .refl _ _ _, hf0⟩, ?_⟩
      rintro j k σ2 H2 ⟨P2, E2, fps2, r2, s2, h2⟩
      cases k with
      | zero => cases h2
      | succ k =>
        unfold forN at h2
        split at h2
        · rename_i ys ey
          obtain ⟨ov2, e3, s3⟩ := r2.sl i _ ey
          have hpar := r2.par i ys _ hid ey
          generalize fps2 i = fp2 at s3
          cases s3 with
          | @own ad2 vs2 _ hP2 hH2 hdq2 =>
            rw [e3] at hpar
            cases hpar
            split at h2
            · rename_i eN
              cases h2
              refine .inl ⟨⟨vs2, SqL.of hH2, ?_⟩, q P2 H2 fps2 σ2 (back r2) s2⟩
              rw [hdq2.length]
              exact List.getElem?_eq_none_iff.mp eN
            · rename_i d eD
              obtain ⟨v, hv1, hv2⟩ := hdq2.get eD
              split at h2
              · rename_i E3 eB
                refine .inr ⟨⟨vs2, v, SqL.of hH2, hv1⟩, fun σ4 H4 => ∃ P4 E4 fps4, Rel X.K (ownV n' E σ) P4 E4 σ4 H4 fps4 ∧ Step (In fps) P H (In fps4) P4 H4 ∧ forN i bb g k (j + 1) E4 = some (fl, E'), ?_, fun y H3 hy => ?_⟩
                · rintro σ4 H4 ⟨P4, E4, fps4, r4, s4, h4⟩
                  exact ⟨k, Nat.lt_succ_self k, P4, E4, fps4, r4, s4, h4⟩
                · obtain ⟨rfl, hy⟩ := hy
                  have hyv := hy vs2 (SqL.of hH2)
                  rw [hv1] at hyv
                  cases hyv
                  refine ⟨_, P2, E2, fps2, d, E3, r2, hv2, eB, fun fps5 σ5 r5 s5 _ _ => ?_⟩
                  have s6 := s2.trans s5
                  split at h2
                  · rename_i E7 e7
                    exact ⟨_, P2, E3, fps5, .nx, E7, ownV_len, r5, e7, fun P7 H7 fps7 σ7 r7 s7 => ⟨P7, E7, fps7, r7, s6.trans s7, h2⟩⟩
                  · rename_i E7 e7
                    exact ⟨_, P2, E3, fps5, .ct, E7, ownV_len, r5, e7, fun P7 H7 fps7 σ7 r7 s7 => ⟨P7, E7, fps7, r7, s6.trans s7, h2⟩⟩
                  · rename_i E7 e7
                    cases h2
                    exact ⟨_, P2, E3, fps5, .bk, _, ownV_len, r5, e7, fun P7 H7 fps7 σ7 r7 s7 => q P7 H7 fps7 σ7 (back r7) (s6.trans s7)⟩
                  · rename_i n1 n2 n3
                    refine ⟨_, P2, E3, fps5, fl, E', ownV_len, r5, h2, ?_⟩
                    cases fl with
                    | nx => exact absurd h2 (n1 E')
                    | ct => exact absurd h2 (n2 E')
                    | bk => exact absurd h2 (n3 E')
                    | rt s => exact fun P' H' fps' σ' v fr r' st q1 q2 => q P' H' fps' σ' v fr (back r') (s6.trans st) q1 q2
              · cases h2
        · cases h2
  · cases hf
end
theorem forN_inv {i : Nat} {bb : PyData → En → Option En} {g : SS} (I : Nat → En → Prop) (ys : List PyData) {Q : Fl → En → Prop} (hown : ∀ k E, I k E → E[i]? = some (.own ys))
    (h : ∀ k d, ys[k]? = some d → ∀ E, I k E → OkV (bb d E) fun E1 => Ok (g E1) (stp (I (k + 1)) Q)) (q : ∀ E, I ys.length E → Q .nx E) : ∀ (n j : Nat) (E : En), ys.length - j < n → j ≤ ys.length → I j E → Ok (forN i bb g n j E) Q
  | 0, j, E, hn, _, _ => absurd hn (Nat.not_lt_zero _)
  | n + 1, j, E, hn, hj, hI => by
    have e0 := hown j E hI
    cases ej : ys[j]? with
    | none =>
      have : j = ys.length := by
        have := List.getElem?_eq_none_iff.mp ej
        omega
      subst this
      exact ⟨.nx, E, by unfold forN; rw [e0]; simp only [ej], q E hI⟩
    | some d =>
      have hlt := (List.getElem?_eq_some_iff.mp ej).1
      obtain ⟨E1, e1, fl, E2, e2, h2⟩ := h j d ej E hI
      cases fl with
      | nx =>
        obtain ⟨fl, E3, e3, h3⟩ := forN_inv I ys hown h q n (j + 1) E2 (by omega) (by omega) h2
        exact ⟨fl, E3, by unfold forN; rw [e0]; simp only [ej, e1, e2]; exact e3, h3⟩
      | ct =>
        obtain ⟨fl, E3, e3, h3⟩ := forN_inv I ys hown h q n (j + 1) E2 (by omega) (by omega) h2
        exact ⟨fl, E3, by unfold forN; rw [e0]; simp only [ej, e1, e2]; exact e3, h3⟩
      | bk => exact ⟨.nx, E2, by unfold forN; rw [e0]; simp only [ej, e1, e2], h2⟩
      | rt s => exact ⟨.rt s, E2, by unfold forN; rw [e0]; simp only [ej, e1, e2], h2⟩
theorem forO_inv {i : Nat} {bb : PyData → En → Option En} {g : SS} (I : Nat → En → Prop) (ys : List PyData) (E : En) {Q : Fl → En → Prop} (h0 : I 0 E) (hown : ∀ k E, I k E → E[i]? = some (.own ys)) (hl : ys.length < 1099511627776)
    (h : ∀ k d, ys[k]? = some d → ∀ E, I k E → OkV (bb d E) fun E1 => Ok (g E1) (stp (I (k + 1)) Q)) (q : ∀ E, I ys.length E → Q .nx E) : Ok (forO i bb g E) Q :=
  forN_inv I ys hown h q fuelC 0 E (by unfold fuelC; omega) (Nat.zero_le _) h0
end Fw
namespace Fw
open PySem PySem.Spec L2
open PyProof.Rows hiding St
/-- an expression behind which a token is out -/
def PXk (X : Cx) (m p : Bool) (e : Expr) (f : SE PyData) : Prop := ∀ (pins : List (Addr × Obj)) (s : Shared) (σ : L2.St) (H : Hp) (Q : VK), Inv X pins σ H s → tX X.K m p f σ H Q →
  wpAny (model X.prog X.w) X.A (eval e X.env) (fun v s1 => 1 ≤ s1.toks ∧ EP X pins σ Q v s1) X.xe s
section
variable {X : Cx} {m m1 m2 p p1 p2 : Bool} {a b e : Expr} {j k : Nat} {pos p0 pos1 : Pos} {fa fb f : SE PyData} {c : Str}
theorem op2_core {K : PySem.W.Frag} {r : R2} {g : PyData → PyData → Option PyData} {σ : L2.St} {H : Hp} {Q : VK} (v : VO K p1 p2 r g) (hf : p1 = true ∨ m2 = false) (h : tX K (m1 || m2) true (bin fa fb g) σ H Q) : tOp r (tX K m1 p1 fa) (tX K m2 p2 fb) σ H Q := by
  obtain ⟨vs0, P, E, fps, d, E', rel, hh, q⟩ := h
  obtain ⟨d1, E1, h1, hh⟩ := bnd_some hh
  obtain ⟨d2, E2, h2, hh⟩ := bnd_some hh
  obtain ⟨h3, rfl⟩ := lft_some hh
  refine ⟨vs0, P, E, fps, d1, E1, rel, h1, fun P1 H1 fps1 x r1 s1 m1' dx => ⟨vs0, P1, E1, fps1, d2, E', r1, h2, fun P2 H2 fps2 y r2 s2 m2' dy => ?_⟩⟩
  have dx2 : Dq K (pick p1 P2 H2) x d1 := by
    cases p1 with
    | true => exact Dq.mono s2.pp dx
    | false =>
      rcases hf with hf | hf
      · cases hf
      · exact Dq.mono (m2' hf) dx
  refine v P2 H2 x y d1 d2 d Q r2.sub dx2 dy h3 fun P3 H3 w pp su hh fr dw => ?_
  refine q P3 H3 fps2 w (r2.alloc pp su hh fr) ((s1.trans s2).trans (.alloc pp hh fr)) (fun hm => ?_) dw
  rw [Bool.or_eq_false_iff] at hm
  exact ((m1' hm.1).trans (m2' hm.2)).trans hh
theorem pxk_addC (ha : PX X m1 true a fa) : PXk X (m1 || false) true (.BinOp a .Add (.Constant (.str c) j p0) pos) (bin fa (ret (.str c)) gAdd) := by
  intro pins s σ H Q I h
  have h0 := op2_core (m1 := m1) (m2 := false) (p1 := true) (p2 := true) (r := rAddA X.K) vo_add (.inl rfl) h
  refine wpAny_BinOp (thn (ha.run pins s σ H _ I h0) fun v s1 ⟨x, H1, I1, r1, q1⟩ => ?_)
  obtain ⟨vs0, P, E, fps, d, E', rel, hh, q⟩ := q1
  obtain ⟨rfl, rfl⟩ := ret_some hh
  have h1 := q P H1 fps (.str c) rel (.refl _ _ _) (fun _ => Same.refl H1) (.str c)
  refine Calls.Constant_str ?_
  exact wpAny_mono (PySem.wpAny_toks_of (n := 1) (by show 1 ≤ s1.toks + 1; omega) (op_addA pins _ σ H1 x (.str c) v _ Q (I1.tok _) r1 ⟨_, rfl⟩ h1)) (fun _ _ z => z) (fun _ _ z => z.2)
theorem px_addTk (ha : PXk X m1 true a fa) (hb : PXt X m2 true b fb) : PX X (m1 || m2) true (.BinOp a .Add b pos) (bin fa fb gAdd) := by
  refine px_op2 (m1 := m1) (m2 := m2) (p1 := true) (p2 := true) (r := rAddA X.K) ⟨fun pins s σ H Q I h => ?_⟩ vo_add (.inl rfl)
  exact wpAny_BinOp (wpAny_mono (ha pins s σ H _ I h) (fun v s1 ⟨hk, x, H1, I1, r1, q1⟩ => thn (hb pins s1 σ H1 _ hk I1 q1) fun u s2 ⟨y, H2, I2, r2, q2⟩ => op_addA pins s2 σ H2 x y v u Q I2 r1 r2 q2) fun _ _ z => z)
end
end Fw
namespace ownanswer_k51_lists_and_joined_values
open PySem Fw
def Y_lower : SS := (retD (m0S (rdD 0) gLower))
abbrev N_lower : List Str := ["text"]
def S_lower : Fn := runF 1 1 Y_lower
def Y_trimmed : SS := (retD (m1S (rdD 0) (ret (.str " \t")) gStrip))
abbrev N_trimmed : List Str := ["text"]
def S_trimmed : Fn := runF 1 1 Y_trimmed
def C_values_1 : SE PyData := (rdD 4)
def C_values_2 : SE Bool := (toB (bin (rdD 3) (rdD 2) gEq))
def T_values_1 : SS := (retL (lcS (sItems (rdD 0)) [3, 4] (toT [3, 4]) C_values_2 C_values_1))
def Y_values : SS := (seqS (asg 2 (mny (sCons (rdD 1) sNil) (callD S_lower))) T_values_1)
abbrev N_values : List Str := ["fields", "name", "wanted", "key", "value"]
def S_values : Fn := runF 2 5 Y_values
def T__cut_1 : SS := (asg 3 (bin (rdD 6) (ret (.int 1)) gAdd))
def L__cut_1 : SS := (ifS (toB (rdD 5)) (asg 5 (ret (.bool false))) (ifS (toB (bin (rdD 7) (ret (.str "\"")) gEq)) (asg 4 (una (rdD 4) gNot)) (ifS (toB (bin (rdD 7) (ret (.str "\\")) gEq)) (asg 5 (rdD 4)) (ifS (sAnd (toB (bin (rdD 7) (rdD 1) gEq)) (sNot (toB (rdD 4)))) (seqS (appO 2 (sSl (rdD 0) (sPart (rdD 3)) (sPart (rdD 6)))) T__cut_1) nxt))))
def T__cut_2 : SS := (retD (sIf (toB (rdD 4)) (ret .none) (rdA 2)))
def T__cut_3 : SS := (seqS (appO 2 (sSl (rdD 0) (sPart (rdD 3)) (ret none))) T__cut_2)
def T__cut_4 : SS := (seqS (forS (sEnum (rdD 0)) (toT [6, 7]) L__cut_1) T__cut_3)
def T__cut_5 : SS := (seqS (asg 5 (ret (.bool false))) T__cut_4)
def T__cut_6 : SS := (seqS (asg 4 (ret (.bool false))) T__cut_5)
def T__cut_7 : SS := (seqS (asg 3 (ret (.int 0))) T__cut_6)
def Y__cut : SS := (seqS (asgL 2 (dLst sNil)) T__cut_7)
abbrev N__cut : List Str := ["text", "mark", "parts", "begin", "quoted", "taken", "at", "sign"]
def S__cut : Fn := runF 2 8 Y__cut
def C_split_list_1 : SE PyData := (mny (sCons (rdD 3) sNil) (callD S_trimmed))
def C_split_list_2 : SE PyData := (rdD 3)
def C_split_list_3 : SE Bool := (toB (bin (rdD 3) (ret (.str "")) gNe))
def T_split_list_1 : SS := (retL (lcS (sItems (rdD 2)) [3] (toN 3) C_split_list_3 C_split_list_2))
def T_split_list_2 : SS := (seqS (asg 2 (bnd (lcS (sItems (rdD 1)) [3] (toN 3) yesS C_split_list_1) fun ds => ret (.list ds))) T_split_list_1)
def T_split_list_3 : SS := (seqS (ifS (toB (una (rdD 1) gIsN)) (retD (ret .none)) nxt) T_split_list_2)
def Y_split_list : SS := (seqS (asg 1 (mny (sCons (rdD 0) (sCons (ret (.str ",")) sNil)) (callD S__cut))) T_split_list_3)
abbrev N_split_list : List Str := ["value", "parts", "trimmed_parts", "part"]
def S_split_list : Fn := runF 1 4 Y_split_list
def T_join_values_1 : SS := (retD (sIf (toB (bin (una (rdD 2) gLen) (ret (.int 0)) gEq)) (ret .none) (m1S (ret (.str ", ")) (rdD 2) gJoin)))
def Y_join_values : SS := (seqS (asg 2 (mny (sCons (rdD 0) (sCons (rdD 1) sNil)) (callD S_values))) T_join_values_1)
abbrev N_join_values : List Str := ["fields", "name", "found"]
def S_join_values : Fn := runF 2 3 Y_join_values
def L__law_draw_1 : SS := (asg 1 (bin (una (bin (bin (bin (rdD 1) (ret (.int 48271)) gMul) (bin (una (una (rdD 2) gInt) gAbs) (ret (.int 65521)) gMod) gAdd) (ret (.int 1)) gAdd) gInt) (ret (.int 2147483647)) gMod))
def C__law_draw_1 : SE PyData := (una (una (rdD 2) gInt) gAbs)
def T__law_draw_1 : SS := (retL (dLst (sCons (bnd (lcS (sScr 0) [2] (toN 2) yesS C__law_draw_1) fun ds => ret (.list ds)) (sCons (una (ret (.int 1)) gNeg) (sCons (ret (.int 0)) (sCons (rdD 1) sNil))))))
def T__law_draw_2 : SS := (seqS (forS (sScr 0) (toN 2) L__law_draw_1) T__law_draw_1)
def Y__law_draw : SS := (seqS (asg 1 (ret (.int 7))) T__law_draw_2)
abbrev N__law_draw : List Str := ["script", "seed", "cell"]
def S__law_draw : Fn := runF 1 3 Y__law_draw
def T__law_take_1 : SS := (setO 0 (ixO 0 (ret (.int 3))) (ret (.int 2)))
def T__law_take_2 : SS := (ifS (toB (bin (ixO 0 (ret (.int 2))) (ret (.int 0)) gEq)) (seqS (setO 0 (bin (una (bin (bin (ixO 0 (ret (.int 3))) (ret (.int 48271)) gMul) (ret (.int 11)) gAdd) gInt) (ret (.int 2147483647)) gMod) (ret (.int 3))) T__law_take_1) nxt)
def T__law_take_3 : SS := (seqS (ifS (toB (bin (ixO 0 (ret (.int 1))) (una (ixO 0 (ret (.int 0))) gLen) gLt)) (setO 0 (bin (ixO 0 (ret (.int 0))) (ixO 0 (ret (.int 1))) gIx) (ret (.int 2))) nxt) T__law_take_2)
def T__law_take_4 : SS := (retD (rdD 2))
def T__law_take_5 : SS := (seqS (setO 0 (bin (ixO 0 (ret (.int 2))) (rdD 1) gDiv) (ret (.int 2))) T__law_take_4)
def T__law_take_6 : SS := (seqS (asg 2 (bin (una (ixO 0 (ret (.int 2))) gInt) (rdD 1) gMod)) T__law_take_5)
def Y__law_take : SS := (seqS (ifS (toB (bin (ixO 0 (ret (.int 2))) (ret (.int 0)) gEq)) (seqS (setO 0 (bin (ixO 0 (ret (.int 1))) (ret (.int 1)) gAdd) (ret (.int 1))) T__law_take_3) nxt) T__law_take_6)
abbrev N__law_take : List Str := ["draw", "many", "found"]
def S__law_take : Fn := runF 2 3 Y__law_take
def T__law_signs_1 : SS := (retD (bin (rdD 0) (ret (.str "abcdefghijklmnopqrstuvwxyz{|}~\t")) gAdd))
def Y__law_signs : SS := (seqS (asg 0 (ret (.str " !\"#$&'()*+,-./0123456789:;<=>?@ABCDEFGHIJKLMNOPQRSTUVWXYZ[\\]^_`"))) T__law_signs_1)
abbrev N__law_signs : List Str := ["signs"]
def S__law_signs : Fn := runF 0 1 Y__law_signs
def L__law_text_1 : SS := (ifS (toB (bin (asD (callM 0 S__law_take (sCons (ret (.int 2)) sNil))) (ret (.int 0)) gEq)) (asg 3 (bin (rdD 3) (bin (rdD 2) (asD (callM 0 S__law_take (sCons (ret (.int 10)) sNil))) gIx) gAdd)) (asg 3 (bin (rdD 3) (bin (mny sNil (callD S__law_signs)) (asD (callM 0 S__law_take (sCons (ret (.int 95)) sNil))) gIx) gAdd)))
def T__law_text_1 : SS := (retD (rdD 3))
def T__law_text_2 : SS := (seqS (forS (sRng1 (asD (callM 0 S__law_take (sCons (bin (rdD 1) (ret (.int 1)) gAdd) sNil)))) (toN 4) L__law_text_1) T__law_text_1)
def T__law_text_3 : SS := (seqS (asg 3 (ret (.str ""))) T__law_text_2)
def Y__law_text : SS := (seqS (asg 2 (ret (.str "\"\\,; =ab1\t"))) T__law_text_3)
abbrev N__law_text : List Str := ["draw", "most", "odd", "found", "k"]
def S__law_text : Fn := runF 2 5 Y__law_text
def C__law_token_1 : SE PyData := (bin (rdD 1) (asD (callM 0 S__law_take (sCons (ret (.int 30)) sNil))) gIx)
def T__law_token_1 : SS := (retD (m1S (ret (.str "")) (bnd (lcS (sRng1 (bin (ret (.int 1)) (asD (callM 0 S__law_take (sCons (ret (.int 5)) sNil))) gAdd)) [2] (toN 2) yesS C__law_token_1) fun ds => ret (.list ds)) gJoin))
def Y__law_token : SS := (seqS (asg 1 (ret (.str "abcxyzABCXYZ0189!#$&'*+-.^_|~`"))) T__law_token_1)
abbrev N__law_token : List Str := ["draw", "signs", "k"]
def S__law_token : Fn := runF 1 3 Y__law_token
def L__law_trimmed_1 : SS := (asg 0 (sSl (rdD 0) (sPart (ret (.int 1))) (ret none)))
def L__law_trimmed_2 : SS := (asg 0 (sSl (rdD 0) (ret none) (sPart (una (ret (.int 1)) gNeg))))
def T__law_trimmed_1 : SS := (retD (rdD 0))
def T__law_trimmed_2 : SS := (seqS (whS (sAnd (toB (bin (rdD 0) (ret (.str "")) gNe)) (toB (bin (bin (rdD 0) (una (ret (.int 1)) gNeg) gIx) (ret (.str " \t")) gIn))) L__law_trimmed_2) T__law_trimmed_1)
def Y__law_trimmed : SS := (seqS (whS (sAnd (toB (bin (rdD 0) (ret (.str "")) gNe)) (toB (bin (bin (rdD 0) (ret (.int 0)) gIx) (ret (.str " \t")) gIn))) L__law_trimmed_1) T__law_trimmed_2)
abbrev N__law_trimmed : List Str := ["text"]
def S__law_trimmed : Fn := runF 1 1 Y__law_trimmed
def T__law_split_1 : SS := (asg 2 (ret (.str "")))
def T__law_split_2 : SS := (asg 2 (bin (rdD 2) (bin (rdD 0) (rdD 4) gIx) gAdd))
def T__law_split_3 : SS := (ifS (sAnd (toB (rdD 3)) (sAnd (toB (bin (rdD 5) (ret (.str "\\")) gEq)) (toB (bin (bin (rdD 4) (ret (.int 1)) gAdd) (una (rdD 0) gLen) gLt)))) (seqS (asg 4 (bin (rdD 4) (ret (.int 1)) gAdd)) T__law_split_2) (ifS (toB (bin (rdD 5) (ret (.str "\"")) gEq)) (asg 3 (una (rdD 3) gNot)) nxt))
def T__law_split_4 : SS := (asg 4 (bin (rdD 4) (ret (.int 1)) gAdd))
def T__law_split_5 : SS := (seqS (ifS (sAnd (toB (bin (rdD 5) (ret (.str ",")) gEq)) (sNot (toB (rdD 3)))) (seqS (appO 1 (mny (sCons (rdD 2) sNil) (callD S__law_trimmed))) T__law_split_1) (seqS (asg 2 (bin (rdD 2) (rdD 5) gAdd)) T__law_split_3)) T__law_split_4)
def L__law_split_1 : SS := (seqS (asg 5 (bin (rdD 0) (rdD 4) gIx)) T__law_split_5)
def C__law_split_1 : SE PyData := (rdD 6)
def C__law_split_2 : SE Bool := (toB (bin (rdD 6) (ret (.str "")) gNe))
def T__law_split_6 : SS := (retL (lcS (sItems (rdA 1)) [6] (toN 6) C__law_split_2 C__law_split_1))
def T__law_split_7 : SS := (seqS (ifS (toB (rdD 3)) (retD (ret .none)) nxt) T__law_split_6)
def T__law_split_8 : SS := (seqS (appO 1 (mny (sCons (rdD 2) sNil) (callD S__law_trimmed))) T__law_split_7)
def T__law_split_9 : SS := (seqS (whS (toB (bin (rdD 4) (una (rdD 0) gLen) gLt)) L__law_split_1) T__law_split_8)
def T__law_split_10 : SS := (seqS (asg 4 (ret (.int 0))) T__law_split_9)
def T__law_split_11 : SS := (seqS (asg 3 (ret (.bool false))) T__law_split_10)
def T__law_split_12 : SS := (seqS (asg 2 (ret (.str ""))) T__law_split_11)
def Y__law_split : SS := (seqS (asgL 1 (dLst sNil)) T__law_split_12)
abbrev N__law_split : List Str := ["value", "found", "piece", "inside", "at", "sign", "one"]
def S__law_split : Fn := runF 1 7 Y__law_split
def T__law_piece_1 : SS := (retD (asD (callM 0 S__law_text (sCons (ret (.int 4)) sNil))))
def T__law_piece_2 : SS := (seqS (ifS (toB (bin (rdD 1) (ret (.int 4)) gEq)) (retD (ret (.str "\"a, b\\\", c\" "))) nxt) T__law_piece_1)
def T__law_piece_3 : SS := (seqS (ifS (toB (bin (rdD 1) (ret (.int 3)) gEq)) (retD (bin (bin (ret (.str "\"")) (rplS (rplS (asD (callM 0 S__law_text (sCons (ret (.int 5)) sNil))) "\\" "\\\\") "\"" "\\\"") gAdd) (ret (.str "\"")) gAdd)) nxt) T__law_piece_2)
def T__law_piece_4 : SS := (seqS (ifS (toB (bin (rdD 1) (ret (.int 2)) gEq)) (retD (ret (.str ","))) nxt) T__law_piece_3)
def T__law_piece_5 : SS := (seqS (ifS (toB (bin (rdD 1) (ret (.int 1)) gEq)) (retD (bin (bnd (dLst (sCons (ret (.str " ")) (sCons (ret (.str "\t")) (sCons (ret (.str "  ")) (sCons (ret (.str ", ")) (sCons (ret (.str ",,")) (sCons (ret (.str " ,")) sNil))))))) fun ds => ret (.list ds)) (asD (callM 0 S__law_take (sCons (ret (.int 6)) sNil))) gIx)) nxt) T__law_piece_4)
def T__law_piece_6 : SS := (seqS (ifS (toB (bin (rdD 1) (ret (.int 0)) gEq)) (retD (asD (callM 0 S__law_token sNil))) nxt) T__law_piece_5)
def Y__law_piece : SS := (seqS (asg 1 (asD (callM 0 S__law_take (sCons (ret (.int 6)) sNil)))) T__law_piece_6)
abbrev N__law_piece : List Str := ["draw", "choice"]
def S__law_piece : Fn := runF 1 2 Y__law_piece
def C_law_1 : SE PyData := (asD (callM 1 S__law_piece sNil))
def L_law_1 : SS := (appO 6 (dTup (sCons (bin (rdD 5) (asD (callM 1 S__law_take (sCons (ret (.int 3)) sNil))) gIx) (sCons (mny (sCons (asD (callM 1 S__law_text (sCons (ret (.int 5)) sNil))) sNil) (callD S__law_trimmed)) sNil))))
def C_law_2 : SE PyData := (bin (rdD 11) (ret (.int 1)) gIx)
def C_law_3 : SE Bool := (toB (bin (bin (rdD 11) (ret (.int 0)) gIx) (rdD 9) gEq))
def T_law_1 : SS := (ifS (toB (bin (mny (sCons (rdD 8) (sCons (rdD 9) sNil)) (callD S_join_values)) (rdD 3) gNe)) (retD (ret (.bool false))) nxt)
def T_law_2 : SS := (seqS (asg 3 (sIf (toB (bin (rdD 10) (bnd (dLst sNil) fun ds => ret (.list ds)) gEq)) (ret .none) (m1S (ret (.str ", ")) (rdD 10) gJoin))) T_law_1)
def L_law_2 : SS := (seqS (asg 10 (bnd (lcS (sItems (rdA 6)) [11] (toN 11) C_law_3 C_law_2) fun ds => ret (.list ds))) T_law_2)
def T_law_3 : SS := (retD (bin (rdD 8) (tupA 6) gEq))
def T_law_4 : SS := (seqS (forS (sItems (rdD 5)) (toN 9) L_law_2) T_law_3)
def T_law_5 : SS := (seqS (asg 8 (tupA 6)) T_law_4)
def T_law_6 : SS := (seqS (forS (sRng1 (asD (callM 1 S__law_take (sCons (ret (.int 7)) sNil)))) (toN 7) L_law_1) T_law_5)
def T_law_7 : SS := (seqS (asgL 6 (dLst sNil)) T_law_6)
def T_law_8 : SS := (seqS (asg 5 (bnd (dLst (sCons (ret (.str "accept")) (sCons (ret (.str "x-a")) (sCons (ret (.str "vary")) sNil)))) fun ds => ret (.list ds))) T_law_7)
def T_law_9 : SS := (seqS (ifS (sOr (sAnd (toB (una (rdD 3) gIsN)) (toB (una (rdD 4) gNotN))) (sAnd (toB (una (rdD 3) gNotN)) (sOr (sNot (toB (una (rdD 4) (gIsi "list")))) (toB (bin (rdD 4) (rdD 3) gNe))))) (retD (ret (.bool false))) nxt) T_law_8)
def T_law_10 : SS := (seqS (asg 4 (mny (sCons (rdD 2) sNil) (callD S_split_list))) T_law_9)
def T_law_11 : SS := (seqS (asg 3 (mny (sCons (rdD 2) sNil) (callD S__law_split))) T_law_10)
def T_law_12 : SS := (seqS (asg 2 (m1S (ret (.str "")) (bnd (lcS (sRng1 (asD (callM 1 S__law_take (sCons (ret (.int 8)) sNil)))) [7] (toN 7) yesS C_law_1) fun ds => ret (.list ds)) gJoin)) T_law_11)
def Y_law : SS := (seqS (asgL 1 (callS 0 S__law_draw)) T_law_12)
abbrev N_law : List Str := ["script", "draw", "value", "due", "actual", "names", "fields", "k", "given", "name", "found", "row"]
def S_law : Fn := runF 1 12 Y_law
theorem lt_0 : Str.ofString " \t" = T [32, 9] := by decide +kernel
theorem lt_1 : Str.ofString "\"" = T [34] := by decide +kernel
theorem lt_2 : Str.ofString "\\" = T [92] := by decide +kernel
theorem lt_3 : Str.ofString "," = T [44] := by decide +kernel
theorem lt_4 : Str.ofString "" = T [] := by decide +kernel
theorem lt_5 : Str.ofString ", " = T [44, 32] := by decide +kernel
theorem lt_6 : Str.ofString " !\"#$&'()*+,-./0123456789:;<=>?@ABCDEFGHIJKLMNOPQRSTUVWXYZ[\\]^_`" = T [32, 33, 34, 35, 36, 38, 39, 40, 41, 42, 43, 44, 45, 46, 47, 48, 49, 50, 51, 52, 53, 54, 55, 56, 57, 58, 59, 60, 61, 62, 63, 64, 65, 66, 67, 68, 69, 70, 71, 72, 73, 74, 75, 76, 77, 78, 79, 80, 81, 82, 83, 84, 85, 86, 87, 88, 89, 90, 91, 92, 93, 94, 95, 96] := by decide +kernel
theorem lt_7 : Str.ofString "abcdefghijklmnopqrstuvwxyz{|}~\t" = T [97, 98, 99, 100, 101, 102, 103, 104, 105, 106, 107, 108, 109, 110, 111, 112, 113, 114, 115, 116, 117, 118, 119, 120, 121, 122, 123, 124, 125, 126, 9] := by decide +kernel
theorem lt_8 : Str.ofString "\"\\,; =ab1\t" = T [34, 92, 44, 59, 32, 61, 97, 98, 49, 9] := by decide +kernel
theorem lt_9 : Str.ofString "abcxyzABCXYZ0189!#$&'*+-.^_|~`" = T [97, 98, 99, 120, 121, 122, 65, 66, 67, 88, 89, 90, 48, 49, 56, 57, 33, 35, 36, 38, 39, 42, 43, 45, 46, 94, 95, 124, 126, 96] := by decide +kernel
theorem lt_10 : Str.ofString " ," = T [32, 44] := by decide +kernel
theorem lt_11 : Str.ofString ",," = T [44, 44] := by decide +kernel
theorem lt_12 : Str.ofString "  " = T [32, 32] := by decide +kernel
theorem lt_13 : Str.ofString "\t" = T [9] := by decide +kernel
theorem lt_14 : Str.ofString " " = T [32] := by decide +kernel
theorem lt_15 : Str.ofString "\\\\" = T [92, 92] := by decide +kernel
theorem lt_16 : Str.ofString "\\\"" = T [92, 34] := by decide +kernel
theorem lt_17 : Str.ofString "\"a, b\\\", c\" " = T [34, 97, 44, 32, 98, 92, 34, 44, 32, 99, 34, 32] := by decide +kernel
theorem lt_18 : Str.ofString "vary" = T [118, 97, 114, 121] := by decide +kernel
theorem lt_19 : Str.ofString "x-a" = T [120, 45, 97] := by decide +kernel
theorem lt_20 : Str.ofString "accept" = T [97, 99, 99, 101, 112, 116] := by decide +kernel
theorem lt_21 : Str.ofString "law_ownanswer_k51_lists_and_joined_values" = T [108, 97, 119, 95, 111, 119, 110, 97, 110, 115, 119, 101, 114, 95, 107, 53, 49, 95, 108, 105, 115, 116, 115, 95, 97, 110, 100, 95, 106, 111, 105, 110, 101, 100, 95, 118, 97, 108, 117, 101, 115] := by decide +kernel
end ownanswer_k51_lists_and_joined_values
namespace ownanswer_k51_lists_and_joined_values
open PySem PySem.Spec L2 Fw
local macro_rules | `(tactic| simp only [walkA, $xs,*] $[$l:location]?) => `(tactic| simp only [ok_some, ok_none, okV_some, okV_none, ↓okV_if, ↓ok_if, ↓ok_ret, ↓ok_bnd, ↓ok_lft, ↓ok_bin, ↓ok_una, ↓ok_binL, ↓ok_unaL, ↓ok_mny, ↓ok_rdD, ↓ok_rdO, ↓ok_rdA, ↓ok_toB, ↓ok_sAnd, ↓ok_sOr, ↓ok_sNot, ↓ok_vAnd, ↓ok_vOr, ↓ok_sIf, ↓ok_chn, ↓ok_sNil, ↓ok_sCons, ↓ok_dTup, ↓ok_dLst, ↓ok_m0S, ↓ok_m1S, ↓ok_m1L, ↓ok_ixO, ↓ok_sPart, ↓ok_sSl, ↓ok_tupO, ↓ok_sItems, ↓ok_sScr, ↓ok_sEnum, ↓ok_sRng1, ↓ok_sRng2, ↓ok_seqS, ↓ok_nxt, ↓ok_brkS, ↓ok_cntS, ↓ok_retN, ↓ok_drpS, ↓ok_asg, ↓ok_asgL, ↓ok_asgG, ↓ok_augS, ↓ok_ifS, ↓ok_retD, ↓ok_retL, ↓ok_retO, ↓ok_appO, ↓ok_setO, ↓ok_extO, ↓ok_popS, ↓ok_forS, ↓ok_forL_nil, ↓ok_lcS, ↓ok_lcL_nil, ↓okV_callD, ↓okV_callV, ↓ok_callM, ↓ok_asD, ↓ok_asL, ↓ok_callS, ↓ok_runF, ↓ok_rplS, ↓ok_tupA, ↓ok_strM, ↓ok_chn3, own?, toN, toT, toNs, wipE, bakE, stp_nx, stp_ct, stp_bk, stp_rt, Fw.collect, ok_yesS, List.getElem?_cons_zero, List.getElem?_cons_succ, List.set_cons_zero, List.set_cons_succ, List.map_cons, List.map_nil, List.length_cons, List.length_nil, List.cons_append, List.nil_append, List.replicate_succ, List.replicate_zero, Nat.reduceAdd, Nat.reduceSub, Nat.reduceLeDiff, Nat.reduceLT, Nat.reduceEqDiff, Int.reduceLT, Int.reduceLE, Int.reduceNeg, Int.reducePow, Int.reduceEq, Option.isSome_some, Option.map_some, Option.map_none, true_and, and_true, if_true, if_false, ite_true, ite_false, Bool.false_eq_true, reduceIte, reduceCtorEq, gAdd_ii, gAdd_ss, gAdd_tt, gSub_ii, gMul_ii, gDiv_ii, gMod_ii, gNeg_i, gLt_ii, gGt_ii, gGe_ii, gLe_ii, eqv_ii, eqv_ss, eqv_bb, eqv_nn, eqv_ni, eqv_in, eqv_ns, eqv_sn, eqv_nb, eqv_bn, eqv_is, eqv_si, eqv_nt, eqv_tn, eqv_nl, eqv_ln, eqv_tt, eqv_ll, eqvA_nn, eqvA_cc, eqvA_nc, eqvA_cn, gEq_ii, gEq_ss, gEq_bb, gEq_nn, gEq_in, gEq_ni, gEq_sn, gEq_ns, gEq_si, gEq_is, gNe_ii, gNe_ss, gNe_bb, gNe_nn, gNot_b, gIsN_n, gIsN_i, gIsN_b, gIsN_s, gIsN_t, gIsN_l, gNotN_n, gNotN_i, gNotN_b, gNotN_s, gNotN_t, gNotN_l, gIx_l, gIx_t, gIx_s, gLen_s, gLen_l, gLen_t, gAbs_i, gInt_i, gInt_b, gInt_s, gOrd_sign, gDivmod_ii, gStr_i, gStr_s, gTuple_l, gTuple_t, gStrip_s, gLstrip_s, gSplit_s, gPartition_s, gJoin_m, gCat_ll, gSl_s, gSl_t, gSl_l, itemsOf_l, itemsOf_t, itemsOf_s, ofString_inj, cMul_r, cMul_l, ixN_lit, atI_lit, atI_m1, cast_lit, String.reduceEq, decide_true, decide_false, Int.reduceSub, Int.reduceAdd, Int.reduceMul, Int.reduceToNat, T_toList, T_len, T_app, T_inj, T_sign, T_cut, T_signs, T_strip, T_empty, gIn_T, gNin_T, gLjust_T, lt_0, lt_1, lt_2, lt_3, lt_4, lt_5, lt_6, lt_7, lt_8, lt_9, lt_10, lt_11, lt_12, lt_13, lt_14, lt_15, lt_16, lt_17, lt_18, lt_19, lt_20, lt_21, $xs,*] $[$l:location]?)
local macro_rules | `(tactic| simp only [walkA] $[$l:location]?) => `(tactic| simp only [ok_some, ok_none, okV_some, okV_none, ↓okV_if, ↓ok_if, ↓ok_ret, ↓ok_bnd, ↓ok_lft, ↓ok_bin, ↓ok_una, ↓ok_binL, ↓ok_unaL, ↓ok_mny, ↓ok_rdD, ↓ok_rdO, ↓ok_rdA, ↓ok_toB, ↓ok_sAnd, ↓ok_sOr, ↓ok_sNot, ↓ok_vAnd, ↓ok_vOr, ↓ok_sIf, ↓ok_chn, ↓ok_sNil, ↓ok_sCons, ↓ok_dTup, ↓ok_dLst, ↓ok_m0S, ↓ok_m1S, ↓ok_m1L, ↓ok_ixO, ↓ok_sPart, ↓ok_sSl, ↓ok_tupO, ↓ok_sItems, ↓ok_sScr, ↓ok_sEnum, ↓ok_sRng1, ↓ok_sRng2, ↓ok_seqS, ↓ok_nxt, ↓ok_brkS, ↓ok_cntS, ↓ok_retN, ↓ok_drpS, ↓ok_asg, ↓ok_asgL, ↓ok_asgG, ↓ok_augS, ↓ok_ifS, ↓ok_retD, ↓ok_retL, ↓ok_retO, ↓ok_appO, ↓ok_setO, ↓ok_extO, ↓ok_popS, ↓ok_forS, ↓ok_forL_nil, ↓ok_lcS, ↓ok_lcL_nil, ↓okV_callD, ↓okV_callV, ↓ok_callM, ↓ok_asD, ↓ok_asL, ↓ok_callS, ↓ok_runF, ↓ok_rplS, ↓ok_tupA, ↓ok_strM, ↓ok_chn3, own?, toN, toT, toNs, wipE, bakE, stp_nx, stp_ct, stp_bk, stp_rt, Fw.collect, ok_yesS, List.getElem?_cons_zero, List.getElem?_cons_succ, List.set_cons_zero, List.set_cons_succ, List.map_cons, List.map_nil, List.length_cons, List.length_nil, List.cons_append, List.nil_append, List.replicate_succ, List.replicate_zero, Nat.reduceAdd, Nat.reduceSub, Nat.reduceLeDiff, Nat.reduceLT, Nat.reduceEqDiff, Int.reduceLT, Int.reduceLE, Int.reduceNeg, Int.reducePow, Int.reduceEq, Option.isSome_some, Option.map_some, Option.map_none, true_and, and_true, if_true, if_false, ite_true, ite_false, Bool.false_eq_true, reduceIte, reduceCtorEq, gAdd_ii, gAdd_ss, gAdd_tt, gSub_ii, gMul_ii, gDiv_ii, gMod_ii, gNeg_i, gLt_ii, gGt_ii, gGe_ii, gLe_ii, eqv_ii, eqv_ss, eqv_bb, eqv_nn, eqv_ni, eqv_in, eqv_ns, eqv_sn, eqv_nb, eqv_bn, eqv_is, eqv_si, eqv_nt, eqv_tn, eqv_nl, eqv_ln, eqv_tt, eqv_ll, eqvA_nn, eqvA_cc, eqvA_nc, eqvA_cn, gEq_ii, gEq_ss, gEq_bb, gEq_nn, gEq_in, gEq_ni, gEq_sn, gEq_ns, gEq_si, gEq_is, gNe_ii, gNe_ss, gNe_bb, gNe_nn, gNot_b, gIsN_n, gIsN_i, gIsN_b, gIsN_s, gIsN_t, gIsN_l, gNotN_n, gNotN_i, gNotN_b, gNotN_s, gNotN_t, gNotN_l, gIx_l, gIx_t, gIx_s, gLen_s, gLen_l, gLen_t, gAbs_i, gInt_i, gInt_b, gInt_s, gOrd_sign, gDivmod_ii, gStr_i, gStr_s, gTuple_l, gTuple_t, gStrip_s, gLstrip_s, gSplit_s, gPartition_s, gJoin_m, gCat_ll, gSl_s, gSl_t, gSl_l, itemsOf_l, itemsOf_t, itemsOf_s, ofString_inj, cMul_r, cMul_l, ixN_lit, atI_lit, atI_m1, cast_lit, String.reduceEq, decide_true, decide_false, Int.reduceSub, Int.reduceAdd, Int.reduceMul, Int.reduceToNat, T_toList, T_len, T_app, T_inj, T_sign, T_cut, T_signs, T_strip, T_empty, gIn_T, gNin_T, gLjust_T, lt_0, lt_1, lt_2, lt_3, lt_4, lt_5, lt_6, lt_7, lt_8, lt_9, lt_10, lt_11, lt_12, lt_13, lt_14, lt_15, lt_16, lt_17, lt_18, lt_19, lt_20, lt_21] $[$l:location]?)

abbrev ts (ls : List (List Nat)) : List PyData := ls.map fun l => .str (T l)
abbrev sg (l : List Nat) : List PyData := l.map fun c => .str (T [c])
/-- the pieces between the marks, and whether a quote is open at the end -/
def cutF (m : Nat) : List Nat → Bool → Bool → List Nat → List (List Nat) × Bool
  | [], q, _, cur => ([cur], q)
  | c :: r, q, t, cur =>
    if t then cutF m r q false (cur ++ [c])
    else if c = 34 then cutF m r (!q) false (cur ++ [c])
    else if c = 92 then cutF m r q q (cur ++ [c])
    else if c = m ∧ q = false then (cur :: (cutF m r q false []).1, (cutF m r q false []).2)
    else cutF m r q false (cur ++ [c])
theorem cutF_len (m : Nat) : ∀ (r : List Nat) (q t : Bool) (cur : List Nat), (cutF m r q t cur).1.length ≤ r.length + 1 ∧ ∀ p ∈ (cutF m r q t cur).1, p.length ≤ cur.length + r.length := by
  intro r
  induction r with
  | nil => intro q t cur; simp [cutF]
  | cons c r ih =>
    intro q t cur
    unfold cutF
    split
    · have := ih q false (cur ++ [c]); simp only [List.length_append, List.length_cons, List.length_nil] at this ⊢; exact ⟨by omega, fun p hp => by have := this.2 p hp; omega⟩
    · split
      · have := ih (!q) false (cur ++ [c]); simp only [List.length_append, List.length_cons, List.length_nil] at this ⊢; exact ⟨by omega, fun p hp => by have := this.2 p hp; omega⟩
      · split
        · have := ih q q (cur ++ [c]); simp only [List.length_append, List.length_cons, List.length_nil] at this ⊢; exact ⟨by omega, fun p hp => by have := this.2 p hp; omega⟩
        · split
          · have := ih q false []; simp only [List.length_cons, List.length_nil] at this ⊢
            refine ⟨by omega, fun p hp => ?_⟩
            rcases List.mem_cons.mp hp with rfl | hp
            · omega
            · have := this.2 p hp; omega
          · have := ih q false (cur ++ [c]); simp only [List.length_append, List.length_cons, List.length_nil] at this ⊢; exact ⟨by omega, fun p hp => by have := this.2 p hp; omega⟩
theorem cut_mid {l pre : List Nat} {b : Nat} (hb : b ≤ pre.length) (h : ∃ r, l = pre ++ r) : cutL l (some (b : Int)) (some (pre.length : Int)) = pre.drop b := by
  obtain ⟨r, rfl⟩ := h
  unfold cutL
  rw [sIx_nat, sIx_nat]
  have h1 : min b (pre ++ r).length = b := by simp; omega
  have h2 : min pre.length (pre ++ r).length = pre.length := by simp
  rw [h1, h2, List.drop_append_of_le_length hb, List.take_append_of_le_length (by simp)]
  exact List.take_of_length_le (by simp)
theorem cut_from {l : List Nat} {b : Nat} (hb : b ≤ l.length) : cutL l (some (b : Int)) none = l.drop b := by
  unfold cutL
  rw [sIx_nat]
  have h1 : min b l.length = b := by omega
  rw [h1]
  show (l.drop b).take (l.length - b) = _
  exact List.take_of_length_le (by simp)
theorem cut_loop {l : List Nat} {m : Nat} (hl : l.length < sizeLine) {Q : Fl → En → Prop} : ∀ (r pre : List Nat) (parts : List (List Nat)) (b : Nat) (q t : Bool) (x y : Sl), l = pre ++ r → b ≤ pre.length → parts.length ≤ pre.length →
    (∀ parts' b' q' t' x y, b' ≤ l.length → parts'.length ≤ l.length → parts' ++ [l.drop b'] = parts ++ (cutF m r q t (pre.drop b)).1 → q' = (cutF m r q t (pre.drop b)).2 → Q .nx [.dat (.str (T l)), .dat (.str (T [m])), .own (ts parts'), .dat (.int (b' : Nat)), .dat (.bool q'), .dat (.bool t'), x, y]) →
    Ok (forL (toT [6, 7]) L__cut_1 (pairs pre.length (sg r)) [.dat (.str (T l)), .dat (.str (T [m])), .own (ts parts), .dat (.int (b : Nat)), .dat (.bool q), .dat (.bool t), x, y]) Q := by
  intro r
  induction r with
  | nil =>
    intro pre parts b q t x y hl' hb hp k
    simp only [List.map_nil, pairs, ok_forL_nil]
    rw [List.append_nil] at hl'
    subst hl'
    exact k parts b q t x y hb hp rfl rfl
  | cons c r ih =>
    intro pre parts b q t x y hl' hb hp k
    have e2 : l = (pre ++ [c]) ++ r := by rw [hl']; simp
    have hlen : l.length = pre.length + r.length + 1 := by rw [hl']; simp; omega
    have hd : (pre ++ [c]).drop b = pre.drop b ++ [c] := List.drop_append_of_le_length hb
    have hs := sizeLine_eq
    have hlc : (pre ++ [c]).length = pre.length + 1 := by simp
    have go : ∀ (q2 t2 : Bool) (x y : Sl), cutF m (c :: r) q t (pre.drop b) = cutF m r q2 t2 (pre.drop b ++ [c]) →
        Ok (forL (toT [6, 7]) L__cut_1 (pairs (pre.length + 1) (sg r)) [.dat (.str (T l)), .dat (.str (T [m])), .own (ts parts), .dat (.int (b : Nat)), .dat (.bool q2), .dat (.bool t2), x, y]) Q := fun q2 t2 x y e => by
      rw [← hlc]
      refine ih (pre ++ [c]) parts b q2 t2 x y e2 (by omega) (by omega) fun p' b' q' t' x y h1 h2 h3 h4 => k p' b' q' t' x y h1 h2 ?_ ?_
      · rw [e, ← hd]; exact h3
      · rw [e, ← hd]; exact h4
    simp only [walkA, List.map_cons, pairs, ok_forL_cons]
    cases t with
    | true =>
      simp only [walkA, L__cut_1]
      exact go q false _ _ (by rw [cutF, if_pos rfl])
    | false =>
      simp only [walkA, L__cut_1]
      by_cases h1 : c = 34
      · subst h1
        simp only [walkA]
        exact go (!q) false _ _ (by rw [cutF]; simp)
      · have n1 : ¬ ([c] : List Nat) = [34] := fun z => h1 (List.cons.inj z).1
        simp only [walkA, n1]
        by_cases h2 : c = 92
        · subst h2
          simp only [walkA]
          exact go q q _ _ (by rw [cutF]; simp)
        · have n2 : ¬ ([c] : List Nat) = [92] := fun z => h2 (List.cons.inj z).1
          simp only [walkA, n2]
          by_cases h3 : c = m
          · subst h3
            cases q with
            | true =>
              simp only [walkA, Bool.not_true]
              exact go true false _ _ (by rw [cutF]; simp [h1, h2])
            | false =>
              simp only [walkA, T__cut_1, Bool.not_false, cut_mid hb ⟨c :: r, hl'⟩]
              refine ⟨by omega, by rw [List.length_map]; omega, ?_⟩
              have eb : ((pre.length : Nat) : Int) + 1 = ((pre.length + 1 : Nat) : Int) := by omega
              have ep : ts parts ++ [PyData.str (T (pre.drop b))] = ts (parts ++ [pre.drop b]) := by simp [ts]
              rw [eb, ep, ← hlc]
              refine ih (pre ++ [c]) (parts ++ [pre.drop b]) (pre ++ [c]).length false false _ _ e2 (Nat.le_refl _) (by simp; omega) fun p' b' q' t' x y h1' h2' h3' h4' => k p' b' q' t' x y h1' h2' ?_ ?_
              · rw [h3', List.drop_length, cutF]
                simp [h1, h2]
              · rw [h4', List.drop_length, cutF]
                simp [h1, h2]
          · have n3 : ¬ ([c] : List Nat) = [m] := fun z => h3 (List.cons.inj z).1
            simp only [walkA, n3]
            exact go q false _ _ (by rw [cutF]; simp [h1, h2, h3])
theorem cut_ok {l : List Nat} {m : Nat} (hl : l.length < sizeLine) {Q : Sl → En → Prop} (q : Q (.dat (if (cutF m l false false []).2 then .none else .list (ts (cutF m l false false []).1))) [.un, .un]) : Ok (S__cut [.dat (.str (T l)), .dat (.str (T [m]))]) Q := by
  have hs := sizeLine_eq
  unfold S__cut
  rw [ok_runF]
  refine ⟨rfl, ?_⟩
  simp only [walkA, Y__cut, T__cut_7, T__cut_6, T__cut_5, T__cut_4]
  refine ⟨by omega, ?_⟩
  refine cut_loop hl l [] [] 0 false false .un .un rfl (Nat.le_refl _) (Nat.le_refl _) fun p' b' q' t' x y h1 h2 h3 h4 => ?_
  simp only [walkA, T__cut_3, T__cut_2, cut_from h1]
  refine ⟨by omega, by rw [List.length_map]; omega, ?_⟩
  have ep : ts p' ++ [PyData.str (T (l.drop b'))] = ts (p' ++ [l.drop b']) := by simp [ts]
  rw [ep, h3, h4]
  cases hq : (cutF m l false false []).2 with
  | true =>
    rw [hq] at q
    simp only [walkA, List.drop_nil, hq] at q ⊢
    exact q
  | false =>
    rw [hq] at q
    simp only [walkA, List.drop_nil, hq] at q ⊢
    exact q
end ownanswer_k51_lists_and_joined_values
namespace ownanswer_k51_lists_and_joined_values
open PySem PySem.Spec L2 Fw
local macro_rules | `(tactic| simp only [walkA, $xs,*] $[$l:location]?) => `(tactic| simp only [ok_some, ok_none, okV_some, okV_none, ↓okV_if, ↓ok_if, ↓ok_ret, ↓ok_bnd, ↓ok_lft, ↓ok_bin, ↓ok_una, ↓ok_binL, ↓ok_unaL, ↓ok_mny, ↓ok_rdD, ↓ok_rdO, ↓ok_rdA, ↓ok_toB, ↓ok_sAnd, ↓ok_sOr, ↓ok_sNot, ↓ok_vAnd, ↓ok_vOr, ↓ok_sIf, ↓ok_chn, ↓ok_sNil, ↓ok_sCons, ↓ok_dTup, ↓ok_dLst, ↓ok_m0S, ↓ok_m1S, ↓ok_m1L, ↓ok_ixO, ↓ok_sPart, ↓ok_sSl, ↓ok_tupO, ↓ok_sItems, ↓ok_sScr, ↓ok_sEnum, ↓ok_sRng1, ↓ok_sRng2, ↓ok_seqS, ↓ok_nxt, ↓ok_brkS, ↓ok_cntS, ↓ok_retN, ↓ok_drpS, ↓ok_asg, ↓ok_asgL, ↓ok_asgG, ↓ok_augS, ↓ok_ifS, ↓ok_retD, ↓ok_retL, ↓ok_retO, ↓ok_appO, ↓ok_setO, ↓ok_extO, ↓ok_popS, ↓ok_forS, ↓ok_forL_nil, ↓ok_lcS, ↓ok_lcL_nil, ↓okV_callD, ↓okV_callV, ↓ok_callM, ↓ok_asD, ↓ok_asL, ↓ok_callS, ↓ok_runF, ↓ok_rplS, ↓ok_tupA, ↓ok_strM, ↓ok_chn3, own?, toN, toT, toNs, wipE, bakE, stp_nx, stp_ct, stp_bk, stp_rt, Fw.collect, ok_yesS, List.getElem?_cons_zero, List.getElem?_cons_succ, List.set_cons_zero, List.set_cons_succ, List.map_cons, List.map_nil, List.length_cons, List.length_nil, List.cons_append, List.nil_append, List.replicate_succ, List.replicate_zero, Nat.reduceAdd, Nat.reduceSub, Nat.reduceLeDiff, Nat.reduceLT, Nat.reduceEqDiff, Int.reduceLT, Int.reduceLE, Int.reduceNeg, Int.reducePow, Int.reduceEq, Option.isSome_some, Option.map_some, Option.map_none, true_and, and_true, if_true, if_false, ite_true, ite_false, Bool.false_eq_true, reduceIte, reduceCtorEq, gAdd_ii, gAdd_ss, gAdd_tt, gSub_ii, gMul_ii, gDiv_ii, gMod_ii, gNeg_i, gLt_ii, gGt_ii, gGe_ii, gLe_ii, eqv_ii, eqv_ss, eqv_bb, eqv_nn, eqv_ni, eqv_in, eqv_ns, eqv_sn, eqv_nb, eqv_bn, eqv_is, eqv_si, eqv_nt, eqv_tn, eqv_nl, eqv_ln, eqv_tt, eqv_ll, eqvA_nn, eqvA_cc, eqvA_nc, eqvA_cn, gEq_ii, gEq_ss, gEq_bb, gEq_nn, gEq_in, gEq_ni, gEq_sn, gEq_ns, gEq_si, gEq_is, gNe_ii, gNe_ss, gNe_bb, gNe_nn, gNot_b, gIsN_n, gIsN_i, gIsN_b, gIsN_s, gIsN_t, gIsN_l, gNotN_n, gNotN_i, gNotN_b, gNotN_s, gNotN_t, gNotN_l, gIx_l, gIx_t, gIx_s, gLen_s, gLen_l, gLen_t, gAbs_i, gInt_i, gInt_b, gInt_s, gOrd_sign, gDivmod_ii, gStr_i, gStr_s, gTuple_l, gTuple_t, gStrip_s, gLstrip_s, gSplit_s, gPartition_s, gJoin_m, gCat_ll, gSl_s, gSl_t, gSl_l, itemsOf_l, itemsOf_t, itemsOf_s, ofString_inj, cMul_r, cMul_l, ixN_lit, atI_lit, atI_m1, cast_lit, String.reduceEq, decide_true, decide_false, Int.reduceSub, Int.reduceAdd, Int.reduceMul, Int.reduceToNat, T_toList, T_len, T_app, T_inj, T_sign, T_cut, T_signs, T_strip, T_empty, gIn_T, gNin_T, gLjust_T, lt_0, lt_1, lt_2, lt_3, lt_4, lt_5, lt_6, lt_7, lt_8, lt_9, lt_10, lt_11, lt_12, lt_13, lt_14, lt_15, lt_16, lt_17, lt_18, lt_19, lt_20, lt_21, $xs,*] $[$l:location]?)
local macro_rules | `(tactic| simp only [walkA] $[$l:location]?) => `(tactic| simp only [ok_some, ok_none, okV_some, okV_none, ↓okV_if, ↓ok_if, ↓ok_ret, ↓ok_bnd, ↓ok_lft, ↓ok_bin, ↓ok_una, ↓ok_binL, ↓ok_unaL, ↓ok_mny, ↓ok_rdD, ↓ok_rdO, ↓ok_rdA, ↓ok_toB, ↓ok_sAnd, ↓ok_sOr, ↓ok_sNot, ↓ok_vAnd, ↓ok_vOr, ↓ok_sIf, ↓ok_chn, ↓ok_sNil, ↓ok_sCons, ↓ok_dTup, ↓ok_dLst, ↓ok_m0S, ↓ok_m1S, ↓ok_m1L, ↓ok_ixO, ↓ok_sPart, ↓ok_sSl, ↓ok_tupO, ↓ok_sItems, ↓ok_sScr, ↓ok_sEnum, ↓ok_sRng1, ↓ok_sRng2, ↓ok_seqS, ↓ok_nxt, ↓ok_brkS, ↓ok_cntS, ↓ok_retN, ↓ok_drpS, ↓ok_asg, ↓ok_asgL, ↓ok_asgG, ↓ok_augS, ↓ok_ifS, ↓ok_retD, ↓ok_retL, ↓ok_retO, ↓ok_appO, ↓ok_setO, ↓ok_extO, ↓ok_popS, ↓ok_forS, ↓ok_forL_nil, ↓ok_lcS, ↓ok_lcL_nil, ↓okV_callD, ↓okV_callV, ↓ok_callM, ↓ok_asD, ↓ok_asL, ↓ok_callS, ↓ok_runF, ↓ok_rplS, ↓ok_tupA, ↓ok_strM, ↓ok_chn3, own?, toN, toT, toNs, wipE, bakE, stp_nx, stp_ct, stp_bk, stp_rt, Fw.collect, ok_yesS, List.getElem?_cons_zero, List.getElem?_cons_succ, List.set_cons_zero, List.set_cons_succ, List.map_cons, List.map_nil, List.length_cons, List.length_nil, List.cons_append, List.nil_append, List.replicate_succ, List.replicate_zero, Nat.reduceAdd, Nat.reduceSub, Nat.reduceLeDiff, Nat.reduceLT, Nat.reduceEqDiff, Int.reduceLT, Int.reduceLE, Int.reduceNeg, Int.reducePow, Int.reduceEq, Option.isSome_some, Option.map_some, Option.map_none, true_and, and_true, if_true, if_false, ite_true, ite_false, Bool.false_eq_true, reduceIte, reduceCtorEq, gAdd_ii, gAdd_ss, gAdd_tt, gSub_ii, gMul_ii, gDiv_ii, gMod_ii, gNeg_i, gLt_ii, gGt_ii, gGe_ii, gLe_ii, eqv_ii, eqv_ss, eqv_bb, eqv_nn, eqv_ni, eqv_in, eqv_ns, eqv_sn, eqv_nb, eqv_bn, eqv_is, eqv_si, eqv_nt, eqv_tn, eqv_nl, eqv_ln, eqv_tt, eqv_ll, eqvA_nn, eqvA_cc, eqvA_nc, eqvA_cn, gEq_ii, gEq_ss, gEq_bb, gEq_nn, gEq_in, gEq_ni, gEq_sn, gEq_ns, gEq_si, gEq_is, gNe_ii, gNe_ss, gNe_bb, gNe_nn, gNot_b, gIsN_n, gIsN_i, gIsN_b, gIsN_s, gIsN_t, gIsN_l, gNotN_n, gNotN_i, gNotN_b, gNotN_s, gNotN_t, gNotN_l, gIx_l, gIx_t, gIx_s, gLen_s, gLen_l, gLen_t, gAbs_i, gInt_i, gInt_b, gInt_s, gOrd_sign, gDivmod_ii, gStr_i, gStr_s, gTuple_l, gTuple_t, gStrip_s, gLstrip_s, gSplit_s, gPartition_s, gJoin_m, gCat_ll, gSl_s, gSl_t, gSl_l, itemsOf_l, itemsOf_t, itemsOf_s, ofString_inj, cMul_r, cMul_l, ixN_lit, atI_lit, atI_m1, cast_lit, String.reduceEq, decide_true, decide_false, Int.reduceSub, Int.reduceAdd, Int.reduceMul, Int.reduceToNat, T_toList, T_len, T_app, T_inj, T_sign, T_cut, T_signs, T_strip, T_empty, gIn_T, gNin_T, gLjust_T, lt_0, lt_1, lt_2, lt_3, lt_4, lt_5, lt_6, lt_7, lt_8, lt_9, lt_10, lt_11, lt_12, lt_13, lt_14, lt_15, lt_16, lt_17, lt_18, lt_19, lt_20, lt_21] $[$l:location]?)

abbrev wW : List Nat := [32, 9]
theorem wh_test_head {r : List Nat} (hl : r.length ≤ sizeLine) {Q : Bool → En → Prop} {rest : En} (q : Q (match r with | c :: _ => decide (c ∈ wW) | [] => false) (.dat (.str (T r)) :: rest)) :
    Ok (sAnd (toB (bin (rdD 0) (ret (.str "")) gNe)) (toB (bin (bin (rdD 0) (ret (.int 0)) gIx) (ret (.str " \t")) gIn)) (.dat (.str (T r)) :: rest)) Q := by
  cases r with
  | nil =>
    simp only [walkA, Bool.not_true]
    exact q
  | cons c r =>
    simp only [walkA, List.cons_ne_nil, Bool.not_false]
    exact ⟨by simpa using hl, q⟩
theorem wh_test_last {r : List Nat} (hl : r.length ≤ sizeLine) {Q : Bool → En → Prop} {rest : En} (q : Q (match r.getLast? with | some c => decide (c ∈ wW) | none => false) (.dat (.str (T r)) :: rest)) :
    Ok (sAnd (toB (bin (rdD 0) (ret (.str "")) gNe)) (toB (bin (bin (rdD 0) (una (ret (.int 1)) gNeg) gIx) (ret (.str " \t")) gIn)) (.dat (.str (T r)) :: rest)) Q := by
  cases h : r.getLast? with
  | none =>
    rw [List.getLast?_eq_none_iff] at h
    subst h
    simp only [walkA, Bool.not_true]
    exact q
  | some c =>
    have hne : r ≠ [] := fun z => by rw [z] at h; cases h
    rw [h] at q
    simp only [walkA, hne, Bool.not_false, h]
    exact ⟨by simpa using hl, q⟩
theorem cut_tail {l : List Nat} : cutL l (some 1) none = l.tail := by
  cases l with
  | nil => rfl
  | cons c l =>
    have := @cut_from (c :: l) 1 (by simp)
    rw [show ((1 : Nat) : Int) = 1 from rfl] at this
    rw [this]; rfl
theorem cut_init {l : List Nat} : cutL l none (some (-1)) = l.dropLast := by
  unfold cutL
  have h1 : HT.sIx l.length 0 none = 0 := rfl
  have h2 : HT.sIx l.length l.length (some (-1)) = l.length - 1 := by
    unfold HT.sIx
    show (if (-1 : Int) < 0 then _ else _) = _
    rw [if_pos (by omega)]
    omega
  rw [h1, h2, List.drop_zero, List.dropLast_eq_take]
  rfl
theorem ltrim_ok {l : List Nat} (hl : l.length < sizeLine) {Q : Sl → En → Prop} (q : Q (.dat (.str (T (trimL wW l)))) [.un]) : Ok (S__law_trimmed [.dat (.str (T l))]) Q := by
  have hs := sizeLine_eq
  unfold S__law_trimmed
  rw [ok_runF]
  refine ⟨rfl, ?_⟩
  simp only [Y__law_trimmed, ↓ok_seqS]
  refine whS_inv (fun k E => ∃ r, E = [.dat (.str (T r))] ∧ r.length = k ∧ r.length ≤ l.length ∧ r.dropWhile (fun c => decide (c ∈ wW)) = l.dropWhile fun c => decide (c ∈ wW)) l.length _ ⟨l, by simp only [own?, toN, toT, toNs, wipE, bakE, stp_nx, stp_ct, stp_bk, stp_rt, Fw.collect, ok_yesS, List.getElem?_cons_zero, List.getElem?_cons_succ, List.set_cons_zero, List.set_cons_succ, List.map_cons, List.map_nil, List.length_cons, List.length_nil, List.cons_append, List.nil_append, List.replicate_succ, List.replicate_zero, Nat.reduceAdd, Nat.reduceSub, Nat.reduceLeDiff, Nat.reduceLT, Nat.reduceEqDiff, Int.reduceLT, Int.reduceLE, Int.reduceNeg, Int.reducePow, Int.reduceEq, Option.isSome_some, Option.map_some, Option.map_none, true_and, and_true, if_true, if_false, ite_true, ite_false, Bool.false_eq_true, reduceIte, reduceCtorEq], rfl, Nat.le_refl _, rfl⟩ (by omega) ?_
  rintro k E ⟨r, rfl, hk, hle, hd⟩
  refine wh_test_head (by omega) ?_
  cases r with
  | nil =>
    simp only [own?, toN, toT, toNs, wipE, bakE, stp_nx, stp_ct, stp_bk, stp_rt, Fw.collect, ok_yesS, List.getElem?_cons_zero, List.getElem?_cons_succ, List.set_cons_zero, List.set_cons_succ, List.map_cons, List.map_nil, List.length_cons, List.length_nil, List.cons_append, List.nil_append, List.replicate_succ, List.replicate_zero, Nat.reduceAdd, Nat.reduceSub, Nat.reduceLeDiff, Nat.reduceLT, Nat.reduceEqDiff, Int.reduceLT, Int.reduceLE, Int.reduceNeg, Int.reducePow, Int.reduceEq, Option.isSome_some, Option.map_some, Option.map_none, true_and, and_true, if_true, if_false, ite_true, ite_false, Bool.false_eq_true, reduceIte, reduceCtorEq]
    rw [List.dropWhile_nil] at hd
    simp only [T__law_trimmed_2, ↓ok_seqS]
    refine whS_inv (fun k E => E = [.dat (.str (T []))]) 0 _ rfl (by omega) ?_
    rintro k E rfl
    refine wh_test_last (by simp) ?_
    simp only [walkA, T__law_trimmed_1, List.getLast?_nil]
    have : trimL wW l = [] := by unfold trimL; rw [← hd]; rfl
    rw [this] at q
    exact q
  | cons c r =>
    by_cases hc : c ∈ wW
    · simp only [walkA, L__law_trimmed_1, hc, cut_tail, List.tail_cons, stp]
      simp only [List.length_cons] at hk hle
      rw [List.dropWhile_cons, if_pos (decide_eq_true hc)] at hd
      exact ⟨by simpa using (by omega : r.length + 1 ≤ sizeLine), r.length, by omega, r, rfl, rfl, by omega, hd⟩
    · simp only [hc, own?, toN, toT, toNs, wipE, bakE, stp_nx, stp_ct, stp_bk, stp_rt, Fw.collect, ok_yesS, List.getElem?_cons_zero, List.getElem?_cons_succ, List.set_cons_zero, List.set_cons_succ, List.map_cons, List.map_nil, List.length_cons, List.length_nil, List.cons_append, List.nil_append, List.replicate_succ, List.replicate_zero, Nat.reduceAdd, Nat.reduceSub, Nat.reduceLeDiff, Nat.reduceLT, Nat.reduceEqDiff, Int.reduceLT, Int.reduceLE, Int.reduceNeg, Int.reducePow, Int.reduceEq, Option.isSome_some, Option.map_some, Option.map_none, true_and, and_true, if_true, if_false, ite_true, ite_false, Bool.false_eq_true, reduceIte, reduceCtorEq, decide_false]
      rw [List.dropWhile_cons, if_neg (by simpa using hc)] at hd
      generalize hr : c :: r = r0 at *
      simp only [T__law_trimmed_2, ↓ok_seqS]
      refine whS_inv (fun k E => ∃ r, E = [.dat (.str (T r))] ∧ r.length = k ∧ r.length ≤ l.length ∧ trimR wW r = trimR wW r0) r0.length _ ⟨r0, rfl, rfl, hle, rfl⟩ (by omega) ?_
      rintro k2 E ⟨r1, rfl, hk2, hle2, hd2⟩
      refine wh_test_last (by omega) ?_
      have fin : ∀ r1 : List Nat, trimR wW r1 = trimR wW r0 → trimR wW r1 = r1 → T (trimL wW l) = T r1 := fun r1 h1 h2 => by
        unfold trimL; rw [← hd, ← h1, h2]
      cases h : r1.getLast? with
      | none =>
        rw [List.getLast?_eq_none_iff] at h
        subst h
        simp only [walkA, T__law_trimmed_1]
        rw [fin [] hd2 rfl] at q
        exact q
      | some d =>
        have e1 : r1 = r1.dropLast ++ [d] := by
          obtain ⟨ys, rfl⟩ := List.getLast?_eq_some_iff.mp h
          simp
        by_cases hd' : d ∈ wW
        · simp only [walkA, L__law_trimmed_2, hd', cut_init, stp]
          have hl1 : r1.dropLast.length + 1 = r1.length := by conv => rhs; rw [e1]
                                                              simp
          refine ⟨by simpa using (by omega : r1.length ≤ sizeLine), r1.dropLast.length, by omega, r1.dropLast, rfl, rfl, by omega, ?_⟩
          rw [← hd2]
          conv => rhs; rw [e1]
          unfold trimR
          rw [List.reverse_append, List.reverse_singleton, List.singleton_append, List.dropWhile_cons, if_pos (decide_eq_true hd')]
        · simp only [walkA, T__law_trimmed_1, hd']
          have : trimR wW r1 = r1 := by
            rw [e1]
            unfold trimR
            rw [List.reverse_append, List.reverse_singleton, List.singleton_append, List.dropWhile_cons, if_neg (by simpa using hd')]
            simp
          rw [fin r1 hd2 this] at q
          exact q
theorem trimR_len (l : List Nat) : (trimR wW l).length ≤ l.length := by
  unfold trimR
  rw [List.length_reverse]
  have := (List.dropWhile_sublist (l := l.reverse) fun c => decide (c ∈ wW)).length_le
  simpa using this
theorem trimL_len (l : List Nat) : (trimL wW l).length ≤ l.length := by
  unfold trimL
  have h1 := trimR_len (l.dropWhile fun c => decide (c ∈ wW))
  have := (List.dropWhile_sublist (l := l) fun c => decide (c ∈ wW)).length_le
  omega
abbrev CU (l : List Nat) := cutF 44 l false false []
theorem lsplit_ok {l : List Nat} (hl : l.length < 16000000) {Q : Sl → En → Prop}
    (q : Q (if (CU l).2 then .dat .none else .own (ts (((CU l).1.map (trimL wW)).filter fun p => decide (p ≠ [])))) [.un]) : Ok (S__law_split [.dat (.str (T l))]) Q := by
  have hs := sizeLine_eq
  unfold S__law_split
  rw [ok_runF]
  refine ⟨rfl, ?_⟩
  simp only [Y__law_split, T__law_split_12, T__law_split_11, T__law_split_10, T__law_split_9, ↓ok_seqS, ↓ok_asgL, ↓ok_asg, ↓ok_dLst, ↓ok_sNil, ↓ok_ret, own?, toN, toT, toNs, wipE, bakE, stp_nx, stp_ct, stp_bk, stp_rt, Fw.collect, ok_yesS, List.getElem?_cons_zero, List.getElem?_cons_succ, List.set_cons_zero, List.set_cons_succ, List.map_cons, List.map_nil, List.length_cons, List.length_nil, List.cons_append, List.nil_append, List.replicate_succ, List.replicate_zero, Nat.reduceAdd, Nat.reduceSub, Nat.reduceLeDiff, Nat.reduceLT, Nat.reduceEqDiff, Int.reduceLT, Int.reduceLE, Int.reduceNeg, Int.reducePow, Int.reduceEq, Option.isSome_some, Option.map_some, Option.map_none, true_and, and_true, if_true, if_false, ite_true, ite_false, Bool.false_eq_true, reduceIte, reduceCtorEq, lt_0, lt_1, lt_2, lt_3, lt_4, lt_5, lt_6, lt_7, lt_8, lt_9, lt_10, lt_11, lt_12, lt_13, lt_14, lt_15, lt_16, lt_17, lt_18, lt_19, lt_20, lt_21]
  refine ⟨by omega, ?_⟩
  refine whS_inv (fun k E => ∃ (at' : Nat) (found : List (List Nat)) (piece : List Nat) (i : Bool) (x : Sl), E = [.dat (.str (T l)), .own (ts (found.map (trimL wW))), .dat (.str (T piece)), .dat (.bool i), .dat (.int (at' : Nat)), x, .un] ∧ k = l.length - at' ∧ at' ≤ l.length ∧
    found.length ≤ at' ∧ piece.length ≤ at' ∧ found ++ (cutF 44 (l.drop at') i false piece).1 = (CU l).1 ∧ (cutF 44 (l.drop at') i false piece).2 = (CU l).2) l.length _ ⟨0, [], [], false, .un, rfl, by simp, by omega, by simp, by simp, rfl, rfl⟩ (by omega) ?_
  rintro k E ⟨at', found, piece, i, x, rfl, hk, hat, hf, hp, e1, e2⟩
  simp only [walkA]
  refine ⟨by omega, ?_⟩
  by_cases hlt : at' < l.length
  · have hi : ((at' : Nat) : Int) < (l.length : Nat) := by omega
    have ei : ((at' : Nat) : Int) + 1 = ((at' + 1 : Nat) : Int) := by omega
    simp only [walkA, hi, L__law_split_1, Fw.atI_nat, List.getElem?_eq_getElem hlt]
    have hd : l.drop at' = l[at'] :: l.drop (at' + 1) := List.drop_eq_getElem_cons hlt
    rw [hd] at e1 e2
    generalize hc : l[at'] = c at *
    refine ⟨by omega, ?_⟩
    by_cases h1 : c = 44 ∧ i = false
    · obtain ⟨rfl, rfl⟩ := h1
      simp only [walkA, T__law_split_5, Bool.not_false]
      refine ltrim_ok (by omega) ?_
      simp only [walkA, T__law_split_1, T__law_split_4, stp, ei]
      rw [cutF] at e1 e2
      simp only [if_false, if_true, and_true, Bool.false_eq_true, show ¬ (44 = 34) by decide, show ¬ (44 = 92) by decide] at e1 e2
      refine ⟨by simp only [List.length_map]; omega, l.length - (at' + 1), by omega, at' + 1, found ++ [piece], [], false, .dat (.str (T [44])), by simp [ts], rfl, by omega, by simp; omega, by simp, ?_, e2⟩
      rw [List.append_assoc]; exact e1
    · have fin : ∀ (i' : Bool) (n : Nat) (pc : List Nat), at' + 1 ≤ n → n ≤ l.length → pc.length ≤ n → cutF 44 (c :: l.drop (at' + 1)) i false piece = cutF 44 (l.drop n) i' false pc →
          ∃ j, j < k ∧ ∃ (at' : Nat) (found' : List (List Nat)) (piece : List Nat) (i : Bool) (x : Sl), ([.dat (.str (T l)), .own (ts (found.map (trimL wW))), .dat (.str (T pc)), .dat (.bool i'), .dat (.int (n : Nat)), .dat (.str (T [c])), .un] : En) = [.dat (.str (T l)), .own (ts (found'.map (trimL wW))), .dat (.str (T piece)), .dat (.bool i), .dat (.int (at' : Nat)), x, .un] ∧ j = l.length - at' ∧ at' ≤ l.length ∧
            found'.length ≤ at' ∧ piece.length ≤ at' ∧ found' ++ (cutF 44 (l.drop at') i false piece).1 = (CU l).1 ∧ (cutF 44 (l.drop at') i false piece).2 = (CU l).2 := fun i' n pc h2 h3 h4 h5 => by
        rw [h5] at e1 e2
        exact ⟨l.length - n, by omega, n, found, pc, i', _, rfl, rfl, h3, by omega, h4, e1, e2⟩
      have e3 : ((decide ([c] = [44]) && !i) = false) := by
        cases i with
        | true => simp
        | false =>
          have : c ≠ 44 := fun z => h1 ⟨z, rfl⟩
          simp [this]
      have step : Ok (sAnd (toB (bin (rdD 5) (ret (.str ",")) gEq)) (sNot (toB (rdD 3))) [.dat (.str (T l)), .own (ts (found.map (trimL wW))), .dat (.str (T piece)), .dat (.bool i), .dat (.int (at' : Nat)), .dat (.str (T [c])), .un]) fun b E => b = false ∧ E = [.dat (.str (T l)), .own (ts (found.map (trimL wW))), .dat (.str (T piece)), .dat (.bool i), .dat (.int (at' : Nat)), .dat (.str (T [c])), .un] := by
        simp only [walkA]
        by_cases hc4 : c = 44
        · have : i = true := by cases i with
            | true => rfl
            | false => exact absurd ⟨hc4, rfl⟩ h1
          subst this hc4
          simp
        · simp [hc4]
      simp only [T__law_split_5, ↓ok_seqS, ↓ok_ifS]
      refine step.imp ?_
      rintro b E ⟨rfl, rfl⟩
      simp only [walkA, T__law_split_3, T__law_split_4]
      refine ⟨by omega, ?_⟩
      have hcm : cutF 44 (c :: l.drop (at' + 1)) i false piece = if c = 34 then cutF 44 (l.drop (at' + 1)) (!i) false (piece ++ [c]) else if c = 92 then cutF 44 (l.drop (at' + 1)) i i (piece ++ [c]) else cutF 44 (l.drop (at' + 1)) i false (piece ++ [c]) := by
        rw [cutF]
        simp only [Bool.false_eq_true, if_false, h1]
      have hpl : (piece ++ [c]).length ≤ at' + 1 := by simp; omega
      by_cases h34 : c = 34
      · subst h34
        cases i <;> simp only [walkA, stp, ei, Bool.not_false, Bool.not_true] <;> exact fin _ _ _ (Nat.le_refl _) (by omega) hpl (by rw [hcm]; rfl)
      · have n34 : ¬ ([c] : List Nat) = [34] := fun z => h34 (List.cons.inj z).1
        rw [if_neg h34] at hcm
        by_cases h92 : c = 92
        · subst h92
          rw [if_pos rfl] at hcm
          cases i with
          | false =>
            simp only [walkA, stp, ei]
            exact fin _ _ _ (Nat.le_refl _) (by omega) hpl hcm
          | true =>
            simp only [walkA, ei]
            refine ⟨by omega, ?_⟩
            by_cases hn : at' + 1 < l.length
            · have hi2 : ((at' + 1 : Nat) : Int) < (l.length : Nat) := by omega
              have ei2 : ((at' + 1 : Nat) : Int) + 1 = ((at' + 2 : Nat) : Int) := by omega
              simp only [walkA, hi2, T__law_split_2, Fw.atI_nat, List.getElem?_eq_getElem hn, stp, ei2]
              have hd2 : l.drop (at' + 1) = l[at' + 1] :: l.drop (at' + 2) := List.drop_eq_getElem_cons hn
              refine ⟨by omega, by simp only [List.length_append, List.length_cons, List.length_nil] at hpl ⊢; omega, fin true (at' + 2) _ (by omega) (by omega) ?_ ?_⟩
              · simp only [List.length_append, List.length_cons, List.length_nil] at hpl ⊢; omega
              · rw [hcm, hd2, cutF, if_pos rfl]
            · have hi2 : ¬ ((at' + 1 : Nat) : Int) < (l.length : Nat) := by omega
              simp only [walkA, hi2, stp, ei]
              refine fin true (at' + 1) _ (Nat.le_refl _) (by omega) hpl ?_
              rw [hcm, List.drop_eq_nil_of_le (by omega)]
              rfl
        · have n92 : ¬ ([c] : List Nat) = [92] := fun z => h92 (List.cons.inj z).1
          rw [if_neg h92] at hcm
          cases i <;> simp only [walkA, n34, n92, stp, ei] <;> exact fin _ _ _ (Nat.le_refl _) (by omega) hpl hcm
  · have hi : ¬ ((at' : Nat) : Int) < (l.length : Nat) := by omega
    simp only [walkA, hi, T__law_split_8]
    refine ltrim_ok (by omega) ?_
    simp only [walkA]
    refine ⟨by simp only [List.length_map]; omega, ?_⟩
    have hd : l.drop at' = [] := List.drop_eq_nil_of_le (by omega)
    rw [hd] at e1 e2
    have e1 : found ++ [piece] = (CU l).1 := e1
    have e2 : i = (CU l).2 := e2
    have ep : ts (found.map (trimL wW)) ++ [PyData.str (T (trimL wW piece))] = ts ((CU l).1.map (trimL wW)) := by
      rw [← e1]; simp [ts]
    rw [ep, e2]
    cases hq : (CU l).2 with
    | true =>
      rw [hq] at q
      simp only [walkA, T__law_split_7]
      exact q
    | false =>
      rw [hq] at q
      have hcl : (CU l).1.length ≤ l.length + 1 := (cutF_len 44 l false false []).1
      simp only [walkA, T__law_split_7, T__law_split_6]
      refine ⟨by simp only [List.length_map]; omega, ?_⟩
      rw [show ts ((CU l).1.map (trimL wW)) = ((CU l).1.map (trimL wW)).map fun l => .str (T l) from rfl]
      refine lcL_map (fun l => .str (T l)) (fun l => .str (T l)) (fun p => decide (p ≠ [])) _ _ (fun p hp => ?_) ?_
      · unfold turn
        simp only [walkA, C__law_split_1, C__law_split_2]
        by_cases hp0 : p = []
        · simp [hp0, ok_some, ok_none, okV_some, okV_none, ↓okV_if, ↓ok_if, ↓ok_ret, ↓ok_bnd, ↓ok_lft, ↓ok_bin, ↓ok_una, ↓ok_binL, ↓ok_unaL, ↓ok_mny, ↓ok_rdD, ↓ok_rdO, ↓ok_rdA, ↓ok_toB, ↓ok_sAnd, ↓ok_sOr, ↓ok_sNot, ↓ok_vAnd, ↓ok_vOr, ↓ok_sIf, ↓ok_chn, ↓ok_sNil, ↓ok_sCons, ↓ok_dTup, ↓ok_dLst, ↓ok_m0S, ↓ok_m1S, ↓ok_m1L, ↓ok_ixO, ↓ok_sPart, ↓ok_sSl, ↓ok_tupO, ↓ok_sItems, ↓ok_sScr, ↓ok_sEnum, ↓ok_sRng1, ↓ok_sRng2, ↓ok_seqS, ↓ok_nxt, ↓ok_brkS, ↓ok_cntS, ↓ok_retN, ↓ok_drpS, ↓ok_asg, ↓ok_asgL, ↓ok_asgG, ↓ok_augS, ↓ok_ifS, ↓ok_retD, ↓ok_retL, ↓ok_retO, ↓ok_appO, ↓ok_setO, ↓ok_extO, ↓ok_popS, ↓ok_forS, ↓ok_forL_nil, ↓ok_lcS, ↓ok_lcL_nil, ↓okV_callD, ↓okV_callV, ↓ok_callM, ↓ok_asD, ↓ok_asL, ↓ok_callS, ↓ok_runF, ↓ok_rplS, ↓ok_tupA, ↓ok_strM, ↓ok_chn3, own?, toN, toT, toNs, wipE, bakE, stp_nx, stp_ct, stp_bk, stp_rt, Fw.collect, ok_yesS, List.getElem?_cons_zero, List.getElem?_cons_succ, List.set_cons_zero, List.set_cons_succ, List.map_cons, List.map_nil, List.length_cons, List.length_nil, List.cons_append, List.nil_append, List.replicate_succ, List.replicate_zero, Nat.reduceAdd, Nat.reduceSub, Nat.reduceLeDiff, Nat.reduceLT, Nat.reduceEqDiff, Int.reduceLT, Int.reduceLE, Int.reduceNeg, Int.reducePow, Int.reduceEq, Option.isSome_some, Option.map_some, Option.map_none, true_and, and_true, if_true, if_false, ite_true, ite_false, Bool.false_eq_true, reduceIte, reduceCtorEq, gAdd_ii, gAdd_ss, gAdd_tt, gSub_ii, gMul_ii, gDiv_ii, gMod_ii, gNeg_i, gLt_ii, gGt_ii, gGe_ii, gLe_ii, eqv_ii, eqv_ss, eqv_bb, eqv_nn, eqv_ni, eqv_in, eqv_ns, eqv_sn, eqv_nb, eqv_bn, eqv_is, eqv_si, eqv_nt, eqv_tn, eqv_nl, eqv_ln, eqv_tt, eqv_ll, eqvA_nn, eqvA_cc, eqvA_nc, eqvA_cn, gEq_ii, gEq_ss, gEq_bb, gEq_nn, gEq_in, gEq_ni, gEq_sn, gEq_ns, gEq_si, gEq_is, gNe_ii, gNe_ss, gNe_bb, gNe_nn, gNot_b, gIsN_n, gIsN_i, gIsN_b, gIsN_s, gIsN_t, gIsN_l, gNotN_n, gNotN_i, gNotN_b, gNotN_s, gNotN_t, gNotN_l, gIx_l, gIx_t, gIx_s, gLen_s, gLen_l, gLen_t, gAbs_i, gInt_i, gInt_b, gInt_s, gOrd_sign, gDivmod_ii, gStr_i, gStr_s, gTuple_l, gTuple_t, gStrip_s, gLstrip_s, gSplit_s, gPartition_s, gJoin_m, gCat_ll, gSl_s, gSl_t, gSl_l, itemsOf_l, itemsOf_t, itemsOf_s, ofString_inj, cMul_r, cMul_l, ixN_lit, atI_lit, atI_m1, cast_lit, String.reduceEq, decide_true, decide_false, Int.reduceSub, Int.reduceAdd, Int.reduceMul, Int.reduceToNat, T_toList, T_len, T_app, T_inj, T_sign, T_cut, T_signs, T_strip, T_empty, gIn_T, gNin_T, gLjust_T, lt_0, lt_1, lt_2, lt_3, lt_4, lt_5, lt_6, lt_7, lt_8, lt_9, lt_10, lt_11, lt_12, lt_13, lt_14, lt_15, lt_16, lt_17, lt_18, lt_19, lt_20, lt_21]
        · simp [hp0, ok_some, ok_none, okV_some, okV_none, ↓okV_if, ↓ok_if, ↓ok_ret, ↓ok_bnd, ↓ok_lft, ↓ok_bin, ↓ok_una, ↓ok_binL, ↓ok_unaL, ↓ok_mny, ↓ok_rdD, ↓ok_rdO, ↓ok_rdA, ↓ok_toB, ↓ok_sAnd, ↓ok_sOr, ↓ok_sNot, ↓ok_vAnd, ↓ok_vOr, ↓ok_sIf, ↓ok_chn, ↓ok_sNil, ↓ok_sCons, ↓ok_dTup, ↓ok_dLst, ↓ok_m0S, ↓ok_m1S, ↓ok_m1L, ↓ok_ixO, ↓ok_sPart, ↓ok_sSl, ↓ok_tupO, ↓ok_sItems, ↓ok_sScr, ↓ok_sEnum, ↓ok_sRng1, ↓ok_sRng2, ↓ok_seqS, ↓ok_nxt, ↓ok_brkS, ↓ok_cntS, ↓ok_retN, ↓ok_drpS, ↓ok_asg, ↓ok_asgL, ↓ok_asgG, ↓ok_augS, ↓ok_ifS, ↓ok_retD, ↓ok_retL, ↓ok_retO, ↓ok_appO, ↓ok_setO, ↓ok_extO, ↓ok_popS, ↓ok_forS, ↓ok_forL_nil, ↓ok_lcS, ↓ok_lcL_nil, ↓okV_callD, ↓okV_callV, ↓ok_callM, ↓ok_asD, ↓ok_asL, ↓ok_callS, ↓ok_runF, ↓ok_rplS, ↓ok_tupA, ↓ok_strM, ↓ok_chn3, own?, toN, toT, toNs, wipE, bakE, stp_nx, stp_ct, stp_bk, stp_rt, Fw.collect, ok_yesS, List.getElem?_cons_zero, List.getElem?_cons_succ, List.set_cons_zero, List.set_cons_succ, List.map_cons, List.map_nil, List.length_cons, List.length_nil, List.cons_append, List.nil_append, List.replicate_succ, List.replicate_zero, Nat.reduceAdd, Nat.reduceSub, Nat.reduceLeDiff, Nat.reduceLT, Nat.reduceEqDiff, Int.reduceLT, Int.reduceLE, Int.reduceNeg, Int.reducePow, Int.reduceEq, Option.isSome_some, Option.map_some, Option.map_none, true_and, and_true, if_true, if_false, ite_true, ite_false, Bool.false_eq_true, reduceIte, reduceCtorEq, gAdd_ii, gAdd_ss, gAdd_tt, gSub_ii, gMul_ii, gDiv_ii, gMod_ii, gNeg_i, gLt_ii, gGt_ii, gGe_ii, gLe_ii, eqv_ii, eqv_ss, eqv_bb, eqv_nn, eqv_ni, eqv_in, eqv_ns, eqv_sn, eqv_nb, eqv_bn, eqv_is, eqv_si, eqv_nt, eqv_tn, eqv_nl, eqv_ln, eqv_tt, eqv_ll, eqvA_nn, eqvA_cc, eqvA_nc, eqvA_cn, gEq_ii, gEq_ss, gEq_bb, gEq_nn, gEq_in, gEq_ni, gEq_sn, gEq_ns, gEq_si, gEq_is, gNe_ii, gNe_ss, gNe_bb, gNe_nn, gNot_b, gIsN_n, gIsN_i, gIsN_b, gIsN_s, gIsN_t, gIsN_l, gNotN_n, gNotN_i, gNotN_b, gNotN_s, gNotN_t, gNotN_l, gIx_l, gIx_t, gIx_s, gLen_s, gLen_l, gLen_t, gAbs_i, gInt_i, gInt_b, gInt_s, gOrd_sign, gDivmod_ii, gStr_i, gStr_s, gTuple_l, gTuple_t, gStrip_s, gLstrip_s, gSplit_s, gPartition_s, gJoin_m, gCat_ll, gSl_s, gSl_t, gSl_l, itemsOf_l, itemsOf_t, itemsOf_s, ofString_inj, cMul_r, cMul_l, ixN_lit, atI_lit, atI_m1, cast_lit, String.reduceEq, decide_true, decide_false, Int.reduceSub, Int.reduceAdd, Int.reduceMul, Int.reduceToNat, T_toList, T_len, T_app, T_inj, T_sign, T_cut, T_signs, T_strip, T_empty, gIn_T, gNin_T, gLjust_T, lt_0, lt_1, lt_2, lt_3, lt_4, lt_5, lt_6, lt_7, lt_8, lt_9, lt_10, lt_11, lt_12, lt_13, lt_14, lt_15, lt_16, lt_17, lt_18, lt_19, lt_20, lt_21]
      · simp only [walkA]
        exact q
end ownanswer_k51_lists_and_joined_values
namespace ownanswer_k51_lists_and_joined_values
open PySem PySem.Spec L2 Fw
local macro_rules | `(tactic| simp only [walkA, $xs,*] $[$l:location]?) => `(tactic| simp only [ok_some, ok_none, okV_some, okV_none, ↓okV_if, ↓ok_if, ↓ok_ret, ↓ok_bnd, ↓ok_lft, ↓ok_bin, ↓ok_una, ↓ok_binL, ↓ok_unaL, ↓ok_mny, ↓ok_rdD, ↓ok_rdO, ↓ok_rdA, ↓ok_toB, ↓ok_sAnd, ↓ok_sOr, ↓ok_sNot, ↓ok_vAnd, ↓ok_vOr, ↓ok_sIf, ↓ok_chn, ↓ok_sNil, ↓ok_sCons, ↓ok_dTup, ↓ok_dLst, ↓ok_m0S, ↓ok_m1S, ↓ok_m1L, ↓ok_ixO, ↓ok_sPart, ↓ok_sSl, ↓ok_tupO, ↓ok_sItems, ↓ok_sScr, ↓ok_sEnum, ↓ok_sRng1, ↓ok_sRng2, ↓ok_seqS, ↓ok_nxt, ↓ok_brkS, ↓ok_cntS, ↓ok_retN, ↓ok_drpS, ↓ok_asg, ↓ok_asgL, ↓ok_asgG, ↓ok_augS, ↓ok_ifS, ↓ok_retD, ↓ok_retL, ↓ok_retO, ↓ok_appO, ↓ok_setO, ↓ok_extO, ↓ok_popS, ↓ok_forS, ↓ok_forL_nil, ↓ok_lcS, ↓ok_lcL_nil, ↓okV_callD, ↓okV_callV, ↓ok_callM, ↓ok_asD, ↓ok_asL, ↓ok_callS, ↓ok_runF, ↓ok_rplS, ↓ok_tupA, ↓ok_strM, ↓ok_chn3, own?, toN, toT, toNs, wipE, bakE, stp_nx, stp_ct, stp_bk, stp_rt, Fw.collect, ok_yesS, List.getElem?_cons_zero, List.getElem?_cons_succ, List.set_cons_zero, List.set_cons_succ, List.map_cons, List.map_nil, List.length_cons, List.length_nil, List.cons_append, List.nil_append, List.replicate_succ, List.replicate_zero, Nat.reduceAdd, Nat.reduceSub, Nat.reduceLeDiff, Nat.reduceLT, Nat.reduceEqDiff, Int.reduceLT, Int.reduceLE, Int.reduceNeg, Int.reducePow, Int.reduceEq, Option.isSome_some, Option.map_some, Option.map_none, true_and, and_true, if_true, if_false, ite_true, ite_false, Bool.false_eq_true, reduceIte, reduceCtorEq, gAdd_ii, gAdd_ss, gAdd_tt, gSub_ii, gMul_ii, gDiv_ii, gMod_ii, gNeg_i, gLt_ii, gGt_ii, gGe_ii, gLe_ii, eqv_ii, eqv_ss, eqv_bb, eqv_nn, eqv_ni, eqv_in, eqv_ns, eqv_sn, eqv_nb, eqv_bn, eqv_is, eqv_si, eqv_nt, eqv_tn, eqv_nl, eqv_ln, eqv_tt, eqv_ll, eqvA_nn, eqvA_cc, eqvA_nc, eqvA_cn, gEq_ii, gEq_ss, gEq_bb, gEq_nn, gEq_in, gEq_ni, gEq_sn, gEq_ns, gEq_si, gEq_is, gNe_ii, gNe_ss, gNe_bb, gNe_nn, gNot_b, gIsN_n, gIsN_i, gIsN_b, gIsN_s, gIsN_t, gIsN_l, gNotN_n, gNotN_i, gNotN_b, gNotN_s, gNotN_t, gNotN_l, gIx_l, gIx_t, gIx_s, gLen_s, gLen_l, gLen_t, gAbs_i, gInt_i, gInt_b, gInt_s, gOrd_sign, gDivmod_ii, gStr_i, gStr_s, gTuple_l, gTuple_t, gStrip_s, gLstrip_s, gSplit_s, gPartition_s, gJoin_m, gCat_ll, gSl_s, gSl_t, gSl_l, itemsOf_l, itemsOf_t, itemsOf_s, ofString_inj, cMul_r, cMul_l, ixN_lit, atI_lit, atI_m1, cast_lit, String.reduceEq, decide_true, decide_false, Int.reduceSub, Int.reduceAdd, Int.reduceMul, Int.reduceToNat, T_toList, T_len, T_app, T_inj, T_sign, T_cut, T_signs, T_strip, T_empty, gIn_T, gNin_T, gLjust_T, lt_0, lt_1, lt_2, lt_3, lt_4, lt_5, lt_6, lt_7, lt_8, lt_9, lt_10, lt_11, lt_12, lt_13, lt_14, lt_15, lt_16, lt_17, lt_18, lt_19, lt_20, lt_21, $xs,*] $[$l:location]?)
local macro_rules | `(tactic| simp only [walkA] $[$l:location]?) => `(tactic| simp only [ok_some, ok_none, okV_some, okV_none, ↓okV_if, ↓ok_if, ↓ok_ret, ↓ok_bnd, ↓ok_lft, ↓ok_bin, ↓ok_una, ↓ok_binL, ↓ok_unaL, ↓ok_mny, ↓ok_rdD, ↓ok_rdO, ↓ok_rdA, ↓ok_toB, ↓ok_sAnd, ↓ok_sOr, ↓ok_sNot, ↓ok_vAnd, ↓ok_vOr, ↓ok_sIf, ↓ok_chn, ↓ok_sNil, ↓ok_sCons, ↓ok_dTup, ↓ok_dLst, ↓ok_m0S, ↓ok_m1S, ↓ok_m1L, ↓ok_ixO, ↓ok_sPart, ↓ok_sSl, ↓ok_tupO, ↓ok_sItems, ↓ok_sScr, ↓ok_sEnum, ↓ok_sRng1, ↓ok_sRng2, ↓ok_seqS, ↓ok_nxt, ↓ok_brkS, ↓ok_cntS, ↓ok_retN, ↓ok_drpS, ↓ok_asg, ↓ok_asgL, ↓ok_asgG, ↓ok_augS, ↓ok_ifS, ↓ok_retD, ↓ok_retL, ↓ok_retO, ↓ok_appO, ↓ok_setO, ↓ok_extO, ↓ok_popS, ↓ok_forS, ↓ok_forL_nil, ↓ok_lcS, ↓ok_lcL_nil, ↓okV_callD, ↓okV_callV, ↓ok_callM, ↓ok_asD, ↓ok_asL, ↓ok_callS, ↓ok_runF, ↓ok_rplS, ↓ok_tupA, ↓ok_strM, ↓ok_chn3, own?, toN, toT, toNs, wipE, bakE, stp_nx, stp_ct, stp_bk, stp_rt, Fw.collect, ok_yesS, List.getElem?_cons_zero, List.getElem?_cons_succ, List.set_cons_zero, List.set_cons_succ, List.map_cons, List.map_nil, List.length_cons, List.length_nil, List.cons_append, List.nil_append, List.replicate_succ, List.replicate_zero, Nat.reduceAdd, Nat.reduceSub, Nat.reduceLeDiff, Nat.reduceLT, Nat.reduceEqDiff, Int.reduceLT, Int.reduceLE, Int.reduceNeg, Int.reducePow, Int.reduceEq, Option.isSome_some, Option.map_some, Option.map_none, true_and, and_true, if_true, if_false, ite_true, ite_false, Bool.false_eq_true, reduceIte, reduceCtorEq, gAdd_ii, gAdd_ss, gAdd_tt, gSub_ii, gMul_ii, gDiv_ii, gMod_ii, gNeg_i, gLt_ii, gGt_ii, gGe_ii, gLe_ii, eqv_ii, eqv_ss, eqv_bb, eqv_nn, eqv_ni, eqv_in, eqv_ns, eqv_sn, eqv_nb, eqv_bn, eqv_is, eqv_si, eqv_nt, eqv_tn, eqv_nl, eqv_ln, eqv_tt, eqv_ll, eqvA_nn, eqvA_cc, eqvA_nc, eqvA_cn, gEq_ii, gEq_ss, gEq_bb, gEq_nn, gEq_in, gEq_ni, gEq_sn, gEq_ns, gEq_si, gEq_is, gNe_ii, gNe_ss, gNe_bb, gNe_nn, gNot_b, gIsN_n, gIsN_i, gIsN_b, gIsN_s, gIsN_t, gIsN_l, gNotN_n, gNotN_i, gNotN_b, gNotN_s, gNotN_t, gNotN_l, gIx_l, gIx_t, gIx_s, gLen_s, gLen_l, gLen_t, gAbs_i, gInt_i, gInt_b, gInt_s, gOrd_sign, gDivmod_ii, gStr_i, gStr_s, gTuple_l, gTuple_t, gStrip_s, gLstrip_s, gSplit_s, gPartition_s, gJoin_m, gCat_ll, gSl_s, gSl_t, gSl_l, itemsOf_l, itemsOf_t, itemsOf_s, ofString_inj, cMul_r, cMul_l, ixN_lit, atI_lit, atI_m1, cast_lit, String.reduceEq, decide_true, decide_false, Int.reduceSub, Int.reduceAdd, Int.reduceMul, Int.reduceToNat, T_toList, T_len, T_app, T_inj, T_sign, T_cut, T_signs, T_strip, T_empty, gIn_T, gNin_T, gLjust_T, lt_0, lt_1, lt_2, lt_3, lt_4, lt_5, lt_6, lt_7, lt_8, lt_9, lt_10, lt_11, lt_12, lt_13, lt_14, lt_15, lt_16, lt_17, lt_18, lt_19, lt_20, lt_21] $[$l:location]?)

theorem trimmed_ok {l : List Nat} (hl : l.length < sizeLine) {Q : Sl → En → Prop} (q : Q (.dat (.str (T (trimL wW l)))) [.un]) : Ok (S_trimmed [.dat (.str (T l))]) Q := by
  unfold S_trimmed
  rw [ok_runF]
  refine ⟨rfl, ?_⟩
  simp only [walkA, Y_trimmed]
  exact ⟨by omega, q⟩
theorem split_ok {l : List Nat} (hl : l.length < 16000000) {Q : Sl → En → Prop}
    (q : Q (if (CU l).2 then .dat .none else .own (ts (((CU l).1.map (trimL wW)).filter fun p => decide (p ≠ [])))) [.un]) : Ok (S_split_list [.dat (.str (T l))]) Q := by
  have hs := sizeLine_eq
  have hcl : (CU l).1.length ≤ l.length + 1 := (cutF_len 44 l false false []).1
  have hcl2 : (cutF 44 l false false []).1.length ≤ l.length + 1 := hcl
  unfold S_split_list
  rw [ok_runF]
  refine ⟨rfl, ?_⟩
  simp only [walkA, Y_split_list]
  refine cut_ok (by omega) ?_
  cases hq : (CU l).2 with
  | true =>
    rw [hq] at q
    simp only [walkA, T_split_list_3]
    exact q
  | false =>
    rw [hq] at q
    simp only [walkA, T_split_list_3, T_split_list_2]
    refine ⟨by rw [List.length_map]; omega, ?_⟩
    rw [show ts (CU l).1 = (CU l).1.map fun l => .str (T l) from rfl]
    refine lcL_map (fun l => .str (T l)) (fun l => .str (T (trimL wW l))) (fun p => true) _ _ (fun p hp => ?_) ?_
    · have hp2 := (cutF_len 44 l false false []).2 p hp
      simp only [List.length_nil] at hp2
      unfold turn
      simp only [walkA, C_split_list_1]
      refine trimmed_ok (by omega) ?_
      simp only [walkA]
    · simp only [walkA, T_split_list_1]
      have ef : List.filter (fun p => true) (CU l).1 = (CU l).1 := List.filter_eq_self.mpr fun _ _ => rfl
      rw [ef]
      refine ⟨by rw [List.length_map]; omega, ?_⟩
      rw [show (CU l).1.map (fun l => PyData.str (T (trimL wW l))) = ((CU l).1.map (trimL wW)).map fun l => .str (T l) by rw [List.map_map]; rfl]
      refine lcL_map (fun l => .str (T l)) (fun l => .str (T l)) (fun p => decide (p ≠ [])) _ _ (fun p hp => ?_) ?_
      · unfold turn
        simp only [walkA, C_split_list_2, C_split_list_3]
        by_cases hp0 : p = []
        · simp [hp0, ok_some, ok_none, okV_some, okV_none, ↓okV_if, ↓ok_if, ↓ok_ret, ↓ok_bnd, ↓ok_lft, ↓ok_bin, ↓ok_una, ↓ok_binL, ↓ok_unaL, ↓ok_mny, ↓ok_rdD, ↓ok_rdO, ↓ok_rdA, ↓ok_toB, ↓ok_sAnd, ↓ok_sOr, ↓ok_sNot, ↓ok_vAnd, ↓ok_vOr, ↓ok_sIf, ↓ok_chn, ↓ok_sNil, ↓ok_sCons, ↓ok_dTup, ↓ok_dLst, ↓ok_m0S, ↓ok_m1S, ↓ok_m1L, ↓ok_ixO, ↓ok_sPart, ↓ok_sSl, ↓ok_tupO, ↓ok_sItems, ↓ok_sScr, ↓ok_sEnum, ↓ok_sRng1, ↓ok_sRng2, ↓ok_seqS, ↓ok_nxt, ↓ok_brkS, ↓ok_cntS, ↓ok_retN, ↓ok_drpS, ↓ok_asg, ↓ok_asgL, ↓ok_asgG, ↓ok_augS, ↓ok_ifS, ↓ok_retD, ↓ok_retL, ↓ok_retO, ↓ok_appO, ↓ok_setO, ↓ok_extO, ↓ok_popS, ↓ok_forS, ↓ok_forL_nil, ↓ok_lcS, ↓ok_lcL_nil, ↓okV_callD, ↓okV_callV, ↓ok_callM, ↓ok_asD, ↓ok_asL, ↓ok_callS, ↓ok_runF, ↓ok_rplS, ↓ok_tupA, ↓ok_strM, ↓ok_chn3, own?, toN, toT, toNs, wipE, bakE, stp_nx, stp_ct, stp_bk, stp_rt, Fw.collect, ok_yesS, List.getElem?_cons_zero, List.getElem?_cons_succ, List.set_cons_zero, List.set_cons_succ, List.map_cons, List.map_nil, List.length_cons, List.length_nil, List.cons_append, List.nil_append, List.replicate_succ, List.replicate_zero, Nat.reduceAdd, Nat.reduceSub, Nat.reduceLeDiff, Nat.reduceLT, Nat.reduceEqDiff, Int.reduceLT, Int.reduceLE, Int.reduceNeg, Int.reducePow, Int.reduceEq, Option.isSome_some, Option.map_some, Option.map_none, true_and, and_true, if_true, if_false, ite_true, ite_false, Bool.false_eq_true, reduceIte, reduceCtorEq, gAdd_ii, gAdd_ss, gAdd_tt, gSub_ii, gMul_ii, gDiv_ii, gMod_ii, gNeg_i, gLt_ii, gGt_ii, gGe_ii, gLe_ii, eqv_ii, eqv_ss, eqv_bb, eqv_nn, eqv_ni, eqv_in, eqv_ns, eqv_sn, eqv_nb, eqv_bn, eqv_is, eqv_si, eqv_nt, eqv_tn, eqv_nl, eqv_ln, eqv_tt, eqv_ll, eqvA_nn, eqvA_cc, eqvA_nc, eqvA_cn, gEq_ii, gEq_ss, gEq_bb, gEq_nn, gEq_in, gEq_ni, gEq_sn, gEq_ns, gEq_si, gEq_is, gNe_ii, gNe_ss, gNe_bb, gNe_nn, gNot_b, gIsN_n, gIsN_i, gIsN_b, gIsN_s, gIsN_t, gIsN_l, gNotN_n, gNotN_i, gNotN_b, gNotN_s, gNotN_t, gNotN_l, gIx_l, gIx_t, gIx_s, gLen_s, gLen_l, gLen_t, gAbs_i, gInt_i, gInt_b, gInt_s, gOrd_sign, gDivmod_ii, gStr_i, gStr_s, gTuple_l, gTuple_t, gStrip_s, gLstrip_s, gSplit_s, gPartition_s, gJoin_m, gCat_ll, gSl_s, gSl_t, gSl_l, itemsOf_l, itemsOf_t, itemsOf_s, ofString_inj, cMul_r, cMul_l, ixN_lit, atI_lit, atI_m1, cast_lit, String.reduceEq, decide_true, decide_false, Int.reduceSub, Int.reduceAdd, Int.reduceMul, Int.reduceToNat, T_toList, T_len, T_app, T_inj, T_sign, T_cut, T_signs, T_strip, T_empty, gIn_T, gNin_T, gLjust_T, lt_0, lt_1, lt_2, lt_3, lt_4, lt_5, lt_6, lt_7, lt_8, lt_9, lt_10, lt_11, lt_12, lt_13, lt_14, lt_15, lt_16, lt_17, lt_18, lt_19, lt_20, lt_21]
        · simp [hp0, ok_some, ok_none, okV_some, okV_none, ↓okV_if, ↓ok_if, ↓ok_ret, ↓ok_bnd, ↓ok_lft, ↓ok_bin, ↓ok_una, ↓ok_binL, ↓ok_unaL, ↓ok_mny, ↓ok_rdD, ↓ok_rdO, ↓ok_rdA, ↓ok_toB, ↓ok_sAnd, ↓ok_sOr, ↓ok_sNot, ↓ok_vAnd, ↓ok_vOr, ↓ok_sIf, ↓ok_chn, ↓ok_sNil, ↓ok_sCons, ↓ok_dTup, ↓ok_dLst, ↓ok_m0S, ↓ok_m1S, ↓ok_m1L, ↓ok_ixO, ↓ok_sPart, ↓ok_sSl, ↓ok_tupO, ↓ok_sItems, ↓ok_sScr, ↓ok_sEnum, ↓ok_sRng1, ↓ok_sRng2, ↓ok_seqS, ↓ok_nxt, ↓ok_brkS, ↓ok_cntS, ↓ok_retN, ↓ok_drpS, ↓ok_asg, ↓ok_asgL, ↓ok_asgG, ↓ok_augS, ↓ok_ifS, ↓ok_retD, ↓ok_retL, ↓ok_retO, ↓ok_appO, ↓ok_setO, ↓ok_extO, ↓ok_popS, ↓ok_forS, ↓ok_forL_nil, ↓ok_lcS, ↓ok_lcL_nil, ↓okV_callD, ↓okV_callV, ↓ok_callM, ↓ok_asD, ↓ok_asL, ↓ok_callS, ↓ok_runF, ↓ok_rplS, ↓ok_tupA, ↓ok_strM, ↓ok_chn3, own?, toN, toT, toNs, wipE, bakE, stp_nx, stp_ct, stp_bk, stp_rt, Fw.collect, ok_yesS, List.getElem?_cons_zero, List.getElem?_cons_succ, List.set_cons_zero, List.set_cons_succ, List.map_cons, List.map_nil, List.length_cons, List.length_nil, List.cons_append, List.nil_append, List.replicate_succ, List.replicate_zero, Nat.reduceAdd, Nat.reduceSub, Nat.reduceLeDiff, Nat.reduceLT, Nat.reduceEqDiff, Int.reduceLT, Int.reduceLE, Int.reduceNeg, Int.reducePow, Int.reduceEq, Option.isSome_some, Option.map_some, Option.map_none, true_and, and_true, if_true, if_false, ite_true, ite_false, Bool.false_eq_true, reduceIte, reduceCtorEq, gAdd_ii, gAdd_ss, gAdd_tt, gSub_ii, gMul_ii, gDiv_ii, gMod_ii, gNeg_i, gLt_ii, gGt_ii, gGe_ii, gLe_ii, eqv_ii, eqv_ss, eqv_bb, eqv_nn, eqv_ni, eqv_in, eqv_ns, eqv_sn, eqv_nb, eqv_bn, eqv_is, eqv_si, eqv_nt, eqv_tn, eqv_nl, eqv_ln, eqv_tt, eqv_ll, eqvA_nn, eqvA_cc, eqvA_nc, eqvA_cn, gEq_ii, gEq_ss, gEq_bb, gEq_nn, gEq_in, gEq_ni, gEq_sn, gEq_ns, gEq_si, gEq_is, gNe_ii, gNe_ss, gNe_bb, gNe_nn, gNot_b, gIsN_n, gIsN_i, gIsN_b, gIsN_s, gIsN_t, gIsN_l, gNotN_n, gNotN_i, gNotN_b, gNotN_s, gNotN_t, gNotN_l, gIx_l, gIx_t, gIx_s, gLen_s, gLen_l, gLen_t, gAbs_i, gInt_i, gInt_b, gInt_s, gOrd_sign, gDivmod_ii, gStr_i, gStr_s, gTuple_l, gTuple_t, gStrip_s, gLstrip_s, gSplit_s, gPartition_s, gJoin_m, gCat_ll, gSl_s, gSl_t, gSl_l, itemsOf_l, itemsOf_t, itemsOf_s, ofString_inj, cMul_r, cMul_l, ixN_lit, atI_lit, atI_m1, cast_lit, String.reduceEq, decide_true, decide_false, Int.reduceSub, Int.reduceAdd, Int.reduceMul, Int.reduceToNat, T_toList, T_len, T_app, T_inj, T_sign, T_cut, T_signs, T_strip, T_empty, gIn_T, gNin_T, gLjust_T, lt_0, lt_1, lt_2, lt_3, lt_4, lt_5, lt_6, lt_7, lt_8, lt_9, lt_10, lt_11, lt_12, lt_13, lt_14, lt_15, lt_16, lt_17, lt_18, lt_19, lt_20, lt_21]
      · simp only [walkA]
        exact q
theorem tk : S__law_take = S_take := rfl
theorem dk : S__law_draw = S_draw := rfl
def Lo (l : List Nat) : Prop := ∀ c ∈ l, c < 128
theorem lo_app {a b : List Nat} (ha : Lo a) (hb : Lo b) : Lo (a ++ b) := fun c h => (List.mem_append.mp h).elim (ha c) (hb c)
theorem ix_T {w : List Nat} (hw : w.length ≤ sizeLine) {r : Int} (h0 : 0 ≤ r) (h1 : r < w.length) : ∃ c, c ∈ w ∧ atI w r = some c := by
  obtain ⟨k, rfl⟩ := Int.eq_ofNat_of_zero_le h0
  have hk : k < w.length := by omega
  exact ⟨w[k], List.getElem_mem hk, by rw [Fw.atI_nat, List.getElem?_eq_getElem hk]⟩
theorem rng_len (n : Int) : (rngL 0 n.toNat).length = n.toNat := by simp [rngL]
theorem text_ok {d : List PyData} (hd : DrawOk d) {m : Int} (h0 : 0 ≤ m) (h1 : m ≤ 100) {Q : Sl → En → Prop} (q : ∀ l d', l.length ≤ m.toNat → Lo l → DrawOk d' → Q (.dat (.str (T l))) [.own d', .un]) :
    Ok (S__law_text [.own d, .dat (.int m)]) Q := by
  have hs := sizeLine_eq
  unfold S__law_text
  rw [ok_runF]
  refine ⟨rfl, ?_⟩
  simp only [walkA, Y__law_text, T__law_text_3, T__law_text_2, tk]
  refine take_ok hd (by omega) (by omega) fun n d1 n0 n1 h1 => ?_
  simp only [walkA]
  refine ⟨by omega, ?_⟩
  refine forL_inv (fun k E => ∃ d' l x, DrawOk d' ∧ l.length = k ∧ Lo l ∧ E = [.own d', .dat (.int m), .dat (.str (T [34, 92, 44, 59, 32, 61, 97, 98, 49, 9])), .dat (.str (T l)), x]) _ 0 _ _ ⟨d1, [], .un, h1, rfl, (fun _ h => nomatch h), rfl⟩ ?_ ?_
  · rintro i z hz E ⟨d', l, x, hd', hl, ho, rfl⟩
    have hi : i < n.toNat := by
      have := (List.getElem?_eq_some_iff.mp hz).1
      rwa [rng_len] at this
    simp only [walkA, L__law_text_1, tk]
    refine take_ok hd' (by omega) (by omega) fun r d2 r0 r1 h2 => ?_
    by_cases er : r = 0
    · simp only [walkA, er, tk]
      refine take_ok h2 (by omega) (by omega) fun r d2 r0 r1 h2 => ?_
      obtain ⟨c, hc, e⟩ := ix_T (w := [34, 92, 44, 59, 32, 61, 97, 98, 49, 9]) (by rw [hs]; decide) r0 r1
      simp only [walkA, e, stp]
      refine ⟨by omega, by omega, d2, l ++ [c], _, h2, by simp; omega, lo_app ho ?_, rfl⟩
      intro x hx
      cases List.mem_singleton.mp hx
      have : ∀ c ∈ ([34, 92, 44, 59, 32, 61, 97, 98, 49, 9] : List Nat), c < 128 := by decide
      exact this _ hc
    · simp only [walkA, er, tk]
      unfold S__law_signs
      rw [ok_runF]
      refine ⟨rfl, ?_⟩
      simp only [walkA, Y__law_signs, T__law_signs_1, tk]
      refine ⟨by omega, take_ok h2 (by omega) (by omega) fun r d2 r0 r1 h2 => ?_⟩
      generalize hw : ([32, 33, 34, 35, 36, 38, 39, 40, 41, 42, 43, 44, 45, 46, 47, 48, 49, 50, 51, 52, 53, 54, 55, 56, 57, 58, 59, 60, 61, 62, 63, 64, 65, 66, 67, 68, 69, 70, 71, 72, 73, 74, 75, 76, 77, 78, 79, 80, 81, 82, 83, 84, 85, 86, 87, 88, 89, 90, 91, 92, 93, 94, 95, 96, 97, 98, 99, 100, 101, 102, 103, 104, 105, 106, 107, 108, 109, 110, 111, 112, 113, 114, 115, 116, 117, 118, 119, 120, 121, 122, 123, 124, 125, 126, 9] : List Nat) = w
      have hwl : w.length = 95 := by rw [← hw]; decide
      have hwo : Lo w := by rw [← hw]; unfold Lo; decide
      obtain ⟨c, hc, e⟩ := ix_T (w := w) (by omega) r0 (by omega)
      simp only [walkA, e, stp]
      refine ⟨by omega, by omega, d2, l ++ [c], _, h2, by simp; omega, lo_app ho ?_, rfl⟩
      intro x hx
      cases List.mem_singleton.mp hx
      exact hwo c hc
  · rintro E ⟨d', l, x, hd', hl, ho, rfl⟩
    rw [rng_len] at hl
    simp only [walkA, T__law_text_1]
    exact q l d' (by omega) ho hd'
theorem token_ok {d : List PyData} (hd : DrawOk d) {Q : Sl → En → Prop} (q : ∀ l d', l.length ≤ 5 → Lo l → DrawOk d' → Q (.dat (.str (T l))) [.own d']) :
    Ok (S__law_token [.own d]) Q := by
  have hs := sizeLine_eq
  unfold S__law_token
  rw [ok_runF]
  refine ⟨rfl, ?_⟩
  simp only [walkA, Y__law_token, T__law_token_1, tk]
  refine take_ok hd (by omega) (by omega) fun n d1 n0 n1 h1 => ?_
  simp only [walkA]
  refine ⟨by omega, by rw [rng_len]; omega, ?_⟩
  generalize hw : ([97, 98, 99, 120, 121, 122, 65, 66, 67, 88, 89, 90, 48, 49, 56, 57, 33, 35, 36, 38, 39, 42, 43, 45, 46, 94, 95, 124, 126, 96] : List Nat) = w
  have hwl : w.length = 30 := by rw [← hw]; decide
  have hwo : Lo w := by rw [← hw]; unfold Lo; decide
  refine lcL_all (fun E => ∃ d' x, DrawOk d' ∧ (∀ ys, x ≠ .own ys) ∧ E = [.own d', .dat (.str (T w)), x]) (fun y => ∃ c, y = .str (T [c]) ∧ c < 128) _ _ _ ⟨d1, .un, h1, fun _ => nofun, rfl⟩ ?_ ?_
  · rintro z _ E ⟨d2, x, h2, hx, rfl⟩
    have hwp : ∀ a b, wipE [2] [a, b, x] = some [a, b, .un] := by
      intro a b
      cases x <;> first | rfl | exact absurd rfl (hx _)
    unfold turn
    rw [hwp, okV_some]
    simp only [walkA, C__law_token_1, tk]
    refine take_ok h2 (by omega) (by omega) fun r d3 r0 r1 h3 => ?_
    obtain ⟨c, hc, e⟩ := ix_T (w := w) (by omega) r0 (by omega)
    simp only [walkA, e, bakE]
    exact ⟨by omega, ⟨d3, x, h3, hx, rfl⟩, _, rfl, c, rfl, hwo c hc⟩
  · rintro ys E' hlen hp ⟨d2, x, h2, hx, rfl⟩
    rw [rng_len] at hlen
    have : ∃ l : List Nat, ys = (l.map fun c => [c]).map (fun l => PyData.str (T l)) ∧ l.length = ys.length ∧ Lo l := by
      clear hlen
      induction ys with
      | nil => exact ⟨[], rfl, rfl, fun _ h => nomatch h⟩
      | cons y ys ih =>
        obtain ⟨l, e, hl, ho⟩ := ih fun w hw => hp w (List.mem_cons_of_mem _ hw)
        obtain ⟨c, rfl, hc⟩ := hp y (List.mem_cons_self ..)
        exact ⟨c :: l, by rw [e]; rfl, by simp [hl], fun z hz => (List.mem_cons.mp hz).elim (fun h => h ▸ hc) (ho z)⟩
    obtain ⟨l, rfl, hl, ho⟩ := this
    have e1 : ((l.map fun c => [c]).map fun l => PyData.str (T l)) = ((l.map fun c => [c]).map T).map .str := by simp
    rw [e1]
    have e2 : ([] : List Nat).intercalate (l.map fun c => [c]) = l := by
      clear hl ho e1 hp hlen
      induction l with
      | nil => rfl
      | cons c l ih =>
        cases l with
        | nil => rfl
        | cons d l => simp only [List.map_cons, List.intercalate, List.intersperse_cons₂, List.flatten_cons] at ih ⊢; rw [ih]; rfl
    simp only [List.length_map] at hl hlen
    simp only [walkA, T_join, e2]
    refine ⟨?_, q l d2 (by omega) ho h2⟩
    simp only [List.map_map, List.length_map, List.length_nil, Nat.mul_zero, Nat.add_zero]
    have : (l.map ((fun x : Str => x.length) ∘ T ∘ fun c => [c])).sum = l.length := by
      clear hl ho e1 e2 hp hlen
      induction l with
      | nil => rfl
      | cons c l ih => simp only [List.map_cons, List.sum_cons, ih, List.length_cons, Function.comp_apply, T_len]; simp; omega
    omega
end ownanswer_k51_lists_and_joined_values
namespace ownanswer_k51_lists_and_joined_values
open PySem PySem.Spec L2 Fw
local macro_rules | `(tactic| simp only [walkA, $xs,*] $[$l:location]?) => `(tactic| simp only [ok_some, ok_none, okV_some, okV_none, ↓okV_if, ↓ok_if, ↓ok_ret, ↓ok_bnd, ↓ok_lft, ↓ok_bin, ↓ok_una, ↓ok_binL, ↓ok_unaL, ↓ok_mny, ↓ok_rdD, ↓ok_rdO, ↓ok_rdA, ↓ok_toB, ↓ok_sAnd, ↓ok_sOr, ↓ok_sNot, ↓ok_vAnd, ↓ok_vOr, ↓ok_sIf, ↓ok_chn, ↓ok_sNil, ↓ok_sCons, ↓ok_dTup, ↓ok_dLst, ↓ok_m0S, ↓ok_m1S, ↓ok_m1L, ↓ok_ixO, ↓ok_sPart, ↓ok_sSl, ↓ok_tupO, ↓ok_sItems, ↓ok_sScr, ↓ok_sEnum, ↓ok_sRng1, ↓ok_sRng2, ↓ok_seqS, ↓ok_nxt, ↓ok_brkS, ↓ok_cntS, ↓ok_retN, ↓ok_drpS, ↓ok_asg, ↓ok_asgL, ↓ok_asgG, ↓ok_augS, ↓ok_ifS, ↓ok_retD, ↓ok_retL, ↓ok_retO, ↓ok_appO, ↓ok_setO, ↓ok_extO, ↓ok_popS, ↓ok_forS, ↓ok_forL_nil, ↓ok_lcS, ↓ok_lcL_nil, ↓okV_callD, ↓okV_callV, ↓ok_callM, ↓ok_asD, ↓ok_asL, ↓ok_callS, ↓ok_runF, ↓ok_rplS, ↓ok_tupA, ↓ok_strM, ↓ok_chn3, own?, toN, toT, toNs, wipE, bakE, stp_nx, stp_ct, stp_bk, stp_rt, Fw.collect, ok_yesS, List.getElem?_cons_zero, List.getElem?_cons_succ, List.set_cons_zero, List.set_cons_succ, List.map_cons, List.map_nil, List.length_cons, List.length_nil, List.cons_append, List.nil_append, List.replicate_succ, List.replicate_zero, Nat.reduceAdd, Nat.reduceSub, Nat.reduceLeDiff, Nat.reduceLT, Nat.reduceEqDiff, Int.reduceLT, Int.reduceLE, Int.reduceNeg, Int.reducePow, Int.reduceEq, Option.isSome_some, Option.map_some, Option.map_none, true_and, and_true, if_true, if_false, ite_true, ite_false, Bool.false_eq_true, reduceIte, reduceCtorEq, gAdd_ii, gAdd_ss, gAdd_tt, gSub_ii, gMul_ii, gDiv_ii, gMod_ii, gNeg_i, gLt_ii, gGt_ii, gGe_ii, gLe_ii, eqv_ii, eqv_ss, eqv_bb, eqv_nn, eqv_ni, eqv_in, eqv_ns, eqv_sn, eqv_nb, eqv_bn, eqv_is, eqv_si, eqv_nt, eqv_tn, eqv_nl, eqv_ln, eqv_tt, eqv_ll, eqvA_nn, eqvA_cc, eqvA_nc, eqvA_cn, gEq_ii, gEq_ss, gEq_bb, gEq_nn, gEq_in, gEq_ni, gEq_sn, gEq_ns, gEq_si, gEq_is, gNe_ii, gNe_ss, gNe_bb, gNe_nn, gNot_b, gIsN_n, gIsN_i, gIsN_b, gIsN_s, gIsN_t, gIsN_l, gNotN_n, gNotN_i, gNotN_b, gNotN_s, gNotN_t, gNotN_l, gIx_l, gIx_t, gIx_s, gLen_s, gLen_l, gLen_t, gAbs_i, gInt_i, gInt_b, gInt_s, gOrd_sign, gDivmod_ii, gStr_i, gStr_s, gTuple_l, gTuple_t, gStrip_s, gLstrip_s, gSplit_s, gPartition_s, gJoin_m, gCat_ll, gSl_s, gSl_t, gSl_l, itemsOf_l, itemsOf_t, itemsOf_s, ofString_inj, cMul_r, cMul_l, ixN_lit, atI_lit, atI_m1, cast_lit, String.reduceEq, decide_true, decide_false, Int.reduceSub, Int.reduceAdd, Int.reduceMul, Int.reduceToNat, T_toList, T_len, T_app, T_inj, T_sign, T_cut, T_signs, T_strip, T_empty, gIn_T, gNin_T, gLjust_T, lt_0, lt_1, lt_2, lt_3, lt_4, lt_5, lt_6, lt_7, lt_8, lt_9, lt_10, lt_11, lt_12, lt_13, lt_14, lt_15, lt_16, lt_17, lt_18, lt_19, lt_20, lt_21, $xs,*] $[$l:location]?)
local macro_rules | `(tactic| simp only [walkA] $[$l:location]?) => `(tactic| simp only [ok_some, ok_none, okV_some, okV_none, ↓okV_if, ↓ok_if, ↓ok_ret, ↓ok_bnd, ↓ok_lft, ↓ok_bin, ↓ok_una, ↓ok_binL, ↓ok_unaL, ↓ok_mny, ↓ok_rdD, ↓ok_rdO, ↓ok_rdA, ↓ok_toB, ↓ok_sAnd, ↓ok_sOr, ↓ok_sNot, ↓ok_vAnd, ↓ok_vOr, ↓ok_sIf, ↓ok_chn, ↓ok_sNil, ↓ok_sCons, ↓ok_dTup, ↓ok_dLst, ↓ok_m0S, ↓ok_m1S, ↓ok_m1L, ↓ok_ixO, ↓ok_sPart, ↓ok_sSl, ↓ok_tupO, ↓ok_sItems, ↓ok_sScr, ↓ok_sEnum, ↓ok_sRng1, ↓ok_sRng2, ↓ok_seqS, ↓ok_nxt, ↓ok_brkS, ↓ok_cntS, ↓ok_retN, ↓ok_drpS, ↓ok_asg, ↓ok_asgL, ↓ok_asgG, ↓ok_augS, ↓ok_ifS, ↓ok_retD, ↓ok_retL, ↓ok_retO, ↓ok_appO, ↓ok_setO, ↓ok_extO, ↓ok_popS, ↓ok_forS, ↓ok_forL_nil, ↓ok_lcS, ↓ok_lcL_nil, ↓okV_callD, ↓okV_callV, ↓ok_callM, ↓ok_asD, ↓ok_asL, ↓ok_callS, ↓ok_runF, ↓ok_rplS, ↓ok_tupA, ↓ok_strM, ↓ok_chn3, own?, toN, toT, toNs, wipE, bakE, stp_nx, stp_ct, stp_bk, stp_rt, Fw.collect, ok_yesS, List.getElem?_cons_zero, List.getElem?_cons_succ, List.set_cons_zero, List.set_cons_succ, List.map_cons, List.map_nil, List.length_cons, List.length_nil, List.cons_append, List.nil_append, List.replicate_succ, List.replicate_zero, Nat.reduceAdd, Nat.reduceSub, Nat.reduceLeDiff, Nat.reduceLT, Nat.reduceEqDiff, Int.reduceLT, Int.reduceLE, Int.reduceNeg, Int.reducePow, Int.reduceEq, Option.isSome_some, Option.map_some, Option.map_none, true_and, and_true, if_true, if_false, ite_true, ite_false, Bool.false_eq_true, reduceIte, reduceCtorEq, gAdd_ii, gAdd_ss, gAdd_tt, gSub_ii, gMul_ii, gDiv_ii, gMod_ii, gNeg_i, gLt_ii, gGt_ii, gGe_ii, gLe_ii, eqv_ii, eqv_ss, eqv_bb, eqv_nn, eqv_ni, eqv_in, eqv_ns, eqv_sn, eqv_nb, eqv_bn, eqv_is, eqv_si, eqv_nt, eqv_tn, eqv_nl, eqv_ln, eqv_tt, eqv_ll, eqvA_nn, eqvA_cc, eqvA_nc, eqvA_cn, gEq_ii, gEq_ss, gEq_bb, gEq_nn, gEq_in, gEq_ni, gEq_sn, gEq_ns, gEq_si, gEq_is, gNe_ii, gNe_ss, gNe_bb, gNe_nn, gNot_b, gIsN_n, gIsN_i, gIsN_b, gIsN_s, gIsN_t, gIsN_l, gNotN_n, gNotN_i, gNotN_b, gNotN_s, gNotN_t, gNotN_l, gIx_l, gIx_t, gIx_s, gLen_s, gLen_l, gLen_t, gAbs_i, gInt_i, gInt_b, gInt_s, gOrd_sign, gDivmod_ii, gStr_i, gStr_s, gTuple_l, gTuple_t, gStrip_s, gLstrip_s, gSplit_s, gPartition_s, gJoin_m, gCat_ll, gSl_s, gSl_t, gSl_l, itemsOf_l, itemsOf_t, itemsOf_s, ofString_inj, cMul_r, cMul_l, ixN_lit, atI_lit, atI_m1, cast_lit, String.reduceEq, decide_true, decide_false, Int.reduceSub, Int.reduceAdd, Int.reduceMul, Int.reduceToNat, T_toList, T_len, T_app, T_inj, T_sign, T_cut, T_signs, T_strip, T_empty, gIn_T, gNin_T, gLjust_T, lt_0, lt_1, lt_2, lt_3, lt_4, lt_5, lt_6, lt_7, lt_8, lt_9, lt_10, lt_11, lt_12, lt_13, lt_14, lt_15, lt_16, lt_17, lt_18, lt_19, lt_20, lt_21] $[$l:location]?)

theorem replS_mem {y z : List Nat} : ∀ (l : List Nat) (s : Nat) (c : Nat), c ∈ StrLaws.replS y z s l → c ∈ l ∨ c ∈ z
  | [], s, c, h => by rw [StrLaws.replS] at h; cases h
  | x :: r, s + 1, c, h => by
    rw [StrLaws.replS] at h
    rcases replS_mem r _ _ h with h | h
    · exact .inl (List.mem_cons_of_mem _ h)
    · exact .inr h
  | x :: r, 0, c, h => by
    rw [StrLaws.replS] at h
    split at h
    · rcases List.mem_append.mp h with h | h
      · exact .inr h
      · rcases replS_mem r _ _ h with h | h
        · exact .inl (List.mem_cons_of_mem _ h)
        · exact .inr h
    · rcases List.mem_cons.mp h with rfl | h
      · exact .inl (List.mem_cons_self ..)
      · rcases replS_mem r _ _ h with h | h
        · exact .inl (List.mem_cons_of_mem _ h)
        · exact .inr h
theorem rep_T {l y z : List Nat} (hy : 1 ≤ y.length) (hl : Lo l) (hz : Lo z) : ∃ m, Txt.replace (T l) (T y) (T z) = T m ∧ Lo m ∧ m.length ≤ l.length + (l.length + 1) * z.length := by
  refine ⟨_, T_of _, fun c hc => ?_, ?_⟩
  · rw [StrLaws.replace_list (by rw [T_len]; exact hy)] at hc
    rcases replS_mem _ _ _ hc with h | h
    · exact hl c h
    · exact hz c h
  · have := TK.replace_len (T l) (T y) (T z)
    rw [T_len, T_len] at this
    simpa [Str.length] using this
theorem piece_ok {d : List PyData} (hd : DrawOk d) {Q : Sl → En → Prop} (q : ∀ l d', l.length ≤ 60 → Lo l → DrawOk d' → Q (.dat (.str (T l))) [.own d']) : Ok (S__law_piece [.own d]) Q := by
  have hs := sizeLine_eq
  unfold S__law_piece
  rw [ok_runF]
  refine ⟨rfl, ?_⟩
  simp only [walkA, Y__law_piece, tk]
  refine take_ok hd (by omega) (by omega) fun n d1 n0 n1 h1 => ?_
  by_cases e0 : n = 0
  · simp only [walkA, T__law_piece_6, e0, tk]
    exact token_ok h1 fun l d' hl ho h2 => by simp only [walkA]; exact q l d' (by omega) ho h2
  by_cases e1 : n = 1
  · simp only [walkA, T__law_piece_6, T__law_piece_5, e1, tk]
    refine ⟨by omega, take_ok h1 (by omega) (by omega) fun r d2 r0 r1 h2 => ?_⟩
    obtain ⟨y, hy, e⟩ := atI_mem (ys := [PyData.str (T [32]), .str (T [9]), .str (T [32, 32]), .str (T [44, 32]), .str (T [44, 44]), .str (T [32, 44])]) r0 r1
    have hy : ∃ t, y = .str (T t) ∧ Lo t ∧ t.length ≤ 2 := by
      simp only [List.mem_cons, List.not_mem_nil, or_false] at hy
      rcases hy with rfl | rfl | rfl | rfl | rfl | rfl <;> exact ⟨_, rfl, by unfold Lo; decide, by decide⟩
    obtain ⟨t, rfl, ht, htl⟩ := hy
    simp only [walkA, e]
    exact q t d2 (by omega) ht h2
  by_cases e2 : n = 2
  · simp only [walkA, T__law_piece_6, T__law_piece_5, T__law_piece_4, e2, tk]
    exact q _ d1 (by decide) (by unfold Lo; decide) h1
  by_cases e3 : n = 3
  · simp only [walkA, T__law_piece_6, T__law_piece_5, T__law_piece_4, T__law_piece_3, e3, tk]
    refine text_ok h1 (by omega) (by omega) fun l d2 hl ho h2 => ?_
    simp only [walkA]
    have hl5 : l.length ≤ 5 := hl
    obtain ⟨m, em, hmo, hml⟩ := rep_T (l := l) (y := [92]) (z := [92, 92]) (by decide) ho (by unfold Lo; decide)
    obtain ⟨m2, em2, hmo2, hml2⟩ := rep_T (l := m) (y := [34]) (z := [92, 34]) (by decide) hmo (by unfold Lo; decide)
    simp only [List.length_cons, List.length_nil] at hml hml2
    rw [em]
    simp only [walkA]
    rw [em2]
    simp only [walkA]
    refine ⟨by omega, by omega, by omega, by omega, ?_⟩
    refine q _ d2 (by simp; omega) ?_ h2
    intro c hc
    simp only [List.mem_cons, List.mem_append, List.not_mem_nil, or_false] at hc
    rcases hc with rfl | hc | rfl
    · decide
    · exact hmo2 c hc
    · decide
  by_cases e4 : n = 4
  · simp only [walkA, T__law_piece_6, T__law_piece_5, T__law_piece_4, T__law_piece_3, T__law_piece_2, e4, tk]
    exact q _ d1 (by decide) (by unfold Lo; decide) h1
  simp only [walkA, T__law_piece_6, T__law_piece_5, T__law_piece_4, T__law_piece_3, T__law_piece_2, T__law_piece_1, e0, e1, e2, e3, e4, tk]
  exact text_ok h1 (by omega) (by omega) fun l d' hl ho h2 => by simp only [walkA]; exact q l d' (by omega) ho h2
theorem canAll_ts : ∀ (ls : List (List Nat)), (∀ l ∈ ls, Lo l) → PyData.canLayAll0 (ts ls) = true
  | [], _ => rfl
  | l :: ls, h => by
    have hl := h l (List.mem_cons_self ..)
    show PyData.canLayAll0 (.str (T l) :: ts ls) = true
    rw [PyData.canLayAll0, canAll_ts ls fun x hx => h x (List.mem_cons_of_mem _ hx), PyData.canLay0]
    have : PyData.strOk (T l) = true := by
      unfold PyData.strOk T
      simp only [List.size_toArray, List.all_toArray', List.all_eq_true, decide_eq_true_eq]
      intro c hc
      have := hl c hc
      omega
    rw [this]
    rfl
theorem depthAll_ts : ∀ (ls : List (List Nat)), PyData.depthAll (ts ls) = 0
  | [] => by simp [PyData.depthAll]
  | l :: ls => by
    show PyData.depthAll (.str (T l) :: ts ls) = 0
    rw [PyData.depthAll, depthAll_ts ls]
    simp [PyData.depth]
theorem shaped_lts {ls : List (List Nat)} (h : ∀ l ∈ ls, Lo l) : SeqAt.shaped (.list (ts ls)) = true := by
  simp [SeqAt.shaped, PyData.canLay0, PyData.depth, canAll_ts ls h, depthAll_ts]
theorem eqvAll_ts : ∀ (xs ys : List (List Nat)), PyData.eqvAll (ts xs) (ts ys) = decide (xs = ys)
  | [], [] => by simp [eqvA_nn]
  | [], y :: ys => by simp [eqvA_nc]
  | x :: xs, [] => by simp [eqvA_cn]
  | x :: xs, y :: ys => by
    show PyData.eqvAll (.str (T x) :: ts xs) (.str (T y) :: ts ys) = _
    rw [eqvA_cc, eqvAll_ts xs ys, eqv_ss]
    simp [Bool.decide_and, T_inj]
theorem gEq_lts {xs ys : List (List Nat)} (hx : ∀ l ∈ xs, Lo l) (hy : ∀ l ∈ ys, Lo l) : gEq (.list (ts xs)) (.list (ts ys)) = some (.bool (decide (xs = ys))) := by
  rw [gEq_ll, if_pos (by rw [shaped_lts hx, shaped_lts hy]; rfl), eqvAll_ts]
theorem gNe_lts {xs ys : List (List Nat)} (hx : ∀ l ∈ xs, Lo l) (hy : ∀ l ∈ ys, Lo l) : gNe (.list (ts xs)) (.list (ts ys)) = some (.bool (!decide (xs = ys))) := by
  rw [gNe_ll, if_pos (by rw [shaped_lts hx, shaped_lts hy]; rfl), eqvAll_ts]
theorem isi_list {xs : List PyData} : gIsi "list" (.list xs) = some (.bool true) := rfl
theorem cutF_lo (m : Nat) : ∀ (r : List Nat) (q t : Bool) (cur : List Nat), Lo r → Lo cur → ∀ p ∈ (cutF m r q t cur).1, Lo p := by
  intro r
  induction r with
  | nil => intro q t cur hr hc p hp; cases List.mem_singleton.mp hp; exact hc
  | cons c r ih =>
    intro q t cur hr hc p hp
    have hr' : Lo r := fun x hx => hr x (List.mem_cons_of_mem _ hx)
    have hc' : Lo (cur ++ [c]) := lo_app hc fun x hx => by cases List.mem_singleton.mp hx; exact hr c (List.mem_cons_self ..)
    unfold cutF at hp
    split at hp
    · exact ih _ _ _ hr' hc' p hp
    · split at hp
      · exact ih _ _ _ hr' hc' p hp
      · split at hp
        · exact ih _ _ _ hr' hc' p hp
        · split at hp
          · rcases List.mem_cons.mp hp with rfl | hp
            · exact hc
            · exact ih _ _ _ hr' (by intro c h; cases h) p hp
          · exact ih _ _ _ hr' hc' p hp
theorem trimL_mem {l : List Nat} {c : Nat} (h : c ∈ trimL wW l) : c ∈ l := by
  unfold trimL trimR at h
  have := (List.dropWhile_sublist _).subset (List.mem_reverse.mp h)
  exact (List.dropWhile_sublist _).subset (List.mem_reverse.mp this)
theorem cu_lo {l : List Nat} (h : Lo l) : ∀ p ∈ ((CU l).1.map (trimL wW)).filter (fun p => decide (p ≠ [])), Lo p := by
  intro p hp
  obtain ⟨p', hp', rfl⟩ := List.mem_map.mp (List.mem_filter.mp hp).1
  exact fun c hc => cutF_lo 44 l false false [] h (by intro c h; cases h) p' hp' c (trimL_mem hc)
/-- pairs of texts -/
abbrev pr (ps : List (List Nat × List Nat)) : List PyData := ps.map fun p => .tuple [.str (T p.1), .str (T p.2)]
def LoP (ps : List (List Nat × List Nat)) : Prop := ∀ p ∈ ps, Lo p.1 ∧ Lo p.2
theorem strOk_T {l : List Nat} (hl : Lo l) : PyData.strOk (T l) = true := by
  unfold PyData.strOk T
  simp only [List.size_toArray, List.all_toArray', List.all_eq_true, decide_eq_true_eq]
  intro c hc
  have := hl c hc
  omega
theorem canAll_pr : ∀ (ps : List (List Nat × List Nat)), LoP ps → PyData.canLayAll0 (pr ps) = true
  | [], _ => rfl
  | p :: ps, h => by
    show PyData.canLayAll0 (.tuple [.str (T p.1), .str (T p.2)] :: pr ps) = true
    rw [PyData.canLayAll0, canAll_pr ps fun x hx => h x (List.mem_cons_of_mem _ hx)]
    have h1 := h p (List.mem_cons_self ..)
    simp [PyData.canLay0, PyData.canLayAll0, strOk_T h1.1, strOk_T h1.2]
theorem depthAll_pr : ∀ (ps : List (List Nat × List Nat)), PyData.depthAll (pr ps) ≤ 1
  | [] => by simp [PyData.depthAll]
  | p :: ps => by
    show PyData.depthAll (.tuple [.str (T p.1), .str (T p.2)] :: pr ps) ≤ 1
    rw [PyData.depthAll]
    have := depthAll_pr ps
    simp [PyData.depth, PyData.depthAll]
    omega
theorem shaped_pr {ps : List (List Nat × List Nat)} (h : LoP ps) : SeqAt.shaped (.tuple (pr ps)) = true := by
  have := depthAll_pr ps
  simp [SeqAt.shaped, PyData.canLay0, PyData.depth, canAll_pr ps h]
  omega
theorem eqvAll_pr : ∀ (ps : List (List Nat × List Nat)), PyData.eqvAll (pr ps) (pr ps) = true
  | [] => by simp [eqvA_nn]
  | p :: ps => by
    show PyData.eqvAll (.tuple [.str (T p.1), .str (T p.2)] :: pr ps) (.tuple [.str (T p.1), .str (T p.2)] :: pr ps) = _
    rw [eqvA_cc, eqvAll_pr ps, eqv_tt, eqvA_cc, eqvA_cc, eqvA_nn, eqv_ss, eqv_ss]
    simp
theorem gEq_pr {ps : List (List Nat × List Nat)} (h : LoP ps) : gEq (.tuple (pr ps)) (.tuple (pr ps)) = some (.bool true) := by
  rw [gEq_tt, if_pos (by rw [shaped_pr h]; rfl), eqvAll_pr]
end ownanswer_k51_lists_and_joined_values
namespace ownanswer_k51_lists_and_joined_values
open PySem PySem.Spec L2 Fw
local macro_rules | `(tactic| simp only [walkA, $xs,*] $[$l:location]?) => `(tactic| simp only [ok_some, ok_none, okV_some, okV_none, ↓okV_if, ↓ok_if, ↓ok_ret, ↓ok_bnd, ↓ok_lft, ↓ok_bin, ↓ok_una, ↓ok_binL, ↓ok_unaL, ↓ok_mny, ↓ok_rdD, ↓ok_rdO, ↓ok_rdA, ↓ok_toB, ↓ok_sAnd, ↓ok_sOr, ↓ok_sNot, ↓ok_vAnd, ↓ok_vOr, ↓ok_sIf, ↓ok_chn, ↓ok_sNil, ↓ok_sCons, ↓ok_dTup, ↓ok_dLst, ↓ok_m0S, ↓ok_m1S, ↓ok_m1L, ↓ok_ixO, ↓ok_sPart, ↓ok_sSl, ↓ok_tupO, ↓ok_sItems, ↓ok_sScr, ↓ok_sEnum, ↓ok_sRng1, ↓ok_sRng2, ↓ok_seqS, ↓ok_nxt, ↓ok_brkS, ↓ok_cntS, ↓ok_retN, ↓ok_drpS, ↓ok_asg, ↓ok_asgL, ↓ok_asgG, ↓ok_augS, ↓ok_ifS, ↓ok_retD, ↓ok_retL, ↓ok_retO, ↓ok_appO, ↓ok_setO, ↓ok_extO, ↓ok_popS, ↓ok_forS, ↓ok_forL_nil, ↓ok_lcS, ↓ok_lcL_nil, ↓okV_callD, ↓okV_callV, ↓ok_callM, ↓ok_asD, ↓ok_asL, ↓ok_callS, ↓ok_runF, ↓ok_rplS, ↓ok_tupA, ↓ok_strM, ↓ok_chn3, own?, toN, toT, toNs, wipE, bakE, stp_nx, stp_ct, stp_bk, stp_rt, Fw.collect, ok_yesS, List.getElem?_cons_zero, List.getElem?_cons_succ, List.set_cons_zero, List.set_cons_succ, List.map_cons, List.map_nil, List.length_cons, List.length_nil, List.cons_append, List.nil_append, List.replicate_succ, List.replicate_zero, Nat.reduceAdd, Nat.reduceSub, Nat.reduceLeDiff, Nat.reduceLT, Nat.reduceEqDiff, Int.reduceLT, Int.reduceLE, Int.reduceNeg, Int.reducePow, Int.reduceEq, Option.isSome_some, Option.map_some, Option.map_none, true_and, and_true, if_true, if_false, ite_true, ite_false, Bool.false_eq_true, reduceIte, reduceCtorEq, gAdd_ii, gAdd_ss, gAdd_tt, gSub_ii, gMul_ii, gDiv_ii, gMod_ii, gNeg_i, gLt_ii, gGt_ii, gGe_ii, gLe_ii, eqv_ii, eqv_ss, eqv_bb, eqv_nn, eqv_ni, eqv_in, eqv_ns, eqv_sn, eqv_nb, eqv_bn, eqv_is, eqv_si, eqv_nt, eqv_tn, eqv_nl, eqv_ln, eqv_tt, eqv_ll, eqvA_nn, eqvA_cc, eqvA_nc, eqvA_cn, gEq_ii, gEq_ss, gEq_bb, gEq_nn, gEq_in, gEq_ni, gEq_sn, gEq_ns, gEq_si, gEq_is, gNe_ii, gNe_ss, gNe_bb, gNe_nn, gNot_b, gIsN_n, gIsN_i, gIsN_b, gIsN_s, gIsN_t, gIsN_l, gNotN_n, gNotN_i, gNotN_b, gNotN_s, gNotN_t, gNotN_l, gIx_l, gIx_t, gIx_s, gLen_s, gLen_l, gLen_t, gAbs_i, gInt_i, gInt_b, gInt_s, gOrd_sign, gDivmod_ii, gStr_i, gStr_s, gTuple_l, gTuple_t, gStrip_s, gLstrip_s, gSplit_s, gPartition_s, gJoin_m, gCat_ll, gSl_s, gSl_t, gSl_l, itemsOf_l, itemsOf_t, itemsOf_s, ofString_inj, cMul_r, cMul_l, ixN_lit, atI_lit, atI_m1, cast_lit, String.reduceEq, decide_true, decide_false, Int.reduceSub, Int.reduceAdd, Int.reduceMul, Int.reduceToNat, T_toList, T_len, T_app, T_inj, T_sign, T_cut, T_signs, T_strip, T_empty, gIn_T, gNin_T, gLjust_T, lt_0, lt_1, lt_2, lt_3, lt_4, lt_5, lt_6, lt_7, lt_8, lt_9, lt_10, lt_11, lt_12, lt_13, lt_14, lt_15, lt_16, lt_17, lt_18, lt_19, lt_20, lt_21, $xs,*] $[$l:location]?)
local macro_rules | `(tactic| simp only [walkA] $[$l:location]?) => `(tactic| simp only [ok_some, ok_none, okV_some, okV_none, ↓okV_if, ↓ok_if, ↓ok_ret, ↓ok_bnd, ↓ok_lft, ↓ok_bin, ↓ok_una, ↓ok_binL, ↓ok_unaL, ↓ok_mny, ↓ok_rdD, ↓ok_rdO, ↓ok_rdA, ↓ok_toB, ↓ok_sAnd, ↓ok_sOr, ↓ok_sNot, ↓ok_vAnd, ↓ok_vOr, ↓ok_sIf, ↓ok_chn, ↓ok_sNil, ↓ok_sCons, ↓ok_dTup, ↓ok_dLst, ↓ok_m0S, ↓ok_m1S, ↓ok_m1L, ↓ok_ixO, ↓ok_sPart, ↓ok_sSl, ↓ok_tupO, ↓ok_sItems, ↓ok_sScr, ↓ok_sEnum, ↓ok_sRng1, ↓ok_sRng2, ↓ok_seqS, ↓ok_nxt, ↓ok_brkS, ↓ok_cntS, ↓ok_retN, ↓ok_drpS, ↓ok_asg, ↓ok_asgL, ↓ok_asgG, ↓ok_augS, ↓ok_ifS, ↓ok_retD, ↓ok_retL, ↓ok_retO, ↓ok_appO, ↓ok_setO, ↓ok_extO, ↓ok_popS, ↓ok_forS, ↓ok_forL_nil, ↓ok_lcS, ↓ok_lcL_nil, ↓okV_callD, ↓okV_callV, ↓ok_callM, ↓ok_asD, ↓ok_asL, ↓ok_callS, ↓ok_runF, ↓ok_rplS, ↓ok_tupA, ↓ok_strM, ↓ok_chn3, own?, toN, toT, toNs, wipE, bakE, stp_nx, stp_ct, stp_bk, stp_rt, Fw.collect, ok_yesS, List.getElem?_cons_zero, List.getElem?_cons_succ, List.set_cons_zero, List.set_cons_succ, List.map_cons, List.map_nil, List.length_cons, List.length_nil, List.cons_append, List.nil_append, List.replicate_succ, List.replicate_zero, Nat.reduceAdd, Nat.reduceSub, Nat.reduceLeDiff, Nat.reduceLT, Nat.reduceEqDiff, Int.reduceLT, Int.reduceLE, Int.reduceNeg, Int.reducePow, Int.reduceEq, Option.isSome_some, Option.map_some, Option.map_none, true_and, and_true, if_true, if_false, ite_true, ite_false, Bool.false_eq_true, reduceIte, reduceCtorEq, gAdd_ii, gAdd_ss, gAdd_tt, gSub_ii, gMul_ii, gDiv_ii, gMod_ii, gNeg_i, gLt_ii, gGt_ii, gGe_ii, gLe_ii, eqv_ii, eqv_ss, eqv_bb, eqv_nn, eqv_ni, eqv_in, eqv_ns, eqv_sn, eqv_nb, eqv_bn, eqv_is, eqv_si, eqv_nt, eqv_tn, eqv_nl, eqv_ln, eqv_tt, eqv_ll, eqvA_nn, eqvA_cc, eqvA_nc, eqvA_cn, gEq_ii, gEq_ss, gEq_bb, gEq_nn, gEq_in, gEq_ni, gEq_sn, gEq_ns, gEq_si, gEq_is, gNe_ii, gNe_ss, gNe_bb, gNe_nn, gNot_b, gIsN_n, gIsN_i, gIsN_b, gIsN_s, gIsN_t, gIsN_l, gNotN_n, gNotN_i, gNotN_b, gNotN_s, gNotN_t, gNotN_l, gIx_l, gIx_t, gIx_s, gLen_s, gLen_l, gLen_t, gAbs_i, gInt_i, gInt_b, gInt_s, gOrd_sign, gDivmod_ii, gStr_i, gStr_s, gTuple_l, gTuple_t, gStrip_s, gLstrip_s, gSplit_s, gPartition_s, gJoin_m, gCat_ll, gSl_s, gSl_t, gSl_l, itemsOf_l, itemsOf_t, itemsOf_s, ofString_inj, cMul_r, cMul_l, ixN_lit, atI_lit, atI_m1, cast_lit, String.reduceEq, decide_true, decide_false, Int.reduceSub, Int.reduceAdd, Int.reduceMul, Int.reduceToNat, T_toList, T_len, T_app, T_inj, T_sign, T_cut, T_signs, T_strip, T_empty, gIn_T, gNin_T, gLjust_T, lt_0, lt_1, lt_2, lt_3, lt_4, lt_5, lt_6, lt_7, lt_8, lt_9, lt_10, lt_11, lt_12, lt_13, lt_14, lt_15, lt_16, lt_17, lt_18, lt_19, lt_20, lt_21] $[$l:location]?)

/-- the values of a name, joined -/
def valsOfV (n : List Nat) (ps : List (List Nat × List Nat)) : List (List Nat) := (ps.filter fun p => decide (p.1 = n)).map (·.2)
def joinOfV (vs : List (List Nat)) : PyData := if vs = [] then .none else .str (Txt.join (T [44, 32]) (vs.map T))
theorem join_boundV {vs : List (List Nat)} {b n : Nat} (h : ∀ v ∈ vs, v.length ≤ b) (hn : vs.length ≤ n) : ((vs.map T).map (·.length)).sum + (vs.map T).length * 2 ≤ n * (b + 2) := by
  have : ((vs.map T).map (·.length)).sum ≤ vs.length * b := by
    clear hn
    induction vs with
    | nil => simp
    | cons v vs ih =>
      have h1 := ih fun w hw => h w (List.mem_cons_of_mem _ hw)
      have h2 := h v (List.mem_cons_self ..)
      simp only [List.map_cons, List.sum_cons, T_len, List.length_cons, Nat.succ_mul]
      omega
  rw [List.length_map]
  have h1 : vs.length * b ≤ n * b := Nat.mul_le_mul_right b hn
  rw [Nat.mul_add]
  omega
theorem vals_okV {ps : List (List Nat × List Nat)} {n : List Nat} (hlow : gLower (T n) = some (.str (T n))) (hn : ps.length < 100) {Q : Sl → En → Prop} (q : Q (.own (ts (valsOfV n ps))) [.un, .un]) :
    Ok (S_values [.dat (.tuple (pr ps)), .dat (.str (T n))]) Q := by
  have hs := sizeLine_eq
  unfold S_values
  rw [ok_runF]
  refine ⟨rfl, ?_⟩
  simp only [walkA, Y_values, S_lower, Y_lower, hlow]
  simp only [walkA, T_values_1]
  refine ⟨by rw [List.length_map]; omega, ?_⟩
  refine lcL_map (fun p : List Nat × List Nat => PyData.tuple [.str (T p.1), .str (T p.2)]) (fun p => .str (T p.2)) (fun p => decide (p.1 = n)) ps _ (fun p hp => ?_) ?_
  · unfold turn
    simp only [walkA, C_values_1, C_values_2]
    by_cases h : p.1 = n
    · simp only [walkA, h]
    · simp only [walkA, h]
  · simp only [walkA]
    rw [show (ps.filter fun p => decide (p.1 = n)).map (fun p => PyData.str (T p.2)) = ts (valsOfV n ps) by unfold valsOfV; simp [ts]]
    exact q
theorem join_okV {ps : List (List Nat × List Nat)} {n : List Nat} (hlow : gLower (T n) = some (.str (T n))) (hn : ps.length < 100) (hb : ∀ p ∈ ps, p.2.length ≤ 100) {Q : Sl → En → Prop} (q : Q (.dat (joinOfV (valsOfV n ps))) [.un, .un]) :
    Ok (S_join_values [.dat (.tuple (pr ps)), .dat (.str (T n))]) Q := by
  unfold S_join_values
  rw [ok_runF]
  refine ⟨rfl, ?_⟩
  simp only [walkA, Y_join_values]
  refine vals_okV hlow hn ?_
  simp only [walkA, T_join_values_1]
  have hv : ∀ v ∈ valsOfV n ps, v.length ≤ 100 := fun v hv => by
    obtain ⟨p, hp, rfl⟩ := List.mem_map.mp hv
    exact hb p (List.mem_filter.mp hp).1
  have hvl : (valsOfV n ps).length ≤ 100 := by
    unfold valsOfV
    rw [List.length_map]
    have := List.length_filter_le (fun p : List Nat × List Nat => decide (p.1 = n)) ps
    omega
  have hj := join_boundV hv hvl
  by_cases h : valsOfV n ps = []
  · rw [joinOfV, if_pos h] at q
    simp only [walkA, h]
    exact q
  · rw [joinOfV, if_neg h] at q
    have hl : ¬ ((valsOfV n ps).length : Int) = 0 := fun z => h (List.eq_nil_of_length_eq_zero (by omega))
    have e1 : ts (valsOfV n ps) = ((valsOfV n ps).map T).map .str := by rw [List.map_map]; rfl
    simp only [walkA, e1, List.length_map, hl, gJoin_m]
    simp only [List.length_map] at hj
    exact ⟨by omega, q⟩
end ownanswer_k51_lists_and_joined_values
namespace ownanswer_k53_dates_written
open PySem Fw
def C_is_digits_1 : SE PyData := (bin (rdD 1) (ret (.str "0123456789")) gIn)
def C_is_digits_2 : SE PyData := (bin (rdD 1) (ret (.str "0123456789")) gIn)
def Y_is_digits : SS := (retD (vAnd (bin (una (rdD 0) gLen) (ret (.int 0)) gGt) (una (bnd (lcS (sItems (rdD 0)) [1] (toN 1) yesS C_is_digits_2) fun ds => ret (.list ds)) gAll)))
abbrev N_is_digits : List Str := ["text", "sign"]
def S_is_digits : Fn := runF 1 2 Y_is_digits
def Y__is_leap : SS := (retD (vAnd (bin (bin (rdD 0) (ret (.int 4)) gMod) (ret (.int 0)) gEq) (vOr (bin (bin (rdD 0) (ret (.int 100)) gMod) (ret (.int 0)) gNe) (bin (bin (rdD 0) (ret (.int 400)) gMod) (ret (.int 0)) gEq))))
abbrev N__is_leap : List Str := ["year"]
def S__is_leap : Fn := runF 1 1 Y__is_leap
def Y__days_of_month : SS := (retD (sIf (sAnd (toB (bin (rdD 1) (ret (.int 1)) gEq)) (toB (mny (sCons (rdD 0) sNil) (callD S__is_leap)))) (ret (.int 29)) (bin (ret (.tuple [(.int 31), (.int 28), (.int 31), (.int 30), (.int 31), (.int 30), (.int 31), (.int 31), (.int 30), (.int 31), (.int 30), (.int 31)])) (rdD 1) gIx)))
abbrev N__days_of_month : List Str := ["year", "month"]
def S__days_of_month : Fn := runF 2 2 Y__days_of_month
def T__days_ahead_1 : SS := (retD (bin (bin (bin (rdD 0) (ret (.int 1970)) gSub) (ret (.int 365)) gMul) (rdD 2) gAdd))
def T__days_ahead_2 : SS := (seqS (asg 2 (bin (bin (bin (bin (rdD 1) (ret (.int 4)) gDiv) (bin (rdD 1) (ret (.int 100)) gDiv) gSub) (bin (rdD 1) (ret (.int 400)) gDiv) gAdd) (ret (.int 477)) gSub)) T__days_ahead_1)
def Y__days_ahead : SS := (seqS (asg 1 (bin (rdD 0) (ret (.int 1)) gSub)) T__days_ahead_2)
abbrev N__days_ahead : List Str := ["year", "past", "leaps"]
def S__days_ahead : Fn := runF 1 3 Y__days_ahead
def L__year_of_1 : SS := (augS 1 (fun i j => i + j) (ret (.int 1)))
def T__year_of_1 : SS := (retD (rdD 1))
def T__year_of_2 : SS := (seqS (whS (toB (bin (mny (sCons (bin (rdD 1) (ret (.int 1)) gAdd) sNil) (callD S__days_ahead)) (rdD 0) gLe)) L__year_of_1) T__year_of_1)
def Y__year_of : SS := (seqS (asg 1 (bin (ret (.int 1970)) (bin (rdD 0) (ret (.int 366)) gDiv) gAdd)) T__year_of_2)
abbrev N__year_of : List Str := ["days", "year"]
def S__year_of : Fn := runF 1 2 Y__year_of
def T__clock_1 : SS := (retD (jns [(una (rdD 3) (gSpec "02d")), (ret (.str ":")), (una (rdD 1) (gSpec "02d")), (ret (.str ":")), (una (rdD 2) (gSpec "02d"))] Str.empty))
def T__clock_2 : SS := (seqS (asgG (toT [3, 1]) (mny (sCons (rdD 1) (sCons (ret (.int 60)) sNil)) gDivmod)) T__clock_1)
def Y__clock : SS := (seqS (asgG (toT [1, 2]) (mny (sCons (rdD 0) (sCons (ret (.int 60)) sNil)) gDivmod)) T__clock_2)
abbrev N__clock : List Str := ["second", "minute", "rest", "hour"]
def S__clock : Fn := runF 1 4 Y__clock
def T__parts_1 : SS := (augS 4 (fun i j => i + j) (ret (.int 1)))
def L__parts_1 : SS := (seqS (augS 3 (fun i j => i - j) (mny (sCons (rdD 2) (sCons (rdD 4) sNil)) (callD S__days_of_month))) T__parts_1)
def T__parts_2 : SS := (retD (dTup (sCons (bin (ret (.tuple [(.str "Monday"), (.str "Tuesday"), (.str "Wednesday"), (.str "Thursday"), (.str "Friday"), (.str "Saturday"), (.str "Sunday")])) (bin (bin (rdD 1) (ret (.int 3)) gAdd) (ret (.int 7)) gMod) gIx) (sCons (rdD 2) (sCons (rdD 4) (sCons (bin (rdD 3) (ret (.int 1)) gAdd) (sCons (mny (sCons (rdD 5) sNil) (callD S__clock)) sNil)))))))
def T__parts_3 : SS := (seqS (asg 5 (bin (rdD 0) (bin (rdD 1) (ret (.int 86400)) gMul) gSub)) T__parts_2)
def T__parts_4 : SS := (seqS (whS (toB (bin (rdD 3) (mny (sCons (rdD 2) (sCons (rdD 4) sNil)) (callD S__days_of_month)) gGe)) L__parts_1) T__parts_3)
def T__parts_5 : SS := (seqS (asg 4 (ret (.int 0))) T__parts_4)
def T__parts_6 : SS := (seqS (asg 3 (bin (rdD 1) (mny (sCons (rdD 2) sNil) (callD S__days_ahead)) gSub)) T__parts_5)
def T__parts_7 : SS := (seqS (asg 2 (mny (sCons (rdD 1) sNil) (callD S__year_of))) T__parts_6)
def Y__parts : SS := (seqS (asg 1 (bin (rdD 0) (ret (.int 86400)) gDiv)) T__parts_7)
abbrev N__parts : List Str := ["time", "days", "year", "day", "month", "second"]
def S__parts : Fn := runF 1 6 Y__parts
def T_write_date_1 : SS := (retD (jns [(una (sSl (rdD 1) (ret none) (sPart (ret (.int 3)))) gFmt), (ret (.str ", ")), (una (rdD 4) (gSpec "02d")), (ret (.str " ")), (una (bin (ret (.tuple [(.str "Jan"), (.str "Feb"), (.str "Mar"), (.str "Apr"), (.str "May"), (.str "Jun"), (.str "Jul"), (.str "Aug"), (.str "Sep"), (.str "Oct"), (.str "Nov"), (.str "Dec")])) (rdD 3) gIx) gFmt), (ret (.str " ")), (una (rdD 2) gFmt), (ret (.str " ")), (una (rdD 5) gFmt), (ret (.str " GMT"))] Str.empty))
def Y_write_date : SS := (seqS (asgG (toT [1, 2, 3, 4, 5]) (mny (sCons (rdD 0) sNil) (callD S__parts))) T_write_date_1)
abbrev N_write_date : List Str := ["time", "weekday", "year", "month", "day", "clock"]
def S_write_date : Fn := runF 1 6 Y_write_date
def T__write_dashed_1 : SS := (retD (jns [(una (rdD 2) gFmt), (ret (.str ", ")), (una (rdD 5) (gSpec "02d")), (ret (.str "-")), (una (bin (ret (.tuple [(.str "Jan"), (.str "Feb"), (.str "Mar"), (.str "Apr"), (.str "May"), (.str "Jun"), (.str "Jul"), (.str "Aug"), (.str "Sep"), (.str "Oct"), (.str "Nov"), (.str "Dec")])) (rdD 4) gIx) gFmt), (ret (.str "-")), (una (rdD 1) (gSpec "02d")), (ret (.str " ")), (una (rdD 6) gFmt), (ret (.str " GMT"))] Str.empty))
def T__write_dashed_2 : SS := (seqS (asg 1 (bin (rdD 3) (ret (.int 100)) gMod)) T__write_dashed_1)
def Y__write_dashed : SS := (seqS (asgG (toT [2, 3, 4, 5, 6]) (mny (sCons (rdD 0) sNil) (callD S__parts))) T__write_dashed_2)
abbrev N__write_dashed : List Str := ["time", "last_two", "weekday", "year", "month", "day", "clock"]
def S__write_dashed : Fn := runF 1 7 Y__write_dashed
def T__write_spaced_1 : SS := (retD (jns [(una (sSl (rdD 1) (ret none) (sPart (ret (.int 3)))) gFmt), (ret (.str " ")), (una (bin (ret (.tuple [(.str "Jan"), (.str "Feb"), (.str "Mar"), (.str "Apr"), (.str "May"), (.str "Jun"), (.str "Jul"), (.str "Aug"), (.str "Sep"), (.str "Oct"), (.str "Nov"), (.str "Dec")])) (rdD 3) gIx) gFmt), (ret (.str " ")), (una (rdD 4) (gSpec ">2d")), (ret (.str " ")), (una (rdD 5) gFmt), (ret (.str " ")), (una (rdD 2) gFmt)] Str.empty))
def Y__write_spaced : SS := (seqS (asgG (toT [1, 2, 3, 4, 5]) (mny (sCons (rdD 0) sNil) (callD S__parts))) T__write_spaced_1)
abbrev N__write_spaced : List Str := ["time", "weekday", "year", "month", "day", "clock"]
def S__write_spaced : Fn := runF 1 6 Y__write_spaced
def C__read_clock_1 : SE PyData := (mny (sCons (rdD 5) sNil) (callD S_is_digits))
def T__read_clock_1 : SS := (retD (bin (bin (bin (rdD 2) (ret (.int 3600)) gMul) (bin (rdD 3) (ret (.int 60)) gMul) gAdd) (rdD 4) gAdd))
def T__read_clock_2 : SS := (seqS (ifS (sOr (toB (bin (rdD 2) (ret (.int 23)) gGt)) (sOr (toB (bin (rdD 3) (ret (.int 59)) gGt)) (toB (bin (rdD 4) (ret (.int 59)) gGt)))) (retD (ret .none)) nxt) T__read_clock_1)
def T__read_clock_3 : SS := (seqS (asg 4 (una (bin (rdD 1) (ret (.int 2)) gIx) gInt)) T__read_clock_2)
def T__read_clock_4 : SS := (seqS (asg 3 (una (bin (rdD 1) (ret (.int 1)) gIx) gInt)) T__read_clock_3)
def T__read_clock_5 : SS := (seqS (asg 2 (una (bin (rdD 1) (ret (.int 0)) gIx) gInt)) T__read_clock_4)
def T__read_clock_6 : SS := (seqS (ifS (sOr (toB (bin (una (rdD 1) gLen) (ret (.int 3)) gNe)) (sNot (toB (una (bnd (lcS (sItems (rdD 1)) [5] (toN 5) yesS C__read_clock_1) fun ds => ret (.list ds)) gAll)))) (retD (ret .none)) nxt) T__read_clock_5)
def Y__read_clock : SS := (seqS (asg 1 (bnd (m1L (rdD 0) (ret (.str ":")) gSplit) fun ds => ret (.list ds))) T__read_clock_6)
abbrev N__read_clock : List Str := ["text", "parts", "hour", "minute", "second", "part"]
def S__read_clock : Fn := runF 1 6 Y__read_clock
def L__read_time_1 : SS := (augS 6 (fun i j => i + j) (mny (sCons (rdD 0) (sCons (rdD 7) sNil)) (callD S__days_of_month)))
def T__read_time_1 : SS := (retD (bin (bin (rdD 6) (ret (.int 86400)) gMul) (rdD 4) gAdd))
def T__read_time_2 : SS := (seqS (forS (sRng1 (rdD 5)) (toN 7) L__read_time_1) T__read_time_1)
def T__read_time_3 : SS := (seqS (asg 6 (bin (bin (mny (sCons (rdD 0) sNil) (callD S__days_ahead)) (una (rdD 2) gInt) gAdd) (ret (.int 1)) gSub)) T__read_time_2)
def T__read_time_4 : SS := (seqS (ifS (sOr (toB (bin (una (rdD 2) gInt) (ret (.int 1)) gLt)) (toB (bin (una (rdD 2) gInt) (mny (sCons (rdD 0) (sCons (rdD 5) sNil)) (callD S__days_of_month)) gGt))) (retD (ret .none)) nxt) T__read_time_3)
def T__read_time_5 : SS := (seqS (asg 5 (una (rdD 1) (gTidx [(.str "Jan"), (.str "Feb"), (.str "Mar"), (.str "Apr"), (.str "May"), (.str "Jun"), (.str "Jul"), (.str "Aug"), (.str "Sep"), (.str "Oct"), (.str "Nov"), (.str "Dec")]))) T__read_time_4)
def T__read_time_6 : SS := (seqS (ifS (sOr (toB (bin (rdD 0) (ret (.int 1970)) gLt)) (toB (bin (rdD 0) (ret (.int 9999)) gGt))) (retD (ret .none)) nxt) T__read_time_5)
def T__read_time_7 : SS := (seqS (ifS (sOr (toB (una (rdD 4) gIsN)) (sOr (toB (bin (rdD 1) (ret (.tuple [(.str "Jan"), (.str "Feb"), (.str "Mar"), (.str "Apr"), (.str "May"), (.str "Jun"), (.str "Jul"), (.str "Aug"), (.str "Sep"), (.str "Oct"), (.str "Nov"), (.str "Dec")])) gNin)) (sNot (toB (mny (sCons (rdD 2) sNil) (callD S_is_digits)))))) (retD (ret .none)) nxt) T__read_time_6)
def Y__read_time : SS := (seqS (asg 4 (mny (sCons (rdD 3) sNil) (callD S__read_clock))) T__read_time_7)
abbrev N__read_time : List Str := ["year", "month", "day", "clock", "second", "at", "days", "past"]
def S__read_time : Fn := runF 4 8 Y__read_time
def T__full_year_1 : SS := (retD (bin (rdD 2) (bin (bin (rdD 2) (rdD 0) gSub) (ret (.int 100)) gMod) gSub))
def Y__full_year : SS := (seqS (asg 2 (bin (mny (sCons (bin (rdD 1) (ret (.int 86400)) gDiv) sNil) (callD S__year_of)) (ret (.int 50)) gAdd)) T__full_year_1)
abbrev N__full_year : List Str := ["last_two", "now", "latest"]
def S__full_year : Fn := runF 2 3 Y__full_year
def T__read_fixed_1 : SS := (retD (sIf (sAnd (toB (una (rdD 1) gNotN)) (toB (bin (mny (sCons (rdD 1) sNil) (callD S_write_date)) (rdD 0) gEq))) (rdD 1) (ret .none)))
def T__read_fixed_2 : SS := (seqS (asg 1 (mny (sCons (una (sSl (rdD 0) (sPart (ret (.int 12))) (sPart (ret (.int 16)))) gInt) (sCons (sSl (rdD 0) (sPart (ret (.int 8))) (sPart (ret (.int 11)))) (sCons (sSl (rdD 0) (sPart (ret (.int 5))) (sPart (ret (.int 7)))) (sCons (sSl (rdD 0) (sPart (ret (.int 17))) (sPart (ret (.int 25)))) sNil)))) (callD S__read_time))) T__read_fixed_1)
def Y__read_fixed : SS := (seqS (ifS (sNot (toB (mny (sCons (sSl (rdD 0) (sPart (ret (.int 12))) (sPart (ret (.int 16)))) sNil) (callD S_is_digits)))) (retD (ret .none)) nxt) T__read_fixed_2)
abbrev N__read_fixed : List Str := ["text", "time"]
def S__read_fixed : Fn := runF 1 2 Y__read_fixed
def T__read_dashed_1 : SS := (retD (sIf (sAnd (toB (una (rdD 3) gNotN)) (toB (bin (mny (sCons (rdD 3) sNil) (callD S__write_dashed)) (rdD 0) gEq))) (rdD 3) (ret .none)))
def T__read_dashed_2 : SS := (seqS (asg 3 (mny (sCons (mny (sCons (una (sSl (rdD 2) (sPart (ret (.int 7))) (sPart (ret (.int 9)))) gInt) (sCons (rdD 1) sNil)) (callD S__full_year)) (sCons (sSl (rdD 2) (sPart (ret (.int 3))) (sPart (ret (.int 6)))) (sCons (sSl (rdD 2) (ret none) (sPart (ret (.int 2)))) (sCons (sSl (rdD 2) (sPart (ret (.int 10))) (sPart (ret (.int 18)))) sNil)))) (callD S__read_time))) T__read_dashed_1)
def T__read_dashed_3 : SS := (seqS (ifS (sNot (toB (mny (sCons (sSl (rdD 2) (sPart (ret (.int 7))) (sPart (ret (.int 9)))) sNil) (callD S_is_digits)))) (retD (ret .none)) nxt) T__read_dashed_2)
def Y__read_dashed : SS := (seqS (asg 2 (bin (m1S (rdD 0) (ret (.str ", ")) gPartition) (ret (.int 2)) gIx)) T__read_dashed_3)
abbrev N__read_dashed : List Str := ["text", "now", "rest", "time"]
def S__read_dashed : Fn := runF 2 4 Y__read_dashed
def T__read_spaced_1 : SS := (retD (sIf (sAnd (toB (una (rdD 1) gNotN)) (toB (bin (mny (sCons (rdD 1) sNil) (callD S__write_spaced)) (rdD 0) gEq))) (rdD 1) (ret .none)))
def T__read_spaced_2 : SS := (seqS (asg 1 (mny (sCons (una (sSl (rdD 0) (sPart (ret (.int 20))) (sPart (ret (.int 24)))) gInt) (sCons (sSl (rdD 0) (sPart (ret (.int 4))) (sPart (ret (.int 7)))) (sCons (m1S (sSl (rdD 0) (sPart (ret (.int 8))) (sPart (ret (.int 10)))) (ret (.str " ")) gLstrip) (sCons (sSl (rdD 0) (sPart (ret (.int 11))) (sPart (ret (.int 19)))) sNil)))) (callD S__read_time))) T__read_spaced_1)
def Y__read_spaced : SS := (seqS (ifS (sNot (toB (mny (sCons (sSl (rdD 0) (sPart (ret (.int 20))) (sPart (ret (.int 24)))) sNil) (callD S_is_digits)))) (retD (ret .none)) nxt) T__read_spaced_2)
abbrev N__read_spaced : List Str := ["text", "time"]
def S__read_spaced : Fn := runF 1 2 Y__read_spaced
def T_read_date_1 : SS := (retD (mny (sCons (rdD 0) (sCons (rdD 1) sNil)) (callD S__read_dashed)))
def T_read_date_2 : SS := (seqS (ifS (toB (bin (sSl (rdD 0) (sPart (ret (.int 3))) (sPart (ret (.int 4)))) (ret (.str " ")) gEq)) (retD (mny (sCons (rdD 0) sNil) (callD S__read_spaced))) nxt) T_read_date_1)
def Y_read_date : SS := (seqS (ifS (toB (bin (sSl (rdD 0) (sPart (ret (.int 3))) (sPart (ret (.int 4)))) (ret (.str ",")) gEq)) (retD (mny (sCons (rdD 0) sNil) (callD S__read_fixed))) nxt) T_read_date_2)
abbrev N_read_date : List Str := ["text", "now"]
def S_read_date : Fn := runF 2 2 Y_read_date
def L__law_draw_1 : SS := (asg 1 (bin (una (bin (bin (bin (rdD 1) (ret (.int 48271)) gMul) (bin (una (una (rdD 2) gInt) gAbs) (ret (.int 65521)) gMod) gAdd) (ret (.int 1)) gAdd) gInt) (ret (.int 2147483647)) gMod))
def C__law_draw_1 : SE PyData := (una (una (rdD 2) gInt) gAbs)
def T__law_draw_1 : SS := (retL (dLst (sCons (bnd (lcS (sScr 0) [2] (toN 2) yesS C__law_draw_1) fun ds => ret (.list ds)) (sCons (una (ret (.int 1)) gNeg) (sCons (ret (.int 0)) (sCons (rdD 1) sNil))))))
def T__law_draw_2 : SS := (seqS (forS (sScr 0) (toN 2) L__law_draw_1) T__law_draw_1)
def Y__law_draw : SS := (seqS (asg 1 (ret (.int 7))) T__law_draw_2)
abbrev N__law_draw : List Str := ["script", "seed", "cell"]
def S__law_draw : Fn := runF 1 3 Y__law_draw
def T__law_take_1 : SS := (setO 0 (ixO 0 (ret (.int 3))) (ret (.int 2)))
def T__law_take_2 : SS := (ifS (toB (bin (ixO 0 (ret (.int 2))) (ret (.int 0)) gEq)) (seqS (setO 0 (bin (una (bin (bin (ixO 0 (ret (.int 3))) (ret (.int 48271)) gMul) (ret (.int 11)) gAdd) gInt) (ret (.int 2147483647)) gMod) (ret (.int 3))) T__law_take_1) nxt)
def T__law_take_3 : SS := (seqS (ifS (toB (bin (ixO 0 (ret (.int 1))) (una (ixO 0 (ret (.int 0))) gLen) gLt)) (setO 0 (bin (ixO 0 (ret (.int 0))) (ixO 0 (ret (.int 1))) gIx) (ret (.int 2))) nxt) T__law_take_2)
def T__law_take_4 : SS := (retD (rdD 2))
def T__law_take_5 : SS := (seqS (setO 0 (bin (ixO 0 (ret (.int 2))) (rdD 1) gDiv) (ret (.int 2))) T__law_take_4)
def T__law_take_6 : SS := (seqS (asg 2 (bin (una (ixO 0 (ret (.int 2))) gInt) (rdD 1) gMod)) T__law_take_5)
def Y__law_take : SS := (seqS (ifS (toB (bin (ixO 0 (ret (.int 2))) (ret (.int 0)) gEq)) (seqS (setO 0 (bin (ixO 0 (ret (.int 1))) (ret (.int 1)) gAdd) (ret (.int 1))) T__law_take_3) nxt) T__law_take_6)
abbrev N__law_take : List Str := ["draw", "many", "found"]
def S__law_take : Fn := runF 2 3 Y__law_take
def Y__law_leap : SS := (retD (vAnd (bin (bin (rdD 0) (ret (.int 4)) gMod) (ret (.int 0)) gEq) (vOr (bin (bin (rdD 0) (ret (.int 100)) gMod) (ret (.int 0)) gNe) (bin (bin (rdD 0) (ret (.int 400)) gMod) (ret (.int 0)) gEq))))
abbrev N__law_leap : List Str := ["year"]
def S__law_leap : Fn := runF 1 1 Y__law_leap
def Y__law_lengths : SS := (retL (dLst (sCons (ret (.int 31)) (sCons (sIf (toB (mny (sCons (rdD 0) sNil) (callD S__law_leap))) (ret (.int 29)) (ret (.int 28))) (sCons (ret (.int 31)) (sCons (ret (.int 30)) (sCons (ret (.int 31)) (sCons (ret (.int 30)) (sCons (ret (.int 31)) (sCons (ret (.int 31)) (sCons (ret (.int 30)) (sCons (ret (.int 31)) (sCons (ret (.int 30)) (sCons (ret (.int 31)) sNil))))))))))))))
abbrev N__law_lengths : List Str := ["year"]
def S__law_lengths : Fn := runF 1 1 Y__law_lengths
def L__law_days_1 : SS := (asg 3 (bin (rdD 3) (ret (.int 146097)) gAdd))
def L__law_days_2 : SS := (asg 3 (bin (rdD 3) (sIf (toB (mny (sCons (rdD 5) sNil) (callD S__law_leap))) (ret (.int 366)) (ret (.int 365))) gAdd))
def T__law_days_1 : SS := (retD (bin (bin (bin (rdD 3) (una (sSl (mny (sCons (rdD 0) sNil) (callD S__law_lengths)) (ret none) (sPart (bin (rdD 1) (ret (.int 1)) gSub))) gSum) gAdd) (rdD 2) gAdd) (ret (.int 1)) gSub))
def T__law_days_2 : SS := (seqS (forS (sRng2 (bin (ret (.int 1970)) (bin (bin (bin (rdD 0) (ret (.int 1970)) gSub) (ret (.int 400)) gDiv) (ret (.int 400)) gMul) gAdd) (rdD 0)) (toN 5) L__law_days_2) T__law_days_1)
def T__law_days_3 : SS := (seqS (forS (sRng1 (bin (bin (rdD 0) (ret (.int 1970)) gSub) (ret (.int 400)) gDiv)) (toN 4) L__law_days_1) T__law_days_2)
def Y__law_days : SS := (seqS (asg 3 (ret (.int 0))) T__law_days_3)
abbrev N__law_days : List Str := ["year", "month", "day", "days", "k", "one"]
def S__law_days : Fn := runF 3 6 Y__law_days
def Y__law_names : SS := (retL (dLst (sCons (ret (.str "Monday")) (sCons (ret (.str "Tuesday")) (sCons (ret (.str "Wednesday")) (sCons (ret (.str "Thursday")) (sCons (ret (.str "Friday")) (sCons (ret (.str "Saturday")) (sCons (ret (.str "Sunday")) sNil)))))))))
abbrev N__law_names : List Str := []
def S__law_names : Fn := runF 0 0 Y__law_names
def Y__law_months : SS := (retL (dLst (sCons (ret (.str "Jan")) (sCons (ret (.str "Feb")) (sCons (ret (.str "Mar")) (sCons (ret (.str "Apr")) (sCons (ret (.str "May")) (sCons (ret (.str "Jun")) (sCons (ret (.str "Jul")) (sCons (ret (.str "Aug")) (sCons (ret (.str "Sep")) (sCons (ret (.str "Oct")) (sCons (ret (.str "Nov")) (sCons (ret (.str "Dec")) sNil))))))))))))))
abbrev N__law_months : List Str := []
def S__law_months : Fn := runF 0 0 Y__law_months
def Y__law_two : SS := (retD (bin (una (bin (rdD 0) (ret (.int 10)) gDiv) gStr) (una (bin (rdD 0) (ret (.int 10)) gMod) gStr) gAdd))
abbrev N__law_two : List Str := ["number"]
def S__law_two : Fn := runF 1 1 Y__law_two
def Y__law_clock : SS := (retD (bin (bin (bin (bin (mny (sCons (bin (rdD 0) (ret (.int 0)) gIx) sNil) (callD S__law_two)) (ret (.str ":")) gAdd) (mny (sCons (bin (rdD 0) (ret (.int 1)) gIx) sNil) (callD S__law_two)) gAdd) (ret (.str ":")) gAdd) (mny (sCons (bin (rdD 0) (ret (.int 2)) gIx) sNil) (callD S__law_two)) gAdd))
abbrev N__law_clock : List Str := ["parts"]
def S__law_clock : Fn := runF 1 1 Y__law_clock
def T__law_moment_1 : SS := (retD (dTup (sCons (rdD 1) (sCons (rdD 2) (sCons (rdD 4) (sCons (rdD 5) sNil))))))
def T__law_moment_2 : SS := (seqS (asg 5 (bin (bnd (dLst (sCons (bnd (dLst (sCons (ret (.int 0)) (sCons (ret (.int 0)) (sCons (ret (.int 0)) sNil)))) fun ds => ret (.list ds)) (sCons (bnd (dLst (sCons (ret (.int 23)) (sCons (ret (.int 59)) (sCons (ret (.int 59)) sNil)))) fun ds => ret (.list ds)) (sCons (bnd (dLst (sCons (asD (callM 0 S__law_take (sCons (ret (.int 24)) sNil))) (sCons (asD (callM 0 S__law_take (sCons (ret (.int 60)) sNil))) (sCons (asD (callM 0 S__law_take (sCons (ret (.int 60)) sNil))) sNil)))) fun ds => ret (.list ds)) sNil)))) fun ds => ret (.list ds)) (asD (callM 0 S__law_take (sCons (ret (.int 3)) sNil))) gIx)) T__law_moment_1)
def T__law_moment_3 : SS := (seqS (asg 4 (bin (bnd (dLst (sCons (ret (.int 1)) (sCons (rdD 3) (sCons (bin (ret (.int 1)) (asD (callM 0 S__law_take (sCons (rdD 3) sNil))) gAdd) sNil)))) fun ds => ret (.list ds)) (asD (callM 0 S__law_take (sCons (ret (.int 3)) sNil))) gIx)) T__law_moment_2)
def T__law_moment_4 : SS := (seqS (asg 3 (bin (mny (sCons (rdD 1) sNil) (callD S__law_lengths)) (bin (rdD 2) (ret (.int 1)) gSub) gIx)) T__law_moment_3)
def T__law_moment_5 : SS := (seqS (ifS (toB (bin (asD (callM 0 S__law_take (sCons (ret (.int 4)) sNil))) (ret (.int 0)) gEq)) (asg 2 (ret (.int 2))) nxt) T__law_moment_4)
def T__law_moment_6 : SS := (seqS (asg 2 (bin (ret (.int 1)) (asD (callM 0 S__law_take (sCons (ret (.int 12)) sNil))) gAdd)) T__law_moment_5)
def Y__law_moment : SS := (seqS (asg 1 (bin (bnd (dLst (sCons (ret (.int 1970)) (sCons (ret (.int 1999)) (sCons (ret (.int 2000)) (sCons (ret (.int 2026)) (sCons (ret (.int 2100)) (sCons (ret (.int 9999)) (sCons (bin (ret (.int 1970)) (asD (callM 0 S__law_take (sCons (ret (.int 8030)) sNil))) gAdd) sNil)))))))) fun ds => ret (.list ds)) (asD (callM 0 S__law_take (sCons (ret (.int 7)) sNil))) gIx)) T__law_moment_6)
abbrev N__law_moment : List Str := ["draw", "year", "month", "last", "day", "clock"]
def S__law_moment : Fn := runF 1 6 Y__law_moment
def T__law_time_1 : SS := (retD (bin (bin (bin (bin (mny (sCons (rdD 1) (sCons (rdD 2) (sCons (rdD 3) sNil))) (callD S__law_days)) (ret (.int 86400)) gMul) (bin (bin (rdD 4) (ret (.int 0)) gIx) (ret (.int 3600)) gMul) gAdd) (bin (bin (rdD 4) (ret (.int 1)) gIx) (ret (.int 60)) gMul) gAdd) (bin (rdD 4) (ret (.int 2)) gIx) gAdd))
def Y__law_time : SS := (seqS (asgG (toT [1, 2, 3, 4]) (rdD 0)) T__law_time_1)
abbrev N__law_time : List Str := ["moment", "year", "month", "day", "clock"]
def S__law_time : Fn := runF 1 5 Y__law_time
def Y__law_weekday : SS := (retD (bin (mny sNil (callD S__law_names)) (bin (bin (mny (sCons (bin (rdD 0) (ret (.int 0)) gIx) (sCons (bin (rdD 0) (ret (.int 1)) gIx) (sCons (bin (rdD 0) (ret (.int 2)) gIx) sNil))) (callD S__law_days)) (ret (.int 3)) gAdd) (ret (.int 7)) gMod) gIx))
abbrev N__law_weekday : List Str := ["moment"]
def S__law_weekday : Fn := runF 1 1 Y__law_weekday
def T__law_short_1 : SS := (retD (bin (bin (rdD 1) (mny (sCons (rdD 5) sNil) (callD S__law_clock)) gAdd) (ret (.str " GMT")) gAdd))
def T__law_short_2 : SS := (seqS (asg 1 (bin (bin (bin (bin (bin (bin (bin (sSl (mny (sCons (rdD 0) sNil) (callD S__law_weekday)) (ret none) (sPart (ret (.int 3)))) (ret (.str ", ")) gAdd) (mny (sCons (rdD 4) sNil) (callD S__law_two)) gAdd) (ret (.str " ")) gAdd) (bin (mny sNil (callD S__law_months)) (bin (rdD 3) (ret (.int 1)) gSub) gIx) gAdd) (ret (.str " ")) gAdd) (una (rdD 2) gStr) gAdd) (ret (.str " ")) gAdd)) T__law_short_1)
def Y__law_short : SS := (seqS (asgG (toT [2, 3, 4, 5]) (rdD 0)) T__law_short_2)
abbrev N__law_short : List Str := ["moment", "text", "year", "month", "day", "clock"]
def S__law_short : Fn := runF 1 6 Y__law_short
def T_law_1 : SS := (retD (bin (mny (sCons (mny (sCons (bin (rdD 3) (ret (.int 1)) gAdd) sNil) (callD S_write_date)) (sCons (rdD 4) sNil)) (callD S_read_date)) (bin (rdD 3) (ret (.int 1)) gAdd) gEq))
def T_law_2 : SS := (seqS (ifS (toB (bin (rdD 3) (mny (sCons (dTup (sCons (ret (.int 9999)) (sCons (ret (.int 12)) (sCons (ret (.int 31)) (sCons (bnd (dLst (sCons (ret (.int 23)) (sCons (ret (.int 59)) (sCons (ret (.int 59)) sNil)))) fun ds => ret (.list ds)) sNil))))) sNil) (callD S__law_time)) gEq)) (retD (ret (.bool true))) nxt) T_law_1)
def T_law_3 : SS := (seqS (ifS (toB (bin (mny (sCons (mny (sCons (rdD 2) sNil) (callD S__law_short)) (sCons (rdD 4) sNil)) (callD S_read_date)) (rdD 3) gNe)) (retD (ret (.bool false))) nxt) T_law_2)
def T_law_4 : SS := (seqS (asg 4 (bin (bnd (dLst (sCons (ret (.int 0)) (sCons (rdD 3) (sCons (ret (.int 4102444800)) sNil)))) fun ds => ret (.list ds)) (asD (callM 1 S__law_take (sCons (ret (.int 3)) sNil))) gIx)) T_law_3)
def T_law_5 : SS := (seqS (ifS (toB (bin (mny (sCons (rdD 3) sNil) (callD S_write_date)) (mny (sCons (rdD 2) sNil) (callD S__law_short)) gNe)) (retD (ret (.bool false))) nxt) T_law_4)
def T_law_6 : SS := (seqS (asg 3 (mny (sCons (rdD 2) sNil) (callD S__law_time))) T_law_5)
def T_law_7 : SS := (seqS (asg 2 (asD (callM 1 S__law_moment sNil))) T_law_6)
def Y_law : SS := (seqS (asgL 1 (callS 0 S__law_draw)) T_law_7)
abbrev N_law : List Str := ["script", "draw", "moment", "time", "now"]
def S_law : Fn := runF 1 5 Y_law
theorem lt_0 : Str.ofString "0123456789" = T [48, 49, 50, 51, 52, 53, 54, 55, 56, 57] := by decide +kernel
theorem lt_1 : Str.ofString ":" = T [58] := by decide +kernel
theorem lt_2 : Str.ofString "Monday" = T [77, 111, 110, 100, 97, 121] := by decide +kernel
theorem lt_3 : Str.ofString "Tuesday" = T [84, 117, 101, 115, 100, 97, 121] := by decide +kernel
theorem lt_4 : Str.ofString "Wednesday" = T [87, 101, 100, 110, 101, 115, 100, 97, 121] := by decide +kernel
theorem lt_5 : Str.ofString "Thursday" = T [84, 104, 117, 114, 115, 100, 97, 121] := by decide +kernel
theorem lt_6 : Str.ofString "Friday" = T [70, 114, 105, 100, 97, 121] := by decide +kernel
theorem lt_7 : Str.ofString "Saturday" = T [83, 97, 116, 117, 114, 100, 97, 121] := by decide +kernel
theorem lt_8 : Str.ofString "Sunday" = T [83, 117, 110, 100, 97, 121] := by decide +kernel
theorem lt_9 : Str.ofString ", " = T [44, 32] := by decide +kernel
theorem lt_10 : Str.ofString " " = T [32] := by decide +kernel
theorem lt_11 : Str.ofString "Jan" = T [74, 97, 110] := by decide +kernel
theorem lt_12 : Str.ofString "Feb" = T [70, 101, 98] := by decide +kernel
theorem lt_13 : Str.ofString "Mar" = T [77, 97, 114] := by decide +kernel
theorem lt_14 : Str.ofString "Apr" = T [65, 112, 114] := by decide +kernel
theorem lt_15 : Str.ofString "May" = T [77, 97, 121] := by decide +kernel
theorem lt_16 : Str.ofString "Jun" = T [74, 117, 110] := by decide +kernel
theorem lt_17 : Str.ofString "Jul" = T [74, 117, 108] := by decide +kernel
theorem lt_18 : Str.ofString "Aug" = T [65, 117, 103] := by decide +kernel
theorem lt_19 : Str.ofString "Sep" = T [83, 101, 112] := by decide +kernel
theorem lt_20 : Str.ofString "Oct" = T [79, 99, 116] := by decide +kernel
theorem lt_21 : Str.ofString "Nov" = T [78, 111, 118] := by decide +kernel
theorem lt_22 : Str.ofString "Dec" = T [68, 101, 99] := by decide +kernel
theorem lt_23 : Str.ofString " GMT" = T [32, 71, 77, 84] := by decide +kernel
theorem lt_24 : Str.ofString "-" = T [45] := by decide +kernel
theorem lt_25 : Str.ofString "," = T [44] := by decide +kernel
theorem lt_26 : Str.ofString "law_ownanswer_k53_dates_written" = T [108, 97, 119, 95, 111, 119, 110, 97, 110, 115, 119, 101, 114, 95, 107, 53, 51, 95, 100, 97, 116, 101, 115, 95, 119, 114, 105, 116, 116, 101, 110] := by decide +kernel
end ownanswer_k53_dates_written
namespace ownanswer_k53_dates_written
open PySem PySem.Spec L2 Fw
abbrev ts (ls : List (List Nat)) : List PyData := ls.map fun l => .str (T l)
theorem tk : S__law_take = S_take := rfl
theorem dk : S__law_draw = S_draw := rfl
theorem ok_jns0 {acc : Str} {E : En} {Q : PyData → En → Prop} : Ok (jns [] acc E) Q = Q (.str acc) E := by
  unfold jns
  exact ok_ret
theorem ok_jns1 {f : SE PyData} {fs : List (SE PyData)} {acc : Str} {E : En} {Q : PyData → En → Prop} : Ok (jns (f :: fs) acc E) Q = Ok (f E) fun d E1 => match d with
    | .str y => (acc ++ y).length ≤ sizeLine ∧ Ok (jns fs (acc ++ y) E1) Q
    | _ => False := by
  rw [jns, ok_bnd]
  congr 1
  funext d E1
  cases d with
  | str y =>
    apply propext
    by_cases h : (acc ++ y).length ≤ sizeLine
    · simp only [if_pos h]
      exact ⟨fun q => ⟨h, q⟩, fun q => q.2⟩
    · simp only [if_neg h]
      exact ⟨fun q => (by obtain ⟨_, _, e, _⟩ := q; cases e), fun q => absurd q.1 h⟩
  | _ => exact ok_none
def leap (y : Int) : Bool := decide (y % 4 = 0) && (!decide (y % 100 = 0) || decide (y % 400 = 0))
def DA (y : Int) : Int := (y - 1970) * 365 + ((y - 1) / 4 - (y - 1) / 100 + (y - 1) / 400 - 477)
theorem leap_c (y : Int) : (leap y = true ∧ y % 4 = 0 ∧ (y % 100 ≠ 0 ∨ y % 400 = 0)) ∨ (leap y = false ∧ (y % 4 ≠ 0 ∨ y % 100 = 0 ∧ y % 400 ≠ 0)) := by
  unfold leap
  by_cases h1 : y % 4 = 0 <;> by_cases h2 : y % 100 = 0 <;> by_cases h3 : y % 400 = 0 <;> simp [h1, h2, h3]
theorem DA_next (y : Int) : DA (y + 1) = DA y + (if leap y then 366 else 365) := by
  unfold DA
  rcases leap_c y with ⟨h, h1, h2⟩ | ⟨h, h1⟩
  · rw [h, if_pos rfl]; omega
  · rw [h, if_neg Bool.false_ne_true]; omega
theorem DA_mono {a b : Int} (h : a ≤ b) : DA a ≤ DA b := by
  unfold DA
  omega
theorem DA_hi {y : Int} (h : 1970 ≤ y) : DA (y + 1) ≤ 366 * (y - 1969) := by
  unfold DA
  omega
def mlen (L : Bool) (m : Nat) : Nat := if m = 1 ∧ L = true then 29 else ([31, 28, 31, 30, 31, 30, 31, 31, 30, 31, 30, 31] : List Nat).getD m 0
def off (L : Bool) : Nat → Nat
  | 0 => 0
  | m + 1 => off L m + mlen L m
theorem off_12 (L : Bool) : off L 12 = if L then 366 else 365 := by cases L <;> rfl
theorem off_mono (L : Bool) {a b : Nat} (h : a ≤ b) : off L a ≤ off L b := by
  induction h with
  | refl => exact Nat.le_refl _
  | step _ ih => exact Nat.le_trans ih (Nat.le_add_right _ _)
theorem mlen_le (L : Bool) (m : Nat) (h : m < 12) : 28 ≤ mlen L m ∧ mlen L m ≤ 31 := by
  have : ∀ L : Bool, ∀ m < 12, 28 ≤ mlen L m ∧ mlen L m ≤ 31 := by decide
  exact this L m h
structure Vd (y m d s : Nat) : Prop where
  y0 : 1970 ≤ y
  y1 : y ≤ 9999
  m1 : m < 12
  d0 : 1 ≤ d
  d1 : d ≤ mlen (leap y) m
  s1 : s < 86400
def dn (y m d : Nat) : Int := DA y + off (leap y) m + d - 1
def tm (y m d s : Nat) : Int := dn y m d * 86400 + s
theorem Vd.lo {y m d s : Nat} (v : Vd y m d s) : DA y ≤ dn y m d ∧ dn y m d < DA (y + 1) ∧ 0 ≤ dn y m d ∧ dn y m d < 3000000 := by
  have h1 := DA_next y
  have h2 := off_mono (leap y) (a := m + 1) (b := 12) v.m1
  have h3 := off_12 (leap y)
  have h4 : off (leap y) (m + 1) = off (leap y) m + mlen (leap y) m := rfl
  have h5 := v.d0
  have h6 := v.d1
  have h7 := DA_mono (a := 1970) (b := y) (by have := v.y0; omega)
  have h8 := DA_mono (a := y + 1) (b := 10000) (by have := v.y1; omega)
  have h9 : DA 1970 = 0 := by decide
  have h10 : DA 10000 = 2932897 := by decide
  unfold dn
  split at h3
  · rename_i hl
    rw [if_pos hl] at h1
    omega
  · rename_i hl
    rw [if_neg hl] at h1
    omega
/-- the second behind -/
theorem Vd.next {y m d s : Nat} (v : Vd y m d s) (h : ¬ (y = 9999 ∧ m = 11 ∧ d = 31 ∧ s = 86399)) : ∃ y' m' d' s', Vd y' m' d' s' ∧ tm y' m' d' s' = tm y m d s + 1 := by
  have hm := mlen_le (leap y) m v.m1
  by_cases h1 : s + 1 < 86400
  · exact ⟨y, m, d, s + 1, ⟨v.y0, v.y1, v.m1, v.d0, v.d1, h1⟩, by unfold tm; omega⟩
  have hs := v.s1
  by_cases h2 : d + 1 ≤ mlen (leap y) m
  · exact ⟨y, m, d + 1, 0, ⟨v.y0, v.y1, v.m1, by omega, h2, by omega⟩, by unfold tm dn; omega⟩
  have hd := v.d1
  by_cases h3 : m + 1 < 12
  · refine ⟨y, m + 1, 1, 0, ⟨v.y0, v.y1, h3, by omega, by have := mlen_le (leap y) (m + 1) h3; omega, by omega⟩, ?_⟩
    have h4 : off (leap y) (m + 1) = off (leap y) m + mlen (leap y) m := rfl
    unfold tm dn
    rw [h4]
    omega
  · have hm1 := v.m1
    have em : m = 11 := by omega
    subst em
    have e31 : mlen (leap y) 11 = 31 := by cases leap y <;> rfl
    have hy : y + 1 ≤ 9999 := by
      have := v.y1
      omega
    refine ⟨y + 1, 0, 1, 0, ⟨by have := v.y0; omega, hy, by omega, by omega, by have := mlen_le (leap ((y + 1 : Nat) : Int)) 0 (by omega); omega, by omega⟩, ?_⟩
    have h4 : off (leap y) 12 = off (leap y) 11 + mlen (leap y) 11 := rfl
    have h5 := off_12 (leap y)
    have h6 := DA_next y
    have h7 : off (leap ((y + 1 : Nat) : Int)) 0 = 0 := rfl
    have h8 : DA ((y + 1 : Nat) : Int) = DA (y + 1) := by rw [Int.natCast_add]; rfl
    unfold tm dn
    rw [h7, h8]
    split at h5
    · rename_i hl
      rw [if_pos hl] at h6
      omega
    · rename_i hl
      rw [if_neg hl] at h6
      omega
def d2 (n : Nat) : List Nat := [48 + n / 10, 48 + n % 10]
def d4 (y : Nat) : List Nat := [48 + y / 1000, 48 + y / 100 % 10, 48 + y / 10 % 10, 48 + y % 10]
def okS (r : Option PyData) (l : List Nat) : Bool := match r with
  | some (.str s) => decide (s = T l)
  | _ => false
theorem okS_t {r : Option PyData} {l : List Nat} (h : okS r l = true) : r = some (PyData.str (T l)) := by
  unfold okS at h
  split at h
  · rw [of_decide_eq_true h]
  · cases h
theorem spec2_all : ((List.range 100).all fun n => okS (gSpec "02d" (PyData.int (n : Nat))) (d2 n)) = true := by decide +kernel
theorem spec2 {n : Nat} (h : n < 100) : gSpec "02d" (PyData.int (n : Nat)) = some (PyData.str (T (d2 n))) := okS_t (List.all_eq_true.mp spec2_all n (List.mem_range.mpr h))
theorem d4_str {y : Nat} (h0 : 1000 ≤ y) (h1 : y ≤ 9999) : Str.ofString (toString ((y : Nat) : Int)) = T (d4 y) := by
  have hv : NumText.digitsVal (d4 y) = y := by
    unfold d4 NumText.digitsVal
    simp only [List.foldl_cons, List.foldl_nil]
    omega
  have hd : NumText.AllDigits (d4 y) := by
    unfold d4
    intro c hc
    simp only [List.mem_cons, List.not_mem_nil, or_false] at hc
    omega
  have e := NumText.toDigits_digitsVal 3 (d4 y) rfl hd (.inr ⟨_, _, rfl, by omega⟩)
  rw [hv] at e
  rw [SX.num_S]
  show T (TL.numL y) = _
  rw [T_inj]
  show (Nat.toDigits 10 y).map Char.toNat = _
  rw [e, List.map_map]
  have : ∀ c ∈ d4 y, (Char.toNat ∘ Char.ofNat) c = c := fun c hc => by
    have hk : ∀ c < 58, (Char.toNat ∘ Char.ofNat) c = c := by decide
    exact hk c (by have := hd c hc; omega)
  rw [List.map_congr_left this, List.map_id']
theorem log_lt {y : Nat} (h1 : y ≤ 9999) : ((y : Nat) : Int).natAbs.log2 < 1920 := by
  rw [Int.natAbs_natCast]
  by_cases h : y = 0
  · subst h; decide
  · have := (Nat.log2_lt h).mpr (show y < 2 ^ 14 by omega)
    omega
theorem gStr_y {y : Nat} (h0 : 1000 ≤ y) (h1 : y ≤ 9999) : gStr (PyData.int y) = some (PyData.str (T (d4 y))) := by
  rw [gStr_i, if_pos (log_lt h1), d4_str h0 h1]
theorem gFmt_y {y : Nat} (h0 : 1000 ≤ y) (h1 : y ≤ 9999) : gFmt (PyData.int y) = some (PyData.str (T (d4 y))) := by
  show (if ((y : Nat) : Int).natAbs.log2 < 1920 then some (PyData.str (Str.ofString (toString ((y : Nat) : Int)))) else none) = _
  rw [if_pos (log_lt h1), d4_str h0 h1]
theorem gFmt_T {l : List Nat} (h : l.length ≤ 1000) : gFmt (.str (T l)) = some (PyData.str (T l)) := by
  have hs := sizeLine_eq
  show (if (T l).length ≤ sizeLine then some (PyData.str (T l)) else none) = _
  rw [if_pos (by rw [T_len]; omega)]
theorem two_all : ((List.range 10).all fun n => okS (gStr (PyData.int (n : Nat))) [48 + n]) = true := by decide +kernel
theorem two {n : Nat} (h : n < 10) : gStr (PyData.int (n : Nat)) = some (PyData.str (T [48 + n])) := okS_t (List.all_eq_true.mp two_all n (List.mem_range.mpr h))
theorem int_txt {l : List Nat} (h : ∀ c ∈ l, 48 ≤ c ∧ c ≤ 57) (hne : l ≠ []) (hl : l.length ≤ 600) : gInt (.str (T l)) = some (PyData.int (NumText.digitsVal l : Nat)) := by
  rw [gInt_s, if_pos (by rw [T_len]; omega)]
  have : intText? (T l) = some ((NumText.digitsVal l : Nat) : Int) := SX.int_S (List.all_eq_true.mpr fun c hc => by rw [Bool.and_eq_true, decide_eq_true_eq, decide_eq_true_eq]; exact h c hc) hne (by omega)
  rw [this]
  rfl
theorem d2_dig {n : Nat} (h : n < 100) : ∀ c ∈ d2 n, 48 ≤ c ∧ c ≤ 57 := by
  unfold d2
  intro c hc
  simp only [List.mem_cons, List.not_mem_nil, or_false] at hc
  omega
theorem d4_dig {n : Nat} (h : n < 10000) : ∀ c ∈ d4 n, 48 ≤ c ∧ c ≤ 57 := by
  unfold d4
  intro c hc
  simp only [List.mem_cons, List.not_mem_nil, or_false] at hc
  omega
theorem int_d2 {n : Nat} (h : n < 100) : gInt (.str (T (d2 n))) = some (PyData.int (n : Nat)) := by
  rw [int_txt (d2_dig h) (by unfold d2; simp) (by show 2 ≤ 600; omega)]
  have : NumText.digitsVal (d2 n) = n := by
    unfold d2 NumText.digitsVal
    simp only [List.foldl_cons, List.foldl_nil]
    omega
  rw [this]
theorem int_d4 {n : Nat} (h : n < 10000) : gInt (.str (T (d4 n))) = some (PyData.int (n : Nat)) := by
  rw [int_txt (d4_dig h) (by unfold d4; simp) (by show 4 ≤ 600; omega)]
  have : NumText.digitsVal (d4 n) = n := by
    unfold d4 NumText.digitsVal
    simp only [List.foldl_cons, List.foldl_nil]
    omega
  rw [this]
def NL : List (List Nat) := [[77, 111, 110, 100, 97, 121], [84, 117, 101, 115, 100, 97, 121], [87, 101, 100, 110, 101, 115, 100, 97, 121], [84, 104, 117, 114, 115, 100, 97, 121], [70, 114, 105, 100, 97, 121], [83, 97, 116, 117, 114, 100, 97, 121], [83, 117, 110, 100, 97, 121]]
def MN : List (List Nat) := [[74, 97, 110], [70, 101, 98], [77, 97, 114], [65, 112, 114], [77, 97, 121], [74, 117, 110], [74, 117, 108], [65, 117, 103], [83, 101, 112], [79, 99, 116], [78, 111, 118], [68, 101, 99]]
def wd (k : Int) : List Nat := NL.getD k.toNat []
def mon (m : Nat) : List Nat := MN.getD m []
theorem wd_at {k : Int} (h0 : 0 ≤ k) (h1 : k < 7) : atI (ts NL) k = some (PyData.str (T (wd k))) := by
  obtain ⟨n, rfl⟩ := Int.eq_ofNat_of_zero_le h0
  have hn : n < NL.length := by show n < 7; omega
  rw [Fw.atI_nat, List.getElem?_map, List.getElem?_eq_getElem hn]
  unfold wd
  rw [Int.toNat_natCast, List.getD_eq_getElem?_getD, List.getElem?_eq_getElem hn]
  rfl
theorem mon_at {m : Nat} (h : m < 12) : atI (ts MN) (m : Nat) = some (PyData.str (T (mon m))) := by
  have hn : m < MN.length := h
  rw [Fw.atI_nat, List.getElem?_map, List.getElem?_eq_getElem hn]
  unfold mon
  rw [List.getD_eq_getElem?_getD, List.getElem?_eq_getElem hn]
  rfl
theorem wd_3 {k : Int} (h0 : 0 ≤ k) (h1 : k < 7) : (wd k).length ≤ 9 ∧ ∃ a b c, (wd k).take 3 = [a, b, c] := by
  obtain ⟨n, rfl⟩ := Int.eq_ofNat_of_zero_le h0
  have hn : n < 7 := by omega
  unfold wd
  rw [Int.toNat_natCast]
  have : ∀ n < 7, (NL.getD n []).length ≤ 9 ∧ (NL.getD n []).take 3 = [((NL.getD n []).take 3).getD 0 0, ((NL.getD n []).take 3).getD 1 0, ((NL.getD n []).take 3).getD 2 0] := by decide
  exact ⟨(this n hn).1, _, _, _, (this n hn).2⟩
theorem mon_3 {m : Nat} (h : m < 12) : ∃ a b c, mon m = [a, b, c] := by
  have : ∀ m < 12, mon m = [(mon m).getD 0 0, (mon m).getD 1 0, (mon m).getD 2 0] := by decide
  exact ⟨_, _, _, this m h⟩
def clk (s : Nat) : List Nat := d2 (s / 3600) ++ [58] ++ d2 (s / 60 % 60) ++ [58] ++ d2 (s % 60)
def Wtx (y m d s : Nat) : List Nat := (wd ((dn y m d + 3) % 7)).take 3 ++ [44, 32] ++ d2 d ++ [32] ++ mon m ++ [32] ++ d4 y ++ [32] ++ clk s ++ [32, 71, 77, 84]
end ownanswer_k53_dates_written
namespace ownanswer_k53_dates_written
open PySem PySem.Spec L2 Fw
local macro_rules | `(tactic| simp only [walkA, $xs,*] $[$l:location]?) => `(tactic| simp only [ok_some, ok_none, okV_some, okV_none, ↓okV_if, ↓ok_if, ↓ok_ret, ↓ok_bnd, ↓ok_lft, ↓ok_bin, ↓ok_una, ↓ok_binL, ↓ok_unaL, ↓ok_mny, ↓ok_rdD, ↓ok_rdO, ↓ok_rdA, ↓ok_toB, ↓ok_sAnd, ↓ok_sOr, ↓ok_sNot, ↓ok_vAnd, ↓ok_vOr, ↓ok_sIf, ↓ok_chn, ↓ok_sNil, ↓ok_sCons, ↓ok_dTup, ↓ok_dLst, ↓ok_m0S, ↓ok_m1S, ↓ok_m1L, ↓ok_ixO, ↓ok_sPart, ↓ok_sSl, ↓ok_tupO, ↓ok_sItems, ↓ok_sScr, ↓ok_sEnum, ↓ok_sRng1, ↓ok_sRng2, ↓ok_seqS, ↓ok_nxt, ↓ok_brkS, ↓ok_cntS, ↓ok_retN, ↓ok_drpS, ↓ok_asg, ↓ok_asgL, ↓ok_asgG, ↓ok_augS, ↓ok_ifS, ↓ok_retD, ↓ok_retL, ↓ok_retO, ↓ok_appO, ↓ok_setO, ↓ok_extO, ↓ok_popS, ↓ok_forS, ↓ok_forL_nil, ↓ok_lcS, ↓ok_lcL_nil, ↓okV_callD, ↓okV_callV, ↓ok_callM, ↓ok_asD, ↓ok_asL, ↓ok_callS, ↓ok_runF, ↓ok_rplS, ↓ok_tupA, ↓ok_strM, ↓ok_chn3, own?, toN, toT, toNs, wipE, bakE, stp_nx, stp_ct, stp_bk, stp_rt, Fw.collect, ok_yesS, List.getElem?_cons_zero, List.getElem?_cons_succ, List.set_cons_zero, List.set_cons_succ, List.map_cons, List.map_nil, List.length_cons, List.length_nil, List.cons_append, List.nil_append, List.replicate_succ, List.replicate_zero, Nat.reduceAdd, Nat.reduceSub, Nat.reduceLeDiff, Nat.reduceLT, Nat.reduceEqDiff, Int.reduceLT, Int.reduceLE, Int.reduceNeg, Int.reducePow, Int.reduceEq, Option.isSome_some, Option.map_some, Option.map_none, true_and, and_true, if_true, if_false, ite_true, ite_false, Bool.false_eq_true, reduceIte, reduceCtorEq, gAdd_ii, gAdd_ss, gAdd_tt, gSub_ii, gMul_ii, gDiv_ii, gMod_ii, gNeg_i, gLt_ii, gGt_ii, gGe_ii, gLe_ii, eqv_ii, eqv_ss, eqv_bb, eqv_nn, eqv_ni, eqv_in, eqv_ns, eqv_sn, eqv_nb, eqv_bn, eqv_is, eqv_si, eqv_nt, eqv_tn, eqv_nl, eqv_ln, eqv_tt, eqv_ll, eqvA_nn, eqvA_cc, eqvA_nc, eqvA_cn, gEq_ii, gEq_ss, gEq_bb, gEq_nn, gEq_in, gEq_ni, gEq_sn, gEq_ns, gEq_si, gEq_is, gNe_ii, gNe_ss, gNe_bb, gNe_nn, gNot_b, gIsN_n, gIsN_i, gIsN_b, gIsN_s, gIsN_t, gIsN_l, gNotN_n, gNotN_i, gNotN_b, gNotN_s, gNotN_t, gNotN_l, gIx_l, gIx_t, gIx_s, gLen_s, gLen_l, gLen_t, gAbs_i, gInt_i, gInt_b, gInt_s, gOrd_sign, gDivmod_ii, gStr_i, gStr_s, gTuple_l, gTuple_t, gStrip_s, gLstrip_s, gSplit_s, gPartition_s, gJoin_m, gCat_ll, gSl_s, gSl_t, gSl_l, itemsOf_l, itemsOf_t, itemsOf_s, ofString_inj, cMul_r, cMul_l, ixN_lit, atI_lit, atI_m1, cast_lit, String.reduceEq, decide_true, decide_false, Int.reduceSub, Int.reduceAdd, Int.reduceMul, Int.reduceToNat, T_toList, T_len, T_app, T_inj, T_sign, T_cut, T_signs, T_strip, T_empty, gIn_T, gNin_T, gLjust_T, lt_0, lt_1, lt_2, lt_3, lt_4, lt_5, lt_6, lt_7, lt_8, lt_9, lt_10, lt_11, lt_12, lt_13, lt_14, lt_15, lt_16, lt_17, lt_18, lt_19, lt_20, lt_21, lt_22, lt_23, lt_24, lt_25, lt_26, $xs,*] $[$l:location]?)
local macro_rules | `(tactic| simp only [walkA] $[$l:location]?) => `(tactic| simp only [ok_some, ok_none, okV_some, okV_none, ↓okV_if, ↓ok_if, ↓ok_ret, ↓ok_bnd, ↓ok_lft, ↓ok_bin, ↓ok_una, ↓ok_binL, ↓ok_unaL, ↓ok_mny, ↓ok_rdD, ↓ok_rdO, ↓ok_rdA, ↓ok_toB, ↓ok_sAnd, ↓ok_sOr, ↓ok_sNot, ↓ok_vAnd, ↓ok_vOr, ↓ok_sIf, ↓ok_chn, ↓ok_sNil, ↓ok_sCons, ↓ok_dTup, ↓ok_dLst, ↓ok_m0S, ↓ok_m1S, ↓ok_m1L, ↓ok_ixO, ↓ok_sPart, ↓ok_sSl, ↓ok_tupO, ↓ok_sItems, ↓ok_sScr, ↓ok_sEnum, ↓ok_sRng1, ↓ok_sRng2, ↓ok_seqS, ↓ok_nxt, ↓ok_brkS, ↓ok_cntS, ↓ok_retN, ↓ok_drpS, ↓ok_asg, ↓ok_asgL, ↓ok_asgG, ↓ok_augS, ↓ok_ifS, ↓ok_retD, ↓ok_retL, ↓ok_retO, ↓ok_appO, ↓ok_setO, ↓ok_extO, ↓ok_popS, ↓ok_forS, ↓ok_forL_nil, ↓ok_lcS, ↓ok_lcL_nil, ↓okV_callD, ↓okV_callV, ↓ok_callM, ↓ok_asD, ↓ok_asL, ↓ok_callS, ↓ok_runF, ↓ok_rplS, ↓ok_tupA, ↓ok_strM, ↓ok_chn3, own?, toN, toT, toNs, wipE, bakE, stp_nx, stp_ct, stp_bk, stp_rt, Fw.collect, ok_yesS, List.getElem?_cons_zero, List.getElem?_cons_succ, List.set_cons_zero, List.set_cons_succ, List.map_cons, List.map_nil, List.length_cons, List.length_nil, List.cons_append, List.nil_append, List.replicate_succ, List.replicate_zero, Nat.reduceAdd, Nat.reduceSub, Nat.reduceLeDiff, Nat.reduceLT, Nat.reduceEqDiff, Int.reduceLT, Int.reduceLE, Int.reduceNeg, Int.reducePow, Int.reduceEq, Option.isSome_some, Option.map_some, Option.map_none, true_and, and_true, if_true, if_false, ite_true, ite_false, Bool.false_eq_true, reduceIte, reduceCtorEq, gAdd_ii, gAdd_ss, gAdd_tt, gSub_ii, gMul_ii, gDiv_ii, gMod_ii, gNeg_i, gLt_ii, gGt_ii, gGe_ii, gLe_ii, eqv_ii, eqv_ss, eqv_bb, eqv_nn, eqv_ni, eqv_in, eqv_ns, eqv_sn, eqv_nb, eqv_bn, eqv_is, eqv_si, eqv_nt, eqv_tn, eqv_nl, eqv_ln, eqv_tt, eqv_ll, eqvA_nn, eqvA_cc, eqvA_nc, eqvA_cn, gEq_ii, gEq_ss, gEq_bb, gEq_nn, gEq_in, gEq_ni, gEq_sn, gEq_ns, gEq_si, gEq_is, gNe_ii, gNe_ss, gNe_bb, gNe_nn, gNot_b, gIsN_n, gIsN_i, gIsN_b, gIsN_s, gIsN_t, gIsN_l, gNotN_n, gNotN_i, gNotN_b, gNotN_s, gNotN_t, gNotN_l, gIx_l, gIx_t, gIx_s, gLen_s, gLen_l, gLen_t, gAbs_i, gInt_i, gInt_b, gInt_s, gOrd_sign, gDivmod_ii, gStr_i, gStr_s, gTuple_l, gTuple_t, gStrip_s, gLstrip_s, gSplit_s, gPartition_s, gJoin_m, gCat_ll, gSl_s, gSl_t, gSl_l, itemsOf_l, itemsOf_t, itemsOf_s, ofString_inj, cMul_r, cMul_l, ixN_lit, atI_lit, atI_m1, cast_lit, String.reduceEq, decide_true, decide_false, Int.reduceSub, Int.reduceAdd, Int.reduceMul, Int.reduceToNat, T_toList, T_len, T_app, T_inj, T_sign, T_cut, T_signs, T_strip, T_empty, gIn_T, gNin_T, gLjust_T, lt_0, lt_1, lt_2, lt_3, lt_4, lt_5, lt_6, lt_7, lt_8, lt_9, lt_10, lt_11, lt_12, lt_13, lt_14, lt_15, lt_16, lt_17, lt_18, lt_19, lt_20, lt_21, lt_22, lt_23, lt_24, lt_25, lt_26] $[$l:location]?)

theorem leap_ok {y : Int} {Q : Sl → En → Prop} (q : Q (.dat (.bool (leap y))) [.un]) : Ok (S__is_leap [.dat (.int y)]) Q := by
  have hs := sizeLine_eq
  unfold S__is_leap
  rw [ok_runF]
  refine ⟨rfl, ?_⟩
  unfold leap at q
  by_cases h1 : y % 4 = 0 <;> by_cases h2 : y % 100 = 0 <;> by_cases h3 : y % 400 = 0 <;> simp [h1, h2, h3] at q <;> simp only [walkA, Y__is_leap, h1, h2, h3, Bool.not_true, Bool.not_false] <;> exact q
theorem dom_ok {y : Int} {m : Nat} (hm : m < 12) {Q : Sl → En → Prop} (q : Q (.dat (.int (mlen (leap y) m : Nat))) [.un, .un]) : Ok (S__days_of_month [.dat (.int y), .dat (.int (m : Nat))]) Q := by
  have hs := sizeLine_eq
  unfold S__days_of_month
  rw [ok_runF]
  refine ⟨rfl, ?_⟩
  have key : ∀ m < 12, ¬ (m = 1 ∧ leap y = true) → ([PyData.int 31, .int 28, .int 31, .int 30, .int 31, .int 30, .int 31, .int 31, .int 30, .int 31, .int 30, .int 31] : List PyData)[m]? = some (PyData.int (mlen (leap y) m : Nat)) := by
    intro m h1 h2
    unfold mlen
    rw [if_neg h2]
    have : ∀ m < 12, ([PyData.int 31, .int 28, .int 31, .int 30, .int 31, .int 30, .int 31, .int 31, .int 30, .int 31, .int 30, .int 31] : List PyData)[m]? = some (PyData.int ((([31, 28, 31, 30, 31, 30, 31, 31, 30, 31, 30, 31] : List Nat).getD m 0 : Nat) : Int)) := by
      intro m hm
      match m, hm with
      | 0, _ => rfl
      | 1, _ => rfl
      | 2, _ => rfl
      | 3, _ => rfl
      | 4, _ => rfl
      | 5, _ => rfl
      | 6, _ => rfl
      | 7, _ => rfl
      | 8, _ => rfl
      | 9, _ => rfl
      | 10, _ => rfl
      | 11, _ => rfl
      | n + 12, h => omega
    exact this m h1
  by_cases h1 : m = 1
  · subst h1
    simp only [walkA, Y__days_of_month, Int.natCast_one]
    refine leap_ok ?_
    cases hl : leap y with
    | true =>
      rw [hl] at q
      simp only [walkA]
      exact q
    | false =>
      rw [hl] at q
      simp only [walkA]
      exact q
  · have e1 : ((m : Int) = 1) = False := eq_false (by omega)
    have e2 := key m hm (fun z => h1 z.1)
    simp only [walkA, Y__days_of_month, e1, Fw.atI_nat, e2]
    exact q
theorem da_ok {y : Int} {Q : Sl → En → Prop} (q : Q (.dat (.int (DA y))) [.un]) : Ok (S__days_ahead [.dat (.int y)]) Q := by
  have hs := sizeLine_eq
  unfold S__days_ahead
  rw [ok_runF]
  refine ⟨rfl, ?_⟩
  unfold DA at q
  simp only [walkA, Y__days_ahead, T__days_ahead_2, T__days_ahead_1]
  exact q
theorem year_ok {y D : Int} (hy : 1970 ≤ y) (hy2 : y ≤ 9999) (h1 : DA y ≤ D) (h2 : D < DA (y + 1)) {Q : Sl → En → Prop} (q : Q (.dat (.int y)) [.un]) : Ok (S__year_of [.dat (.int D)]) Q := by
  have hs := sizeLine_eq
  have h0 : DA 1970 = 0 := by decide
  have h4 := DA_mono hy
  have h5 := DA_hi hy
  unfold S__year_of
  rw [ok_runF]
  refine ⟨rfl, ?_⟩
  simp only [walkA, Y__year_of, T__year_of_2]
  refine whS_inv (fun k E => ∃ z : Int, z ≤ y ∧ 1970 ≤ z ∧ k = (y - z).toNat ∧ E = [.dat (.int D), .dat (.int z)]) (y - (1970 + D / 366)).toNat _ ⟨1970 + D / 366, by omega, by omega, rfl, rfl⟩ (by omega) ?_
  rintro k E ⟨z, hz, hz0, rfl, rfl⟩
  simp only [walkA]
  refine da_ok ?_
  simp only [walkA]
  by_cases e : DA (z + 1) ≤ D
  · have hz1 : z + 1 ≤ y := by
      by_cases h : z + 1 ≤ y
      · exact h
      · have := DA_mono (a := y + 1) (b := z + 1) (by omega)
        omega
    simp only [walkA, e, L__year_of_1, stp]
    exact ⟨_, by omega, z + 1, hz1, by omega, rfl, rfl⟩
  · have ez : z = y := by
      by_cases h : z = y
      · exact h
      · have := DA_mono (a := z + 1) (b := y) (by omega)
        omega
    subst ez
    simp only [walkA, e, T__year_of_1]
    exact q
theorem clock_ok {s : Nat} (h : s < 86400) {Q : Sl → En → Prop} (q : Q (.dat (.str (T (clk s)))) [.un]) : Ok (S__clock [.dat (.int (s : Nat))]) Q := by
  have hs := sizeLine_eq
  have e1 : ((s : Nat) : Int) / 60 = ((s / 60 : Nat) : Int) := by omega
  have e2 : ((s : Nat) : Int) % 60 = ((s % 60 : Nat) : Int) := by omega
  have e3 : ((s / 60 : Nat) : Int) / 60 = ((s / 3600 : Nat) : Int) := by omega
  have e4 : ((s / 60 : Nat) : Int) % 60 = ((s / 60 % 60 : Nat) : Int) := by omega
  unfold S__clock
  rw [ok_runF]
  refine ⟨rfl, ?_⟩
  simp only [walkA, Y__clock, T__clock_2, T__clock_1, e1, e2, e3, e4, ↓ok_jns1, ↓ok_jns0, spec2 (show s / 3600 < 100 by omega), spec2 (show s / 60 % 60 < 100 by omega), spec2 (show s % 60 < 100 by omega), d2]
  simp only [clk, d2, List.cons_append, List.nil_append] at q
  refine ⟨by omega, by omega, by omega, by omega, by omega, ?_⟩
  exact q
def NT : List PyData := ts NL
theorem parts_ok {y m d s : Nat} (v : Vd y m d s) {Q : Sl → En → Prop} (q : Q (.dat (.tuple [.str (T (wd ((dn y m d + 3) % 7))), .int (y : Nat), .int (m : Nat), .int (d : Nat), .str (T (clk s))])) [.un]) : Ok (S__parts [.dat (.int (tm y m d s))]) Q := by
  have hs := sizeLine_eq
  obtain ⟨l1, l2, l3, l4⟩ := v.lo
  have hs1 := v.s1
  have hy0 := v.y0
  have hy1 := v.y1
  have hd0 := v.d0
  have hd1 := v.d1
  have hm1 := v.m1
  have e1 : tm y m d s / 86400 = dn y m d := by unfold tm; omega
  have e2 : tm y m d s - dn y m d * 86400 = (s : Nat) := by unfold tm; omega
  unfold S__parts
  rw [ok_runF]
  refine ⟨rfl, ?_⟩
  simp only [walkA, Y__parts, T__parts_7, e1]
  refine year_ok (y := y) (by omega) (by omega) l1 l2 ?_
  simp only [walkA, T__parts_6]
  refine da_ok ?_
  simp only [walkA, T__parts_5, T__parts_4]
  refine whS_inv (fun k E => ∃ j : Nat, j ≤ m ∧ k = m - j ∧ E = [.dat (.int (tm y m d s)), .dat (.int (dn y m d)), .dat (.int (y : Nat)), .dat (.int (dn y m d - DA y - off (leap y) j)), .dat (.int (j : Nat)), .un]) m _ ⟨0, by omega, by omega, ?_⟩ (by omega) ?_
  · show _ = _
    simp [off]
  · rintro k E ⟨j, hj, rfl, rfl⟩
    simp only [walkA]
    refine dom_ok (show j < 12 by omega) ?_
    simp only [walkA]
    have hj4 : off (leap y) (j + 1) = off (leap y) j + mlen (leap y) j := rfl
    by_cases e : j = m
    · subst e
      have hx : (((mlen (leap y) j : Nat) : Int) ≤ dn y j d - DA y - off (leap y) j) = False := eq_false (by unfold dn; omega)
      have hw0 : 0 ≤ (dn y j d + 3) % 7 := by omega
      have hw1 : (dn y j d + 3) % 7 < 7 := by omega
      have e3 : dn y j d - DA y - off (leap y) j + 1 = (d : Nat) := by unfold dn; omega
      have hw := wd_at hw0 hw1
      simp only [ts, NL, List.map_cons, List.map_nil] at hw
      simp only [walkA, hx, T__parts_3, T__parts_2, e2, hw, e3]
      refine clock_ok hs1 ?_
      simp only [walkA]
      exact ⟨by omega, q⟩
    · have hx : (((mlen (leap y) j : Nat) : Int) ≤ dn y m d - DA y - off (leap y) j) = True := by
        refine eq_true ?_
        have := off_mono (leap y) (a := j + 1) (b := m) (by omega)
        unfold dn
        omega
      simp only [walkA, hx, L__parts_1]
      refine dom_ok (show j < 12 by omega) ?_
      simp only [walkA, T__parts_1, stp]
      refine ⟨m - (j + 1), by omega, j + 1, by omega, rfl, ?_⟩
      have e5 : dn y m d - DA y - (off (leap y) j : Nat) - (mlen (leap y) j : Nat) = dn y m d - DA y - (off (leap y) (j + 1) : Nat) := by rw [hj4]; omega
      have e6 : ((j : Nat) : Int) + 1 = ((j + 1 : Nat) : Int) := by omega
      rw [e5, e6]
theorem write_ok {y m d s : Nat} (v : Vd y m d s) {Q : Sl → En → Prop} (q : Q (.dat (.str (T (Wtx y m d s)))) [.un]) : Ok (S_write_date [.dat (.int (tm y m d s))]) Q := by
  have hs := sizeLine_eq
  have hd1 := v.d1
  have hml := mlen_le (leap y) m v.m1
  have hm1 := v.m1
  have hy0 := v.y0
  have hy1 := v.y1
  unfold S_write_date
  rw [ok_runF]
  refine ⟨rfl, ?_⟩
  simp only [walkA, Y_write_date]
  refine parts_ok v ?_
  have hm := mon_at hm1
  simp only [ts, MN, List.map_cons, List.map_nil] at hm
  obtain ⟨w1, a, b, c, w2⟩ := wd_3 (k := (dn y m d + 3) % 7) (by omega) (by omega)
  obtain ⟨a', b', c', w3⟩ := mon_3 hm1
  have hcut : cutL (wd ((dn y m d + 3) % 7)) none (some 3) = (wd ((dn y m d + 3) % 7)).take 3 := by
    have h3 := congrArg List.length w2
    rw [List.length_take] at h3
    have h4 : min 3 (wd ((dn y m d + 3) % 7)).length = 3 := h3
    show ((wd ((dn y m d + 3) % 7)).drop 0).take (min 3 (wd ((dn y m d + 3) % 7)).length - 0) = _
    rw [h4]
    rfl
  have hcl : (clk s).length = 8 := rfl
  simp only [walkA, T_write_date_1, ↓ok_jns1, ↓ok_jns0, hcut, hm, gFmt_T (show (List.take 3 (wd ((dn y m d + 3) % 7))).length ≤ 1000 by rw [w2]; show 3 ≤ 1000; omega), spec2 (show d < 100 by omega), gFmt_T (show (mon m).length ≤ 1000 by rw [w3]; show 3 ≤ 1000; omega), gFmt_y (show 1000 ≤ y by omega) hy1, gFmt_T (show (clk s).length ≤ 1000 by rw [hcl]; omega)]
  have l3 : (List.take 3 (wd ((dn y m d + 3) % 7))).length = 3 := by rw [w2]; rfl
  have lm : (mon m).length = 3 := by rw [w3]; rfl
  have l2 : (d2 d).length = 2 := rfl
  have l4 : (d4 y).length = 4 := rfl
  simp only [List.length_append, List.length_cons, List.length_nil, l3, lm, l2, l4, hcl]
  repeat (refine ⟨by omega, ?_⟩)
  exact q
end ownanswer_k53_dates_written
namespace ownanswer_k53_dates_written
open PySem PySem.Spec L2 Fw
local macro_rules | `(tactic| simp only [walkA, $xs,*] $[$l:location]?) => `(tactic| simp only [ok_some, ok_none, okV_some, okV_none, ↓okV_if, ↓ok_if, ↓ok_ret, ↓ok_bnd, ↓ok_lft, ↓ok_bin, ↓ok_una, ↓ok_binL, ↓ok_unaL, ↓ok_mny, ↓ok_rdD, ↓ok_rdO, ↓ok_rdA, ↓ok_toB, ↓ok_sAnd, ↓ok_sOr, ↓ok_sNot, ↓ok_vAnd, ↓ok_vOr, ↓ok_sIf, ↓ok_chn, ↓ok_sNil, ↓ok_sCons, ↓ok_dTup, ↓ok_dLst, ↓ok_m0S, ↓ok_m1S, ↓ok_m1L, ↓ok_ixO, ↓ok_sPart, ↓ok_sSl, ↓ok_tupO, ↓ok_sItems, ↓ok_sScr, ↓ok_sEnum, ↓ok_sRng1, ↓ok_sRng2, ↓ok_seqS, ↓ok_nxt, ↓ok_brkS, ↓ok_cntS, ↓ok_retN, ↓ok_drpS, ↓ok_asg, ↓ok_asgL, ↓ok_asgG, ↓ok_augS, ↓ok_ifS, ↓ok_retD, ↓ok_retL, ↓ok_retO, ↓ok_appO, ↓ok_setO, ↓ok_extO, ↓ok_popS, ↓ok_forS, ↓ok_forL_nil, ↓ok_lcS, ↓ok_lcL_nil, ↓okV_callD, ↓okV_callV, ↓ok_callM, ↓ok_asD, ↓ok_asL, ↓ok_callS, ↓ok_runF, ↓ok_rplS, ↓ok_tupA, ↓ok_strM, ↓ok_chn3, own?, toN, toT, toNs, wipE, bakE, stp_nx, stp_ct, stp_bk, stp_rt, Fw.collect, ok_yesS, List.getElem?_cons_zero, List.getElem?_cons_succ, List.set_cons_zero, List.set_cons_succ, List.map_cons, List.map_nil, List.length_cons, List.length_nil, List.cons_append, List.nil_append, List.replicate_succ, List.replicate_zero, Nat.reduceAdd, Nat.reduceSub, Nat.reduceLeDiff, Nat.reduceLT, Nat.reduceEqDiff, Int.reduceLT, Int.reduceLE, Int.reduceNeg, Int.reducePow, Int.reduceEq, Option.isSome_some, Option.map_some, Option.map_none, true_and, and_true, if_true, if_false, ite_true, ite_false, Bool.false_eq_true, reduceIte, reduceCtorEq, gAdd_ii, gAdd_ss, gAdd_tt, gSub_ii, gMul_ii, gDiv_ii, gMod_ii, gNeg_i, gLt_ii, gGt_ii, gGe_ii, gLe_ii, eqv_ii, eqv_ss, eqv_bb, eqv_nn, eqv_ni, eqv_in, eqv_ns, eqv_sn, eqv_nb, eqv_bn, eqv_is, eqv_si, eqv_nt, eqv_tn, eqv_nl, eqv_ln, eqv_tt, eqv_ll, eqvA_nn, eqvA_cc, eqvA_nc, eqvA_cn, gEq_ii, gEq_ss, gEq_bb, gEq_nn, gEq_in, gEq_ni, gEq_sn, gEq_ns, gEq_si, gEq_is, gNe_ii, gNe_ss, gNe_bb, gNe_nn, gNot_b, gIsN_n, gIsN_i, gIsN_b, gIsN_s, gIsN_t, gIsN_l, gNotN_n, gNotN_i, gNotN_b, gNotN_s, gNotN_t, gNotN_l, gIx_l, gIx_t, gIx_s, gLen_s, gLen_l, gLen_t, gAbs_i, gInt_i, gInt_b, gInt_s, gOrd_sign, gDivmod_ii, gStr_i, gStr_s, gTuple_l, gTuple_t, gStrip_s, gLstrip_s, gSplit_s, gPartition_s, gJoin_m, gCat_ll, gSl_s, gSl_t, gSl_l, itemsOf_l, itemsOf_t, itemsOf_s, ofString_inj, cMul_r, cMul_l, ixN_lit, atI_lit, atI_m1, cast_lit, String.reduceEq, decide_true, decide_false, Int.reduceSub, Int.reduceAdd, Int.reduceMul, Int.reduceToNat, T_toList, T_len, T_app, T_inj, T_sign, T_cut, T_signs, T_strip, T_empty, gIn_T, gNin_T, gLjust_T, lt_0, lt_1, lt_2, lt_3, lt_4, lt_5, lt_6, lt_7, lt_8, lt_9, lt_10, lt_11, lt_12, lt_13, lt_14, lt_15, lt_16, lt_17, lt_18, lt_19, lt_20, lt_21, lt_22, lt_23, lt_24, lt_25, lt_26, $xs,*] $[$l:location]?)
local macro_rules | `(tactic| simp only [walkA] $[$l:location]?) => `(tactic| simp only [ok_some, ok_none, okV_some, okV_none, ↓okV_if, ↓ok_if, ↓ok_ret, ↓ok_bnd, ↓ok_lft, ↓ok_bin, ↓ok_una, ↓ok_binL, ↓ok_unaL, ↓ok_mny, ↓ok_rdD, ↓ok_rdO, ↓ok_rdA, ↓ok_toB, ↓ok_sAnd, ↓ok_sOr, ↓ok_sNot, ↓ok_vAnd, ↓ok_vOr, ↓ok_sIf, ↓ok_chn, ↓ok_sNil, ↓ok_sCons, ↓ok_dTup, ↓ok_dLst, ↓ok_m0S, ↓ok_m1S, ↓ok_m1L, ↓ok_ixO, ↓ok_sPart, ↓ok_sSl, ↓ok_tupO, ↓ok_sItems, ↓ok_sScr, ↓ok_sEnum, ↓ok_sRng1, ↓ok_sRng2, ↓ok_seqS, ↓ok_nxt, ↓ok_brkS, ↓ok_cntS, ↓ok_retN, ↓ok_drpS, ↓ok_asg, ↓ok_asgL, ↓ok_asgG, ↓ok_augS, ↓ok_ifS, ↓ok_retD, ↓ok_retL, ↓ok_retO, ↓ok_appO, ↓ok_setO, ↓ok_extO, ↓ok_popS, ↓ok_forS, ↓ok_forL_nil, ↓ok_lcS, ↓ok_lcL_nil, ↓okV_callD, ↓okV_callV, ↓ok_callM, ↓ok_asD, ↓ok_asL, ↓ok_callS, ↓ok_runF, ↓ok_rplS, ↓ok_tupA, ↓ok_strM, ↓ok_chn3, own?, toN, toT, toNs, wipE, bakE, stp_nx, stp_ct, stp_bk, stp_rt, Fw.collect, ok_yesS, List.getElem?_cons_zero, List.getElem?_cons_succ, List.set_cons_zero, List.set_cons_succ, List.map_cons, List.map_nil, List.length_cons, List.length_nil, List.cons_append, List.nil_append, List.replicate_succ, List.replicate_zero, Nat.reduceAdd, Nat.reduceSub, Nat.reduceLeDiff, Nat.reduceLT, Nat.reduceEqDiff, Int.reduceLT, Int.reduceLE, Int.reduceNeg, Int.reducePow, Int.reduceEq, Option.isSome_some, Option.map_some, Option.map_none, true_and, and_true, if_true, if_false, ite_true, ite_false, Bool.false_eq_true, reduceIte, reduceCtorEq, gAdd_ii, gAdd_ss, gAdd_tt, gSub_ii, gMul_ii, gDiv_ii, gMod_ii, gNeg_i, gLt_ii, gGt_ii, gGe_ii, gLe_ii, eqv_ii, eqv_ss, eqv_bb, eqv_nn, eqv_ni, eqv_in, eqv_ns, eqv_sn, eqv_nb, eqv_bn, eqv_is, eqv_si, eqv_nt, eqv_tn, eqv_nl, eqv_ln, eqv_tt, eqv_ll, eqvA_nn, eqvA_cc, eqvA_nc, eqvA_cn, gEq_ii, gEq_ss, gEq_bb, gEq_nn, gEq_in, gEq_ni, gEq_sn, gEq_ns, gEq_si, gEq_is, gNe_ii, gNe_ss, gNe_bb, gNe_nn, gNot_b, gIsN_n, gIsN_i, gIsN_b, gIsN_s, gIsN_t, gIsN_l, gNotN_n, gNotN_i, gNotN_b, gNotN_s, gNotN_t, gNotN_l, gIx_l, gIx_t, gIx_s, gLen_s, gLen_l, gLen_t, gAbs_i, gInt_i, gInt_b, gInt_s, gOrd_sign, gDivmod_ii, gStr_i, gStr_s, gTuple_l, gTuple_t, gStrip_s, gLstrip_s, gSplit_s, gPartition_s, gJoin_m, gCat_ll, gSl_s, gSl_t, gSl_l, itemsOf_l, itemsOf_t, itemsOf_s, ofString_inj, cMul_r, cMul_l, ixN_lit, atI_lit, atI_m1, cast_lit, String.reduceEq, decide_true, decide_false, Int.reduceSub, Int.reduceAdd, Int.reduceMul, Int.reduceToNat, T_toList, T_len, T_app, T_inj, T_sign, T_cut, T_signs, T_strip, T_empty, gIn_T, gNin_T, gLjust_T, lt_0, lt_1, lt_2, lt_3, lt_4, lt_5, lt_6, lt_7, lt_8, lt_9, lt_10, lt_11, lt_12, lt_13, lt_14, lt_15, lt_16, lt_17, lt_18, lt_19, lt_20, lt_21, lt_22, lt_23, lt_24, lt_25, lt_26] $[$l:location]?)

theorem gAll_true : ∀ (n : Nat), gAll (.list (List.replicate n (PyData.bool true))) = some (.bool true) := by
  intro n
  have hb : ∀ n, boolsOf (List.replicate n (PyData.bool true)) = some (List.replicate n true) := by
    intro n
    induction n with
    | zero => rfl
    | succ n ih => rw [List.replicate_succ, boolsOf, ih]; rfl
  unfold gAll
  simp only [hb, Option.map_some]
  have : (List.replicate n true).all id = true := by
    rw [List.all_eq_true]
    intro x hx
    rw [List.mem_replicate] at hx
    rw [hx.2]
    rfl
  rw [this]
theorem digits_ok {l : List Nat} (h : ∀ c ∈ l, 48 ≤ c ∧ c ≤ 57) (hne : l ≠ []) (hl : l.length ≤ 1000) {Q : Sl → En → Prop} (q : Q (.dat (.bool true)) [.un]) : Ok (S_is_digits [.dat (.str (T l))]) Q := by
  have hs := sizeLine_eq
  unfold S_is_digits
  rw [ok_runF]
  refine ⟨rfl, ?_⟩
  have hp : (0 < (l.length : Int)) = True := by
    refine eq_true ?_
    cases l with
    | nil => exact absurd rfl hne
    | cons a l => simp only [List.length_cons]; omega
  simp only [walkA, Y_is_digits, hp]
  refine ⟨by omega, by rw [List.length_map]; omega, ?_⟩
  refine lcL_map (fun c => .str (T [c])) (fun _ => .bool true) (fun _ => true) l _ (fun c hc => ?_) ?_
  · unfold turn
    have hd := h c hc
    have : (c ∈ [48, 49, 50, 51, 52, 53, 54, 55, 56, 57]) = True := by
      refine eq_true ?_
      simp only [List.mem_cons, List.not_mem_nil, or_false]
      omega
    simp only [walkA, C_is_digits_2, this]
  · have : (l.filter fun _ => true).map (fun _ => PyData.bool true) = List.replicate l.length (.bool true) := by
      rw [List.filter_eq_self.mpr fun _ _ => rfl, List.map_const']
    rw [this]
    simp only [walkA, gAll_true]
    exact q
theorem it_d2 {n : Nat} (h : n < 100) : intText? (T (d2 n)) = some ((n : Nat) : Int) := by
  have e := int_d2 h
  rw [gInt_s, if_pos (by rw [T_len]; show 2 ≤ 640; omega)] at e
  cases hq : intText? (T (d2 n)) with
  | none => rw [hq] at e; cases e
  | some i => rw [hq] at e; cases e; rfl
theorem it_d4 {n : Nat} (h : n < 10000) : intText? (T (d4 n)) = some ((n : Nat) : Int) := by
  have e := int_d4 h
  rw [gInt_s, if_pos (by rw [T_len]; show 4 ≤ 640; omega)] at e
  cases hq : intText? (T (d4 n)) with
  | none => rw [hq] at e; cases e
  | some i => rw [hq] at e; cases e; rfl
theorem split_clk {s : Nat} (h : s < 86400) : Txt.split (T (clk s)) (T [58]) = [T (d2 (s / 3600)), T (d2 (s / 60 % 60)), T (d2 (s % 60))] := by
  have e : Txt.split (T (clk s)) (T [58]) = (TL.spl [58] 0 [] (clk s)).map T := SX.split_S (by decide) (by decide)
  rw [e]
  have h1 := d2_dig (n := s / 3600) (by omega)
  have h2 := d2_dig (n := s / 60 % 60) (by omega)
  have h3 := d2_dig (n := s % 60) (by omega)
  unfold clk
  unfold d2 at *
  simp only [List.mem_cons, List.not_mem_nil, or_false, forall_eq_or_imp, forall_eq] at h1 h2 h3
  generalize 48 + s / 3600 / 10 = a1 at *
  generalize 48 + s / 3600 % 10 = a2 at *
  generalize 48 + s / 60 % 60 / 10 = a3 at *
  generalize 48 + s / 60 % 60 % 10 = a4 at *
  generalize 48 + s % 60 / 10 = a5 at *
  generalize 48 + s % 60 % 10 = a6 at *
  have n1 : a1 ≠ 58 := by omega
  have n2 : a2 ≠ 58 := by omega
  have n3 : a3 ≠ 58 := by omega
  have n4 : a4 ≠ 58 := by omega
  have n5 : a5 ≠ 58 := by omega
  have n6 : a6 ≠ 58 := by omega
  simp [TL.spl, TL.pre, n1, n2, n3, n4, n5, n6, n1.symm, n2.symm, n3.symm, n4.symm, n5.symm, n6.symm]
theorem rclock_ok {s : Nat} (h : s < 86400) {Q : Sl → En → Prop} (q : Q (.dat (.int (s : Nat))) [.un]) : Ok (S__read_clock [.dat (.str (T (clk s)))]) Q := by
  have hs := sizeLine_eq
  have hsp := split_clk h
  have hcl : (clk s).length = 8 := rfl
  have i1 := it_d2 (n := s / 3600) (by omega)
  have i2 := it_d2 (n := s / 60 % 60) (by omega)
  have i3 := it_d2 (n := s % 60) (by omega)
  have e1 : (23 < ((s / 3600 : Nat) : Int)) = False := eq_false (by omega)
  have e2 : (59 < ((s / 60 % 60 : Nat) : Int)) = False := eq_false (by omega)
  have e3 : (59 < ((s % 60 : Nat) : Int)) = False := eq_false (by omega)
  have e4 : ((s / 3600 : Nat) : Int) * 3600 + ((s / 60 % 60 : Nat) : Int) * 60 + ((s % 60 : Nat) : Int) = (s : Nat) := by omega
  have e5 : ∀ n, (d2 n).length = 2 := fun _ => rfl
  unfold S__read_clock
  rw [ok_runF]
  refine ⟨rfl, ?_⟩
  simp only [walkA, Y__read_clock, T__read_clock_6, hsp, hcl, Bool.not_true]
  refine ⟨⟨rfl, by omega⟩, by omega, ?_⟩
  refine lcL_map (fun l => .str (T l)) (fun _ => .bool true) (fun _ => true) [d2 (s / 3600), d2 (s / 60 % 60), d2 (s % 60)] _ (fun c hc => ?_) ?_
  · unfold turn
    simp only [walkA, C__read_clock_1]
    have hd : (∀ x ∈ c, 48 ≤ x ∧ x ≤ 57) ∧ c.length = 2 := by
      simp only [List.mem_cons, List.not_mem_nil, or_false] at hc
      rcases hc with rfl | rfl | rfl
      · exact ⟨d2_dig (by omega), rfl⟩
      · exact ⟨d2_dig (by omega), rfl⟩
      · exact ⟨d2_dig (by omega), rfl⟩
    refine digits_ok hd.1 (by intro z; rw [z] at hd; exact absurd hd.2 (by decide)) (by omega) ?_
    simp only [walkA]
  · have : ([d2 (s / 3600), d2 (s / 60 % 60), d2 (s % 60)].filter fun _ => true).map (fun _ => PyData.bool true) = List.replicate 3 (.bool true) := rfl
    rw [this, ]
    have hg : gAll (.list [.bool true, .bool true, .bool true]) = some (.bool true) := gAll_true 3
    simp only [walkA, hg, Bool.not_true, T__read_clock_5, T__read_clock_4, T__read_clock_3, T__read_clock_2, T__read_clock_1, i1, i2, i3, e1, e2, e3, e4, e5]
    exact q
def okI (r : Option PyData) (m : Nat) : Bool := match r with
  | some (.int i) => decide (i = (m : Nat))
  | _ => false
theorem okI_t {r : Option PyData} {m : Nat} (h : okI r m = true) : r = some (.int (m : Nat)) := by
  unfold okI at h
  split at h
  · rw [of_decide_eq_true h]
  · cases h
def okF (r : Option PyData) : Bool := match r with
  | some (.bool b) => !b
  | _ => false
theorem okF_t {r : Option PyData} (h : okF r = true) : r = some (.bool false) := by
  unfold okF at h
  split at h
  · rename_i b
    cases b with
    | false => rfl
    | true => cases h
  · cases h
theorem nin_all : ((List.range 12).all fun m => okF (gNin (.str (T (mon m))) (.tuple (ts MN)))) = true := by decide +kernel
theorem tix_all : ((List.range 12).all fun m => okI (gTidx (ts MN) (.str (T (mon m)))) m) = true := by decide +kernel
theorem rng_at {n i : Nat} {z : PyData} (h : (rngL 0 n)[i]? = some z) : i < n ∧ z = .int (i : Nat) := by
  unfold rngL at h
  simp at h
  obtain ⟨a, h1, h2⟩ := h
  obtain ⟨hk, e⟩ := List.getElem?_eq_some_iff.mp h1
  rw [List.getElem_range] at e
  subst e
  exact ⟨by simpa using hk, h2.symm⟩
theorem rtime_ok {y m d s : Nat} (v : Vd y m d s) {Q : Sl → En → Prop} (q : Q (.dat (.int (tm y m d s))) [.un, .un, .un, .un]) : Ok (S__read_time [.dat (.int (y : Nat)), .dat (.str (T (mon m))), .dat (.str (T (d2 d))), .dat (.str (T (clk s)))]) Q := by
  have hs := sizeLine_eq
  have hs1 := v.s1
  have hy0 := v.y0
  have hy1 := v.y1
  have hd0 := v.d0
  have hd1 := v.d1
  have hm1 := v.m1
  have hml := mlen_le (leap y) m v.m1
  have hn : gNin (.str (T (mon m))) (.tuple (ts MN)) = some (.bool false) := okF_t (List.all_eq_true.mp nin_all m (List.mem_range.mpr hm1))
  have hx : gTidx (ts MN) (.str (T (mon m))) = some (.int (m : Nat)) := okI_t (List.all_eq_true.mp tix_all m (List.mem_range.mpr hm1))
  simp only [ts, MN, List.map_cons, List.map_nil] at hn hx
  have e1 : (((y : Nat) : Int) < 1970) = False := eq_false (by omega)
  have e2 : (9999 < ((y : Nat) : Int)) = False := eq_false (by omega)
  have e3 : (((d : Nat) : Int) < 1) = False := eq_false (by omega)
  have e4 : (((mlen (leap y) m : Nat) : Int) < ((d : Nat) : Int)) = False := eq_false (by omega)
  have i2 := it_d2 (n := d) (by omega)
  have l2 : (d2 d).length = 2 := rfl
  unfold S__read_time
  rw [ok_runF]
  refine ⟨rfl, ?_⟩
  simp only [walkA, Y__read_time]
  refine rclock_ok hs1 ?_
  simp only [walkA, T__read_time_7, hn]
  refine digits_ok (d2_dig (by omega)) (by unfold d2; simp) (by omega) ?_
  simp only [walkA, T__read_time_6, T__read_time_5, T__read_time_4, Bool.not_true, e1, e2, hx, i2, l2, e3]
  refine dom_ok hm1 ?_
  simp only [walkA, e4, T__read_time_3]
  refine da_ok ?_
  simp only [walkA, i2, l2, T__read_time_2]
  refine ⟨by omega, ?_⟩
  refine forL_inv (fun k E => ∃ w, E = [.dat (.int (y : Nat)), .dat (.str (T (mon m))), .dat (.str (T (d2 d))), .dat (.str (T (clk s))), .dat (.int (s : Nat)), .dat (.int (m : Nat)), .dat (.int (DA y + d - 1 + (off (leap y) k : Nat))), w]) _ 0 _ _ ⟨.un, by simp [off]⟩ ?_ ?_
  · rintro i z hz E ⟨w, rfl⟩
    obtain ⟨hi, rfl⟩ := rng_at hz
    rw [Int.toNat_natCast] at hi
    simp only [walkA, L__read_time_1]
    refine dom_ok (show i < 12 by omega) ?_
    simp only [walkA, stp]
    have e5 : off (leap y) (0 + i + 1) = off (leap y) i + mlen (leap y) i := by rw [Nat.zero_add]; rfl
    rw [e5, Nat.zero_add]
    refine ⟨.dat (.int (i : Nat)), ?_⟩
    rw [Int.natCast_add, Int.add_assoc]
  · rintro E ⟨w, rfl⟩
    have e6 : 0 + (rngL 0 ((m : Nat) : Int).toNat).length = m := by simp [rngL]
    rw [e6]
    have e7 : (DA y + d - 1 + (off (leap y) m : Nat)) * 86400 + (s : Nat) = tm y m d s := by unfold tm dn; omega
    simp only [walkA, T__read_time_1, e7]
    exact q
def Wl (y m d s : Nat) (a b c a' b' c' : Nat) : List Nat := [a, b, c, 44, 32, 48 + d / 10, 48 + d % 10, 32, a', b', c', 32, 48 + y / 1000, 48 + y / 100 % 10, 48 + y / 10 % 10, 48 + y % 10, 32, 48 + s / 3600 / 10, 48 + s / 3600 % 10, 58, 48 + s / 60 % 60 / 10, 48 + s / 60 % 60 % 10, 58, 48 + s % 60 / 10, 48 + s % 60 % 10, 32, 71, 77, 84]
theorem W_l {y m d s : Nat} (v : Vd y m d s) : ∃ a b c a' b' c', mon m = [a', b', c'] ∧ Wtx y m d s = Wl y m d s a b c a' b' c' := by
  obtain ⟨w1, a, b, c, w2⟩ := wd_3 (k := (dn y m d + 3) % 7) (by omega) (by omega)
  obtain ⟨a', b', c', w3⟩ := mon_3 v.m1
  refine ⟨a, b, c, a', b', c', w3, ?_⟩
  unfold Wtx
  rw [w2, w3]
  rfl
theorem rfixed_ok {y m d s : Nat} (v : Vd y m d s) {Q : Sl → En → Prop} (q : Q (.dat (.int (tm y m d s))) [.un]) : Ok (S__read_fixed [.dat (.str (T (Wtx y m d s)))]) Q := by
  have hs := sizeLine_eq
  have hy1 := v.y1
  obtain ⟨a, b, c, a', b', c', hm, hW⟩ := W_l v
  have c1 : cutL (Wtx y m d s) (some 12) (some 16) = d4 y := by rw [hW]; rfl
  have c2 : cutL (Wtx y m d s) (some 8) (some 11) = mon m := by rw [hW, hm]; rfl
  have c3 : cutL (Wtx y m d s) (some 5) (some 7) = d2 d := by rw [hW]; rfl
  have c4 : cutL (Wtx y m d s) (some 17) (some 25) = clk s := by rw [hW]; rfl
  have hl : (Wtx y m d s).length = 29 := by rw [hW]; rfl
  have i4 := it_d4 (n := y) (by omega)
  have l4 : (d4 y).length = 4 := rfl
  unfold S__read_fixed
  rw [ok_runF]
  refine ⟨rfl, ?_⟩
  simp only [walkA, Y__read_fixed, c1, hl]
  refine ⟨by omega, ?_⟩
  refine digits_ok (d4_dig (by omega)) (by unfold d4; simp) (by omega) ?_
  simp only [walkA, T__read_fixed_2, Bool.not_true, c1, c2, c3, c4, hl, i4, l4]
  refine ⟨by omega, by omega, by omega, by omega, ?_⟩
  refine rtime_ok v ?_
  simp only [walkA, T__read_fixed_1]
  refine write_ok v ?_
  simp only [walkA]
  exact q
theorem rdate_ok {y m d s : Nat} (v : Vd y m d s) {w : PyData} {Q : Sl → En → Prop} (q : Q (.dat (.int (tm y m d s))) [.un, .un]) : Ok (S_read_date [.dat (.str (T (Wtx y m d s))), .dat w]) Q := by
  have hs := sizeLine_eq
  obtain ⟨a, b, c, a', b', c', hm, hW⟩ := W_l v
  have c1 : cutL (Wtx y m d s) (some 3) (some 4) = [44] := by rw [hW]; rfl
  have hl : (Wtx y m d s).length = 29 := by rw [hW]; rfl
  unfold S_read_date
  rw [ok_runF]
  refine ⟨rfl, ?_⟩
  simp only [walkA, Y_read_date, c1, hl]
  refine ⟨by omega, ?_⟩
  refine rfixed_ok v ?_
  simp only [walkA]
  exact q
end ownanswer_k53_dates_written
namespace ownanswer_k66_directives
open PySem Fw
def Y_is_digit : SS := (retD (chn (ret (.int 48)) (rdD 0) (ret (.int 57)) gLe gLe))
abbrev N_is_digit : List Str := ["octet"]
def S_is_digit : Fn := runF 1 1 Y_is_digit
def Y_is_letter : SS := (retD (vOr (chn (ret (.int 65)) (rdD 0) (ret (.int 90)) gLe gLe) (chn (ret (.int 97)) (rdD 0) (ret (.int 122)) gLe gLe)))
abbrev N_is_letter : List Str := ["octet"]
def S_is_letter : Fn := runF 1 1 Y_is_letter
def Y_is_token_sign : SS := (retD (vOr (mny (sCons (rdD 0) sNil) (callD S_is_letter)) (vOr (mny (sCons (rdD 0) sNil) (callD S_is_digit)) (bin (rdD 0) (ret (.tuple [(.int 33), (.int 35), (.int 36), (.int 38), (.int 39), (.int 42), (.int 43), (.int 45), (.int 46), (.int 94), (.int 95), (.int 96), (.int 124), (.int 126)])) gIn))))
abbrev N_is_token_sign : List Str := ["octet"]
def S_is_token_sign : Fn := runF 1 1 Y_is_token_sign
def C_is_token_1 : SE PyData := (mny (sCons (una (rdD 1) gOrd) sNil) (callD S_is_token_sign))
def C_is_token_2 : SE PyData := (mny (sCons (una (rdD 1) gOrd) sNil) (callD S_is_token_sign))
def Y_is_token : SS := (retD (vAnd (bin (una (rdD 0) gLen) (ret (.int 0)) gGt) (una (bnd (lcS (sItems (rdD 0)) [1] (toN 1) yesS C_is_token_2) fun ds => ret (.list ds)) gAll)))
abbrev N_is_token : List Str := ["text", "sign"]
def S_is_token : Fn := runF 1 2 Y_is_token
def C_is_digits_1 : SE PyData := (bin (rdD 1) (ret (.str "0123456789")) gIn)
def C_is_digits_2 : SE PyData := (bin (rdD 1) (ret (.str "0123456789")) gIn)
def Y_is_digits : SS := (retD (vAnd (bin (una (rdD 0) gLen) (ret (.int 0)) gGt) (una (bnd (lcS (sItems (rdD 0)) [1] (toN 1) yesS C_is_digits_2) fun ds => ret (.list ds)) gAll)))
abbrev N_is_digits : List Str := ["text", "sign"]
def S_is_digits : Fn := runF 1 2 Y_is_digits
def Y_lower : SS := (retD (m0S (rdD 0) gLower))
abbrev N_lower : List Str := ["text"]
def S_lower : Fn := runF 1 1 Y_lower
def Y_trimmed : SS := (retD (m1S (rdD 0) (ret (.str " \t")) gStrip))
abbrev N_trimmed : List Str := ["text"]
def S_trimmed : Fn := runF 1 1 Y_trimmed
def C_values_1 : SE PyData := (rdD 4)
def C_values_2 : SE Bool := (toB (bin (rdD 3) (rdD 2) gEq))
def T_values_1 : SS := (retL (lcS (sItems (rdD 0)) [3, 4] (toT [3, 4]) C_values_2 C_values_1))
def Y_values : SS := (seqS (asg 2 (mny (sCons (rdD 1) sNil) (callD S_lower))) T_values_1)
abbrev N_values : List Str := ["fields", "name", "wanted", "key", "value"]
def S_values : Fn := runF 2 5 Y_values
def T_read_quoted_1 : SS := cntS
def T_read_quoted_2 : SS := (asg 2 (ret (.bool false)))
def T_read_quoted_3 : SS := (seqS (appO 1 (rdD 3)) T_read_quoted_2)
def T_read_quoted_4 : SS := (seqS (ifS (sAnd (toB (bin (rdD 3) (ret (.str "\"")) gEq)) (sNot (toB (rdD 2)))) (retD (ret .none)) nxt) T_read_quoted_3)
def L_read_quoted_1 : SS := (seqS (ifS (sAnd (toB (bin (rdD 3) (ret (.str "\\")) gEq)) (sNot (toB (rdD 2)))) (seqS (asg 2 (ret (.bool true))) T_read_quoted_1) nxt) T_read_quoted_4)
def T_read_quoted_5 : SS := (retD (sIf (toB (rdD 2)) (ret .none) (m1S (ret (.str "")) (rdO 1) gJoin)))
def T_read_quoted_6 : SS := (seqS (forS (sItems (sSl (rdD 0) (sPart (ret (.int 1))) (sPart (una (ret (.int 1)) gNeg)))) (toN 3) L_read_quoted_1) T_read_quoted_5)
def T_read_quoted_7 : SS := (seqS (asg 2 (ret (.bool false))) T_read_quoted_6)
def T_read_quoted_8 : SS := (seqS (asgL 1 (dLst sNil)) T_read_quoted_7)
def Y_read_quoted : SS := (seqS (ifS (sOr (toB (bin (una (rdD 0) gLen) (ret (.int 2)) gLt)) (sOr (toB (bin (bin (rdD 0) (ret (.int 0)) gIx) (ret (.str "\"")) gNe)) (toB (bin (bin (rdD 0) (una (ret (.int 1)) gNeg) gIx) (ret (.str "\"")) gNe)))) (retD (ret .none)) nxt) T_read_quoted_8)
abbrev N_read_quoted : List Str := ["text", "signs", "taken", "sign"]
def S_read_quoted : Fn := runF 1 4 Y_read_quoted
def T__cut_1 : SS := (asg 3 (bin (rdD 6) (ret (.int 1)) gAdd))
def L__cut_1 : SS := (ifS (toB (rdD 5)) (asg 5 (ret (.bool false))) (ifS (toB (bin (rdD 7) (ret (.str "\"")) gEq)) (asg 4 (una (rdD 4) gNot)) (ifS (toB (bin (rdD 7) (ret (.str "\\")) gEq)) (asg 5 (rdD 4)) (ifS (sAnd (toB (bin (rdD 7) (rdD 1) gEq)) (sNot (toB (rdD 4)))) (seqS (appO 2 (sSl (rdD 0) (sPart (rdD 3)) (sPart (rdD 6)))) T__cut_1) nxt))))
def T__cut_2 : SS := (retD (sIf (toB (rdD 4)) (ret .none) (rdA 2)))
def T__cut_3 : SS := (seqS (appO 2 (sSl (rdD 0) (sPart (rdD 3)) (ret none))) T__cut_2)
def T__cut_4 : SS := (seqS (forS (sEnum (rdD 0)) (toT [6, 7]) L__cut_1) T__cut_3)
def T__cut_5 : SS := (seqS (asg 5 (ret (.bool false))) T__cut_4)
def T__cut_6 : SS := (seqS (asg 4 (ret (.bool false))) T__cut_5)
def T__cut_7 : SS := (seqS (asg 3 (ret (.int 0))) T__cut_6)
def Y__cut : SS := (seqS (asgL 2 (dLst sNil)) T__cut_7)
abbrev N__cut : List Str := ["text", "mark", "parts", "begin", "quoted", "taken", "at", "sign"]
def S__cut : Fn := runF 2 8 Y__cut
def C_split_list_1 : SE PyData := (mny (sCons (rdD 3) sNil) (callD S_trimmed))
def C_split_list_2 : SE PyData := (rdD 3)
def C_split_list_3 : SE Bool := (toB (bin (rdD 3) (ret (.str "")) gNe))
def T_split_list_1 : SS := (retL (lcS (sItems (rdD 2)) [3] (toN 3) C_split_list_3 C_split_list_2))
def T_split_list_2 : SS := (seqS (asg 2 (bnd (lcS (sItems (rdD 1)) [3] (toN 3) yesS C_split_list_1) fun ds => ret (.list ds))) T_split_list_1)
def T_split_list_3 : SS := (seqS (ifS (toB (una (rdD 1) gIsN)) (retD (ret .none)) nxt) T_split_list_2)
def Y_split_list : SS := (seqS (asg 1 (mny (sCons (rdD 0) (sCons (ret (.str ",")) sNil)) (callD S__cut))) T_split_list_3)
abbrev N_split_list : List Str := ["value", "parts", "trimmed_parts", "part"]
def S_split_list : Fn := runF 1 4 Y_split_list
def T_join_values_1 : SS := (retD (sIf (toB (bin (una (rdD 2) gLen) (ret (.int 0)) gEq)) (ret .none) (m1S (ret (.str ", ")) (rdD 2) gJoin)))
def Y_join_values : SS := (seqS (asg 2 (mny (sCons (rdD 0) (sCons (rdD 1) sNil)) (callD S_values))) T_join_values_1)
abbrev N_join_values : List Str := ["fields", "name", "found"]
def S_join_values : Fn := runF 2 3 Y_join_values
def T__read_directive_1 : SS := (retD (sIf (toB (una (rdD 1) gIsN)) (ret .none) (dTup (sCons (mny (sCons (rdD 2) sNil) (callD S_lower)) (sCons (rdD 1) sNil)))))
def T__read_directive_2 : SS := (seqS (asg 1 (sIf (toB (mny (sCons (rdD 4) sNil) (callD S_is_token))) (rdD 4) (mny (sCons (rdD 4) sNil) (callD S_read_quoted)))) T__read_directive_1)
def T__read_directive_3 : SS := (seqS (ifS (toB (bin (rdD 3) (ret (.str "")) gEq)) (retD (dTup (sCons (mny (sCons (rdD 2) sNil) (callD S_lower)) (sCons (ret .none) sNil)))) nxt) T__read_directive_2)
def T__read_directive_4 : SS := (seqS (ifS (sNot (toB (mny (sCons (rdD 2) sNil) (callD S_is_token)))) (retD (ret .none)) nxt) T__read_directive_3)
def Y__read_directive : SS := (seqS (asgG (toT [2, 3, 4]) (m1S (rdD 0) (ret (.str "=")) gPartition)) T__read_directive_4)
abbrev N__read_directive : List Str := ["element", "value", "name", "sign", "text"]
def S__read_directive : Fn := runF 1 5 Y__read_directive
def C_read_directives_1 : SE PyData := (mny (sCons (rdD 4) sNil) (callD S__read_directive))
def C_read_directives_2 : SE PyData := (rdD 5)
def C_read_directives_3 : SE Bool := (toB (una (rdD 5) gNotN))
def T_read_directives_1 : SS := (retD (una (bnd (lcS (sItems (rdD 3)) [5] (toN 5) C_read_directives_3 C_read_directives_2) fun ds => ret (.list ds)) gTuple))
def T_read_directives_2 : SS := (seqS (asg 3 (bnd (lcS (sItems (rdD 2)) [4] (toN 4) yesS C_read_directives_1) fun ds => ret (.list ds))) T_read_directives_1)
def T_read_directives_3 : SS := (seqS (ifS (toB (una (rdD 2) gIsN)) (retD (ret (.tuple [(.tuple [(.str "no-store"), .none])]))) nxt) T_read_directives_2)
def T_read_directives_4 : SS := (seqS (asg 2 (sIf (toB (una (rdD 1) gIsN)) (bnd (dLst sNil) fun ds => ret (.list ds)) (mny (sCons (rdD 1) sNil) (callD S_split_list)))) T_read_directives_3)
def Y_read_directives : SS := (seqS (asg 1 (mny (sCons (rdD 0) (sCons (ret (.str "cache-control")) sNil)) (callD S_join_values))) T_read_directives_4)
abbrev N_read_directives : List Str := ["fields", "joined", "parts", "found", "part", "pair"]
def S_read_directives : Fn := runF 1 6 Y_read_directives
def L_directive_1 : SS := (ifS (toB (bin (rdD 2) (mny (sCons (rdD 1) sNil) (callD S_lower)) gEq)) (retD (dTup (sCons (ret (.bool true)) (sCons (rdD 3) sNil)))) nxt)
def T_directive_1 : SS := (retD (dTup (sCons (ret (.bool false)) (sCons (ret .none) sNil))))
def Y_directive : SS := (seqS (forS (sItems (rdD 0)) (toT [2, 3]) L_directive_1) T_directive_1)
abbrev N_directive : List Str := ["directives", "name", "key", "value"]
def S_directive : Fn := runF 2 4 Y_directive
def T_seconds_1 : SS := (retD (mny (sCons (una (rdD 0) gInt) (sCons (ret (.int 2147483648)) sNil)) gMin))
def Y_seconds : SS := (seqS (ifS (sOr (toB (una (rdD 0) gIsN)) (sOr (sNot (toB (mny (sCons (rdD 0) sNil) (callD S_is_digits)))) (toB (bin (una (rdD 0) gLen) (ret (.int 20)) gGt)))) (retD (ret .none)) nxt) T_seconds_1)
abbrev N_seconds : List Str := ["value"]
def S_seconds : Fn := runF 1 1 Y_seconds
def L__law_draw_1 : SS := (asg 1 (bin (una (bin (bin (bin (rdD 1) (ret (.int 48271)) gMul) (bin (una (una (rdD 2) gInt) gAbs) (ret (.int 65521)) gMod) gAdd) (ret (.int 1)) gAdd) gInt) (ret (.int 2147483647)) gMod))
def C__law_draw_1 : SE PyData := (una (una (rdD 2) gInt) gAbs)
def T__law_draw_1 : SS := (retL (dLst (sCons (bnd (lcS (sScr 0) [2] (toN 2) yesS C__law_draw_1) fun ds => ret (.list ds)) (sCons (una (ret (.int 1)) gNeg) (sCons (ret (.int 0)) (sCons (rdD 1) sNil))))))
def T__law_draw_2 : SS := (seqS (forS (sScr 0) (toN 2) L__law_draw_1) T__law_draw_1)
def Y__law_draw : SS := (seqS (asg 1 (ret (.int 7))) T__law_draw_2)
abbrev N__law_draw : List Str := ["script", "seed", "cell"]
def S__law_draw : Fn := runF 1 3 Y__law_draw
def T__law_take_1 : SS := (setO 0 (ixO 0 (ret (.int 3))) (ret (.int 2)))
def T__law_take_2 : SS := (ifS (toB (bin (ixO 0 (ret (.int 2))) (ret (.int 0)) gEq)) (seqS (setO 0 (bin (una (bin (bin (ixO 0 (ret (.int 3))) (ret (.int 48271)) gMul) (ret (.int 11)) gAdd) gInt) (ret (.int 2147483647)) gMod) (ret (.int 3))) T__law_take_1) nxt)
def T__law_take_3 : SS := (seqS (ifS (toB (bin (ixO 0 (ret (.int 1))) (una (ixO 0 (ret (.int 0))) gLen) gLt)) (setO 0 (bin (ixO 0 (ret (.int 0))) (ixO 0 (ret (.int 1))) gIx) (ret (.int 2))) nxt) T__law_take_2)
def T__law_take_4 : SS := (retD (rdD 2))
def T__law_take_5 : SS := (seqS (setO 0 (bin (ixO 0 (ret (.int 2))) (rdD 1) gDiv) (ret (.int 2))) T__law_take_4)
def T__law_take_6 : SS := (seqS (asg 2 (bin (una (ixO 0 (ret (.int 2))) gInt) (rdD 1) gMod)) T__law_take_5)
def Y__law_take : SS := (seqS (ifS (toB (bin (ixO 0 (ret (.int 2))) (ret (.int 0)) gEq)) (seqS (setO 0 (bin (ixO 0 (ret (.int 1))) (ret (.int 1)) gAdd) (ret (.int 1))) T__law_take_3) nxt) T__law_take_6)
abbrev N__law_take : List Str := ["draw", "many", "found"]
def S__law_take : Fn := runF 2 3 Y__law_take
def T__law_part_1 : SS := (retD (dTup (sCons (bin (bin (bin (rdD 2) (ret (.str "=\"")) gAdd) (rplS (rdD 5) "\"" "\\\"") gAdd) (ret (.str "\"")) gAdd) (sCons (dTup (sCons (m0S (rdD 2) gLower) (sCons (rdD 5) sNil))) sNil))))
def T__law_part_2 : SS := (retD (dTup (sCons (bin (bin (rdD 2) (ret (.str "=")) gAdd) (rdD 4) gAdd) (sCons (dTup (sCons (m0S (rdD 2) gLower) (sCons (rdD 4) sNil))) sNil))))
def T__law_part_3 : SS := (seqS (asg 4 (bin (bnd (dLst (sCons (ret (.str "60")) (sCons (ret (.str "0")) (sCons (ret (.str "a")) (sCons (ret (.str "-1")) (sCons (ret (.str "007")) sNil)))))) fun ds => ret (.list ds)) (asD (callM 0 S__law_take (sCons (ret (.int 5)) sNil))) gIx)) T__law_part_2)
def T__law_part_4 : SS := (seqS (ifS (toB (bin (rdD 3) (ret (.int 3)) gEq)) (seqS (asg 5 (bin (bnd (dLst (sCons (ret (.str "a, b")) (sCons (ret (.str "x\"y")) (sCons (ret (.str "")) (sCons (ret (.str "60")) sNil))))) fun ds => ret (.list ds)) (asD (callM 0 S__law_take (sCons (ret (.int 4)) sNil))) gIx)) T__law_part_1) nxt) T__law_part_3)
def T__law_part_5 : SS := (seqS (ifS (toB (bin (rdD 3) (ret (.int 3)) gLt)) (retD (dTup (sCons (rdD 2) (sCons (dTup (sCons (m0S (rdD 2) gLower) (sCons (ret .none) sNil))) sNil)))) nxt) T__law_part_4)
def T__law_part_6 : SS := (seqS (ifS (toB (bin (rdD 3) (ret (.int 0)) gEq)) (retD (dTup (sCons (bin (bnd (dLst (sCons (ret (.str "")) (sCons (ret (.str " ")) (sCons (ret (.str "a b")) (sCons (ret (.str "=5")) (sCons (ret (.str "a =5")) (sCons (ret (.str "(x)")) (sCons (ret (.str "a=(")) (sCons (ret (.str "a=\"b\"c")) sNil))))))))) fun ds => ret (.list ds)) (asD (callM 0 S__law_take (sCons (ret (.int 8)) sNil))) gIx) (sCons (ret .none) sNil)))) nxt) T__law_part_5)
def T__law_part_7 : SS := (seqS (asg 3 (asD (callM 0 S__law_take (sCons (ret (.int 8)) sNil)))) T__law_part_6)
def T__law_part_8 : SS := (seqS (asg 2 (bin (rdD 1) (asD (callM 0 S__law_take (sCons (ret (.int 9)) sNil))) gIx)) T__law_part_7)
def Y__law_part : SS := (seqS (asg 1 (bnd (dLst (sCons (ret (.str "max-age")) (sCons (ret (.str "No-Store")) (sCons (ret (.str "x")) (sCons (ret (.str "no-cache")) (sCons (ret (.str "MAX-age")) (sCons (ret (.str "min-fresh")) (sCons (ret (.str "Max-Stale")) (sCons (ret (.str "only-if-cached")) (sCons (ret (.str "must-revalidate")) sNil)))))))))) fun ds => ret (.list ds))) T__law_part_8)
abbrev N__law_part : List Str := ["draw", "names", "name", "choice", "value", "text"]
def S__law_part : Fn := runF 1 6 Y__law_part
def T__law_seconds_1 : SS := (asg 1 (bin (bin (rdD 1) (ret (.int 10)) gMul) (una (rdD 2) gInt) gAdd))
def L__law_seconds_1 : SS := (seqS (ifS (toB (bin (rdD 2) (ret (.str "0123456789")) gNin)) (retD (ret .none)) nxt) T__law_seconds_1)
def T__law_seconds_2 : SS := (retD (mny (sCons (rdD 1) (sCons (bin (ret (.int 2)) (ret (.int 31)) gPow) sNil)) gMin))
def T__law_seconds_3 : SS := (seqS (forS (sItems (rdD 0)) (toN 2) L__law_seconds_1) T__law_seconds_2)
def T__law_seconds_4 : SS := (seqS (asg 1 (ret (.int 0))) T__law_seconds_3)
def Y__law_seconds : SS := (seqS (ifS (sOr (toB (una (rdD 0) gIsN)) (sNot (toB (chn (ret (.int 1)) (una (rdD 0) gLen) (ret (.int 20)) gLe gLe)))) (retD (ret .none)) nxt) T__law_seconds_4)
abbrev N__law_seconds : List Str := ["text", "number", "sign"]
def S__law_seconds : Fn := runF 1 3 Y__law_seconds
def T_law_1 : SS := (ifS (toB (una (bin (rdD 14) (ret (.int 1)) gIx) gNotN)) (asg 3 (bnd (binL (rdD 3) (bnd (dLst (sCons (bin (rdD 14) (ret (.int 1)) gIx) sNil)) fun ds => ret (.list ds)) gCat) fun ds => ret (.list ds))) nxt)
def T_law_2 : SS := (seqS (asg 9 (bin (bin (bin (rdD 9) (bin (bnd (dLst (sCons (ret (.str "")) (sCons (ret (.str " ")) (sCons (ret (.str ",")) sNil)))) fun ds => ret (.list ds)) (asD (callM 1 S__law_take (sCons (ret (.int 3)) sNil))) gIx) gAdd) (bin (rdD 14) (ret (.int 0)) gIx) gAdd) (bin (bnd (dLst (sCons (ret (.str ",")) (sCons (ret (.str ", ")) sNil))) fun ds => ret (.list ds)) (asD (callM 1 S__law_take (sCons (ret (.int 2)) sNil))) gIx) gAdd)) T_law_1)
def L_law_1 : SS := (seqS (asg 14 (asD (callM 1 S__law_part sNil))) T_law_2)
def T_law_3 : SS := (asg 3 (bnd (binL (rdD 3) (bnd (dLst (sCons (dTup (sCons (ret (.str "z")) (sCons (ret .none) sNil))) sNil)) fun ds => ret (.list ds)) gCat) fun ds => ret (.list ds)))
def T_law_4 : SS := (seqS (appO 2 (dTup (sCons (ret (.str "cache-control")) (sCons (bin (rdD 9) (ret (.str "z")) gAdd) sNil)))) T_law_3)
def T_law_5 : SS := (seqS (forS (sRng1 (asD (callM 1 S__law_take (sCons (ret (.int 4)) sNil)))) (toN 10) L_law_1) T_law_4)
def L_law_2 : SS := (seqS (asg 9 (ret (.str ""))) T_law_5)
def T_law_6 : SS := (appO 2 (dTup (sCons (ret (.str "cache-control")) (sCons (ret (.str "\"")) sNil))))
def C_law_1 : SE PyData := (rdD 15)
def C_law_2 : SE Bool := (toB (bin (bin (rdD 15) (ret (.int 0)) gIx) (rdD 7) gEq))
def T_law_7 : SS := (ifS (toB (bin (mny (sCons (rdD 6) (sCons (rdD 7) sNil)) (callD S_directive)) (sIf (toB (bin (rdD 11) (bnd (dLst sNil) fun ds => ret (.list ds)) gNe)) (dTup (sCons (ret (.bool true)) (sCons (bin (bin (rdD 11) (ret (.int 0)) gIx) (ret (.int 1)) gIx) sNil))) (dTup (sCons (ret (.bool false)) (sCons (ret .none) sNil)))) gNe)) (retD (ret (.bool false))) nxt)
def L_law_3 : SS := (seqS (asg 11 (bnd (lcS (sItems (rdD 3)) [15] (toN 15) C_law_2 C_law_1) fun ds => ret (.list ds))) T_law_7)
def C_law_3 : SE PyData := (bin (ret (.str "0123456789")) (asD (callM 1 S__law_take (sCons (ret (.int 10)) sNil))) gIx)
def T_law_8 : SS := (ifS (sOr (sAnd (toB (una (rdD 13) gIsN)) (toB (una (rdD 12) gNotN))) (sAnd (toB (una (rdD 13) gNotN)) (toB (bin (rdD 12) (rdD 13) gNe)))) (retD (ret (.bool false))) nxt)
def T_law_9 : SS := (seqS (asg 13 (mny (sCons (rdD 9) sNil) (callD S__law_seconds))) T_law_8)
def L_law_4 : SS := (seqS (asg 12 (mny (sCons (rdD 9) sNil) (callD S_seconds))) T_law_9)
def T_law_10 : SS := (retD (ret (.bool true)))
def T_law_11 : SS := (seqS (forS (sItems (bnd (dLst (sCons (rdD 8) (sCons (ret (.str "2147483647")) (sCons (ret (.str "2147483648")) (sCons (ret (.str "")) (sCons (ret (.str "+1")) (sCons (ret (.str "1 ")) (sCons (ret .none) (sCons (ret (.str "1.5")) (sCons (ret (.str "00000000000000000001")) sNil)))))))))) fun ds => ret (.list ds))) (toN 9) L_law_4) T_law_10)
def T_law_12 : SS := (seqS (asg 8 (m1S (ret (.str "")) (bnd (lcS (sRng1 (bin (bnd (dLst (sCons (ret (.int 1)) (sCons (ret (.int 5)) (sCons (ret (.int 9)) (sCons (ret (.int 10)) (sCons (ret (.int 11)) (sCons (ret (.int 20)) (sCons (ret (.int 21)) (sCons (ret (.int 22)) sNil))))))))) fun ds => ret (.list ds)) (asD (callM 1 S__law_take (sCons (ret (.int 8)) sNil))) gIx)) [5] (toN 5) yesS C_law_3) fun ds => ret (.list ds)) gJoin)) T_law_11)
def T_law_13 : SS := (seqS (forS (sItems (bnd (dLst (sCons (ret (.str "max-age")) (sCons (ret (.str "no-store")) (sCons (ret (.str "none")) (sCons (ret (.str "z")) (sCons (ret (.str "min-fresh")) (sCons (ret (.str "max-stale")) (sCons (ret (.str "only-if-cached")) (sCons (ret (.str "must-revalidate")) sNil))))))))) fun ds => ret (.list ds))) (toN 7) L_law_3) T_law_12)
def T_law_14 : SS := (seqS (ifS (sOr (sNot (toB (una (rdD 6) (gIsi "tuple")))) (toB (bin (rdD 6) (una (rdD 3) gTuple) gNe))) (retD (ret (.bool false))) nxt) T_law_13)
def T_law_15 : SS := (seqS (asg 6 (mny (sCons (tupA 2) sNil) (callD S_read_directives))) T_law_14)
def T_law_16 : SS := (seqS (ifS (sNot (toB (rdD 4))) (asg 3 (bnd (dLst (sCons (dTup (sCons (ret (.str "no-store")) (sCons (ret .none) sNil))) sNil)) fun ds => ret (.list ds))) nxt) T_law_15)
def T_law_17 : SS := (seqS (ifS (sAnd (toB (bin (una (rdO 2) gLen) (ret (.int 1)) gGt)) (toB (bin (asD (callM 1 S__law_take (sCons (ret (.int 8)) sNil))) (ret (.int 0)) gEq))) (seqS (asg 4 (ret (.bool false))) T_law_6) nxt) T_law_16)
def T_law_18 : SS := (seqS (forS (sRng1 (asD (callM 1 S__law_take (sCons (ret (.int 4)) sNil)))) (toN 5) L_law_2) T_law_17)
def T_law_19 : SS := (seqS (asg 4 (ret (.bool true))) T_law_18)
def T_law_20 : SS := (seqS (asg 3 (bnd (dLst sNil) fun ds => ret (.list ds))) T_law_19)
def T_law_21 : SS := (seqS (asgL 2 (dLst (sCons (dTup (sCons (ret (.str "accept")) (sCons (ret (.str "*/*")) sNil))) sNil))) T_law_20)
def Y_law : SS := (seqS (asgL 1 (callS 0 S__law_draw)) T_law_21)
abbrev N_law : List Str := ["script", "draw", "fields", "due", "closed", "k", "actual", "name", "digits", "text", "j", "found", "told", "number", "part", "pair"]
def S_law : Fn := runF 1 16 Y_law
theorem lt_0 : Str.ofString "0123456789" = T [48, 49, 50, 51, 52, 53, 54, 55, 56, 57] := by decide +kernel
theorem lt_1 : Str.ofString " \t" = T [32, 9] := by decide +kernel
theorem lt_2 : Str.ofString "\"" = T [34] := by decide +kernel
theorem lt_3 : Str.ofString "\\" = T [92] := by decide +kernel
theorem lt_4 : Str.ofString "" = T [] := by decide +kernel
theorem lt_5 : Str.ofString "," = T [44] := by decide +kernel
theorem lt_6 : Str.ofString ", " = T [44, 32] := by decide +kernel
theorem lt_7 : Str.ofString "=" = T [61] := by decide +kernel
theorem lt_8 : Str.ofString "cache-control" = T [99, 97, 99, 104, 101, 45, 99, 111, 110, 116, 114, 111, 108] := by decide +kernel
theorem lt_9 : Str.ofString "no-store" = T [110, 111, 45, 115, 116, 111, 114, 101] := by decide +kernel
theorem lt_10 : Str.ofString "must-revalidate" = T [109, 117, 115, 116, 45, 114, 101, 118, 97, 108, 105, 100, 97, 116, 101] := by decide +kernel
theorem lt_11 : Str.ofString "only-if-cached" = T [111, 110, 108, 121, 45, 105, 102, 45, 99, 97, 99, 104, 101, 100] := by decide +kernel
theorem lt_12 : Str.ofString "Max-Stale" = T [77, 97, 120, 45, 83, 116, 97, 108, 101] := by decide +kernel
theorem lt_13 : Str.ofString "min-fresh" = T [109, 105, 110, 45, 102, 114, 101, 115, 104] := by decide +kernel
theorem lt_14 : Str.ofString "MAX-age" = T [77, 65, 88, 45, 97, 103, 101] := by decide +kernel
theorem lt_15 : Str.ofString "no-cache" = T [110, 111, 45, 99, 97, 99, 104, 101] := by decide +kernel
theorem lt_16 : Str.ofString "x" = T [120] := by decide +kernel
theorem lt_17 : Str.ofString "No-Store" = T [78, 111, 45, 83, 116, 111, 114, 101] := by decide +kernel
theorem lt_18 : Str.ofString "max-age" = T [109, 97, 120, 45, 97, 103, 101] := by decide +kernel
theorem lt_19 : Str.ofString "a=\"b\"c" = T [97, 61, 34, 98, 34, 99] := by decide +kernel
theorem lt_20 : Str.ofString "a=(" = T [97, 61, 40] := by decide +kernel
theorem lt_21 : Str.ofString "(x)" = T [40, 120, 41] := by decide +kernel
theorem lt_22 : Str.ofString "a =5" = T [97, 32, 61, 53] := by decide +kernel
theorem lt_23 : Str.ofString "=5" = T [61, 53] := by decide +kernel
theorem lt_24 : Str.ofString "a b" = T [97, 32, 98] := by decide +kernel
theorem lt_25 : Str.ofString " " = T [32] := by decide +kernel
theorem lt_26 : Str.ofString "60" = T [54, 48] := by decide +kernel
theorem lt_27 : Str.ofString "x\"y" = T [120, 34, 121] := by decide +kernel
theorem lt_28 : Str.ofString "a, b" = T [97, 44, 32, 98] := by decide +kernel
theorem lt_29 : Str.ofString "=\"" = T [61, 34] := by decide +kernel
theorem lt_30 : Str.ofString "\\\"" = T [92, 34] := by decide +kernel
theorem lt_31 : Str.ofString "007" = T [48, 48, 55] := by decide +kernel
theorem lt_32 : Str.ofString "-1" = T [45, 49] := by decide +kernel
theorem lt_33 : Str.ofString "a" = T [97] := by decide +kernel
theorem lt_34 : Str.ofString "0" = T [48] := by decide +kernel
theorem lt_35 : Str.ofString "*/*" = T [42, 47, 42] := by decide +kernel
theorem lt_36 : Str.ofString "accept" = T [97, 99, 99, 101, 112, 116] := by decide +kernel
theorem lt_37 : Str.ofString "z" = T [122] := by decide +kernel
theorem lt_38 : Str.ofString "max-stale" = T [109, 97, 120, 45, 115, 116, 97, 108, 101] := by decide +kernel
theorem lt_39 : Str.ofString "none" = T [110, 111, 110, 101] := by decide +kernel
theorem lt_40 : Str.ofString "00000000000000000001" = T [48, 48, 48, 48, 48, 48, 48, 48, 48, 48, 48, 48, 48, 48, 48, 48, 48, 48, 48, 49] := by decide +kernel
theorem lt_41 : Str.ofString "1.5" = T [49, 46, 53] := by decide +kernel
theorem lt_42 : Str.ofString "1 " = T [49, 32] := by decide +kernel
theorem lt_43 : Str.ofString "+1" = T [43, 49] := by decide +kernel
theorem lt_44 : Str.ofString "2147483648" = T [50, 49, 52, 55, 52, 56, 51, 54, 52, 56] := by decide +kernel
theorem lt_45 : Str.ofString "2147483647" = T [50, 49, 52, 55, 52, 56, 51, 54, 52, 55] := by decide +kernel
theorem lt_46 : Str.ofString "law_ownanswer_k66_directives" = T [108, 97, 119, 95, 111, 119, 110, 97, 110, 115, 119, 101, 114, 95, 107, 54, 54, 95, 100, 105, 114, 101, 99, 116, 105, 118, 101, 115] := by decide +kernel
end ownanswer_k66_directives
namespace ownanswer_k66_directives
open PySem PySem.Spec L2 Fw
local macro_rules | `(tactic| simp only [walkA, $xs,*] $[$l:location]?) => `(tactic| simp only [ok_some, ok_none, okV_some, okV_none, ↓okV_if, ↓ok_if, ↓ok_ret, ↓ok_bnd, ↓ok_lft, ↓ok_bin, ↓ok_una, ↓ok_binL, ↓ok_unaL, ↓ok_mny, ↓ok_rdD, ↓ok_rdO, ↓ok_rdA, ↓ok_toB, ↓ok_sAnd, ↓ok_sOr, ↓ok_sNot, ↓ok_vAnd, ↓ok_vOr, ↓ok_sIf, ↓ok_chn, ↓ok_sNil, ↓ok_sCons, ↓ok_dTup, ↓ok_dLst, ↓ok_m0S, ↓ok_m1S, ↓ok_m1L, ↓ok_ixO, ↓ok_sPart, ↓ok_sSl, ↓ok_tupO, ↓ok_sItems, ↓ok_sScr, ↓ok_sEnum, ↓ok_sRng1, ↓ok_sRng2, ↓ok_seqS, ↓ok_nxt, ↓ok_brkS, ↓ok_cntS, ↓ok_retN, ↓ok_drpS, ↓ok_asg, ↓ok_asgL, ↓ok_asgG, ↓ok_augS, ↓ok_ifS, ↓ok_retD, ↓ok_retL, ↓ok_retO, ↓ok_appO, ↓ok_setO, ↓ok_extO, ↓ok_popS, ↓ok_forS, ↓ok_forL_nil, ↓ok_lcS, ↓ok_lcL_nil, ↓okV_callD, ↓okV_callV, ↓ok_callM, ↓ok_asD, ↓ok_asL, ↓ok_callS, ↓ok_runF, ↓ok_rplS, ↓ok_tupA, ↓ok_strM, ↓ok_chn3, own?, toN, toT, toNs, wipE, bakE, stp_nx, stp_ct, stp_bk, stp_rt, Fw.collect, ok_yesS, List.getElem?_cons_zero, List.getElem?_cons_succ, List.set_cons_zero, List.set_cons_succ, List.map_cons, List.map_nil, List.length_cons, List.length_nil, List.cons_append, List.nil_append, List.replicate_succ, List.replicate_zero, Nat.reduceAdd, Nat.reduceSub, Nat.reduceLeDiff, Nat.reduceLT, Nat.reduceEqDiff, Int.reduceLT, Int.reduceLE, Int.reduceNeg, Int.reducePow, Int.reduceEq, Option.isSome_some, Option.map_some, Option.map_none, true_and, and_true, if_true, if_false, ite_true, ite_false, Bool.false_eq_true, reduceIte, reduceCtorEq, gAdd_ii, gAdd_ss, gAdd_tt, gSub_ii, gMul_ii, gDiv_ii, gMod_ii, gNeg_i, gLt_ii, gGt_ii, gGe_ii, gLe_ii, eqv_ii, eqv_ss, eqv_bb, eqv_nn, eqv_ni, eqv_in, eqv_ns, eqv_sn, eqv_nb, eqv_bn, eqv_is, eqv_si, eqv_nt, eqv_tn, eqv_nl, eqv_ln, eqv_tt, eqv_ll, eqvA_nn, eqvA_cc, eqvA_nc, eqvA_cn, gEq_ii, gEq_ss, gEq_bb, gEq_nn, gEq_in, gEq_ni, gEq_sn, gEq_ns, gEq_si, gEq_is, gNe_ii, gNe_ss, gNe_bb, gNe_nn, gNot_b, gIsN_n, gIsN_i, gIsN_b, gIsN_s, gIsN_t, gIsN_l, gNotN_n, gNotN_i, gNotN_b, gNotN_s, gNotN_t, gNotN_l, gIx_l, gIx_t, gIx_s, gLen_s, gLen_l, gLen_t, gAbs_i, gInt_i, gInt_b, gInt_s, gOrd_sign, gDivmod_ii, gStr_i, gStr_s, gTuple_l, gTuple_t, gStrip_s, gLstrip_s, gSplit_s, gPartition_s, gJoin_m, gCat_ll, gSl_s, gSl_t, gSl_l, itemsOf_l, itemsOf_t, itemsOf_s, ofString_inj, cMul_r, cMul_l, ixN_lit, atI_lit, atI_m1, cast_lit, String.reduceEq, decide_true, decide_false, Int.reduceSub, Int.reduceAdd, Int.reduceMul, Int.reduceToNat, T_toList, T_len, T_app, T_inj, T_sign, T_cut, T_signs, T_strip, T_empty, gIn_T, gNin_T, gLjust_T, lt_0, lt_1, lt_2, lt_3, lt_4, lt_5, lt_6, lt_7, lt_8, lt_9, lt_10, lt_11, lt_12, lt_13, lt_14, lt_15, lt_16, lt_17, lt_18, lt_19, lt_20, lt_21, lt_22, lt_23, lt_24, lt_25, lt_26, lt_27, lt_28, lt_29, lt_30, lt_31, lt_32, lt_33, lt_34, lt_35, lt_36, lt_37, lt_38, lt_39, lt_40, lt_41, lt_42, lt_43, lt_44, lt_45, lt_46, $xs,*] $[$l:location]?)
local macro_rules | `(tactic| simp only [walkA] $[$l:location]?) => `(tactic| simp only [ok_some, ok_none, okV_some, okV_none, ↓okV_if, ↓ok_if, ↓ok_ret, ↓ok_bnd, ↓ok_lft, ↓ok_bin, ↓ok_una, ↓ok_binL, ↓ok_unaL, ↓ok_mny, ↓ok_rdD, ↓ok_rdO, ↓ok_rdA, ↓ok_toB, ↓ok_sAnd, ↓ok_sOr, ↓ok_sNot, ↓ok_vAnd, ↓ok_vOr, ↓ok_sIf, ↓ok_chn, ↓ok_sNil, ↓ok_sCons, ↓ok_dTup, ↓ok_dLst, ↓ok_m0S, ↓ok_m1S, ↓ok_m1L, ↓ok_ixO, ↓ok_sPart, ↓ok_sSl, ↓ok_tupO, ↓ok_sItems, ↓ok_sScr, ↓ok_sEnum, ↓ok_sRng1, ↓ok_sRng2, ↓ok_seqS, ↓ok_nxt, ↓ok_brkS, ↓ok_cntS, ↓ok_retN, ↓ok_drpS, ↓ok_asg, ↓ok_asgL, ↓ok_asgG, ↓ok_augS, ↓ok_ifS, ↓ok_retD, ↓ok_retL, ↓ok_retO, ↓ok_appO, ↓ok_setO, ↓ok_extO, ↓ok_popS, ↓ok_forS, ↓ok_forL_nil, ↓ok_lcS, ↓ok_lcL_nil, ↓okV_callD, ↓okV_callV, ↓ok_callM, ↓ok_asD, ↓ok_asL, ↓ok_callS, ↓ok_runF, ↓ok_rplS, ↓ok_tupA, ↓ok_strM, ↓ok_chn3, own?, toN, toT, toNs, wipE, bakE, stp_nx, stp_ct, stp_bk, stp_rt, Fw.collect, ok_yesS, List.getElem?_cons_zero, List.getElem?_cons_succ, List.set_cons_zero, List.set_cons_succ, List.map_cons, List.map_nil, List.length_cons, List.length_nil, List.cons_append, List.nil_append, List.replicate_succ, List.replicate_zero, Nat.reduceAdd, Nat.reduceSub, Nat.reduceLeDiff, Nat.reduceLT, Nat.reduceEqDiff, Int.reduceLT, Int.reduceLE, Int.reduceNeg, Int.reducePow, Int.reduceEq, Option.isSome_some, Option.map_some, Option.map_none, true_and, and_true, if_true, if_false, ite_true, ite_false, Bool.false_eq_true, reduceIte, reduceCtorEq, gAdd_ii, gAdd_ss, gAdd_tt, gSub_ii, gMul_ii, gDiv_ii, gMod_ii, gNeg_i, gLt_ii, gGt_ii, gGe_ii, gLe_ii, eqv_ii, eqv_ss, eqv_bb, eqv_nn, eqv_ni, eqv_in, eqv_ns, eqv_sn, eqv_nb, eqv_bn, eqv_is, eqv_si, eqv_nt, eqv_tn, eqv_nl, eqv_ln, eqv_tt, eqv_ll, eqvA_nn, eqvA_cc, eqvA_nc, eqvA_cn, gEq_ii, gEq_ss, gEq_bb, gEq_nn, gEq_in, gEq_ni, gEq_sn, gEq_ns, gEq_si, gEq_is, gNe_ii, gNe_ss, gNe_bb, gNe_nn, gNot_b, gIsN_n, gIsN_i, gIsN_b, gIsN_s, gIsN_t, gIsN_l, gNotN_n, gNotN_i, gNotN_b, gNotN_s, gNotN_t, gNotN_l, gIx_l, gIx_t, gIx_s, gLen_s, gLen_l, gLen_t, gAbs_i, gInt_i, gInt_b, gInt_s, gOrd_sign, gDivmod_ii, gStr_i, gStr_s, gTuple_l, gTuple_t, gStrip_s, gLstrip_s, gSplit_s, gPartition_s, gJoin_m, gCat_ll, gSl_s, gSl_t, gSl_l, itemsOf_l, itemsOf_t, itemsOf_s, ofString_inj, cMul_r, cMul_l, ixN_lit, atI_lit, atI_m1, cast_lit, String.reduceEq, decide_true, decide_false, Int.reduceSub, Int.reduceAdd, Int.reduceMul, Int.reduceToNat, T_toList, T_len, T_app, T_inj, T_sign, T_cut, T_signs, T_strip, T_empty, gIn_T, gNin_T, gLjust_T, lt_0, lt_1, lt_2, lt_3, lt_4, lt_5, lt_6, lt_7, lt_8, lt_9, lt_10, lt_11, lt_12, lt_13, lt_14, lt_15, lt_16, lt_17, lt_18, lt_19, lt_20, lt_21, lt_22, lt_23, lt_24, lt_25, lt_26, lt_27, lt_28, lt_29, lt_30, lt_31, lt_32, lt_33, lt_34, lt_35, lt_36, lt_37, lt_38, lt_39, lt_40, lt_41, lt_42, lt_43, lt_44, lt_45, lt_46] $[$l:location]?)

open ownanswer_k51_lists_and_joined_values (ts pr Lo LoP valsOfV joinOfV vals_okV join_okV CU wW split_ok cutF cutF_len strOk_T)
theorem tk : S__law_take = S_take := rfl
theorem dk : S__law_draw = S_draw := rfl
theorem sk : S_split_list = ownanswer_k51_lists_and_joined_values.S_split_list := rfl
theorem vk : S_values = ownanswer_k51_lists_and_joined_values.S_values := rfl
theorem jk : S_join_values = ownanswer_k51_lists_and_joined_values.S_join_values := rfl
theorem dgk : S_is_digits = ownanswer_k53_dates_written.S_is_digits := rfl
abbrev Fd := List Nat × List Nat
abbrev Du := List Nat × Option (List Nat)
def ovD : Option (List Nat) → PyData
  | none => .none
  | some v => .str (T v)
def duD (d : Du) : PyData := .tuple [.str (T d.1), ovD d.2]
theorem at_T {ls : List (List Nat)} {k : Int} (h0 : 0 ≤ k) (h1 : k < ls.length) : ∃ x, x ∈ ls ∧ atI (ts ls) k = some (.str (T x)) := by
  obtain ⟨n, rfl⟩ := Int.eq_ofNat_of_zero_le h0
  have hn : n < ls.length := by omega
  exact ⟨ls[n], List.getElem_mem hn, by rw [Fw.atI_nat, List.getElem?_map, List.getElem?_eq_getElem hn]; rfl⟩
def low (l : List Nat) : List Nat := l.map fun c => if 65 ≤ c ∧ c ≤ 90 then c + 32 else c
def okT (r : Option PyData) (l : List Nat) : Bool := match r with
  | some (.str x) => decide (x.cps.toList = l)
  | _ => false
theorem okT_t {r : Option PyData} {l : List Nat} (h : okT r l = true) : r = some (PyData.str (T l)) := by
  unfold okT at h
  split at h
  · rename_i x
    rw [T_of x, of_decide_eq_true h]
  · cases h
def PN : List (List Nat) := [[109, 97, 120, 45, 97, 103, 101], [78, 111, 45, 83, 116, 111, 114, 101], [120], [110, 111, 45, 99, 97, 99, 104, 101], [77, 65, 88, 45, 97, 103, 101], [109, 105, 110, 45, 102, 114, 101, 115, 104], [77, 97, 120, 45, 83, 116, 97, 108, 101], [111, 110, 108, 121, 45, 105, 102, 45, 99, 97, 99, 104, 101, 100], [109, 117, 115, 116, 45, 114, 101, 118, 97, 108, 105, 100, 97, 116, 101]]
def PB : List (List Nat) := [[], [32], [97, 32, 98], [61, 53], [97, 32, 61, 53], [40, 120, 41], [97, 61, 40], [97, 61, 34, 98, 34, 99]]
def PX : List (List Nat) := [[97, 44, 32, 98], [120, 34, 121], [], [54, 48]]
def PV : List (List Nat) := [[54, 48], [48], [97], [45, 49], [48, 48, 55]]
def rpl (l : List Nat) : List Nat := (Txt.replace (T l) (T [34]) (T [92, 34])).cps.toList
def PT : List (List Nat × List Du) := (PB.map fun t => (t, [])) ++ (PN.map fun n => (n, [(low n, none)])) ++ (PN.flatMap fun n => PX.map fun x => (n ++ [61, 34] ++ rpl x ++ [34], [(low n, some x)])) ++ PN.flatMap fun n => PV.map fun x => (n ++ [61] ++ x, [(low n, some x)])
theorem pn_low : ∀ n ∈ PN, gLower (T n) = some (.str (T (low n))) ∧ n.length ≤ 20 := by
  intro n hn
  have := List.all_eq_true.mp (by decide +kernel : (PN.all fun n => okT (gLower (T n)) (low n) && decide (n.length ≤ 20)) = true) n hn
  simp only [Bool.and_eq_true, decide_eq_true_eq] at this
  exact ⟨okT_t this.1, this.2⟩
theorem px_len : ∀ x ∈ PX, x.length ≤ 4 ∧ (rpl x).length ≤ 5 := by decide +kernel
theorem pv_len : ∀ x ∈ PV, x.length ≤ 4 := by decide +kernel
theorem pb_len : ∀ x ∈ PB, x.length ≤ 10 := by decide +kernel
def dusD (ds : List Du) : PyData := match ds with
  | [d] => duD d
  | _ => .none
theorem part_ok {d : List PyData} (hd : DrawOk d) {Q : Sl → En → Prop} (q : ∀ d' t ds, DrawOk d' → (t, ds) ∈ PT → Q (.dat (.tuple [.str (T t), dusD ds])) [.own d']) : Ok (S__law_part [.own d]) Q := by
  have hs := sizeLine_eq
  unfold S__law_part
  rw [ok_runF]
  refine ⟨rfl, ?_⟩
  simp only [walkA, Y__law_part, T__law_part_8, tk]
  refine ⟨by omega, take_ok hd (by omega) (by omega) fun r d1 r0 r1 h1 => ?_⟩
  obtain ⟨n, hn, en⟩ := at_T (ls := PN) r0 r1
  obtain ⟨hlow, hnl⟩ := pn_low n hn
  have hnL : (low n).length = n.length := by unfold low; rw [List.length_map]
  simp only [PN, ts, List.map_cons, List.map_nil] at en
  simp only [walkA, en, T__law_part_7, tk]
  refine take_ok h1 (by omega) (by omega) fun c d2 c0 c1 h2 => ?_
  by_cases e0 : c = 0
  · simp only [walkA, T__law_part_6, e0, tk]
    refine ⟨by omega, take_ok h2 (by omega) (by omega) fun r d3 r0 r1 h3 => ?_⟩
    obtain ⟨t, ht, et⟩ := at_T (ls := PB) r0 r1
    simp only [PB, ts, List.map_cons, List.map_nil] at et
    simp only [walkA, et]
    refine ⟨by omega, ?_⟩
    exact q d3 t [] h3 (List.mem_append_left _ (List.mem_append_left _ (List.mem_append_left _ (List.mem_map.mpr ⟨t, ht, rfl⟩))))
  · by_cases e3 : c < 3
    · simp only [walkA, T__law_part_6, e0, T__law_part_5, e3, hlow]
      refine ⟨by omega, by omega, ?_⟩
      exact q d2 n [(low n, none)] h2 (List.mem_append_left _ (List.mem_append_left _ (List.mem_append_right _ (List.mem_map.mpr ⟨n, hn, rfl⟩))))
    · by_cases e4 : c = 3
      · have : ¬ (3 : Int) < 3 := by omega
        subst e4
        simp only [walkA, T__law_part_6, T__law_part_5, T__law_part_4, tk]
        refine ⟨by omega, take_ok h2 (by omega) (by omega) fun r d3 r0 r1 h3 => ?_⟩
        obtain ⟨x, hx, ex⟩ := at_T (ls := PX) r0 r1
        obtain ⟨hx1, hx2⟩ := px_len x hx
        have er : Txt.replace (T x) (T [34]) (T [92, 34]) = T (rpl x) := T_of _
        simp only [PX, ts, List.map_cons, List.map_nil] at ex
        simp only [walkA, ex, T__law_part_1, hlow, er]
        refine ⟨by omega, by omega, ?_, ?_, by omega, by omega, q d3 _ [(low n, some x)] h3 (List.mem_append_left _ (List.mem_append_right _ (List.mem_flatMap.mpr ⟨n, hn, List.mem_map.mpr ⟨x, hx, rfl⟩⟩)))⟩
        · simp only [List.length_append, List.length_cons, List.length_nil]; omega
        · simp only [List.length_append, List.length_cons, List.length_nil]; omega
      · simp only [walkA, T__law_part_6, e0, T__law_part_5, e3, T__law_part_4, e4, T__law_part_3, tk]
        refine ⟨by omega, take_ok h2 (by omega) (by omega) fun r d3 r0 r1 h3 => ?_⟩
        obtain ⟨x, hx, ex⟩ := at_T (ls := PV) r0 r1
        have hx1 := pv_len x hx
        simp only [PV, ts, List.map_cons, List.map_nil] at ex
        simp only [walkA, ex, T__law_part_2, hlow]
        refine ⟨by omega, ?_, by omega, by omega, q d3 _ [(low n, some x)] h3 (List.mem_append_right _ (List.mem_flatMap.mpr ⟨n, hn, List.mem_map.mpr ⟨x, hx, rfl⟩⟩))⟩
        simp only [List.length_append, List.length_cons, List.length_nil]; omega
end ownanswer_k66_directives
namespace ownanswer_k66_directives
open PySem PySem.Spec L2 Fw
local macro_rules | `(tactic| simp only [walkA, $xs,*] $[$l:location]?) => `(tactic| simp only [ok_some, ok_none, okV_some, okV_none, ↓okV_if, ↓ok_if, ↓ok_ret, ↓ok_bnd, ↓ok_lft, ↓ok_bin, ↓ok_una, ↓ok_binL, ↓ok_unaL, ↓ok_mny, ↓ok_rdD, ↓ok_rdO, ↓ok_rdA, ↓ok_toB, ↓ok_sAnd, ↓ok_sOr, ↓ok_sNot, ↓ok_vAnd, ↓ok_vOr, ↓ok_sIf, ↓ok_chn, ↓ok_sNil, ↓ok_sCons, ↓ok_dTup, ↓ok_dLst, ↓ok_m0S, ↓ok_m1S, ↓ok_m1L, ↓ok_ixO, ↓ok_sPart, ↓ok_sSl, ↓ok_tupO, ↓ok_sItems, ↓ok_sScr, ↓ok_sEnum, ↓ok_sRng1, ↓ok_sRng2, ↓ok_seqS, ↓ok_nxt, ↓ok_brkS, ↓ok_cntS, ↓ok_retN, ↓ok_drpS, ↓ok_asg, ↓ok_asgL, ↓ok_asgG, ↓ok_augS, ↓ok_ifS, ↓ok_retD, ↓ok_retL, ↓ok_retO, ↓ok_appO, ↓ok_setO, ↓ok_extO, ↓ok_popS, ↓ok_forS, ↓ok_forL_nil, ↓ok_lcS, ↓ok_lcL_nil, ↓okV_callD, ↓okV_callV, ↓ok_callM, ↓ok_asD, ↓ok_asL, ↓ok_callS, ↓ok_runF, ↓ok_rplS, ↓ok_tupA, ↓ok_strM, ↓ok_chn3, own?, toN, toT, toNs, wipE, bakE, stp_nx, stp_ct, stp_bk, stp_rt, Fw.collect, ok_yesS, List.getElem?_cons_zero, List.getElem?_cons_succ, List.set_cons_zero, List.set_cons_succ, List.map_cons, List.map_nil, List.length_cons, List.length_nil, List.cons_append, List.nil_append, List.replicate_succ, List.replicate_zero, Nat.reduceAdd, Nat.reduceSub, Nat.reduceLeDiff, Nat.reduceLT, Nat.reduceEqDiff, Int.reduceLT, Int.reduceLE, Int.reduceNeg, Int.reducePow, Int.reduceEq, Option.isSome_some, Option.map_some, Option.map_none, true_and, and_true, if_true, if_false, ite_true, ite_false, Bool.false_eq_true, reduceIte, reduceCtorEq, gAdd_ii, gAdd_ss, gAdd_tt, gSub_ii, gMul_ii, gDiv_ii, gMod_ii, gNeg_i, gLt_ii, gGt_ii, gGe_ii, gLe_ii, eqv_ii, eqv_ss, eqv_bb, eqv_nn, eqv_ni, eqv_in, eqv_ns, eqv_sn, eqv_nb, eqv_bn, eqv_is, eqv_si, eqv_nt, eqv_tn, eqv_nl, eqv_ln, eqv_tt, eqv_ll, eqvA_nn, eqvA_cc, eqvA_nc, eqvA_cn, gEq_ii, gEq_ss, gEq_bb, gEq_nn, gEq_in, gEq_ni, gEq_sn, gEq_ns, gEq_si, gEq_is, gNe_ii, gNe_ss, gNe_bb, gNe_nn, gNot_b, gIsN_n, gIsN_i, gIsN_b, gIsN_s, gIsN_t, gIsN_l, gNotN_n, gNotN_i, gNotN_b, gNotN_s, gNotN_t, gNotN_l, gIx_l, gIx_t, gIx_s, gLen_s, gLen_l, gLen_t, gAbs_i, gInt_i, gInt_b, gInt_s, gOrd_sign, gDivmod_ii, gStr_i, gStr_s, gTuple_l, gTuple_t, gStrip_s, gLstrip_s, gSplit_s, gPartition_s, gJoin_m, gCat_ll, gSl_s, gSl_t, gSl_l, itemsOf_l, itemsOf_t, itemsOf_s, ofString_inj, cMul_r, cMul_l, ixN_lit, atI_lit, atI_m1, cast_lit, String.reduceEq, decide_true, decide_false, Int.reduceSub, Int.reduceAdd, Int.reduceMul, Int.reduceToNat, T_toList, T_len, T_app, T_inj, T_sign, T_cut, T_signs, T_strip, T_empty, gIn_T, gNin_T, gLjust_T, lt_0, lt_1, lt_2, lt_3, lt_4, lt_5, lt_6, lt_7, lt_8, lt_9, lt_10, lt_11, lt_12, lt_13, lt_14, lt_15, lt_16, lt_17, lt_18, lt_19, lt_20, lt_21, lt_22, lt_23, lt_24, lt_25, lt_26, lt_27, lt_28, lt_29, lt_30, lt_31, lt_32, lt_33, lt_34, lt_35, lt_36, lt_37, lt_38, lt_39, lt_40, lt_41, lt_42, lt_43, lt_44, lt_45, lt_46, $xs,*] $[$l:location]?)
local macro_rules | `(tactic| simp only [walkA] $[$l:location]?) => `(tactic| simp only [ok_some, ok_none, okV_some, okV_none, ↓okV_if, ↓ok_if, ↓ok_ret, ↓ok_bnd, ↓ok_lft, ↓ok_bin, ↓ok_una, ↓ok_binL, ↓ok_unaL, ↓ok_mny, ↓ok_rdD, ↓ok_rdO, ↓ok_rdA, ↓ok_toB, ↓ok_sAnd, ↓ok_sOr, ↓ok_sNot, ↓ok_vAnd, ↓ok_vOr, ↓ok_sIf, ↓ok_chn, ↓ok_sNil, ↓ok_sCons, ↓ok_dTup, ↓ok_dLst, ↓ok_m0S, ↓ok_m1S, ↓ok_m1L, ↓ok_ixO, ↓ok_sPart, ↓ok_sSl, ↓ok_tupO, ↓ok_sItems, ↓ok_sScr, ↓ok_sEnum, ↓ok_sRng1, ↓ok_sRng2, ↓ok_seqS, ↓ok_nxt, ↓ok_brkS, ↓ok_cntS, ↓ok_retN, ↓ok_drpS, ↓ok_asg, ↓ok_asgL, ↓ok_asgG, ↓ok_augS, ↓ok_ifS, ↓ok_retD, ↓ok_retL, ↓ok_retO, ↓ok_appO, ↓ok_setO, ↓ok_extO, ↓ok_popS, ↓ok_forS, ↓ok_forL_nil, ↓ok_lcS, ↓ok_lcL_nil, ↓okV_callD, ↓okV_callV, ↓ok_callM, ↓ok_asD, ↓ok_asL, ↓ok_callS, ↓ok_runF, ↓ok_rplS, ↓ok_tupA, ↓ok_strM, ↓ok_chn3, own?, toN, toT, toNs, wipE, bakE, stp_nx, stp_ct, stp_bk, stp_rt, Fw.collect, ok_yesS, List.getElem?_cons_zero, List.getElem?_cons_succ, List.set_cons_zero, List.set_cons_succ, List.map_cons, List.map_nil, List.length_cons, List.length_nil, List.cons_append, List.nil_append, List.replicate_succ, List.replicate_zero, Nat.reduceAdd, Nat.reduceSub, Nat.reduceLeDiff, Nat.reduceLT, Nat.reduceEqDiff, Int.reduceLT, Int.reduceLE, Int.reduceNeg, Int.reducePow, Int.reduceEq, Option.isSome_some, Option.map_some, Option.map_none, true_and, and_true, if_true, if_false, ite_true, ite_false, Bool.false_eq_true, reduceIte, reduceCtorEq, gAdd_ii, gAdd_ss, gAdd_tt, gSub_ii, gMul_ii, gDiv_ii, gMod_ii, gNeg_i, gLt_ii, gGt_ii, gGe_ii, gLe_ii, eqv_ii, eqv_ss, eqv_bb, eqv_nn, eqv_ni, eqv_in, eqv_ns, eqv_sn, eqv_nb, eqv_bn, eqv_is, eqv_si, eqv_nt, eqv_tn, eqv_nl, eqv_ln, eqv_tt, eqv_ll, eqvA_nn, eqvA_cc, eqvA_nc, eqvA_cn, gEq_ii, gEq_ss, gEq_bb, gEq_nn, gEq_in, gEq_ni, gEq_sn, gEq_ns, gEq_si, gEq_is, gNe_ii, gNe_ss, gNe_bb, gNe_nn, gNot_b, gIsN_n, gIsN_i, gIsN_b, gIsN_s, gIsN_t, gIsN_l, gNotN_n, gNotN_i, gNotN_b, gNotN_s, gNotN_t, gNotN_l, gIx_l, gIx_t, gIx_s, gLen_s, gLen_l, gLen_t, gAbs_i, gInt_i, gInt_b, gInt_s, gOrd_sign, gDivmod_ii, gStr_i, gStr_s, gTuple_l, gTuple_t, gStrip_s, gLstrip_s, gSplit_s, gPartition_s, gJoin_m, gCat_ll, gSl_s, gSl_t, gSl_l, itemsOf_l, itemsOf_t, itemsOf_s, ofString_inj, cMul_r, cMul_l, ixN_lit, atI_lit, atI_m1, cast_lit, String.reduceEq, decide_true, decide_false, Int.reduceSub, Int.reduceAdd, Int.reduceMul, Int.reduceToNat, T_toList, T_len, T_app, T_inj, T_sign, T_cut, T_signs, T_strip, T_empty, gIn_T, gNin_T, gLjust_T, lt_0, lt_1, lt_2, lt_3, lt_4, lt_5, lt_6, lt_7, lt_8, lt_9, lt_10, lt_11, lt_12, lt_13, lt_14, lt_15, lt_16, lt_17, lt_18, lt_19, lt_20, lt_21, lt_22, lt_23, lt_24, lt_25, lt_26, lt_27, lt_28, lt_29, lt_30, lt_31, lt_32, lt_33, lt_34, lt_35, lt_36, lt_37, lt_38, lt_39, lt_40, lt_41, lt_42, lt_43, lt_44, lt_45, lt_46] $[$l:location]?)

open ownanswer_k51_lists_and_joined_values (ts pr Lo LoP valsOfV joinOfV vals_okV join_okV CU wW split_ok cutF cutF_len strOk_T)
def dr (p : List Nat) : PyData := match S__read_directive [.dat (.str (T p))] with
  | some (.dat d, _) => d
  | _ => .none
def drOk (p : List Nat) : Bool := match S__read_directive [.dat (.str (T p))] with
  | some (.dat _, _) => true
  | _ => false
theorem dr_ok {p : List Nat} (h : drOk p = true) {Q : Sl → En → Prop} (q : ∀ E, Q (.dat (dr p)) E) : Ok (S__read_directive [.dat (.str (T p))]) Q := by
  unfold drOk at h
  unfold dr at q
  split at h
  · rename_i d E e
    rw [e] at q
    rw [e]
    exact ⟨_, _, rfl, q _⟩
  · cases h
def isN : PyData → Bool
  | .none => true
  | _ => false
theorem gNotN_isN (d : PyData) : gNotN d = some (.bool (!isN d)) := by cases d <;> rfl
def pcs (ps : List (List Nat)) : List (List Nat) := (ps.map (trimL wW)).filter fun p => decide (p ≠ [])
def DP (ps : List (List Nat)) : List PyData := ((pcs ps).map dr).filter fun d => !isN d
theorem DP_app (a b : List (List Nat)) : DP (a ++ b) = DP a ++ DP b := by
  unfold DP pcs
  rw [List.map_append, List.filter_append, List.map_append, List.filter_append]
def eqV (d : PyData) (o : Option (List Nat)) : Bool := match d, o with
  | .none, none => true
  | .str s, some v => decide (s.cps.toList = v)
  | _, _ => false
def eqD (d : PyData) (u : Du) : Bool := match d with
  | .tuple [.str n, v] => decide (n.cps.toList = u.1) && eqV v u.2
  | _ => false
def eqDs : List PyData → List Du → Bool
  | [], [] => true
  | d :: ds, u :: us => eqD d u && eqDs ds us
  | _, _ => false
theorem eqV_t {d : PyData} {o : Option (List Nat)} (h : eqV d o = true) : d = ovD o := by
  unfold eqV at h
  split at h
  · rfl
  · rename_i s v
    rw [T_of s, of_decide_eq_true h]
    rfl
  · cases h
theorem eqD_t {d : PyData} {u : Du} (h : eqD d u = true) : d = duD u := by
  unfold eqD at h
  split at h
  · rename_i n v
    rw [Bool.and_eq_true, decide_eq_true_eq] at h
    rw [eqV_t h.2]
    show PyData.tuple [.str n, ovD u.2] = .tuple [.str (T u.1), ovD u.2]
    rw [T_of n, h.1]
  · cases h
theorem eqDs_t : ∀ {ds : List PyData} {us : List Du}, eqDs ds us = true → ds = us.map duD
  | [], [], _ => rfl
  | [], u :: us, h => by simp [eqDs] at h
  | d :: ds, [], h => by simp [eqDs] at h
  | d :: ds, u :: us, h => by
    rw [eqDs, Bool.and_eq_true] at h
    rw [eqD_t h.1, eqDs_t h.2, List.map_cons]
def rn : List Nat → Bool → Bool → List Nat → List (List Nat) × Bool × Bool × List Nat
  | [], q, t, cur => ([], q, t, cur)
  | c :: r, q, t, cur =>
    if t then rn r q false (cur ++ [c])
    else if c = 34 then rn r (!q) false (cur ++ [c])
    else if c = 92 then rn r q q (cur ++ [c])
    else if c = 44 ∧ q = false then (cur :: (rn r q false []).1, (rn r q false []).2)
    else rn r q false (cur ++ [c])
theorem cutF_app (b : List Nat) : ∀ (a : List Nat) (q t : Bool) (cur : List Nat), cutF 44 (a ++ b) q t cur = ((rn a q t cur).1 ++ (cutF 44 b (rn a q t cur).2.1 (rn a q t cur).2.2.1 (rn a q t cur).2.2.2).1, (cutF 44 b (rn a q t cur).2.1 (rn a q t cur).2.2.1 (rn a q t cur).2.2.2).2)
  | [], q, t, cur => by simp [rn]
  | c :: r, q, t, cur => by
    rw [List.cons_append, cutF, rn]
    split
    · exact cutF_app b r _ _ _
    · split
      · exact cutF_app b r _ _ _
      · split
        · exact cutF_app b r _ _ _
        · split
          · rw [cutF_app b r q false []]
            rfl
          · exact cutF_app b r _ _ _
theorem rn_app (b : List Nat) : ∀ (a : List Nat) (q t : Bool) (cur : List Nat), rn (a ++ b) q t cur = ((rn a q t cur).1 ++ (rn b (rn a q t cur).2.1 (rn a q t cur).2.2.1 (rn a q t cur).2.2.2).1, (rn b (rn a q t cur).2.1 (rn a q t cur).2.2.1 (rn a q t cur).2.2.2).2)
  | [], q, t, cur => by simp [rn]
  | c :: r, q, t, cur => by
    rw [List.cons_append, rn, rn]
    split
    · exact rn_app b r _ _ _
    · split
      · exact rn_app b r _ _ _
      · split
        · exact rn_app b r _ _ _
        · split
          · rw [rn_app b r q false []]
            rfl
          · exact rn_app b r _ _ _
def PRE : List (List Nat) := [[], [32], [44]]
def SUF : List (List Nat) := [[44], [44, 32]]
def UN : List (List Nat × List Du) := PT.flatMap fun p => PRE.flatMap fun a => SUF.map fun b => (a ++ p.1 ++ b, p.2)
def CB : List (List Nat) := [[], [32]]
def chkU (u : List Nat × List Du) : Bool := CB.all fun cur => match rn u.1 false false cur with
  | (ps, q, t, c2) => !q && (!t && (decide (c2 ∈ CB) && (eqDs (DP ps) u.2 && (pcs ps).all drOk)))
theorem chkU_1 : ((UN.take 200).all chkU) = true := by decide +kernel
theorem chkU_2 : (((UN.drop 200).take 200).all chkU) = true := by decide +kernel
theorem chkU_3 : (((UN.drop 200).drop 200).all chkU) = true := by decide +kernel
theorem chkU_all : UN.all chkU = true := by
  have e : UN = UN.take 200 ++ ((UN.drop 200).take 200 ++ (UN.drop 200).drop 200) := by rw [List.take_append_drop, List.take_append_drop]
  rw [e, List.all_append, List.all_append, chkU_1, chkU_2, chkU_3]
  rfl
end ownanswer_k66_directives
namespace ownanswer_k66_directives
open PySem PySem.Spec L2 Fw
local macro_rules | `(tactic| simp only [walkA, $xs,*] $[$l:location]?) => `(tactic| simp only [ok_some, ok_none, okV_some, okV_none, ↓okV_if, ↓ok_if, ↓ok_ret, ↓ok_bnd, ↓ok_lft, ↓ok_bin, ↓ok_una, ↓ok_binL, ↓ok_unaL, ↓ok_mny, ↓ok_rdD, ↓ok_rdO, ↓ok_rdA, ↓ok_toB, ↓ok_sAnd, ↓ok_sOr, ↓ok_sNot, ↓ok_vAnd, ↓ok_vOr, ↓ok_sIf, ↓ok_chn, ↓ok_sNil, ↓ok_sCons, ↓ok_dTup, ↓ok_dLst, ↓ok_m0S, ↓ok_m1S, ↓ok_m1L, ↓ok_ixO, ↓ok_sPart, ↓ok_sSl, ↓ok_tupO, ↓ok_sItems, ↓ok_sScr, ↓ok_sEnum, ↓ok_sRng1, ↓ok_sRng2, ↓ok_seqS, ↓ok_nxt, ↓ok_brkS, ↓ok_cntS, ↓ok_retN, ↓ok_drpS, ↓ok_asg, ↓ok_asgL, ↓ok_asgG, ↓ok_augS, ↓ok_ifS, ↓ok_retD, ↓ok_retL, ↓ok_retO, ↓ok_appO, ↓ok_setO, ↓ok_extO, ↓ok_popS, ↓ok_forS, ↓ok_forL_nil, ↓ok_lcS, ↓ok_lcL_nil, ↓okV_callD, ↓okV_callV, ↓ok_callM, ↓ok_asD, ↓ok_asL, ↓ok_callS, ↓ok_runF, ↓ok_rplS, ↓ok_tupA, ↓ok_strM, ↓ok_chn3, own?, toN, toT, toNs, wipE, bakE, stp_nx, stp_ct, stp_bk, stp_rt, Fw.collect, ok_yesS, List.getElem?_cons_zero, List.getElem?_cons_succ, List.set_cons_zero, List.set_cons_succ, List.map_cons, List.map_nil, List.length_cons, List.length_nil, List.cons_append, List.nil_append, List.replicate_succ, List.replicate_zero, Nat.reduceAdd, Nat.reduceSub, Nat.reduceLeDiff, Nat.reduceLT, Nat.reduceEqDiff, Int.reduceLT, Int.reduceLE, Int.reduceNeg, Int.reducePow, Int.reduceEq, Option.isSome_some, Option.map_some, Option.map_none, true_and, and_true, if_true, if_false, ite_true, ite_false, Bool.false_eq_true, reduceIte, reduceCtorEq, gAdd_ii, gAdd_ss, gAdd_tt, gSub_ii, gMul_ii, gDiv_ii, gMod_ii, gNeg_i, gLt_ii, gGt_ii, gGe_ii, gLe_ii, eqv_ii, eqv_ss, eqv_bb, eqv_nn, eqv_ni, eqv_in, eqv_ns, eqv_sn, eqv_nb, eqv_bn, eqv_is, eqv_si, eqv_nt, eqv_tn, eqv_nl, eqv_ln, eqv_tt, eqv_ll, eqvA_nn, eqvA_cc, eqvA_nc, eqvA_cn, gEq_ii, gEq_ss, gEq_bb, gEq_nn, gEq_in, gEq_ni, gEq_sn, gEq_ns, gEq_si, gEq_is, gNe_ii, gNe_ss, gNe_bb, gNe_nn, gNot_b, gIsN_n, gIsN_i, gIsN_b, gIsN_s, gIsN_t, gIsN_l, gNotN_n, gNotN_i, gNotN_b, gNotN_s, gNotN_t, gNotN_l, gIx_l, gIx_t, gIx_s, gLen_s, gLen_l, gLen_t, gAbs_i, gInt_i, gInt_b, gInt_s, gOrd_sign, gDivmod_ii, gStr_i, gStr_s, gTuple_l, gTuple_t, gStrip_s, gLstrip_s, gSplit_s, gPartition_s, gJoin_m, gCat_ll, gSl_s, gSl_t, gSl_l, itemsOf_l, itemsOf_t, itemsOf_s, ofString_inj, cMul_r, cMul_l, ixN_lit, atI_lit, atI_m1, cast_lit, String.reduceEq, decide_true, decide_false, Int.reduceSub, Int.reduceAdd, Int.reduceMul, Int.reduceToNat, T_toList, T_len, T_app, T_inj, T_sign, T_cut, T_signs, T_strip, T_empty, gIn_T, gNin_T, gLjust_T, lt_0, lt_1, lt_2, lt_3, lt_4, lt_5, lt_6, lt_7, lt_8, lt_9, lt_10, lt_11, lt_12, lt_13, lt_14, lt_15, lt_16, lt_17, lt_18, lt_19, lt_20, lt_21, lt_22, lt_23, lt_24, lt_25, lt_26, lt_27, lt_28, lt_29, lt_30, lt_31, lt_32, lt_33, lt_34, lt_35, lt_36, lt_37, lt_38, lt_39, lt_40, lt_41, lt_42, lt_43, lt_44, lt_45, lt_46, $xs,*] $[$l:location]?)
local macro_rules | `(tactic| simp only [walkA] $[$l:location]?) => `(tactic| simp only [ok_some, ok_none, okV_some, okV_none, ↓okV_if, ↓ok_if, ↓ok_ret, ↓ok_bnd, ↓ok_lft, ↓ok_bin, ↓ok_una, ↓ok_binL, ↓ok_unaL, ↓ok_mny, ↓ok_rdD, ↓ok_rdO, ↓ok_rdA, ↓ok_toB, ↓ok_sAnd, ↓ok_sOr, ↓ok_sNot, ↓ok_vAnd, ↓ok_vOr, ↓ok_sIf, ↓ok_chn, ↓ok_sNil, ↓ok_sCons, ↓ok_dTup, ↓ok_dLst, ↓ok_m0S, ↓ok_m1S, ↓ok_m1L, ↓ok_ixO, ↓ok_sPart, ↓ok_sSl, ↓ok_tupO, ↓ok_sItems, ↓ok_sScr, ↓ok_sEnum, ↓ok_sRng1, ↓ok_sRng2, ↓ok_seqS, ↓ok_nxt, ↓ok_brkS, ↓ok_cntS, ↓ok_retN, ↓ok_drpS, ↓ok_asg, ↓ok_asgL, ↓ok_asgG, ↓ok_augS, ↓ok_ifS, ↓ok_retD, ↓ok_retL, ↓ok_retO, ↓ok_appO, ↓ok_setO, ↓ok_extO, ↓ok_popS, ↓ok_forS, ↓ok_forL_nil, ↓ok_lcS, ↓ok_lcL_nil, ↓okV_callD, ↓okV_callV, ↓ok_callM, ↓ok_asD, ↓ok_asL, ↓ok_callS, ↓ok_runF, ↓ok_rplS, ↓ok_tupA, ↓ok_strM, ↓ok_chn3, own?, toN, toT, toNs, wipE, bakE, stp_nx, stp_ct, stp_bk, stp_rt, Fw.collect, ok_yesS, List.getElem?_cons_zero, List.getElem?_cons_succ, List.set_cons_zero, List.set_cons_succ, List.map_cons, List.map_nil, List.length_cons, List.length_nil, List.cons_append, List.nil_append, List.replicate_succ, List.replicate_zero, Nat.reduceAdd, Nat.reduceSub, Nat.reduceLeDiff, Nat.reduceLT, Nat.reduceEqDiff, Int.reduceLT, Int.reduceLE, Int.reduceNeg, Int.reducePow, Int.reduceEq, Option.isSome_some, Option.map_some, Option.map_none, true_and, and_true, if_true, if_false, ite_true, ite_false, Bool.false_eq_true, reduceIte, reduceCtorEq, gAdd_ii, gAdd_ss, gAdd_tt, gSub_ii, gMul_ii, gDiv_ii, gMod_ii, gNeg_i, gLt_ii, gGt_ii, gGe_ii, gLe_ii, eqv_ii, eqv_ss, eqv_bb, eqv_nn, eqv_ni, eqv_in, eqv_ns, eqv_sn, eqv_nb, eqv_bn, eqv_is, eqv_si, eqv_nt, eqv_tn, eqv_nl, eqv_ln, eqv_tt, eqv_ll, eqvA_nn, eqvA_cc, eqvA_nc, eqvA_cn, gEq_ii, gEq_ss, gEq_bb, gEq_nn, gEq_in, gEq_ni, gEq_sn, gEq_ns, gEq_si, gEq_is, gNe_ii, gNe_ss, gNe_bb, gNe_nn, gNot_b, gIsN_n, gIsN_i, gIsN_b, gIsN_s, gIsN_t, gIsN_l, gNotN_n, gNotN_i, gNotN_b, gNotN_s, gNotN_t, gNotN_l, gIx_l, gIx_t, gIx_s, gLen_s, gLen_l, gLen_t, gAbs_i, gInt_i, gInt_b, gInt_s, gOrd_sign, gDivmod_ii, gStr_i, gStr_s, gTuple_l, gTuple_t, gStrip_s, gLstrip_s, gSplit_s, gPartition_s, gJoin_m, gCat_ll, gSl_s, gSl_t, gSl_l, itemsOf_l, itemsOf_t, itemsOf_s, ofString_inj, cMul_r, cMul_l, ixN_lit, atI_lit, atI_m1, cast_lit, String.reduceEq, decide_true, decide_false, Int.reduceSub, Int.reduceAdd, Int.reduceMul, Int.reduceToNat, T_toList, T_len, T_app, T_inj, T_sign, T_cut, T_signs, T_strip, T_empty, gIn_T, gNin_T, gLjust_T, lt_0, lt_1, lt_2, lt_3, lt_4, lt_5, lt_6, lt_7, lt_8, lt_9, lt_10, lt_11, lt_12, lt_13, lt_14, lt_15, lt_16, lt_17, lt_18, lt_19, lt_20, lt_21, lt_22, lt_23, lt_24, lt_25, lt_26, lt_27, lt_28, lt_29, lt_30, lt_31, lt_32, lt_33, lt_34, lt_35, lt_36, lt_37, lt_38, lt_39, lt_40, lt_41, lt_42, lt_43, lt_44, lt_45, lt_46] $[$l:location]?)

open ownanswer_k51_lists_and_joined_values (ts pr Lo LoP valsOfV joinOfV vals_okV join_okV CU wW split_ok cutF cutF_len strOk_T)
structure RnOk (a : List Nat) (ds : List Du) (cur : List Nat) : Prop where
  st : (rn a false false cur).2.1 = false ∧ (rn a false false cur).2.2.1 = false
  cb : (rn a false false cur).2.2.2 ∈ CB
  dp : DP (rn a false false cur).1 = ds.map duD
  ok : ∀ p ∈ pcs (rn a false false cur).1, drOk p = true
theorem un_ok {u : List Nat × List Du} (h : u ∈ UN) {cur : List Nat} (hc : cur ∈ CB) : RnOk u.1 u.2 cur := by
  have c := List.all_eq_true.mp (List.all_eq_true.mp chkU_all u h) cur hc
  simp only [Bool.and_eq_true, Bool.not_eq_true', decide_eq_true_eq, List.all_eq_true] at c
  exact ⟨⟨c.1, c.2.1⟩, c.2.2.1, eqDs_t c.2.2.2.1, c.2.2.2.2⟩
theorem pcs_app (a b : List (List Nat)) : pcs (a ++ b) = pcs a ++ pcs b := by
  unfold pcs
  rw [List.map_append, List.filter_append]
theorem RnOk.app {a b : List Nat} {ds es : List Du} {cur : List Nat} (h : RnOk a ds cur) (h2 : RnOk b es (rn a false false cur).2.2.2) : RnOk (a ++ b) (ds ++ es) cur := by
  have e : rn (a ++ b) false false cur = ((rn a false false cur).1 ++ (rn b false false (rn a false false cur).2.2.2).1, (rn b false false (rn a false false cur).2.2.2).2) := by
    rw [rn_app, h.st.1, h.st.2]
  refine ⟨by rw [e]; exact h2.st, by rw [e]; exact h2.cb, ?_, ?_⟩
  · rw [e, DP_app, h.dp, h2.dp, List.map_append]
  · rw [e, pcs_app]
    intro p hp
    exact (List.mem_append.mp hp).elim (h.ok p) (h2.ok p)
/-- the units of a value -/
def txs (us : List (List Nat × List Du)) : List Nat := us.flatMap (·.1)
def dus (us : List (List Nat × List Du)) : List Du := us.flatMap (·.2)
theorem txs_ok : ∀ (us : List (List Nat × List Du)) (cur : List Nat), (∀ u ∈ us, u ∈ UN) → cur ∈ CB → RnOk (txs us) (dus us) cur
  | [], cur, _, hc => ⟨⟨rfl, rfl⟩, hc, rfl, (fun _ h => nomatch h)⟩
  | u :: us, cur, hu, hc => by
    have h1 := un_ok (hu u (List.mem_cons_self ..)) hc
    exact h1.app (txs_ok us _ (fun v hv => hu v (List.mem_cons_of_mem _ hv)) h1.cb)
def zD : Du := ([122], none)
theorem z_all : (CB.all fun cur => decide (cutF 44 [122] false false cur = ([cur ++ [122]], false)) && eqDs (DP [cur ++ [122]]) [zD] && (pcs [cur ++ [122]]).all drOk && decide (rn [122, 44, 32] false false cur = ([cur ++ [122]], false, false, [32]))) = true := by decide +kernel
theorem z_ok {cur : List Nat} (hc : cur ∈ CB) : cutF 44 [122] false false cur = ([cur ++ [122]], false) ∧ DP [cur ++ [122]] = [duD zD] ∧ (∀ p ∈ pcs [cur ++ [122]], drOk p = true) ∧ rn [122, 44, 32] false false cur = ([cur ++ [122]], false, false, [32]) := by
  have c := List.all_eq_true.mp z_all cur hc
  simp only [Bool.and_eq_true, decide_eq_true_eq, List.all_eq_true] at c
  exact ⟨c.1.1.1, eqDs_t c.1.1.2, c.1.2, c.2⟩
abbrev Us := List (List Nat × List Du)
/-- a value, and what it says -/
def vlu (us : Us) : List Nat := txs us ++ [122]
def dul (us : Us) : List Du := dus us ++ [zD]
theorem sep_ok {us : Us} (hu : ∀ u ∈ us, u ∈ UN) {cur : List Nat} (hc : cur ∈ CB) : RnOk (vlu us ++ [44, 32]) (dul us) cur ∧ (rn (vlu us ++ [44, 32]) false false cur).2.2.2 = [32] := by
  have h1 := txs_ok us cur hu hc
  obtain ⟨_, z2, z3, z4⟩ := z_ok h1.cb
  have h2 : RnOk [122, 44, 32] [zD] (rn (txs us) false false cur).2.2.2 := ⟨by rw [z4]; exact ⟨rfl, rfl⟩, by rw [z4]; exact (by decide : [32] ∈ CB), by rw [z4]; exact z2, by rw [z4]; exact z3⟩
  have e : vlu us ++ [44, 32] = txs us ++ [122, 44, 32] := by unfold vlu; rw [List.append_assoc]; rfl
  rw [e]
  refine ⟨h1.app h2, ?_⟩
  rw [rn_app, h1.st.1, h1.st.2, z4]
/-- the joined values: nothing left open -/
structure CutOk (a : List Nat) (ds : List Du) (cur : List Nat) : Prop where
  q : (cutF 44 a false false cur).2 = false
  dp : DP (cutF 44 a false false cur).1 = ds.map duD
  ok : ∀ p ∈ pcs (cutF 44 a false false cur).1, drOk p = true
theorem joined_ok : ∀ (F : List Us) (us : Us) (cur : List Nat), (∀ us ∈ F, ∀ u ∈ us, u ∈ UN) → (∀ u ∈ us, u ∈ UN) → cur ∈ CB → CutOk ((F.flatMap fun us => vlu us ++ [44, 32]) ++ vlu us) (F.flatMap dul ++ dul us) cur
  | [], us, cur, _, hu, hc => by
    have h1 := txs_ok us cur hu hc
    obtain ⟨z1, z2, z3, z4⟩ := z_ok h1.cb
    have e : cutF 44 (vlu us) false false cur = ((rn (txs us) false false cur).1 ++ [(rn (txs us) false false cur).2.2.2 ++ [122]], false) := by
      unfold vlu
      rw [cutF_app, h1.st.1, h1.st.2, z1]
    rw [List.flatMap_nil, List.flatMap_nil, List.nil_append, List.nil_append]
    refine ⟨by rw [e], ?_, ?_⟩
    · rw [e, DP_app, h1.dp, z2]; unfold dul; rw [List.map_append]; rfl
    · rw [e, pcs_app]
      intro p hp
      exact (List.mem_append.mp hp).elim (h1.ok p) (z3 p)
  | f :: F, us, cur, hF, hu, hc => by
    obtain ⟨h1, h2⟩ := sep_ok (hF f (List.mem_cons_self ..)) hc
    have ih := joined_ok F us [32] (fun g hg => hF g (List.mem_cons_of_mem _ hg)) hu (by decide)
    rw [List.flatMap_cons, List.flatMap_cons, List.append_assoc (vlu f ++ [44, 32]), List.append_assoc (dul f)]
    have e : ∀ x, cutF 44 (vlu f ++ [44, 32] ++ x) false false cur = ((rn (vlu f ++ [44, 32]) false false cur).1 ++ (cutF 44 x false false [32]).1, (cutF 44 x false false [32]).2) := by
      intro x
      rw [cutF_app, h1.st.1, h1.st.2, h2]
    refine ⟨by rw [e]; exact ih.q, ?_, ?_⟩
    · rw [e, DP_app, h1.dp, ih.dp]; simp only [List.map_append]
    · rw [e, pcs_app]
      intro p hp
      exact (List.mem_append.mp hp).elim (h1.ok p) (ih.ok p)
theorem open_ok : ∀ (F : List Us) (cur : List Nat), (∀ us ∈ F, ∀ u ∈ us, u ∈ UN) → cur ∈ CB → (cutF 44 ((F.flatMap fun us => vlu us ++ [44, 32]) ++ [34]) false false cur).2 = true
  | [], cur, _, hc => by
    rw [List.flatMap_nil, List.nil_append]
    rfl
  | f :: F, cur, hF, hc => by
    obtain ⟨h1, h2⟩ := sep_ok (hF f (List.mem_cons_self ..)) hc
    have ih := open_ok F [32] (fun g hg => hF g (List.mem_cons_of_mem _ hg)) (by decide)
    rw [List.flatMap_cons, List.append_assoc (vlu f ++ [44, 32]), cutF_app, h1.st.1, h1.st.2, h2]
    exact ih
end ownanswer_k66_directives
namespace ownanswer_k66_directives
open PySem PySem.Spec L2 Fw
local macro_rules | `(tactic| simp only [walkA, $xs,*] $[$l:location]?) => `(tactic| simp only [ok_some, ok_none, okV_some, okV_none, ↓okV_if, ↓ok_if, ↓ok_ret, ↓ok_bnd, ↓ok_lft, ↓ok_bin, ↓ok_una, ↓ok_binL, ↓ok_unaL, ↓ok_mny, ↓ok_rdD, ↓ok_rdO, ↓ok_rdA, ↓ok_toB, ↓ok_sAnd, ↓ok_sOr, ↓ok_sNot, ↓ok_vAnd, ↓ok_vOr, ↓ok_sIf, ↓ok_chn, ↓ok_sNil, ↓ok_sCons, ↓ok_dTup, ↓ok_dLst, ↓ok_m0S, ↓ok_m1S, ↓ok_m1L, ↓ok_ixO, ↓ok_sPart, ↓ok_sSl, ↓ok_tupO, ↓ok_sItems, ↓ok_sScr, ↓ok_sEnum, ↓ok_sRng1, ↓ok_sRng2, ↓ok_seqS, ↓ok_nxt, ↓ok_brkS, ↓ok_cntS, ↓ok_retN, ↓ok_drpS, ↓ok_asg, ↓ok_asgL, ↓ok_asgG, ↓ok_augS, ↓ok_ifS, ↓ok_retD, ↓ok_retL, ↓ok_retO, ↓ok_appO, ↓ok_setO, ↓ok_extO, ↓ok_popS, ↓ok_forS, ↓ok_forL_nil, ↓ok_lcS, ↓ok_lcL_nil, ↓okV_callD, ↓okV_callV, ↓ok_callM, ↓ok_asD, ↓ok_asL, ↓ok_callS, ↓ok_runF, ↓ok_rplS, ↓ok_tupA, ↓ok_strM, ↓ok_chn3, own?, toN, toT, toNs, wipE, bakE, stp_nx, stp_ct, stp_bk, stp_rt, Fw.collect, ok_yesS, List.getElem?_cons_zero, List.getElem?_cons_succ, List.set_cons_zero, List.set_cons_succ, List.map_cons, List.map_nil, List.length_cons, List.length_nil, List.cons_append, List.nil_append, List.replicate_succ, List.replicate_zero, Nat.reduceAdd, Nat.reduceSub, Nat.reduceLeDiff, Nat.reduceLT, Nat.reduceEqDiff, Int.reduceLT, Int.reduceLE, Int.reduceNeg, Int.reducePow, Int.reduceEq, Option.isSome_some, Option.map_some, Option.map_none, true_and, and_true, if_true, if_false, ite_true, ite_false, Bool.false_eq_true, reduceIte, reduceCtorEq, gAdd_ii, gAdd_ss, gAdd_tt, gSub_ii, gMul_ii, gDiv_ii, gMod_ii, gNeg_i, gLt_ii, gGt_ii, gGe_ii, gLe_ii, eqv_ii, eqv_ss, eqv_bb, eqv_nn, eqv_ni, eqv_in, eqv_ns, eqv_sn, eqv_nb, eqv_bn, eqv_is, eqv_si, eqv_nt, eqv_tn, eqv_nl, eqv_ln, eqv_tt, eqv_ll, eqvA_nn, eqvA_cc, eqvA_nc, eqvA_cn, gEq_ii, gEq_ss, gEq_bb, gEq_nn, gEq_in, gEq_ni, gEq_sn, gEq_ns, gEq_si, gEq_is, gNe_ii, gNe_ss, gNe_bb, gNe_nn, gNot_b, gIsN_n, gIsN_i, gIsN_b, gIsN_s, gIsN_t, gIsN_l, gNotN_n, gNotN_i, gNotN_b, gNotN_s, gNotN_t, gNotN_l, gIx_l, gIx_t, gIx_s, gLen_s, gLen_l, gLen_t, gAbs_i, gInt_i, gInt_b, gInt_s, gOrd_sign, gDivmod_ii, gStr_i, gStr_s, gTuple_l, gTuple_t, gStrip_s, gLstrip_s, gSplit_s, gPartition_s, gJoin_m, gCat_ll, gSl_s, gSl_t, gSl_l, itemsOf_l, itemsOf_t, itemsOf_s, ofString_inj, cMul_r, cMul_l, ixN_lit, atI_lit, atI_m1, cast_lit, String.reduceEq, decide_true, decide_false, Int.reduceSub, Int.reduceAdd, Int.reduceMul, Int.reduceToNat, T_toList, T_len, T_app, T_inj, T_sign, T_cut, T_signs, T_strip, T_empty, gIn_T, gNin_T, gLjust_T, lt_0, lt_1, lt_2, lt_3, lt_4, lt_5, lt_6, lt_7, lt_8, lt_9, lt_10, lt_11, lt_12, lt_13, lt_14, lt_15, lt_16, lt_17, lt_18, lt_19, lt_20, lt_21, lt_22, lt_23, lt_24, lt_25, lt_26, lt_27, lt_28, lt_29, lt_30, lt_31, lt_32, lt_33, lt_34, lt_35, lt_36, lt_37, lt_38, lt_39, lt_40, lt_41, lt_42, lt_43, lt_44, lt_45, lt_46, $xs,*] $[$l:location]?)
local macro_rules | `(tactic| simp only [walkA] $[$l:location]?) => `(tactic| simp only [ok_some, ok_none, okV_some, okV_none, ↓okV_if, ↓ok_if, ↓ok_ret, ↓ok_bnd, ↓ok_lft, ↓ok_bin, ↓ok_una, ↓ok_binL, ↓ok_unaL, ↓ok_mny, ↓ok_rdD, ↓ok_rdO, ↓ok_rdA, ↓ok_toB, ↓ok_sAnd, ↓ok_sOr, ↓ok_sNot, ↓ok_vAnd, ↓ok_vOr, ↓ok_sIf, ↓ok_chn, ↓ok_sNil, ↓ok_sCons, ↓ok_dTup, ↓ok_dLst, ↓ok_m0S, ↓ok_m1S, ↓ok_m1L, ↓ok_ixO, ↓ok_sPart, ↓ok_sSl, ↓ok_tupO, ↓ok_sItems, ↓ok_sScr, ↓ok_sEnum, ↓ok_sRng1, ↓ok_sRng2, ↓ok_seqS, ↓ok_nxt, ↓ok_brkS, ↓ok_cntS, ↓ok_retN, ↓ok_drpS, ↓ok_asg, ↓ok_asgL, ↓ok_asgG, ↓ok_augS, ↓ok_ifS, ↓ok_retD, ↓ok_retL, ↓ok_retO, ↓ok_appO, ↓ok_setO, ↓ok_extO, ↓ok_popS, ↓ok_forS, ↓ok_forL_nil, ↓ok_lcS, ↓ok_lcL_nil, ↓okV_callD, ↓okV_callV, ↓ok_callM, ↓ok_asD, ↓ok_asL, ↓ok_callS, ↓ok_runF, ↓ok_rplS, ↓ok_tupA, ↓ok_strM, ↓ok_chn3, own?, toN, toT, toNs, wipE, bakE, stp_nx, stp_ct, stp_bk, stp_rt, Fw.collect, ok_yesS, List.getElem?_cons_zero, List.getElem?_cons_succ, List.set_cons_zero, List.set_cons_succ, List.map_cons, List.map_nil, List.length_cons, List.length_nil, List.cons_append, List.nil_append, List.replicate_succ, List.replicate_zero, Nat.reduceAdd, Nat.reduceSub, Nat.reduceLeDiff, Nat.reduceLT, Nat.reduceEqDiff, Int.reduceLT, Int.reduceLE, Int.reduceNeg, Int.reducePow, Int.reduceEq, Option.isSome_some, Option.map_some, Option.map_none, true_and, and_true, if_true, if_false, ite_true, ite_false, Bool.false_eq_true, reduceIte, reduceCtorEq, gAdd_ii, gAdd_ss, gAdd_tt, gSub_ii, gMul_ii, gDiv_ii, gMod_ii, gNeg_i, gLt_ii, gGt_ii, gGe_ii, gLe_ii, eqv_ii, eqv_ss, eqv_bb, eqv_nn, eqv_ni, eqv_in, eqv_ns, eqv_sn, eqv_nb, eqv_bn, eqv_is, eqv_si, eqv_nt, eqv_tn, eqv_nl, eqv_ln, eqv_tt, eqv_ll, eqvA_nn, eqvA_cc, eqvA_nc, eqvA_cn, gEq_ii, gEq_ss, gEq_bb, gEq_nn, gEq_in, gEq_ni, gEq_sn, gEq_ns, gEq_si, gEq_is, gNe_ii, gNe_ss, gNe_bb, gNe_nn, gNot_b, gIsN_n, gIsN_i, gIsN_b, gIsN_s, gIsN_t, gIsN_l, gNotN_n, gNotN_i, gNotN_b, gNotN_s, gNotN_t, gNotN_l, gIx_l, gIx_t, gIx_s, gLen_s, gLen_l, gLen_t, gAbs_i, gInt_i, gInt_b, gInt_s, gOrd_sign, gDivmod_ii, gStr_i, gStr_s, gTuple_l, gTuple_t, gStrip_s, gLstrip_s, gSplit_s, gPartition_s, gJoin_m, gCat_ll, gSl_s, gSl_t, gSl_l, itemsOf_l, itemsOf_t, itemsOf_s, ofString_inj, cMul_r, cMul_l, ixN_lit, atI_lit, atI_m1, cast_lit, String.reduceEq, decide_true, decide_false, Int.reduceSub, Int.reduceAdd, Int.reduceMul, Int.reduceToNat, T_toList, T_len, T_app, T_inj, T_sign, T_cut, T_signs, T_strip, T_empty, gIn_T, gNin_T, gLjust_T, lt_0, lt_1, lt_2, lt_3, lt_4, lt_5, lt_6, lt_7, lt_8, lt_9, lt_10, lt_11, lt_12, lt_13, lt_14, lt_15, lt_16, lt_17, lt_18, lt_19, lt_20, lt_21, lt_22, lt_23, lt_24, lt_25, lt_26, lt_27, lt_28, lt_29, lt_30, lt_31, lt_32, lt_33, lt_34, lt_35, lt_36, lt_37, lt_38, lt_39, lt_40, lt_41, lt_42, lt_43, lt_44, lt_45, lt_46] $[$l:location]?)

open ownanswer_k51_lists_and_joined_values (ts pr Lo LoP valsOfV joinOfV vals_okV join_okV CU wW split_ok cutF cutF_len strOk_T)
def nCc : List Nat := [99, 97, 99, 104, 101, 45, 99, 111, 110, 116, 114, 111, 108]
theorem cc_low : gLower (T nCc) = some (.str (T nCc)) := okT_t (by decide +kernel)
theorem pcs_len (ps : List (List Nat)) : (pcs ps).length ≤ ps.length := by
  unfold pcs
  exact Nat.le_trans (List.length_filter_le _ _) (by rw [List.length_map]; exact Nat.le_refl _)
theorem reads_str {ps : List Fd} {J : List Nat} (hn : ps.length < 100) (hb : ∀ p ∈ ps, p.2.length ≤ 100) (hj : joinOfV (valsOfV nCc ps) = .str (T J)) (hl : J.length ≤ 10000)
    {Q : Sl → En → Prop} (q1 : (CU J).2 = true → ∀ a, Q (.dat (.tuple [duD ([110, 111, 45, 115, 116, 111, 114, 101], none)])) [a]) (q2 : (CU J).2 = false → (∀ p ∈ pcs (CU J).1, drOk p = true) ∧ ∀ a, Q (.dat (.tuple (DP (CU J).1))) [a]) : Ok (S_read_directives [.dat (.tuple (pr ps))]) Q := by
  have hs := sizeLine_eq
  have e0 : ([99, 97, 99, 104, 101, 45, 99, 111, 110, 116, 114, 111, 108] : List Nat) = nCc := rfl
  unfold S_read_directives
  rw [ok_runF]
  refine ⟨rfl, ?_⟩
  simp only [walkA, Y_read_directives, jk, e0]
  refine join_okV cc_low hn hb ?_
  simp only [walkA, T_read_directives_4, hj, sk]
  refine split_ok (by omega) ?_
  cases hc : (CU J).2 with
  | true =>
    simp only [walkA, T_read_directives_3]
    exact q1 hc _
  | false =>
    obtain ⟨c4, q⟩ := q2 hc
    have hcl : (CU J).1.length ≤ J.length + 1 := (cutF_len 44 J false false []).1
    have hpl := pcs_len (CU J).1
    have e1 : ts (((CU J).1.map (trimL wW)).filter fun p => decide (p ≠ [])) = (pcs (CU J).1).map fun l => .str (T l) := rfl
    simp only [walkA, e1, T_read_directives_3, List.length_map, T_read_directives_2]
    refine ⟨by omega, ?_⟩
    refine lcL_map (fun l : List Nat => PyData.str (T l)) (fun l => dr l) (fun _ => true) (pcs (CU J).1) _ (fun p hp => ?_) ?_
    · unfold turn
      simp only [walkA, C_read_directives_1]
      refine dr_ok (c4 p hp) fun E => ?_
      simp only [walkA]
    · simp only [walkA, List.filter_eq_self.mpr (fun (x : List Nat) (_ : x ∈ pcs (CU J).1) => (rfl : (fun _ => true) x = true)), T_read_directives_1, List.length_map]
      refine ⟨by omega, ?_⟩
      have e2 : (pcs (CU J).1).map (fun l => dr l) = ((pcs (CU J).1).map dr).map fun d => d := (List.map_id _).symm
      rw [e2]
      refine lcL_map (fun d : PyData => d) (fun d => d) (fun d => !isN d) ((pcs (CU J).1).map dr) _ (fun d hd => ?_) ?_
      · unfold turn
        simp only [walkA, C_read_directives_2, C_read_directives_3, gNotN_isN]
        cases isN d <;> simp
      · simp only [walkA]
        rw [List.map_id']
        exact q _
theorem reads_none {ps : List Fd} (hn : ps.length < 100) (hb : ∀ p ∈ ps, p.2.length ≤ 100) (hj : valsOfV nCc ps = []) {Q : Sl → En → Prop} (q : ∀ a, Q (.dat (.tuple [])) [a]) : Ok (S_read_directives [.dat (.tuple (pr ps))]) Q := by
  have hs := sizeLine_eq
  have e0 : ([99, 97, 99, 104, 101, 45, 99, 111, 110, 116, 114, 111, 108] : List Nat) = nCc := rfl
  unfold S_read_directives
  rw [ok_runF]
  refine ⟨rfl, ?_⟩
  simp only [walkA, Y_read_directives, jk, e0]
  refine join_okV cc_low hn hb ?_
  rw [hj]
  have ej : joinOfV [] = .none := rfl
  simp only [walkA, T_read_directives_4, ej]
  refine ⟨by omega, ?_⟩
  simp only [walkA, T_read_directives_3, T_read_directives_2]
  refine ⟨by omega, ?_⟩
  simp only [walkA, T_read_directives_1]
  exact ⟨by omega, q _⟩
theorem inter_snoc {α : Type} (s y : List Nat) (f : α → List Nat) : ∀ xs : List α, s.intercalate (xs.map f ++ [y]) = (xs.flatMap fun x => f x ++ s) ++ y
  | [] => by simp
  | [x] => by simp [List.intercalate, List.intersperse]
  | x :: z :: xs => by
    have ih := inter_snoc s y f (z :: xs)
    rw [List.flatMap_cons, List.append_assoc, ← ih]
    simp [List.intercalate, List.intersperse]
theorem dir_ok {n : List Nat} (hlow : gLower (T n) = some (.str (T n))) {D : List Du} {Q : Sl → En → Prop} (q : ∀ a b, Q (.dat (match D.find? fun u => decide (u.1 = n) with
    | some u => .tuple [.bool true, ovD u.2]
    | none => .tuple [.bool false, .none])) [a, b]) : Ok (S_directive [.dat (.tuple (D.map duD)), .dat (.str (T n))]) Q := by
  have hs := sizeLine_eq
  unfold S_directive
  rw [ok_runF]
  refine ⟨rfl, ?_⟩
  simp only [walkA, Y_directive]
  have loop : ∀ (L : List Du) (x2 x3 : Sl), (∀ a b, Q (.dat (match L.find? fun u => decide (u.1 = n) with
      | some u => .tuple [.bool true, ovD u.2]
      | none => .tuple [.bool false, .none])) [a, b]) → Ok (forL (toT [2, 3]) L_directive_1 (L.map duD) [.dat (.tuple (D.map duD)), .dat (.str (T n)), x2, x3]) fun fl E1 => match fl with
        | .nx => Ok (T_directive_1 E1) fun fl E => match fl with
          | .rt s => OkV (Fw.collect [.dat (.tuple (D.map duD)), .dat (.str (T n))] E) fun outs => Q s outs
          | .nx => OkV (Fw.collect [.dat (.tuple (D.map duD)), .dat (.str (T n))] E) fun outs => Q (.dat .none) outs
          | _ => False
        | .rt s => OkV (Fw.collect [.dat (.tuple (D.map duD)), .dat (.str (T n))] E1) fun outs => Q s outs
        | _ => False := by
    intro L
    induction L with
    | nil =>
      intro x2 x3 q
      rw [List.map_nil, ok_forL_nil]
      simp only [walkA, T_directive_1]
      exact ⟨by omega, q _ _⟩
    | cons u L ih =>
      intro x2 x3 q
      rw [List.map_cons, ok_forL_cons]
      simp only [walkA, L_directive_1, duD, S_lower, Y_lower, hlow]
      by_cases h : u.1 = n
      · simp only [List.find?_cons, decide_eq_true h] at q
        simp only [walkA, decide_eq_true h]
        exact ⟨by omega, q _ _⟩
      · simp only [List.find?_cons, decide_eq_false h] at q
        simp only [walkA, decide_eq_false h]
        exact ih _ _ q
  refine (loop D _ _ q).imp fun fl E h => ?_
  cases fl <;> exact h
def dg (l : List Nat) : Prop := ∀ c ∈ l, 48 ≤ c ∧ c ≤ 57
def secZ (l : List Nat) : Option Int := if 20 < l.length then none else some (if (2147483648 : Int) < (NumText.digitsVal l : Nat) then 2147483648 else (NumText.digitsVal l : Nat))
def oD : Option Int → PyData
  | none => .none
  | some t => .int t
theorem gMin_ii {i j : Int} : gMin [.int i, .int j] = some (.int (if j < i then j else i)) := rfl
theorem gPow_31 : gPow (.int 2) (.int 31) = some (.int 2147483648) := rfl
theorem seconds_ok {l : List Nat} (h : dg l) (hne : l ≠ []) (hl : l.length ≤ 100) {Q : Sl → En → Prop} (q : ∀ a, Q (.dat (oD (secZ l))) [a]) : Ok (S_seconds [.dat (.str (T l))]) Q := by
  have hs := sizeLine_eq
  unfold S_seconds
  rw [ok_runF]
  refine ⟨rfl, ?_⟩
  simp only [walkA, Y_seconds, dgk]
  refine ownanswer_k53_dates_written.digits_ok h hne (by omega) ?_
  unfold secZ at q
  have hi : intText? (T l) = some ((NumText.digitsVal l : Nat) : Int) := SX.int_S (List.all_eq_true.mpr fun c hc => by rw [Bool.and_eq_true, decide_eq_true_eq, decide_eq_true_eq]; exact h c hc) hne (by omega)
  by_cases h20 : 20 < l.length
  · have h20' : (l.length : Int) > 20 := by omega
    rw [if_pos h20] at q
    simp only [walkA, Bool.not_true, h20']
    exact ⟨by omega, q _⟩
  · have h20' : ¬ (l.length : Int) > 20 := by omega
    rw [if_neg h20] at q
    simp only [walkA, Bool.not_true, h20', T_seconds_1]
    refine ⟨by omega, by omega, ?_⟩
    simp only [walkA, hi, gMin_ii]
    exact q _
theorem val_snoc (l : List Nat) (c : Nat) : NumText.digitsVal (l ++ [c]) = NumText.digitsVal l * 10 + (c - 48) := by
  unfold NumText.digitsVal
  rw [List.foldl_append]
  rfl
theorem dig1 : ((List.range 10).all fun n => decide (intText? (T [48 + n]) = some (n : Int))) = true := by decide +kernel
theorem dig_1 {c : Nat} (h0 : 48 ≤ c) (h1 : c ≤ 57) : intText? (T [c]) = some ((c - 48 : Nat) : Int) := by
  have := of_decide_eq_true (List.all_eq_true.mp dig1 (c - 48) (List.mem_range.mpr (by omega)))
  rwa [show 48 + (c - 48) = c by omega] at this
theorem lsec_ok {l : List Nat} (h : dg l) (hne : l ≠ []) (hl : l.length ≤ 100) {Q : Sl → En → Prop} (q : ∀ a, Q (.dat (oD (secZ l))) [a]) : Ok (S__law_seconds [.dat (.str (T l))]) Q := by
  have hs := sizeLine_eq
  unfold S__law_seconds
  rw [ok_runF]
  refine ⟨rfl, ?_⟩
  have hp : 0 < l.length := List.length_pos_iff.mpr hne
  unfold secZ at q
  by_cases h20 : 20 < l.length
  · have a1 : (1 : Int) ≤ l.length := by omega
    have a2 : ¬ (l.length : Int) ≤ 20 := by omega
    rw [if_pos h20] at q
    simp only [walkA, Y__law_seconds, decide_eq_true a1, decide_eq_false a2, Bool.not_false]
    exact ⟨by omega, q _⟩
  · have a1 : (1 : Int) ≤ l.length := by omega
    have a2 : (l.length : Int) ≤ 20 := by omega
    rw [if_neg h20] at q
    simp only [walkA, Y__law_seconds, decide_eq_true a1, decide_eq_true a2, Bool.not_true, T__law_seconds_4, T__law_seconds_3]
    refine ⟨by omega, ?_⟩
    have e : (T l).cps.toList.map (fun c => PyData.str ⟨#[c]⟩) = l.map fun c => .str (T [c]) := rfl
    refine forL_inv (fun k E => ∃ x, E = [.dat (.str (T l)), .dat (.int (NumText.digitsVal (l.take k) : Nat)), x]) _ 0 _ _ ⟨.un, by rw [List.take_zero]; rfl⟩ ?_ ?_
    · rintro i z hz E ⟨x, rfl⟩
      rw [List.getElem?_map] at hz
      cases hc : l[i]? with
      | none => rw [hc] at hz; cases hz
      | some c =>
        rw [hc] at hz
        cases hz
        have hcd := h c (List.mem_of_getElem? hc)
        have hin : c ∈ ([48, 49, 50, 51, 52, 53, 54, 55, 56, 57] : List Nat) := by
          simp only [List.mem_cons, List.not_mem_nil, or_false]
          omega
        have et : NumText.digitsVal (l.take (0 + i + 1)) = NumText.digitsVal (l.take (0 + i)) * 10 + (c - 48) := by
          rw [show 0 + i = i by omega, List.take_succ, hc, show (some c).toList = [c] from rfl, val_snoc]
        simp only [walkA, L__law_seconds_1, decide_eq_true hin, Bool.not_true, T__law_seconds_1, dig_1 hcd.1 hcd.2, stp]
        refine ⟨.dat (.str (T [c])), ?_⟩
        rw [et]
        have : (((NumText.digitsVal (l.take (0 + i)) * 10 + (c - 48) : Nat)) : Int) = (NumText.digitsVal (l.take (0 + i)) : Nat) * 10 + ((c - 48 : Nat) : Int) := by omega
        rw [this]
    · rintro E ⟨x, rfl⟩
      have et : l.take (0 + (l.map fun c => PyData.str (T [c])).length) = l := by
        rw [List.length_map, Nat.zero_add]
        exact List.take_length ..
      rw [et]
      simp only [walkA, T__law_seconds_2, gPow_31, gMin_ii]
      exact q _
end ownanswer_k66_directives
namespace ownanswer_k66_directives
open PySem PySem.Spec L2 Fw
local macro_rules | `(tactic| simp only [walkA, $xs,*] $[$l:location]?) => `(tactic| simp only [ok_some, ok_none, okV_some, okV_none, ↓okV_if, ↓ok_if, ↓ok_ret, ↓ok_bnd, ↓ok_lft, ↓ok_bin, ↓ok_una, ↓ok_binL, ↓ok_unaL, ↓ok_mny, ↓ok_rdD, ↓ok_rdO, ↓ok_rdA, ↓ok_toB, ↓ok_sAnd, ↓ok_sOr, ↓ok_sNot, ↓ok_vAnd, ↓ok_vOr, ↓ok_sIf, ↓ok_chn, ↓ok_sNil, ↓ok_sCons, ↓ok_dTup, ↓ok_dLst, ↓ok_m0S, ↓ok_m1S, ↓ok_m1L, ↓ok_ixO, ↓ok_sPart, ↓ok_sSl, ↓ok_tupO, ↓ok_sItems, ↓ok_sScr, ↓ok_sEnum, ↓ok_sRng1, ↓ok_sRng2, ↓ok_seqS, ↓ok_nxt, ↓ok_brkS, ↓ok_cntS, ↓ok_retN, ↓ok_drpS, ↓ok_asg, ↓ok_asgL, ↓ok_asgG, ↓ok_augS, ↓ok_ifS, ↓ok_retD, ↓ok_retL, ↓ok_retO, ↓ok_appO, ↓ok_setO, ↓ok_extO, ↓ok_popS, ↓ok_forS, ↓ok_forL_nil, ↓ok_lcS, ↓ok_lcL_nil, ↓okV_callD, ↓okV_callV, ↓ok_callM, ↓ok_asD, ↓ok_asL, ↓ok_callS, ↓ok_runF, ↓ok_rplS, ↓ok_tupA, ↓ok_strM, ↓ok_chn3, own?, toN, toT, toNs, wipE, bakE, stp_nx, stp_ct, stp_bk, stp_rt, Fw.collect, ok_yesS, List.getElem?_cons_zero, List.getElem?_cons_succ, List.set_cons_zero, List.set_cons_succ, List.map_cons, List.map_nil, List.length_cons, List.length_nil, List.cons_append, List.nil_append, List.replicate_succ, List.replicate_zero, Nat.reduceAdd, Nat.reduceSub, Nat.reduceLeDiff, Nat.reduceLT, Nat.reduceEqDiff, Int.reduceLT, Int.reduceLE, Int.reduceNeg, Int.reducePow, Int.reduceEq, Option.isSome_some, Option.map_some, Option.map_none, true_and, and_true, if_true, if_false, ite_true, ite_false, Bool.false_eq_true, reduceIte, reduceCtorEq, gAdd_ii, gAdd_ss, gAdd_tt, gSub_ii, gMul_ii, gDiv_ii, gMod_ii, gNeg_i, gLt_ii, gGt_ii, gGe_ii, gLe_ii, eqv_ii, eqv_ss, eqv_bb, eqv_nn, eqv_ni, eqv_in, eqv_ns, eqv_sn, eqv_nb, eqv_bn, eqv_is, eqv_si, eqv_nt, eqv_tn, eqv_nl, eqv_ln, eqv_tt, eqv_ll, eqvA_nn, eqvA_cc, eqvA_nc, eqvA_cn, gEq_ii, gEq_ss, gEq_bb, gEq_nn, gEq_in, gEq_ni, gEq_sn, gEq_ns, gEq_si, gEq_is, gNe_ii, gNe_ss, gNe_bb, gNe_nn, gNot_b, gIsN_n, gIsN_i, gIsN_b, gIsN_s, gIsN_t, gIsN_l, gNotN_n, gNotN_i, gNotN_b, gNotN_s, gNotN_t, gNotN_l, gIx_l, gIx_t, gIx_s, gLen_s, gLen_l, gLen_t, gAbs_i, gInt_i, gInt_b, gInt_s, gOrd_sign, gDivmod_ii, gStr_i, gStr_s, gTuple_l, gTuple_t, gStrip_s, gLstrip_s, gSplit_s, gPartition_s, gJoin_m, gCat_ll, gSl_s, gSl_t, gSl_l, itemsOf_l, itemsOf_t, itemsOf_s, ofString_inj, cMul_r, cMul_l, ixN_lit, atI_lit, atI_m1, cast_lit, String.reduceEq, decide_true, decide_false, Int.reduceSub, Int.reduceAdd, Int.reduceMul, Int.reduceToNat, T_toList, T_len, T_app, T_inj, T_sign, T_cut, T_signs, T_strip, T_empty, gIn_T, gNin_T, gLjust_T, lt_0, lt_1, lt_2, lt_3, lt_4, lt_5, lt_6, lt_7, lt_8, lt_9, lt_10, lt_11, lt_12, lt_13, lt_14, lt_15, lt_16, lt_17, lt_18, lt_19, lt_20, lt_21, lt_22, lt_23, lt_24, lt_25, lt_26, lt_27, lt_28, lt_29, lt_30, lt_31, lt_32, lt_33, lt_34, lt_35, lt_36, lt_37, lt_38, lt_39, lt_40, lt_41, lt_42, lt_43, lt_44, lt_45, lt_46, $xs,*] $[$l:location]?)
local macro_rules | `(tactic| simp only [walkA] $[$l:location]?) => `(tactic| simp only [ok_some, ok_none, okV_some, okV_none, ↓okV_if, ↓ok_if, ↓ok_ret, ↓ok_bnd, ↓ok_lft, ↓ok_bin, ↓ok_una, ↓ok_binL, ↓ok_unaL, ↓ok_mny, ↓ok_rdD, ↓ok_rdO, ↓ok_rdA, ↓ok_toB, ↓ok_sAnd, ↓ok_sOr, ↓ok_sNot, ↓ok_vAnd, ↓ok_vOr, ↓ok_sIf, ↓ok_chn, ↓ok_sNil, ↓ok_sCons, ↓ok_dTup, ↓ok_dLst, ↓ok_m0S, ↓ok_m1S, ↓ok_m1L, ↓ok_ixO, ↓ok_sPart, ↓ok_sSl, ↓ok_tupO, ↓ok_sItems, ↓ok_sScr, ↓ok_sEnum, ↓ok_sRng1, ↓ok_sRng2, ↓ok_seqS, ↓ok_nxt, ↓ok_brkS, ↓ok_cntS, ↓ok_retN, ↓ok_drpS, ↓ok_asg, ↓ok_asgL, ↓ok_asgG, ↓ok_augS, ↓ok_ifS, ↓ok_retD, ↓ok_retL, ↓ok_retO, ↓ok_appO, ↓ok_setO, ↓ok_extO, ↓ok_popS, ↓ok_forS, ↓ok_forL_nil, ↓ok_lcS, ↓ok_lcL_nil, ↓okV_callD, ↓okV_callV, ↓ok_callM, ↓ok_asD, ↓ok_asL, ↓ok_callS, ↓ok_runF, ↓ok_rplS, ↓ok_tupA, ↓ok_strM, ↓ok_chn3, own?, toN, toT, toNs, wipE, bakE, stp_nx, stp_ct, stp_bk, stp_rt, Fw.collect, ok_yesS, List.getElem?_cons_zero, List.getElem?_cons_succ, List.set_cons_zero, List.set_cons_succ, List.map_cons, List.map_nil, List.length_cons, List.length_nil, List.cons_append, List.nil_append, List.replicate_succ, List.replicate_zero, Nat.reduceAdd, Nat.reduceSub, Nat.reduceLeDiff, Nat.reduceLT, Nat.reduceEqDiff, Int.reduceLT, Int.reduceLE, Int.reduceNeg, Int.reducePow, Int.reduceEq, Option.isSome_some, Option.map_some, Option.map_none, true_and, and_true, if_true, if_false, ite_true, ite_false, Bool.false_eq_true, reduceIte, reduceCtorEq, gAdd_ii, gAdd_ss, gAdd_tt, gSub_ii, gMul_ii, gDiv_ii, gMod_ii, gNeg_i, gLt_ii, gGt_ii, gGe_ii, gLe_ii, eqv_ii, eqv_ss, eqv_bb, eqv_nn, eqv_ni, eqv_in, eqv_ns, eqv_sn, eqv_nb, eqv_bn, eqv_is, eqv_si, eqv_nt, eqv_tn, eqv_nl, eqv_ln, eqv_tt, eqv_ll, eqvA_nn, eqvA_cc, eqvA_nc, eqvA_cn, gEq_ii, gEq_ss, gEq_bb, gEq_nn, gEq_in, gEq_ni, gEq_sn, gEq_ns, gEq_si, gEq_is, gNe_ii, gNe_ss, gNe_bb, gNe_nn, gNot_b, gIsN_n, gIsN_i, gIsN_b, gIsN_s, gIsN_t, gIsN_l, gNotN_n, gNotN_i, gNotN_b, gNotN_s, gNotN_t, gNotN_l, gIx_l, gIx_t, gIx_s, gLen_s, gLen_l, gLen_t, gAbs_i, gInt_i, gInt_b, gInt_s, gOrd_sign, gDivmod_ii, gStr_i, gStr_s, gTuple_l, gTuple_t, gStrip_s, gLstrip_s, gSplit_s, gPartition_s, gJoin_m, gCat_ll, gSl_s, gSl_t, gSl_l, itemsOf_l, itemsOf_t, itemsOf_s, ofString_inj, cMul_r, cMul_l, ixN_lit, atI_lit, atI_m1, cast_lit, String.reduceEq, decide_true, decide_false, Int.reduceSub, Int.reduceAdd, Int.reduceMul, Int.reduceToNat, T_toList, T_len, T_app, T_inj, T_sign, T_cut, T_signs, T_strip, T_empty, gIn_T, gNin_T, gLjust_T, lt_0, lt_1, lt_2, lt_3, lt_4, lt_5, lt_6, lt_7, lt_8, lt_9, lt_10, lt_11, lt_12, lt_13, lt_14, lt_15, lt_16, lt_17, lt_18, lt_19, lt_20, lt_21, lt_22, lt_23, lt_24, lt_25, lt_26, lt_27, lt_28, lt_29, lt_30, lt_31, lt_32, lt_33, lt_34, lt_35, lt_36, lt_37, lt_38, lt_39, lt_40, lt_41, lt_42, lt_43, lt_44, lt_45, lt_46] $[$l:location]?)

open ownanswer_k51_lists_and_joined_values (ts pr Lo LoP valsOfV joinOfV vals_okV join_okV CU wW split_ok cutF cutF_len strOk_T)
theorem pr_app {ps : List Fd} {n l : List Nat} : pr ps ++ [PyData.tuple [.str (T n), .str (T l)]] = pr (ps ++ [(n, l)]) := by simp [pr]
theorem pt_1 : (PT.all fun p => decide (p.2.length ≤ 1) && decide (p.1.length ≤ 26)) = true := by decide +kernel
theorem pt_ok {t : List Nat} {ds : List Du} (h : (t, ds) ∈ PT) : ds.length ≤ 1 ∧ t.length ≤ 26 := by
  have := List.all_eq_true.mp pt_1 _ h
  simpa using this
theorem un_mem {t a b : List Nat} {ds : List Du} (h : (t, ds) ∈ PT) (ha : a ∈ PRE) (hb : b ∈ SUF) : (a ++ t ++ b, ds) ∈ UN :=
  List.mem_flatMap.mpr ⟨(t, ds), h, List.mem_flatMap.mpr ⟨a, ha, List.mem_map.mpr ⟨b, hb, rfl⟩⟩⟩
/-- drawn units -/
structure UOk (us : Us) (k : Nat) : Prop where
  un : ∀ u ∈ us, u ∈ UN
  len : (txs us).length ≤ 30 * k
  dn : (dus us).length ≤ k
theorem inner_ok {ns : List Int} {x2 x4 x5 x6 x7 x8 x11 x12 x13 x15 : Sl} {D : List Du} (hD : D.length ≤ 100) {n : Int} (hn : n ≤ 3) {d : List PyData} (hd : DrawOk d) {x10 x14 : Sl} {Q : Fl → En → Prop}
    (q : ∀ d' us x10 x14, DrawOk d' → UOk us 3 → Q .nx [.scr ns, .own d', x2, .dat (.list ((D ++ dus us).map duD)), x4, x5, x6, x7, x8, .dat (.str (T (txs us))), x10, x11, x12, x13, x14, x15]) :
    Ok (forL (toN 10) L_law_1 (rngL 0 n.toNat) [.scr ns, .own d, x2, .dat (.list (D.map duD)), x4, x5, x6, x7, x8, .dat (.str (T [])), x10, x11, x12, x13, x14, x15]) Q := by
  have hs := sizeLine_eq
  refine forL_inv (fun k E => ∃ d' us x10 x14, DrawOk d' ∧ UOk us k ∧ k ≤ 3 ∧ E = [.scr ns, .own d', x2, .dat (.list ((D ++ dus us).map duD)), x4, x5, x6, x7, x8, .dat (.str (T (txs us))), x10, x11, x12, x13, x14, x15]) _ 0 _ _ ⟨d, [], x10, x14, hd, ⟨(fun _ h => nomatch h), by simp [txs], by simp [dus]⟩, by omega, by simp [dus, txs]⟩ ?_ ?_
  · rintro i z hz E ⟨d', us, x10, x14, hd', hu, hk, rfl⟩
    have hi : i < n.toNat := by
      have := (List.getElem?_eq_some_iff.mp hz).1
      simpa [rngL] using this
    have hl := hu.len
    have hdn := hu.dn
    simp only [walkA, L_law_1]
    refine part_ok hd' fun d1 t ds hd1 ht => ?_
    obtain ⟨p1, p2⟩ := pt_ok ht
    simp only [walkA, T_law_2, tk]
    refine ⟨by omega, take_ok hd1 (by omega) (by omega) fun r d2 r0 r1 hd2 => ?_⟩
    obtain ⟨a, ha, ea⟩ := at_T (ls := PRE) r0 r1
    have hal : a.length ≤ 1 := (by decide : ∀ a ∈ PRE, a.length ≤ 1) a ha
    simp only [PRE, ts, List.map_cons, List.map_nil] at ea
    simp only [walkA, ea, tk]
    refine ⟨by omega, by rw [List.length_append]; omega, by omega, take_ok hd2 (by omega) (by omega) fun r d3 r0 r1 hd3 => ?_⟩
    obtain ⟨b, hb, eb⟩ := at_T (ls := SUF) r0 r1
    have hbl : b.length ≤ 2 := (by decide : ∀ a ∈ SUF, a.length ≤ 2) b hb
    simp only [SUF, ts, List.map_cons, List.map_nil] at eb
    simp only [walkA, eb]
    refine ⟨by simp only [List.length_append]; omega, ?_⟩
    have et : txs us ++ a ++ t ++ b = txs (us ++ [(a ++ t ++ b, ds)]) := by simp [txs]
    rw [et]
    have hu2 : UOk (us ++ [(a ++ t ++ b, ds)]) (0 + i + 1) := by
      refine ⟨fun u h => ?_, ?_, ?_⟩
      · rcases List.mem_append.mp h with h | h
        · exact hu.un u h
        · cases List.mem_singleton.mp h; exact un_mem ht ha hb
      · rw [← et]; simp only [List.length_append]; omega
      · have : dus (us ++ [(a ++ t ++ b, ds)]) = dus us ++ ds := by simp [dus]
        rw [this, List.length_append]
        omega
    match ds, p1 with
    | [], _ =>
      have ed : D ++ dus (us ++ [(a ++ t ++ b, [])]) = D ++ dus us := by simp [dus]
      simp only [walkA, T_law_1, dusD, stp]
      exact ⟨d3, _, _, _, hd3, hu2, by omega, by rw [ed]⟩
    | [u], _ =>
      have ed : D ++ dus (us ++ [(a ++ t ++ b, [u])]) = D ++ dus us ++ [u] := by simp [dus]
      have hduD : duD u = .tuple [.str (T u.1), ovD u.2] := rfl
      simp only [walkA, T_law_1, dusD, hduD, stp, List.length_map, List.length_append]
      exact ⟨by omega, by omega, d3, _, _, _, hd3, hu2, by omega, by rw [ed, show (D ++ dus us ++ [u]).map duD = (D ++ dus us).map duD ++ [.tuple [.str (T u.1), ovD u.2]] by rw [List.map_append]; rfl]⟩
  · rintro E ⟨d', us, x10, x14, hd', hu, hk, rfl⟩
    refine q d' us _ _ hd' ⟨hu.un, ?_, ?_⟩
    · have := hu.len; omega
    · have := hu.dn; omega
/-- the fields -/
def fdsF (F : List Us) : List Fd := ([97, 99, 99, 101, 112, 116], [42, 47, 42]) :: F.map fun us => (nCc, vlu us)
structure FOk (F : List Us) (k : Nat) : Prop where
  n : F.length = k
  un : ∀ us ∈ F, UOk us 3
theorem zduD : duD zD = .tuple [.str (T [122]), .none] := rfl
theorem dul_len {F : List Us} {k : Nat} (h : FOk F k) : (F.flatMap dul).length ≤ 4 * k := by
  have key : ∀ G : List Us, (∀ us ∈ G, UOk us 3) → (G.flatMap dul).length ≤ 4 * G.length := by
    intro G
    induction G with
    | nil => intro _; simp
    | cons g G ih =>
      intro hG
      have h1 := ih fun u hu => hG u (List.mem_cons_of_mem _ hu)
      have h2 := (hG g (List.mem_cons_self ..)).dn
      rw [List.flatMap_cons, List.length_append, List.length_cons]
      have : (dul g).length = (dus g).length + 1 := by unfold dul; rw [List.length_append]; rfl
      omega
  have := key F h.un
  rw [h.n] at this
  exact this
theorem outer_ok {ns : List Int} {x4 x6 x7 x8 x11 x12 x13 x15 : Sl} {n : Int} (hn : n ≤ 3) {d : List PyData} (hd : DrawOk d) {Q : Fl → En → Prop}
    (q : ∀ d' F k x5 x9 x10 x14, DrawOk d' → FOk F k → k ≤ 3 → (∀ xs, x5 ≠ .own xs) → (∀ xs, x9 ≠ .own xs) → Q .nx [.scr ns, .own d', .own (pr (fdsF F)), .dat (.list ((F.flatMap dul).map duD)), x4, x5, x6, x7, x8, x9, x10, x11, x12, x13, x14, x15]) :
    Ok (forL (toN 5) L_law_2 (rngL 0 n.toNat) [.scr ns, .own d, .own (pr (fdsF [])), .dat (.list []), x4, .un, x6, x7, x8, .un, .un, x11, x12, x13, .un, x15]) Q := by
  have hs := sizeLine_eq
  refine forL_inv (fun k E => ∃ d' F x5 x9 x10 x14, DrawOk d' ∧ FOk F k ∧ k ≤ 3 ∧ (∀ xs, x5 ≠ .own xs) ∧ (∀ xs, x9 ≠ .own xs) ∧ E = [.scr ns, .own d', .own (pr (fdsF F)), .dat (.list ((F.flatMap dul).map duD)), x4, x5, x6, x7, x8, x9, x10, x11, x12, x13, x14, x15]) _ 0 _ _ ⟨d, [], .un, .un, .un, .un, hd, ⟨rfl, (fun _ h => nomatch h)⟩, by omega, (fun _ => nofun), (fun _ => nofun), rfl⟩ ?_ ?_
  · rintro i z hz E ⟨d', F, x5, x9, x10, x14, hd', hF, hk, h5, h9, rfl⟩
    have hi : i < n.toNat := by
      have := (List.getElem?_eq_some_iff.mp hz).1
      simpa [rngL] using this
    have hz2 : ∃ j : Int, z = .int j := by
      have := List.mem_of_getElem? hz
      unfold rngL at this
      obtain ⟨j, _, rfl⟩ := List.mem_map.mp this
      exact ⟨_, rfl⟩
    obtain ⟨j, rfl⟩ := hz2
    have hfl : (fdsF F).length ≤ 4 := by unfold fdsF; rw [List.length_cons, List.length_map, hF.n]; omega
    have hdl := dul_len hF
    simp only [walkA, L_law_2, T_law_5, tk]
    refine take_ok hd' (by omega) (by omega) fun m d1 m0 m1 hd1 => ?_
    simp only [walkA]
    refine ⟨by omega, ?_⟩
    refine inner_ok (by omega) (by omega) hd1 fun d2 us x10 x14 hd2 hu => ?_
    have hul := hu.len
    have hud := hu.dn
    have e0 : ([99, 97, 99, 104, 101, 45, 99, 111, 110, 116, 114, 111, 108] : List Nat) = nCc := rfl
    simp only [walkA, T_law_4, T_law_3, List.length_map, List.length_append]
    refine ⟨by omega, by omega, by omega, by omega, by omega, by omega, ?_⟩
    refine ⟨d2, F ++ [us], .dat (.int j), .dat (.str (T (txs us))), x10, x14, hd2, ⟨?_, ?_⟩, by omega, (fun _ => nofun), (fun _ => nofun), ?_⟩
    · rw [List.length_append, hF.n]; rfl
    · intro v hv
      rcases List.mem_append.mp hv with h | h
      · exact hF.un v h
      · cases List.mem_singleton.mp h; exact hu
    · have e1 : pr (fdsF (F ++ [us])) = pr (fdsF F) ++ [PyData.tuple [.str (T nCc), .str (T (txs us ++ [122]))]] := by simp [fdsF, pr, vlu]
      have e2 : ((F ++ [us]).flatMap dul).map duD = (F.flatMap dul ++ dus us).map duD ++ [PyData.tuple [.str (T [122]), .none]] := by simp [dul, zduD]
      rw [e1, e2]
      rfl
  · rintro E ⟨d', F, x5, x9, x10, x14, hd', hF, hk, h5, h9, rfl⟩
    refine q d' F _ _ _ _ _ hd' hF hk h5 h9
/-- what is said of all fields -/
theorem vals_fds (F : List Us) (c : List (List Nat)) : valsOfV nCc (fdsF F ++ c.map fun l => (nCc, l)) = F.map vlu ++ c := by
  unfold valsOfV fdsF
  have h0 : ¬ ([97, 99, 99, 101, 112, 116] : List Nat) = nCc := by decide
  rw [List.cons_append, List.filter_cons_of_neg (by simpa using h0), List.filter_append, List.map_append]
  congr 1
  · rw [List.filter_eq_self.mpr fun p hp => by obtain ⟨u, _, rfl⟩ := List.mem_map.mp hp; simp]
    rw [List.map_map]
    rfl
  · rw [List.filter_eq_self.mpr fun p hp => by obtain ⟨u, _, rfl⟩ := List.mem_map.mp hp; simp]
    rw [List.map_map]
    exact List.map_id _
/-- the sure directives: those of texts that are closed -/
def DS : List Du := PT.flatMap (·.2) ++ [zD, ([110, 111, 45, 115, 116, 111, 114, 101], none)]
def Lod (u : Du) : Bool := (u.1.all fun c => decide (c < 128)) && (match u.2 with
  | some v => v.all fun c => decide (c < 128)
  | none => true)
theorem ds_all : DS.all Lod = true := by decide +kernel
theorem shd_u {u : Du} (h : Lod u = true) : PyData.canLay0 (duD u) = true ∧ PyData.depth (duD u) ≤ 1 := by
  obtain ⟨n, o⟩ := u
  unfold Lod at h
  rw [Bool.and_eq_true] at h
  have h1 : Lo n := fun c hc => of_decide_eq_true (List.all_eq_true.mp h.1 c hc)
  cases o with
  | none => simp [duD, ovD, PyData.canLay0, PyData.canLayAll0, PyData.depth, PyData.depthAll, strOk_T h1]
  | some v =>
    have h2 : Lo v := fun c hc => of_decide_eq_true (List.all_eq_true.mp h.2 c hc)
    simp [duD, ovD, PyData.canLay0, PyData.canLayAll0, PyData.depth, PyData.depthAll, strOk_T h1, strOk_T h2]
theorem shd_all : ∀ D : List Du, (∀ u ∈ D, Lod u = true) → PyData.canLayAll0 (D.map duD) = true ∧ PyData.depthAll (D.map duD) ≤ 1
  | [], _ => by simp [PyData.canLayAll0, PyData.depthAll]
  | u :: D, h => by
    have h1 := shd_u (h u (List.mem_cons_self ..))
    have h2 := shd_all D fun v hv => h v (List.mem_cons_of_mem _ hv)
    rw [List.map_cons, PyData.canLayAll0, PyData.depthAll, h1.1, h2.1]
    exact ⟨rfl, by omega⟩
theorem shd_t {D : List Du} (h : ∀ u ∈ D, Lod u = true) : SeqAt.shaped (.tuple (D.map duD)) = true := by
  have := shd_all D h
  simp [SeqAt.shaped, PyData.canLay0, PyData.depth, this.1]
  omega
theorem shd_l {D : List Du} (h : ∀ u ∈ D, Lod u = true) : SeqAt.shaped (.list (D.map duD)) = true := by
  have := shd_all D h
  simp [SeqAt.shaped, PyData.canLay0, PyData.depth, this.1]
  omega
theorem eqv_ov (o : Option (List Nat)) : PyData.eqv (ovD o) (ovD o) = true := by
  cases o with
  | none => exact eqv_nn
  | some v => simp [ovD, eqv_ss]
theorem eqvA_du : ∀ D : List Du, PyData.eqvAll (D.map duD) (D.map duD) = true
  | [] => by simp [eqvA_nn]
  | u :: D => by
    rw [List.map_cons, eqvA_cc, eqvA_du D]
    simp only [duD, eqv_tt, eqvA_cc, eqvA_nn, eqv_ss, eqv_ov, decide_true, Bool.and_true]
theorem gNe_du {D : List Du} (h : ∀ u ∈ D, Lod u = true) : gNe (.tuple (D.map duD)) (.tuple (D.map duD)) = some (.bool false) := by
  rw [gNe_tt, if_pos (by rw [shd_t h]; rfl), eqvA_du]
  rfl
theorem gNe_nil {D : List Du} (h : ∀ u ∈ D, Lod u = true) : gNe (.list (D.map duD)) (.list []) = some (.bool (!D.isEmpty)) := by
  have s0 : SeqAt.shaped (.list []) = true := by decide +kernel
  rw [gNe_ll, if_pos (by rw [shd_l h, s0]; rfl)]
  cases D with
  | nil => rw [List.map_nil, eqvA_nn]; rfl
  | cons u D => rw [List.map_cons, eqvA_cn]; rfl
def FoD (o : Option Du) : PyData := match o with
  | some u => .tuple [.bool true, ovD u.2]
  | none => .tuple [.bool false, .none]
theorem gNe_fo {o : Option Du} (h : ∀ u, o = some u → Lod u = true) : gNe (FoD o) (FoD o) = some (.bool false) := by
  have sh : SeqAt.shaped (FoD o) = true := by
    cases o with
    | none => decide +kernel
    | some u =>
      have := h u rfl
      obtain ⟨n, o⟩ := u
      unfold Lod at this
      rw [Bool.and_eq_true] at this
      cases o with
      | none => show SeqAt.shaped (.tuple [.bool true, .none]) = true; decide +kernel
      | some v =>
        have h2 : Lo v := fun c hc => of_decide_eq_true (List.all_eq_true.mp this.2 c hc)
        simp [FoD, ovD, SeqAt.shaped, PyData.canLay0, PyData.canLayAll0, PyData.depth, PyData.depthAll, strOk_T h2]
  cases o with
  | none =>
    unfold FoD at sh ⊢
    rw [gNe_tt, if_pos (by rw [sh]; rfl)]
    simp [eqvA_cc, eqvA_nn, eqv_bb, eqv_nn]
  | some u =>
    unfold FoD at sh ⊢
    rw [gNe_tt, if_pos (by rw [sh]; rfl)]
    simp only [eqvA_cc, eqvA_nn, eqv_bb, eqv_ov, beq_self_eq_true, Bool.and_true, Bool.not_true]
end ownanswer_k66_directives
namespace ownanswer_k66_directives
open PySem PySem.Spec L2 Fw
local macro_rules | `(tactic| simp only [walkA, $xs,*] $[$l:location]?) => `(tactic| simp only [ok_some, ok_none, okV_some, okV_none, ↓okV_if, ↓ok_if, ↓ok_ret, ↓ok_bnd, ↓ok_lft, ↓ok_bin, ↓ok_una, ↓ok_binL, ↓ok_unaL, ↓ok_mny, ↓ok_rdD, ↓ok_rdO, ↓ok_rdA, ↓ok_toB, ↓ok_sAnd, ↓ok_sOr, ↓ok_sNot, ↓ok_vAnd, ↓ok_vOr, ↓ok_sIf, ↓ok_chn, ↓ok_sNil, ↓ok_sCons, ↓ok_dTup, ↓ok_dLst, ↓ok_m0S, ↓ok_m1S, ↓ok_m1L, ↓ok_ixO, ↓ok_sPart, ↓ok_sSl, ↓ok_tupO, ↓ok_sItems, ↓ok_sScr, ↓ok_sEnum, ↓ok_sRng1, ↓ok_sRng2, ↓ok_seqS, ↓ok_nxt, ↓ok_brkS, ↓ok_cntS, ↓ok_retN, ↓ok_drpS, ↓ok_asg, ↓ok_asgL, ↓ok_asgG, ↓ok_augS, ↓ok_ifS, ↓ok_retD, ↓ok_retL, ↓ok_retO, ↓ok_appO, ↓ok_setO, ↓ok_extO, ↓ok_popS, ↓ok_forS, ↓ok_forL_nil, ↓ok_lcS, ↓ok_lcL_nil, ↓okV_callD, ↓okV_callV, ↓ok_callM, ↓ok_asD, ↓ok_asL, ↓ok_callS, ↓ok_runF, ↓ok_rplS, ↓ok_tupA, ↓ok_strM, ↓ok_chn3, own?, toN, toT, toNs, wipE, bakE, stp_nx, stp_ct, stp_bk, stp_rt, Fw.collect, ok_yesS, List.getElem?_cons_zero, List.getElem?_cons_succ, List.set_cons_zero, List.set_cons_succ, List.map_cons, List.map_nil, List.length_cons, List.length_nil, List.cons_append, List.nil_append, List.replicate_succ, List.replicate_zero, Nat.reduceAdd, Nat.reduceSub, Nat.reduceLeDiff, Nat.reduceLT, Nat.reduceEqDiff, Int.reduceLT, Int.reduceLE, Int.reduceNeg, Int.reducePow, Int.reduceEq, Option.isSome_some, Option.map_some, Option.map_none, true_and, and_true, if_true, if_false, ite_true, ite_false, Bool.false_eq_true, reduceIte, reduceCtorEq, gAdd_ii, gAdd_ss, gAdd_tt, gSub_ii, gMul_ii, gDiv_ii, gMod_ii, gNeg_i, gLt_ii, gGt_ii, gGe_ii, gLe_ii, eqv_ii, eqv_ss, eqv_bb, eqv_nn, eqv_ni, eqv_in, eqv_ns, eqv_sn, eqv_nb, eqv_bn, eqv_is, eqv_si, eqv_nt, eqv_tn, eqv_nl, eqv_ln, eqv_tt, eqv_ll, eqvA_nn, eqvA_cc, eqvA_nc, eqvA_cn, gEq_ii, gEq_ss, gEq_bb, gEq_nn, gEq_in, gEq_ni, gEq_sn, gEq_ns, gEq_si, gEq_is, gNe_ii, gNe_ss, gNe_bb, gNe_nn, gNot_b, gIsN_n, gIsN_i, gIsN_b, gIsN_s, gIsN_t, gIsN_l, gNotN_n, gNotN_i, gNotN_b, gNotN_s, gNotN_t, gNotN_l, gIx_l, gIx_t, gIx_s, gLen_s, gLen_l, gLen_t, gAbs_i, gInt_i, gInt_b, gInt_s, gOrd_sign, gDivmod_ii, gStr_i, gStr_s, gTuple_l, gTuple_t, gStrip_s, gLstrip_s, gSplit_s, gPartition_s, gJoin_m, gCat_ll, gSl_s, gSl_t, gSl_l, itemsOf_l, itemsOf_t, itemsOf_s, ofString_inj, cMul_r, cMul_l, ixN_lit, atI_lit, atI_m1, cast_lit, String.reduceEq, decide_true, decide_false, Int.reduceSub, Int.reduceAdd, Int.reduceMul, Int.reduceToNat, T_toList, T_len, T_app, T_inj, T_sign, T_cut, T_signs, T_strip, T_empty, gIn_T, gNin_T, gLjust_T, lt_0, lt_1, lt_2, lt_3, lt_4, lt_5, lt_6, lt_7, lt_8, lt_9, lt_10, lt_11, lt_12, lt_13, lt_14, lt_15, lt_16, lt_17, lt_18, lt_19, lt_20, lt_21, lt_22, lt_23, lt_24, lt_25, lt_26, lt_27, lt_28, lt_29, lt_30, lt_31, lt_32, lt_33, lt_34, lt_35, lt_36, lt_37, lt_38, lt_39, lt_40, lt_41, lt_42, lt_43, lt_44, lt_45, lt_46, $xs,*] $[$l:location]?)
local macro_rules | `(tactic| simp only [walkA] $[$l:location]?) => `(tactic| simp only [ok_some, ok_none, okV_some, okV_none, ↓okV_if, ↓ok_if, ↓ok_ret, ↓ok_bnd, ↓ok_lft, ↓ok_bin, ↓ok_una, ↓ok_binL, ↓ok_unaL, ↓ok_mny, ↓ok_rdD, ↓ok_rdO, ↓ok_rdA, ↓ok_toB, ↓ok_sAnd, ↓ok_sOr, ↓ok_sNot, ↓ok_vAnd, ↓ok_vOr, ↓ok_sIf, ↓ok_chn, ↓ok_sNil, ↓ok_sCons, ↓ok_dTup, ↓ok_dLst, ↓ok_m0S, ↓ok_m1S, ↓ok_m1L, ↓ok_ixO, ↓ok_sPart, ↓ok_sSl, ↓ok_tupO, ↓ok_sItems, ↓ok_sScr, ↓ok_sEnum, ↓ok_sRng1, ↓ok_sRng2, ↓ok_seqS, ↓ok_nxt, ↓ok_brkS, ↓ok_cntS, ↓ok_retN, ↓ok_drpS, ↓ok_asg, ↓ok_asgL, ↓ok_asgG, ↓ok_augS, ↓ok_ifS, ↓ok_retD, ↓ok_retL, ↓ok_retO, ↓ok_appO, ↓ok_setO, ↓ok_extO, ↓ok_popS, ↓ok_forS, ↓ok_forL_nil, ↓ok_lcS, ↓ok_lcL_nil, ↓okV_callD, ↓okV_callV, ↓ok_callM, ↓ok_asD, ↓ok_asL, ↓ok_callS, ↓ok_runF, ↓ok_rplS, ↓ok_tupA, ↓ok_strM, ↓ok_chn3, own?, toN, toT, toNs, wipE, bakE, stp_nx, stp_ct, stp_bk, stp_rt, Fw.collect, ok_yesS, List.getElem?_cons_zero, List.getElem?_cons_succ, List.set_cons_zero, List.set_cons_succ, List.map_cons, List.map_nil, List.length_cons, List.length_nil, List.cons_append, List.nil_append, List.replicate_succ, List.replicate_zero, Nat.reduceAdd, Nat.reduceSub, Nat.reduceLeDiff, Nat.reduceLT, Nat.reduceEqDiff, Int.reduceLT, Int.reduceLE, Int.reduceNeg, Int.reducePow, Int.reduceEq, Option.isSome_some, Option.map_some, Option.map_none, true_and, and_true, if_true, if_false, ite_true, ite_false, Bool.false_eq_true, reduceIte, reduceCtorEq, gAdd_ii, gAdd_ss, gAdd_tt, gSub_ii, gMul_ii, gDiv_ii, gMod_ii, gNeg_i, gLt_ii, gGt_ii, gGe_ii, gLe_ii, eqv_ii, eqv_ss, eqv_bb, eqv_nn, eqv_ni, eqv_in, eqv_ns, eqv_sn, eqv_nb, eqv_bn, eqv_is, eqv_si, eqv_nt, eqv_tn, eqv_nl, eqv_ln, eqv_tt, eqv_ll, eqvA_nn, eqvA_cc, eqvA_nc, eqvA_cn, gEq_ii, gEq_ss, gEq_bb, gEq_nn, gEq_in, gEq_ni, gEq_sn, gEq_ns, gEq_si, gEq_is, gNe_ii, gNe_ss, gNe_bb, gNe_nn, gNot_b, gIsN_n, gIsN_i, gIsN_b, gIsN_s, gIsN_t, gIsN_l, gNotN_n, gNotN_i, gNotN_b, gNotN_s, gNotN_t, gNotN_l, gIx_l, gIx_t, gIx_s, gLen_s, gLen_l, gLen_t, gAbs_i, gInt_i, gInt_b, gInt_s, gOrd_sign, gDivmod_ii, gStr_i, gStr_s, gTuple_l, gTuple_t, gStrip_s, gLstrip_s, gSplit_s, gPartition_s, gJoin_m, gCat_ll, gSl_s, gSl_t, gSl_l, itemsOf_l, itemsOf_t, itemsOf_s, ofString_inj, cMul_r, cMul_l, ixN_lit, atI_lit, atI_m1, cast_lit, String.reduceEq, decide_true, decide_false, Int.reduceSub, Int.reduceAdd, Int.reduceMul, Int.reduceToNat, T_toList, T_len, T_app, T_inj, T_sign, T_cut, T_signs, T_strip, T_empty, gIn_T, gNin_T, gLjust_T, lt_0, lt_1, lt_2, lt_3, lt_4, lt_5, lt_6, lt_7, lt_8, lt_9, lt_10, lt_11, lt_12, lt_13, lt_14, lt_15, lt_16, lt_17, lt_18, lt_19, lt_20, lt_21, lt_22, lt_23, lt_24, lt_25, lt_26, lt_27, lt_28, lt_29, lt_30, lt_31, lt_32, lt_33, lt_34, lt_35, lt_36, lt_37, lt_38, lt_39, lt_40, lt_41, lt_42, lt_43, lt_44, lt_45, lt_46] $[$l:location]?)

open ownanswer_k51_lists_and_joined_values (ts pr Lo LoP valsOfV joinOfV vals_okV join_okV CU wW split_ok cutF cutF_len strOk_T)
theorem at_I {ls : List Int} {k : Int} (h0 : 0 ≤ k) (h1 : k < ls.length) : ∃ x, x ∈ ls ∧ atI (ls.map PyData.int) k = some (.int x) := by
  obtain ⟨n, rfl⟩ := Int.eq_ofNat_of_zero_le h0
  have hn : n < ls.length := by omega
  exact ⟨ls[n], List.getElem_mem hn, by rw [Fw.atI_nat, List.getElem?_map, List.getElem?_eq_getElem hn]; rfl⟩
theorem un_lo : (UN.all fun u => u.2.all Lod) = true := by decide +kernel
theorem dul_lo {us : Us} (h : ∀ u ∈ us, u ∈ UN) : ∀ u ∈ dul us, Lod u = true := by
  intro u hu
  rcases List.mem_append.mp hu with hu | hu
  · obtain ⟨w, hw, hu⟩ := List.mem_flatMap.mp hu
    exact List.all_eq_true.mp (List.all_eq_true.mp un_lo w (h w hw)) u hu
  · cases List.mem_singleton.mp hu; decide +kernel
theorem joinV (vs : List (List Nat)) (h : vs ≠ []) : joinOfV vs = .str (T (([44, 32] : List Nat).intercalate vs)) := by
  unfold joinOfV
  rw [if_neg h, T_join]
def nsD : Du := ([110, 111, 45, 115, 116, 111, 114, 101], none)
def Dall (F : List Us) (cl : Bool) : List Du := if cl then F.flatMap dul else [nsD]
def cls (cl : Bool) : List (List Nat) := if cl then [] else [[34]]
theorem dall_lo {F : List Us} {k : Nat} (h : FOk F k) (cl : Bool) : ∀ u ∈ Dall F cl, Lod u = true := by
  intro u hu
  unfold Dall at hu
  cases cl with
  | true =>
    obtain ⟨us, hus, hu⟩ := List.mem_flatMap.mp hu
    exact dul_lo (h.un us hus).un u hu
  | false => cases List.mem_singleton.mp hu; decide +kernel
theorem vlu_len {F : List Us} {k : Nat} (h : FOk F k) : ∀ us ∈ F, (vlu us).length ≤ 91 := by
  intro us hus
  have := (h.un us hus).len
  unfold vlu
  rw [List.length_append]
  simp only [List.length_cons, List.length_nil]
  omega
theorem flat_len (F : List Us) (h : ∀ us ∈ F, (vlu us).length ≤ 91) : (F.flatMap fun us => vlu us ++ [44, 32]).length ≤ 93 * F.length := by
  induction F with
  | nil => simp
  | cons f F ih =>
    have h1 := ih fun u hu => h u (List.mem_cons_of_mem _ hu)
    have h2 := h f (List.mem_cons_self ..)
    rw [List.flatMap_cons, List.length_append, List.length_append, List.length_cons]
    simp only [List.length_cons, List.length_nil]
    omega
theorem reads_all {F : List Us} {k : Nat} (h : FOk F k) (hk : k ≤ 3) (cl : Bool) {Q : Sl → En → Prop} (q : ∀ a, Q (.dat (.tuple ((Dall F cl).map duD))) [a]) :
    Ok (S_read_directives [.dat (.tuple (pr (fdsF F ++ (cls cl).map fun l => (nCc, l))))]) Q := by
  have hv := vals_fds F (cls cl)
  have hlen := vlu_len h
  have hn : (fdsF F ++ (cls cl).map fun l => (nCc, l)).length < 100 := by
    have h1 := h.n
    have : (cls cl).length ≤ 1 := by cases cl <;> simp [cls]
    unfold fdsF
    rw [List.length_append, List.length_map, List.length_cons, List.length_map]
    omega
  have hb : ∀ p ∈ fdsF F ++ (cls cl).map fun l => (nCc, l), p.2.length ≤ 100 := by
    intro p hp
    rcases List.mem_append.mp hp with hp | hp
    · rcases List.mem_cons.mp hp with rfl | hp
      · decide
      · obtain ⟨us, hus, rfl⟩ := List.mem_map.mp hp
        have := hlen us hus
        show (vlu us).length ≤ 100
        omega
    · obtain ⟨l, hl, rfl⟩ := List.mem_map.mp hp
      cases cl with
      | true => cases hl
      | false => cases List.mem_singleton.mp hl; decide
  have hfl := h.n
  cases cl with
  | true =>
    have ec : cls true = [] := rfl
    rw [ec, List.map_nil, List.append_nil] at hv hn hb ⊢
    rw [List.append_nil] at hv
    rcases List.eq_nil_or_concat F with rfl | ⟨G, us, eG⟩
    · exact reads_none hn hb hv q
    · rw [List.concat_eq_append] at eG
      subst eG
      have hG : ∀ g ∈ G, ∀ u ∈ g, u ∈ UN := fun g hg => (h.un g (List.mem_append_left _ hg)).un
      have hu : ∀ u ∈ us, u ∈ UN := (h.un us (List.mem_append_right _ (List.mem_cons_self ..))).un
      have jo := joined_ok G us [] hG hu (by decide)
      have hj : joinOfV (valsOfV nCc (fdsF (G ++ [us]))) = .str (T ((G.flatMap fun us => vlu us ++ [44, 32]) ++ vlu us)) := by
        rw [hv, joinV _ (by simp), List.map_append, List.map_cons, List.map_nil, inter_snoc]
      have hGl := flat_len G fun u hu => hlen u (List.mem_append_left _ hu)
      have hul := hlen us (List.mem_append_right _ (List.mem_cons_self ..))
      rw [List.length_append] at hfl
      simp only [List.length_cons, List.length_nil] at hfl
      refine reads_str hn hb hj (by rw [List.length_append]; omega) (fun z => ?_) fun _ => ⟨jo.ok, fun a => ?_⟩
      · have := jo.q
        unfold CU at z
        rw [z] at this
        cases this
      · have e : Dall (G ++ [us]) true = G.flatMap dul ++ dul us := by unfold Dall; simp
        have := q a
        rw [e] at this
        unfold CU
        rw [jo.dp]
        exact this
  | false =>
    have ec : cls false = [[34]] := rfl
    rw [ec] at hv hn hb ⊢
    have oo := open_ok F [] (fun g hg => (h.un g hg).un) (by decide)
    have hj : joinOfV (valsOfV nCc (fdsF F ++ [[34]].map fun l => (nCc, l))) = .str (T ((F.flatMap fun us => vlu us ++ [44, 32]) ++ [34])) := by
      rw [hv, joinV _ (by simp), inter_snoc]
    have hGl := flat_len F hlen
    refine reads_str hn hb hj (by rw [List.length_append]; simp only [List.length_cons, List.length_nil]; omega) (fun _ a => q a) fun z => ?_
    unfold CU at z
    rw [oo] at z
    cases z
end ownanswer_k66_directives
namespace ownanswer_k66_directives
open PySem PySem.Spec L2 Fw
local macro_rules | `(tactic| simp only [walkA, $xs,*] $[$l:location]?) => `(tactic| simp only [ok_some, ok_none, okV_some, okV_none, ↓okV_if, ↓ok_if, ↓ok_ret, ↓ok_bnd, ↓ok_lft, ↓ok_bin, ↓ok_una, ↓ok_binL, ↓ok_unaL, ↓ok_mny, ↓ok_rdD, ↓ok_rdO, ↓ok_rdA, ↓ok_toB, ↓ok_sAnd, ↓ok_sOr, ↓ok_sNot, ↓ok_vAnd, ↓ok_vOr, ↓ok_sIf, ↓ok_chn, ↓ok_sNil, ↓ok_sCons, ↓ok_dTup, ↓ok_dLst, ↓ok_m0S, ↓ok_m1S, ↓ok_m1L, ↓ok_ixO, ↓ok_sPart, ↓ok_sSl, ↓ok_tupO, ↓ok_sItems, ↓ok_sScr, ↓ok_sEnum, ↓ok_sRng1, ↓ok_sRng2, ↓ok_seqS, ↓ok_nxt, ↓ok_brkS, ↓ok_cntS, ↓ok_retN, ↓ok_drpS, ↓ok_asg, ↓ok_asgL, ↓ok_asgG, ↓ok_augS, ↓ok_ifS, ↓ok_retD, ↓ok_retL, ↓ok_retO, ↓ok_appO, ↓ok_setO, ↓ok_extO, ↓ok_popS, ↓ok_forS, ↓ok_forL_nil, ↓ok_lcS, ↓ok_lcL_nil, ↓okV_callD, ↓okV_callV, ↓ok_callM, ↓ok_asD, ↓ok_asL, ↓ok_callS, ↓ok_runF, ↓ok_rplS, ↓ok_tupA, ↓ok_strM, ↓ok_chn3, own?, toN, toT, toNs, wipE, bakE, stp_nx, stp_ct, stp_bk, stp_rt, Fw.collect, ok_yesS, List.getElem?_cons_zero, List.getElem?_cons_succ, List.set_cons_zero, List.set_cons_succ, List.map_cons, List.map_nil, List.length_cons, List.length_nil, List.cons_append, List.nil_append, List.replicate_succ, List.replicate_zero, Nat.reduceAdd, Nat.reduceSub, Nat.reduceLeDiff, Nat.reduceLT, Nat.reduceEqDiff, Int.reduceLT, Int.reduceLE, Int.reduceNeg, Int.reducePow, Int.reduceEq, Option.isSome_some, Option.map_some, Option.map_none, true_and, and_true, if_true, if_false, ite_true, ite_false, Bool.false_eq_true, reduceIte, reduceCtorEq, gAdd_ii, gAdd_ss, gAdd_tt, gSub_ii, gMul_ii, gDiv_ii, gMod_ii, gNeg_i, gLt_ii, gGt_ii, gGe_ii, gLe_ii, eqv_ii, eqv_ss, eqv_bb, eqv_nn, eqv_ni, eqv_in, eqv_ns, eqv_sn, eqv_nb, eqv_bn, eqv_is, eqv_si, eqv_nt, eqv_tn, eqv_nl, eqv_ln, eqv_tt, eqv_ll, eqvA_nn, eqvA_cc, eqvA_nc, eqvA_cn, gEq_ii, gEq_ss, gEq_bb, gEq_nn, gEq_in, gEq_ni, gEq_sn, gEq_ns, gEq_si, gEq_is, gNe_ii, gNe_ss, gNe_bb, gNe_nn, gNot_b, gIsN_n, gIsN_i, gIsN_b, gIsN_s, gIsN_t, gIsN_l, gNotN_n, gNotN_i, gNotN_b, gNotN_s, gNotN_t, gNotN_l, gIx_l, gIx_t, gIx_s, gLen_s, gLen_l, gLen_t, gAbs_i, gInt_i, gInt_b, gInt_s, gOrd_sign, gDivmod_ii, gStr_i, gStr_s, gTuple_l, gTuple_t, gStrip_s, gLstrip_s, gSplit_s, gPartition_s, gJoin_m, gCat_ll, gSl_s, gSl_t, gSl_l, itemsOf_l, itemsOf_t, itemsOf_s, ofString_inj, cMul_r, cMul_l, ixN_lit, atI_lit, atI_m1, cast_lit, String.reduceEq, decide_true, decide_false, Int.reduceSub, Int.reduceAdd, Int.reduceMul, Int.reduceToNat, T_toList, T_len, T_app, T_inj, T_sign, T_cut, T_signs, T_strip, T_empty, gIn_T, gNin_T, gLjust_T, lt_0, lt_1, lt_2, lt_3, lt_4, lt_5, lt_6, lt_7, lt_8, lt_9, lt_10, lt_11, lt_12, lt_13, lt_14, lt_15, lt_16, lt_17, lt_18, lt_19, lt_20, lt_21, lt_22, lt_23, lt_24, lt_25, lt_26, lt_27, lt_28, lt_29, lt_30, lt_31, lt_32, lt_33, lt_34, lt_35, lt_36, lt_37, lt_38, lt_39, lt_40, lt_41, lt_42, lt_43, lt_44, lt_45, lt_46, $xs,*] $[$l:location]?)
local macro_rules | `(tactic| simp only [walkA] $[$l:location]?) => `(tactic| simp only [ok_some, ok_none, okV_some, okV_none, ↓okV_if, ↓ok_if, ↓ok_ret, ↓ok_bnd, ↓ok_lft, ↓ok_bin, ↓ok_una, ↓ok_binL, ↓ok_unaL, ↓ok_mny, ↓ok_rdD, ↓ok_rdO, ↓ok_rdA, ↓ok_toB, ↓ok_sAnd, ↓ok_sOr, ↓ok_sNot, ↓ok_vAnd, ↓ok_vOr, ↓ok_sIf, ↓ok_chn, ↓ok_sNil, ↓ok_sCons, ↓ok_dTup, ↓ok_dLst, ↓ok_m0S, ↓ok_m1S, ↓ok_m1L, ↓ok_ixO, ↓ok_sPart, ↓ok_sSl, ↓ok_tupO, ↓ok_sItems, ↓ok_sScr, ↓ok_sEnum, ↓ok_sRng1, ↓ok_sRng2, ↓ok_seqS, ↓ok_nxt, ↓ok_brkS, ↓ok_cntS, ↓ok_retN, ↓ok_drpS, ↓ok_asg, ↓ok_asgL, ↓ok_asgG, ↓ok_augS, ↓ok_ifS, ↓ok_retD, ↓ok_retL, ↓ok_retO, ↓ok_appO, ↓ok_setO, ↓ok_extO, ↓ok_popS, ↓ok_forS, ↓ok_forL_nil, ↓ok_lcS, ↓ok_lcL_nil, ↓okV_callD, ↓okV_callV, ↓ok_callM, ↓ok_asD, ↓ok_asL, ↓ok_callS, ↓ok_runF, ↓ok_rplS, ↓ok_tupA, ↓ok_strM, ↓ok_chn3, own?, toN, toT, toNs, wipE, bakE, stp_nx, stp_ct, stp_bk, stp_rt, Fw.collect, ok_yesS, List.getElem?_cons_zero, List.getElem?_cons_succ, List.set_cons_zero, List.set_cons_succ, List.map_cons, List.map_nil, List.length_cons, List.length_nil, List.cons_append, List.nil_append, List.replicate_succ, List.replicate_zero, Nat.reduceAdd, Nat.reduceSub, Nat.reduceLeDiff, Nat.reduceLT, Nat.reduceEqDiff, Int.reduceLT, Int.reduceLE, Int.reduceNeg, Int.reducePow, Int.reduceEq, Option.isSome_some, Option.map_some, Option.map_none, true_and, and_true, if_true, if_false, ite_true, ite_false, Bool.false_eq_true, reduceIte, reduceCtorEq, gAdd_ii, gAdd_ss, gAdd_tt, gSub_ii, gMul_ii, gDiv_ii, gMod_ii, gNeg_i, gLt_ii, gGt_ii, gGe_ii, gLe_ii, eqv_ii, eqv_ss, eqv_bb, eqv_nn, eqv_ni, eqv_in, eqv_ns, eqv_sn, eqv_nb, eqv_bn, eqv_is, eqv_si, eqv_nt, eqv_tn, eqv_nl, eqv_ln, eqv_tt, eqv_ll, eqvA_nn, eqvA_cc, eqvA_nc, eqvA_cn, gEq_ii, gEq_ss, gEq_bb, gEq_nn, gEq_in, gEq_ni, gEq_sn, gEq_ns, gEq_si, gEq_is, gNe_ii, gNe_ss, gNe_bb, gNe_nn, gNot_b, gIsN_n, gIsN_i, gIsN_b, gIsN_s, gIsN_t, gIsN_l, gNotN_n, gNotN_i, gNotN_b, gNotN_s, gNotN_t, gNotN_l, gIx_l, gIx_t, gIx_s, gLen_s, gLen_l, gLen_t, gAbs_i, gInt_i, gInt_b, gInt_s, gOrd_sign, gDivmod_ii, gStr_i, gStr_s, gTuple_l, gTuple_t, gStrip_s, gLstrip_s, gSplit_s, gPartition_s, gJoin_m, gCat_ll, gSl_s, gSl_t, gSl_l, itemsOf_l, itemsOf_t, itemsOf_s, ofString_inj, cMul_r, cMul_l, ixN_lit, atI_lit, atI_m1, cast_lit, String.reduceEq, decide_true, decide_false, Int.reduceSub, Int.reduceAdd, Int.reduceMul, Int.reduceToNat, T_toList, T_len, T_app, T_inj, T_sign, T_cut, T_signs, T_strip, T_empty, gIn_T, gNin_T, gLjust_T, lt_0, lt_1, lt_2, lt_3, lt_4, lt_5, lt_6, lt_7, lt_8, lt_9, lt_10, lt_11, lt_12, lt_13, lt_14, lt_15, lt_16, lt_17, lt_18, lt_19, lt_20, lt_21, lt_22, lt_23, lt_24, lt_25, lt_26, lt_27, lt_28, lt_29, lt_30, lt_31, lt_32, lt_33, lt_34, lt_35, lt_36, lt_37, lt_38, lt_39, lt_40, lt_41, lt_42, lt_43, lt_44, lt_45, lt_46] $[$l:location]?)

open ownanswer_k51_lists_and_joined_values (ts pr Lo LoP valsOfV joinOfV vals_okV join_okV CU wW split_ok cutF cutF_len strOk_T)
theorem isi_t {xs : List PyData} : gIsi "tuple" (.tuple xs) = some (.bool true) := rfl
def N8 : List (List Nat) := [[109, 97, 120, 45, 97, 103, 101], [110, 111, 45, 115, 116, 111, 114, 101], [110, 111, 110, 101], [122], [109, 105, 110, 45, 102, 114, 101, 115, 104], [109, 97, 120, 45, 115, 116, 97, 108, 101], [111, 110, 108, 121, 45, 105, 102, 45, 99, 97, 99, 104, 101, 100], [109, 117, 115, 116, 45, 114, 101, 118, 97, 108, 105, 100, 97, 116, 101]]
theorem n8_low : ∀ n ∈ N8, gLower (T n) = some (.str (T n)) := by
  intro n hn
  exact okT_t (List.all_eq_true.mp (by decide +kernel : (N8.all fun n => okT (gLower (T n)) n) = true) n hn)
def TX8 : List (Option (List Nat)) := [some [50, 49, 52, 55, 52, 56, 51, 54, 52, 55], some [50, 49, 52, 55, 52, 56, 51, 54, 52, 56], some [], some [43, 49], some [49, 32], none, some [49, 46, 53], some [48, 48, 48, 48, 48, 48, 48, 48, 48, 48, 48, 48, 48, 48, 48, 48, 48, 48, 48, 49]]
def eqO (a b : Option (Sl × En)) : Bool := match a, b with
  | some (.dat .none, _), some (.dat .none, _) => true
  | some (.dat (.int i), _), some (.dat (.int j), _) => decide (i = j)
  | _, _ => false
theorem eqO_t {a b : Option (Sl × En)} (h : eqO a b = true) : ∃ o, (∀ Q : Sl → En → Prop, (∀ E, Q (.dat (oD o)) E) → Ok a Q) ∧ ∀ Q : Sl → En → Prop, (∀ E, Q (.dat (oD o)) E) → Ok b Q := by
  unfold eqO at h
  split at h
  · exact ⟨none, fun Q q => ⟨_, _, rfl, q _⟩, fun Q q => ⟨_, _, rfl, q _⟩⟩
  · rename_i i E1 j E2
    have e := of_decide_eq_true h
    subst e
    exact ⟨some i, fun Q q => ⟨_, _, rfl, q _⟩, fun Q q => ⟨_, _, rfl, q _⟩⟩
  · cases h
theorem tx8_all : (TX8.all fun o => eqO (S_seconds [.dat (ovD o)]) (S__law_seconds [.dat (ovD o)])) = true := by decide +kernel
theorem tx_ok {l : List Nat} (h : dg l) (hne : l ≠ []) (hl : l.length ≤ 100) {o : Option (List Nat)} (ho : o ∈ some l :: TX8) : ∃ r, (∀ Q : Sl → En → Prop, (∀ E, Q (.dat (oD r)) E) → Ok (S_seconds [.dat (ovD o)]) Q) ∧ ∀ Q : Sl → En → Prop, (∀ E, Q (.dat (oD r)) E) → Ok (S__law_seconds [.dat (ovD o)]) Q := by
  rcases List.mem_cons.mp ho with rfl | ho
  · exact ⟨secZ l, fun Q q => seconds_ok h hne hl fun a => q _, fun Q q => lsec_ok h hne hl fun a => q _⟩
  · exact eqO_t (List.all_eq_true.mp tx8_all o ho)
theorem find_filter (D : List Du) (n : List Nat) : (D.filter fun u => decide (u.1 = n)).head? = D.find? fun u => decide (u.1 = n) := List.head?_filter ..
theorem ix_T {w : List Nat} {r : Int} (h0 : 0 ≤ r) (h1 : r < w.length) : ∃ c, c ∈ w ∧ atI w r = some c := by
  obtain ⟨k, rfl⟩ := Int.eq_ofNat_of_zero_le h0
  have hk : k < w.length := by omega
  exact ⟨w[k], List.getElem_mem hk, by rw [Fw.atI_nat, List.getElem?_eq_getElem hk]⟩
theorem signs_of : ∀ ys : List PyData, (∀ y ∈ ys, ∃ c : Nat, (48 ≤ c ∧ c ≤ 57) ∧ y = .str (T [c])) → ∃ l : List Nat, dg l ∧ l.length = ys.length ∧ ys = (l.map fun c => T [c]).map .str
  | [], _ => ⟨[], (fun _ h => nomatch h), rfl, rfl⟩
  | y :: ys, h => by
    obtain ⟨l, h1, h2, h3⟩ := signs_of ys fun z hz => h z (List.mem_cons_of_mem _ hz)
    obtain ⟨c, hc, rfl⟩ := h y (List.mem_cons_self ..)
    exact ⟨c :: l, fun x hx => (List.mem_cons.mp hx).elim (fun e => e ▸ hc) (h1 x), by rw [List.length_cons, List.length_cons, h2], by rw [h3]; rfl⟩
theorem join_signs (l : List Nat) : Txt.join (T []) (l.map fun c => T [c]) = T l := by
  have e : (l.map fun c => T [c]) = (l.map fun c => [c]).map T := by rw [List.map_map]; rfl
  rw [e, T_join]
  congr 1
  rcases List.eq_nil_or_concat l with rfl | ⟨g, c, el⟩
  · rfl
  · rw [List.concat_eq_append] at el
    subst el
    rw [List.map_append, List.map_cons, List.map_nil, inter_snoc]
    congr 1
    clear e
    induction g with
    | nil => rfl
    | cons x g ih => rw [List.flatMap_cons, List.append_nil, ih]; rfl
theorem sum_signs : ∀ l : List Nat, ((l.map fun c => T [c]).map (·.length)).sum = l.length
  | [] => rfl
  | c :: l => by
    have := sum_signs l
    simp only [List.map_cons, List.sum_cons, this, T_len, List.length_cons, List.length_nil]
    omega
section
variable {ns : List Int} {Q : Fl → En → Prop}
abbrev TQ (ns : List Int) (Q : Fl → En → Prop) : Prop := ∀ x1 x2 x3 x4 x5 x6 x7 x8 x9 x10 x11 x12 x13 x14 x15, Q (.rt (.dat (.bool true))) [.scr ns, x1, x2, x3, x4, x5, x6, x7, x8, x9, x10, x11, x12, x13, x14, x15]
theorem t11 {l : List Nat} (hl : dg l) (hne : l ≠ []) (hll : l.length ≤ 100) (q : TQ ns Q) {x1 x2 x3 x4 x5 x6 x7 x9 x10 x11 x12 x13 x14 x15 : Sl} : Ok (T_law_11 [.scr ns, x1, x2, x3, x4, x5, x6, x7, .dat (.str (T l)), x9, x10, x11, x12, x13, x14, x15]) Q := by
  have hs := sizeLine_eq
  simp only [walkA, T_law_11]
  refine ⟨by omega, ?_⟩
  refine forL_inv' (fun E => ∃ x9 x12 x13, E = [.scr ns, x1, x2, x3, x4, x5, x6, x7, .dat (.str (T l)), x9, x10, x11, x12, x13, x14, x15]) _ _ _ ⟨_, _, _, rfl⟩ ?_ ?_
  · rintro z hz E ⟨x9, x12, x13, rfl⟩
    have hz2 : ∃ o, o ∈ some l :: TX8 ∧ z = ovD o := by
      have e : [PyData.str (T l), .str (T [50, 49, 52, 55, 52, 56, 51, 54, 52, 55]), .str (T [50, 49, 52, 55, 52, 56, 51, 54, 52, 56]), .str (T []), .str (T [43, 49]), .str (T [49, 32]), .none, .str (T [49, 46, 53]), .str (T [48, 48, 48, 48, 48, 48, 48, 48, 48, 48, 48, 48, 48, 48, 48, 48, 48, 48, 48, 49])] = (some l :: TX8).map ovD := rfl
      rw [e] at hz
      obtain ⟨o, ho, rfl⟩ := List.mem_map.mp hz
      exact ⟨o, ho, rfl⟩
    obtain ⟨o, ho, rfl⟩ := hz2
    obtain ⟨r, r1, r2⟩ := tx_ok hl hne hll ho
    simp only [walkA, L_law_4]
    refine r1 _ fun E => ?_
    simp only [walkA, T_law_9]
    refine r2 _ fun E => ?_
    cases r with
    | none =>
      simp only [walkA, oD, T_law_8, stp]
      exact ⟨_, _, _, rfl⟩
    | some k =>
      simp only [walkA, oD, T_law_8, stp, Bool.not_true]
      exact ⟨_, _, _, rfl⟩
  · rintro E ⟨x9, x12, x13, rfl⟩
    simp only [walkA, T_law_10]
    exact q _ _ _ _ _ _ _ _ _ _ _ _ _ _ _
theorem t12 {d : List PyData} (hd : DrawOk d) (q : TQ ns Q) {x2 x3 x4 x5 x6 x7 x8 x9 x10 x11 x12 x13 x14 x15 : Sl} (h5 : ∀ xs, x5 ≠ .own xs) : Ok (T_law_12 [.scr ns, .own d, x2, x3, x4, x5, x6, x7, x8, x9, x10, x11, x12, x13, x14, x15]) Q := by
  have hs := sizeLine_eq
  simp only [walkA, T_law_12, tk]
  refine ⟨by omega, take_ok hd (by omega) (by omega) fun r d1 r0 r1 hd1 => ?_⟩
  obtain ⟨m, hm, em⟩ := at_I (ls := [1, 5, 9, 10, 11, 20, 21, 22]) r0 r1
  have hm2 : 1 ≤ m ∧ m ≤ 22 := by simp only [List.mem_cons, List.not_mem_nil, or_false] at hm; omega
  simp only [List.map_cons, List.map_nil] at em
  simp only [walkA, em]
  refine ⟨by omega, by simp [rngL]; omega, ?_⟩
  refine lcL_all (fun E => ∃ d', DrawOk d' ∧ E = [.scr ns, .own d', x2, x3, x4, x5, x6, x7, x8, x9, x10, x11, x12, x13, x14, x15]) (fun y => ∃ c : Nat, (48 ≤ c ∧ c ≤ 57) ∧ y = .str (T [c])) _ _ _ ⟨d1, hd1, rfl⟩ ?_ ?_
  · rintro z hz E ⟨d', hd', rfl⟩
    unfold turn
    cases x5 with
    | own xs => exact absurd rfl (h5 xs)
    | _ =>
      simp only [walkA, C_law_3, tk]
      refine take_ok hd' (by omega) (by omega) fun r d2 r0 r1 h2 => ?_
      obtain ⟨c, hc, ec⟩ := ix_T (w := [48, 49, 50, 51, 52, 53, 54, 55, 56, 57]) r0 r1
      simp only [walkA, ec]
      refine ⟨by omega, ⟨d2, h2, rfl⟩, _, rfl, c, ?_, rfl⟩
      simp only [List.mem_cons, List.not_mem_nil, or_false] at hc
      omega
  · rintro ys E hy hp ⟨d', hd', rfl⟩
    obtain ⟨l, l1, l2, l3⟩ := signs_of ys hp
    have hyl : ys.length = m.toNat := by rw [hy]; simp [rngL]
    have hsum := sum_signs l
    have hne : l ≠ [] := fun z => by rw [z] at l2; simp only [List.length_nil] at l2; omega
    subst l3
    simp only [walkA, gJoin_m, join_signs, hsum]
    refine ⟨by omega, ?_⟩
    exact t11 l1 hne (by omega) q
theorem t13 {D : List Du} (hD : ∀ u ∈ D, Lod u = true) (hDl : D.length ≤ 100) {d : List PyData} (hd : DrawOk d) (q : TQ ns Q) {x2 x4 x5 x7 x8 x9 x10 x11 x12 x13 x14 : Sl} (h5 : ∀ xs, x5 ≠ .own xs) : Ok (T_law_13 [.scr ns, .own d, x2, .dat (.list (D.map duD)), x4, x5, .dat (.tuple (D.map duD)), x7, x8, x9, x10, x11, x12, x13, x14, .un]) Q := by
  have hs := sizeLine_eq
  simp only [walkA, T_law_13]
  refine ⟨by omega, ?_⟩
  refine forL_inv' (fun E => ∃ x7 x11, E = [.scr ns, .own d, x2, .dat (.list (D.map duD)), x4, x5, .dat (.tuple (D.map duD)), x7, x8, x9, x10, x11, x12, x13, x14, .un]) _ _ _ ⟨_, _, rfl⟩ ?_ ?_
  · rintro z hz E ⟨x7, x11, rfl⟩
    have hz2 : ∃ n, n ∈ N8 ∧ z = .str (T n) := by
      obtain ⟨o, ho, rfl⟩ := List.mem_map.mp (show z ∈ N8.map fun n => PyData.str (T n) from hz)
      exact ⟨o, ho, rfl⟩
    obtain ⟨n, hn, rfl⟩ := hz2
    simp only [walkA, L_law_3, List.length_map]
    refine ⟨by omega, ?_⟩
    refine lcL_map (fun u : Du => duD u) (fun u => duD u) (fun u => decide (u.1 = n)) D _ (fun u hu => ?_) ?_
    · unfold turn duD
      simp only [walkA, C_law_1, C_law_2]
      by_cases hu1 : u.1 = n
      · simp only [walkA, hu1]
      · simp only [walkA, hu1]
    · simp only [walkA, T_law_7]
      refine dir_ok (n8_low n hn) fun a b => ?_
      have hff := find_filter D n
      have hlo : ∀ u ∈ D.filter (fun u => decide (u.1 = n)), Lod u = true := fun u hu => hD u (List.mem_filter.mp hu).1
      have hne := gNe_nil hlo
      have hfo : ∀ u, (D.find? fun u => decide (u.1 = n)) = some u → Lod u = true := fun u hu => hD u (List.mem_of_find?_eq_some hu)
      have hg := gNe_fo hfo
      generalize hE : D.filter (fun u => decide (u.1 = n)) = E at hff hlo hne
      rw [← hff] at hg ⊢
      cases E with
      | nil =>
        simp only [List.map_nil, List.isEmpty_nil, Bool.not_true] at hne
        simp only [List.head?_nil, FoD] at hg
        simp only [walkA, List.map_nil, List.head?_nil, hne, hg, stp]
        exact ⟨by omega, by omega, _, _, rfl⟩
      | cons u E =>
        have hdu : duD u = .tuple [.str (T u.1), ovD u.2] := rfl
        simp only [List.isEmpty_cons, Bool.not_false, List.map_cons, hdu] at hne
        simp only [List.head?_cons, FoD] at hg
        simp only [walkA, List.map_cons, List.head?_cons, hne, hdu, hg, stp]
        exact ⟨by omega, by omega, _, _, rfl⟩
  · rintro E ⟨x7, x11, rfl⟩
    exact t12 hd q h5
end
theorem t15 {F : List Us} {k : Nat} (hF : FOk F k) (hk : k ≤ 3) (cl : Bool) {ns : List Int} {Q : Fl → En → Prop} {d : List PyData} (hd : DrawOk d) (q : TQ ns Q) {x5 x7 x8 x9 x10 x11 x12 x13 x14 : Sl} (h5 : ∀ xs, x5 ≠ .own xs) :
    Ok (T_law_15 [.scr ns, .own d, .own (pr (fdsF F ++ (cls cl).map fun l => (nCc, l))), .dat (.list ((Dall F cl).map duD)), .dat (.bool cl), x5, .un, x7, x8, x9, x10, x11, x12, x13, x14, .un]) Q := by
  have hs := sizeLine_eq
  have hlo := dall_lo hF cl
  have hdl := dul_len hF
  have hDl : (Dall F cl).length ≤ 100 := by
    unfold Dall
    cases cl with
    | true => simp only [if_true]; omega
    | false => simp
  simp only [walkA, T_law_15]
  refine reads_all hF hk cl fun a => ?_
  simp only [walkA, T_law_14, isi_t, Bool.not_true, gNe_du hlo]
  exact t13 hlo hDl hd q h5
theorem law_true (ns : List Int) (h : ns.length ≤ 63) : ∃ outs, S_law [.scr ns] = some (.dat (.bool true), outs) := by
  have goal : Ok (S_law [.scr ns]) fun r _ => r = .dat (.bool true) := by
    have hs := sizeLine_eq
    unfold S_law
    rw [ok_runF]
    refine ⟨rfl, ?_⟩
    simp only [walkA, Y_law, dk]
    refine draw_ok h fun d hd => ?_
    simp only [walkA, T_law_21, T_law_20, T_law_19, T_law_18, tk]
    refine ⟨by omega, by omega, by omega, ?_⟩
    refine take_ok hd (by omega) (by omega) fun n d1 n0 n1 hd1 => ?_
    simp only [walkA]
    refine ⟨by omega, ?_⟩
    refine outer_ok (by omega) hd1 fun d2 F k x5 x9 x10 x14 hd2 hF hk h5 h9 => ?_
    have hFl : (fdsF F).length = 1 + k := by unfold fdsF; rw [List.length_cons, List.length_map, hF.n]; omega
    have hFn : (fdsF F).length ≤ 4 := by omega
    have e0 : ([99, 97, 99, 104, 101, 45, 99, 111, 110, 116, 114, 111, 108] : List Nat) = nCc := rfl
    have fin : ∀ (cl : Bool) (d : List PyData), DrawOk d → Ok (T_law_15 [.scr ns, .own d, .own (pr (fdsF F ++ (cls cl).map fun l => (nCc, l))), .dat (.list ((Dall F cl).map duD)), .dat (.bool cl), x5, .un, .un, .un, x9, x10, .un, .un, .un, x14, .un]) fun fl E => match fl with
        | .rt s => OkV (Fw.collect [Sl.scr ns] E) fun outs => s = .dat (.bool true)
        | .nx => OkV (Fw.collect [Sl.scr ns] E) fun outs => Sl.dat .none = .dat (.bool true)
        | _ => False := fun cl d hd => t15 hF hk cl hd (fun _ _ _ _ _ _ _ _ _ _ _ _ _ _ _ => by simp only [walkA]) h5
    have one := fin true
    have two := fin false
    have ec1 : fdsF F ++ (cls true).map (fun l => (nCc, l)) = fdsF F := List.append_nil _
    have ec2 : pr (fdsF F ++ (cls false).map fun l => (nCc, l)) = pr (fdsF F) ++ [PyData.tuple [.str (T nCc), .str (T [34])]] := (pr_app (ps := fdsF F) (n := nCc) (l := [34])).symm
    rw [ec1] at one
    rw [ec2] at two
    have ed1 : (Dall F true) = F.flatMap dul := rfl
    have ed2 : (Dall F false).map duD = [PyData.tuple [.str (T [110, 111, 45, 115, 116, 111, 114, 101]), .none]] := rfl
    rw [ed1] at one
    rw [ed2] at two
    show Ok (T_law_17 _) _
    simp only [walkA, T_law_17, List.length_map, hFl, tk]
    by_cases hk0 : ((1 + k : Nat) : Int) > 1
    · simp only [walkA, hk0, tk]
      refine take_ok hd2 (by omega) (by omega) fun r d3 r0 r1 hd3 => ?_
      by_cases hr : r = 0
      · simp only [walkA, hr, T_law_6, e0, List.length_map, T_law_16, Bool.not_false]
        refine ⟨by omega, by omega, by omega, by omega, ?_⟩
        exact two d3 hd3
      · simp only [walkA, hr, T_law_16, Bool.not_true]
        exact one d3 hd3
    · simp only [walkA, hk0, T_law_16, Bool.not_true]
      exact one d2 hd2
  obtain ⟨a, E, e, rfl⟩ := goal
  exact ⟨E, e⟩
end ownanswer_k66_directives
namespace ownanswer_k66_directives
open PySem PySem.Spec L2 Fw
open PyProof.Rows hiding St
def topS (i : Nat) : Stmt := PySem.Challenge.pw_ownanswer_k66_directives.main.body.getD i (.Pass ⟨0, 0, 0, 0⟩)
structure Blt (mg : Str → Option Value) : Prop where
  z : True
  b_abs : mg "abs" = none
  b_all : mg "all" = none
  b_enumerate : mg "enumerate" = none
  b_int : mg "int" = none
  b_isinstance : mg "isinstance" = none
  b_len : mg "len" = none
  b_min : mg "min" = none
  b_ord : mg "ord" = none
  b_range : mg "range" = none
  b_tuple : mg "tuple" = none
structure Cns (K : PySem.W.Frag) (mg : Str → Option Value) : Prop where
  z : True
  c_TOKEN_MARKS : Cn K mg "TOKEN_MARKS" (.tuple [(.int 33), (.int 35), (.int 36), (.int 38), (.int 39), (.int 42), (.int 43), (.int 45), (.int 46), (.int 94), (.int 95), (.int 96), (.int 124), (.int 126)])
  c_DIGITS : Cn K mg "DIGITS" (.str "0123456789")
  c_QUOTE : Cn K mg "QUOTE" (.str "\"")
  c_BACKSLASH : Cn K mg "BACKSLASH" (.str "\\")
  c_UNREADABLE : Cn K mg "UNREADABLE" (.tuple [(.tuple [(.str "no-store"), .none])])
  c_MOST_DIGITS : Cn K mg "MOST_DIGITS" (.int 20)
  c_MOST_SECONDS : Cn K mg "MOST_SECONDS" (.int 2147483648)
section
variable {P : Program} {w : World} {K : PySem.W.Frag} {mg : Str → Option Value} {base : Heap}
abbrev s_is_digit : Stmt := topS 3
theorem sc_is_digit : FnScope N_is_digit ["octet"] (defScope s_is_digit) := ⟨rfl, rfl, rfl, by decide +kernel, rfl, by decide +kernel, by decide +kernel⟩
theorem body_is_digit (B : Blt mg) (C : Cns K mg) (f : Addr) (cdv : Value) (A : Around) (outer : List Env) (s : Shared) (H : Hp) (E : XK) (hr : Room 0 (A.deeper (envOfC "is_digit" (defScope s_is_digit) s.heap.objs.size f cdv))) : PXS (cxOf CX0 P w K mg base N_is_digit "is_digit" (defScope s_is_digit) f cdv A outer s H E).nox 1 (defBody s_is_digit) Y_is_digit :=
  (pxs_one (pxs_ret (px_chle px_int (px_var (pv 0)) px_int)))
theorem cl_is_digit (B : Blt mg) (C : Cns K mg) (h : Fx K mg "is_digit" s_is_digit ["octet"]) : Cl P w K mg base 1 "is_digit" 1 S_is_digit :=
  h.cl fun f fd F => fn_ok F sc_is_digit fun cdv A outer s H E hr => body_is_digit B C  f cdv A outer s H E hr
abbrev s_is_letter : Stmt := topS 4
theorem sc_is_letter : FnScope N_is_letter ["octet"] (defScope s_is_letter) := ⟨rfl, rfl, rfl, by decide +kernel, rfl, by decide +kernel, by decide +kernel⟩
theorem body_is_letter (B : Blt mg) (C : Cns K mg) (f : Addr) (cdv : Value) (A : Around) (outer : List Env) (s : Shared) (H : Hp) (E : XK) (hr : Room 0 (A.deeper (envOfC "is_letter" (defScope s_is_letter) s.heap.objs.size f cdv))) : PXS (cxOf CX0 P w K mg base N_is_letter "is_letter" (defScope s_is_letter) f cdv A outer s H E).nox 1 (defBody s_is_letter) Y_is_letter :=
  (pxs_one (pxs_ret (px_or (px_chle px_int (px_var (pv 0)) px_int) (px_one (px_chle px_int (px_var (pv 0)) px_int)))))
theorem cl_is_letter (B : Blt mg) (C : Cns K mg) (h : Fx K mg "is_letter" s_is_letter ["octet"]) : Cl P w K mg base 1 "is_letter" 1 S_is_letter :=
  h.cl fun f fd F => fn_ok F sc_is_letter fun cdv A outer s H E hr => body_is_letter B C  f cdv A outer s H E hr
abbrev s_is_token_sign : Stmt := topS 5
theorem sc_is_token_sign : FnScope N_is_token_sign ["octet"] (defScope s_is_token_sign) := ⟨rfl, rfl, rfl, by decide +kernel, rfl, by decide +kernel, by decide +kernel⟩
theorem body_is_token_sign (B : Blt mg) (C : Cns K mg) (c_is_letter : Cl P w K mg base 1 "is_letter" 1 S_is_letter) (c_is_digit : Cl P w K mg base 1 "is_digit" 1 S_is_digit) (f : Addr) (cdv : Value) (A : Around) (outer : List Env) (s : Shared) (H : Hp) (E : XK) (hr : Room 1 (A.deeper (envOfC "is_token_sign" (defScope s_is_token_sign) s.heap.objs.size f cdv))) : PXS (cxOf CX0 P w K mg base N_is_token_sign "is_token_sign" (defScope s_is_token_sign) f cdv A outer s H E).nox 1 (defBody s_is_token_sign) Y_is_token_sign :=
  (pxs_one (pxs_ret (px_or (px_call c_is_letter (fun _ _ => run_len) hr (by decide) (by rfl) (pxa_cons (px_var (pv 0)) pxa_nil)) (px_or (px_call c_is_digit (fun _ _ => run_len) hr (by decide) (by rfl) (pxa_cons (px_var (pv 0)) pxa_nil)) (px_one (px_in hr (px_var (pv 0)) (px_gc (by rfl) C.c_TOKEN_MARKS) (.inl rfl)))))))
theorem cl_is_token_sign (B : Blt mg) (C : Cns K mg) (h : Fx K mg "is_token_sign" s_is_token_sign ["octet"]) (c_is_letter : Cl P w K mg base 1 "is_letter" 1 S_is_letter) (c_is_digit : Cl P w K mg base 1 "is_digit" 1 S_is_digit) : Cl P w K mg base 2 "is_token_sign" 1 S_is_token_sign :=
  h.cl fun f fd F => fn_ok F sc_is_token_sign fun cdv A outer s H E hr => body_is_token_sign B C c_is_letter c_is_digit f cdv A outer s H E hr
abbrev s_is_token : Stmt := topS 6
theorem sc_is_token : FnScope N_is_token ["text"] (defScope s_is_token) := ⟨rfl, rfl, rfl, by decide +kernel, rfl, by decide +kernel, by decide +kernel⟩
theorem body_is_token (B : Blt mg) (C : Cns K mg) (c_is_token_sign : Cl P w K mg base 2 "is_token_sign" 1 S_is_token_sign) (f : Addr) (cdv : Value) (A : Around) (outer : List Env) (s : Shared) (H : Hp) (E : XK) (hr : Room 2 (A.deeper (envOfC "is_token" (defScope s_is_token) s.heap.objs.size f cdv))) : PXS (cxOf CX0 P w K mg base N_is_token "is_token" (defScope s_is_token) f cdv A outer s H E).nox 1 (defBody s_is_token) Y_is_token :=
  (pxs_one (pxs_ret (px_and (px_gt (px_call1 call_len vu_len (by rfl) B.b_len Fw.boot_len (px_var (pv 0))) px_int (.inl rfl)) (px_one (px_call1 (cr_all rfl) vu_all (by rfl) B.b_all Fw.boot_all (PL.px (pl_lc (own := [("sign", 1)]) (ts := [1]) rfl sc_is_token.nd (blkOk_by (N := N_is_token) (sc := defScope s_is_token) (by decide +kernel)) (pxi_data (px_var (pv 0))) (fun _ _ _ _ _ => (pxg_name sc_is_token.nd rfl (by first | exact Or.inl rfl | exact Or.inr rfl))) (fun _ _ _ _ _ => pts_nil') (fun _ _ _ _ _ => (px_call c_is_token_sign (fun _ _ => run_len) hr (by decide) (by rfl) (pxa_cons (px_call1 call_ord vu_ord (by rfl) B.b_ord Fw.boot_ord (px_var (pv 1))) pxa_nil))) (by decide))))))))
theorem cl_is_token (B : Blt mg) (C : Cns K mg) (h : Fx K mg "is_token" s_is_token ["text"]) (c_is_token_sign : Cl P w K mg base 2 "is_token_sign" 1 S_is_token_sign) : Cl P w K mg base 3 "is_token" 1 S_is_token :=
  h.cl fun f fd F => fn_ok F sc_is_token fun cdv A outer s H E hr => body_is_token B C c_is_token_sign f cdv A outer s H E hr
abbrev s_is_digits : Stmt := topS 7
theorem sc_is_digits : FnScope N_is_digits ["text"] (defScope s_is_digits) := ⟨rfl, rfl, rfl, by decide +kernel, rfl, by decide +kernel, by decide +kernel⟩
theorem body_is_digits (B : Blt mg) (C : Cns K mg) (f : Addr) (cdv : Value) (A : Around) (outer : List Env) (s : Shared) (H : Hp) (E : XK) (hr : Room 0 (A.deeper (envOfC "is_digits" (defScope s_is_digits) s.heap.objs.size f cdv))) : PXS (cxOf CX0 P w K mg base N_is_digits "is_digits" (defScope s_is_digits) f cdv A outer s H E).nox 1 (defBody s_is_digits) Y_is_digits :=
  (pxs_one (pxs_ret (px_and (px_gt (px_call1 call_len vu_len (by rfl) B.b_len Fw.boot_len (px_var (pv 0))) px_int (.inl rfl)) (px_one (px_call1 (cr_all rfl) vu_all (by rfl) B.b_all Fw.boot_all (PL.px (pl_lc (own := [("sign", 1)]) (ts := [1]) rfl sc_is_digits.nd (blkOk_by (N := N_is_digits) (sc := defScope s_is_digits) (by decide +kernel)) (pxi_data (px_var (pv 0))) (fun _ _ _ _ _ => (pxg_name sc_is_digits.nd rfl (by first | exact Or.inl rfl | exact Or.inr rfl))) (fun _ _ _ _ _ => pts_nil') (fun _ _ _ _ _ => (px_in hr (px_var (pv 1)) (px_gc (by rfl) C.c_DIGITS) (.inl rfl))) (by decide))))))))
theorem cl_is_digits (B : Blt mg) (C : Cns K mg) (h : Fx K mg "is_digits" s_is_digits ["text"]) : Cl P w K mg base 1 "is_digits" 1 S_is_digits :=
  h.cl fun f fd F => fn_ok F sc_is_digits fun cdv A outer s H E hr => body_is_digits B C  f cdv A outer s H E hr
abbrev s_lower : Stmt := topS 8
theorem sc_lower : FnScope N_lower ["text"] (defScope s_lower) := ⟨rfl, rfl, rfl, by decide +kernel, rfl, by decide +kernel, by decide +kernel⟩
theorem body_lower (B : Blt mg) (C : Cns K mg) (f : Addr) (cdv : Value) (A : Around) (outer : List Env) (s : Shared) (H : Hp) (E : XK) (hr : Room 0 (A.deeper (envOfC "lower" (defScope s_lower) s.heap.objs.size f cdv))) : PXS (cxOf CX0 P w K mg base N_lower "lower" (defScope s_lower) f cdv A outer s H E).nox 1 (defBody s_lower) Y_lower :=
  (pxs_one (pxs_ret (px_lower (px_var (pv 0)))))
theorem cl_lower (B : Blt mg) (C : Cns K mg) (h : Fx K mg "lower" s_lower ["text"]) : Cl P w K mg base 1 "lower" 1 S_lower :=
  h.cl fun f fd F => fn_ok F sc_lower fun cdv A outer s H E hr => body_lower B C  f cdv A outer s H E hr
abbrev s_trimmed : Stmt := topS 9
theorem sc_trimmed : FnScope N_trimmed ["text"] (defScope s_trimmed) := ⟨rfl, rfl, rfl, by decide +kernel, rfl, by decide +kernel, by decide +kernel⟩
theorem body_trimmed (B : Blt mg) (C : Cns K mg) (f : Addr) (cdv : Value) (A : Around) (outer : List Env) (s : Shared) (H : Hp) (E : XK) (hr : Room 0 (A.deeper (envOfC "trimmed" (defScope s_trimmed) s.heap.objs.size f cdv))) : PXS (cxOf CX0 P w K mg base N_trimmed "trimmed" (defScope s_trimmed) f cdv A outer s H E).nox 1 (defBody s_trimmed) Y_trimmed :=
  (pxs_one (pxs_ret (px_strip (px_var (pv 0)) px_str)))
theorem cl_trimmed (B : Blt mg) (C : Cns K mg) (h : Fx K mg "trimmed" s_trimmed ["text"]) : Cl P w K mg base 1 "trimmed" 1 S_trimmed :=
  h.cl fun f fd F => fn_ok F sc_trimmed fun cdv A outer s H E hr => body_trimmed B C  f cdv A outer s H E hr
abbrev s_values : Stmt := topS 10
theorem sc_values : FnScope N_values ["fields", "name"] (defScope s_values) := ⟨rfl, rfl, rfl, by decide +kernel, rfl, by decide +kernel, by decide +kernel⟩
theorem body_values (B : Blt mg) (C : Cns K mg) (c_lower : Cl P w K mg base 1 "lower" 1 S_lower) (f : Addr) (cdv : Value) (A : Around) (outer : List Env) (s : Shared) (H : Hp) (E : XK) (hr : Room 1 (A.deeper (envOfC "values" (defScope s_values) s.heap.objs.size f cdv))) : PXS (cxOf CX0 P w K mg base N_values "values" (defScope s_values) f cdv A outer s H E).nox 2 (defBody s_values) Y_values :=
  (pxs_cons (pxs_asg sc_values.nd rfl (by first | exact Or.inl rfl | exact Or.inr rfl) (px_call c_lower (fun _ _ => run_len) hr (by decide) (by rfl) (pxa_cons (px_var (pv 1)) pxa_nil)))
  (pxs_one (pxs_retL (pl_lc (own := [("key", 3), ("value", 4)]) (ts := [3, 4]) rfl sc_values.nd (blkOk_by (N := N_values) (sc := defScope s_values) (by decide +kernel)) (pxi_data (px_var (pv 0))) (fun _ _ _ _ _ => (pxg_tup (is := [3, 4]) rfl (pgs_cons (pg_name (i := 3) sc_values.nd rfl (by first | exact Or.inl rfl | exact Or.inr rfl)) (pgs_cons (pg_name (i := 4) sc_values.nd rfl (by first | exact Or.inl rfl | exact Or.inr rfl)) pgs_nil)) rfl)) (fun _ _ _ _ _ => pts_one' (pt_eq' hr (px_var (pv 3)) (px_var (pv 2)) (.inl rfl))) (fun _ _ _ _ _ => (px_var (pv 4))) (by decide)))))
theorem cl_values (B : Blt mg) (C : Cns K mg) (h : Fx K mg "values" s_values ["fields", "name"]) (c_lower : Cl P w K mg base 1 "lower" 1 S_lower) : Cl P w K mg base 2 "values" 2 S_values :=
  h.cl fun f fd F => fn_ok F sc_values fun cdv A outer s H E hr => body_values B C c_lower f cdv A outer s H E hr
abbrev s_read_quoted : Stmt := topS 14
theorem sc_read_quoted : FnScope N_read_quoted ["text"] (defScope s_read_quoted) := ⟨rfl, rfl, rfl, by decide +kernel, rfl, by decide +kernel, by decide +kernel⟩
theorem body_read_quoted (B : Blt mg) (C : Cns K mg) (f : Addr) (cdv : Value) (A : Around) (outer : List Env) (s : Shared) (H : Hp) (E : XK) (hr : Room 0 (A.deeper (envOfC "read_quoted" (defScope s_read_quoted) s.heap.objs.size f cdv))) : PXS (cxOf CX0 P w K mg base N_read_quoted "read_quoted" (defScope s_read_quoted) f cdv A outer s H E).nox 1 (defBody s_read_quoted) Y_read_quoted :=
  (pxs_cons (pxs_if (PXW.pt (pw_or' (pt_lt' (px_call1 call_len vu_len (by rfl) B.b_len Fw.boot_len (px_var (pv 0))) px_int (.inl rfl)) (pw_or' (pt_ne' hr (px_ix (px_var (pv 0)) px_int) (px_gc (by rfl) C.c_QUOTE) (.inl rfl)) (pw_or1' (pt_ne' hr (px_ix (px_var (pv 0)) (px_neg px_int)) (px_gc (by rfl) C.c_QUOTE) (.inl rfl)))))) (pxs_one (pxs_ret px_non)) pxs_nil)
  (pxs_cons (pxs_asgL (by decide) sc_read_quoted.nd rfl (by first | exact Or.inl rfl | exact Or.inr rfl) (pl_lst pxa_nil))
  (pxs_cons (pxs_asg sc_read_quoted.nd rfl (by first | exact Or.inl rfl | exact Or.inr rfl) px_bl)
  (pxs_cons (pxs_for (ts := [3]) PassesOwn.never rfl (pxi_data (px_sl (px_var (pv 0)) (pxo_some px_int) (pxo_some (px_neg px_int)))) (pxg_name sc_read_quoted.nd rfl (by first | exact Or.inl rfl | exact Or.inr rfl)) (pxs_cons (pxs_if (PXW.pt (pw_and' (pt_eq' hr (px_var (pv 3)) (px_gc (by rfl) C.c_BACKSLASH) (.inl rfl)) (pw_and1' (pt_not' (pt_of_px (px_var (pv 2))))))) (pxs_cons (pxs_asg sc_read_quoted.nd rfl (by first | exact Or.inl rfl | exact Or.inr rfl) px_bl)
  (pxs_one pxs_cont)) pxs_nil)
  (pxs_cons (pxs_if (PXW.pt (pw_and' (pt_eq' hr (px_var (pv 3)) (px_gc (by rfl) C.c_QUOTE) (.inl rfl)) (pw_and1' (pt_not' (pt_of_px (px_var (pv 2))))))) (pxs_one (pxs_ret px_non)) pxs_nil)
  (pxs_cons (pxs_appO (pv 1) (px_var (pv 3)))
  (pxs_one (pxs_asg sc_read_quoted.nd rfl (by first | exact Or.inl rfl | exact Or.inr rfl) px_bl))))))
  (pxs_one (pxs_ret (px_if (pt_of_px (px_var (pv 2))) px_non (px_join px_str (px_own (pv 1))))))))))
theorem cl_read_quoted (B : Blt mg) (C : Cns K mg) (h : Fx K mg "read_quoted" s_read_quoted ["text"]) : Cl P w K mg base 1 "read_quoted" 1 S_read_quoted :=
  h.cl fun f fd F => fn_ok F sc_read_quoted fun cdv A outer s H E hr => body_read_quoted B C  f cdv A outer s H E hr
abbrev s__cut : Stmt := topS 15
theorem sc__cut : FnScope N__cut ["text", "mark"] (defScope s__cut) := ⟨rfl, rfl, rfl, by decide +kernel, rfl, by decide +kernel, by decide +kernel⟩
theorem body__cut (B : Blt mg) (C : Cns K mg) (f : Addr) (cdv : Value) (A : Around) (outer : List Env) (s : Shared) (H : Hp) (E : XK) (hr : Room 0 (A.deeper (envOfC "_cut" (defScope s__cut) s.heap.objs.size f cdv))) : PXS (cxOf CX0 P w K mg base N__cut "_cut" (defScope s__cut) f cdv A outer s H E).nox 2 (defBody s__cut) Y__cut :=
  (pxs_cons (pxs_asgL (by decide) sc__cut.nd rfl (by first | exact Or.inl rfl | exact Or.inr rfl) (pl_lst pxa_nil))
  (pxs_cons (pxs_asg sc__cut.nd rfl (by first | exact Or.inl rfl | exact Or.inr rfl) px_int)
  (pxs_cons (pxs_asg sc__cut.nd rfl (by first | exact Or.inl rfl | exact Or.inr rfl) px_bl)
  (pxs_cons (pxs_asg sc__cut.nd rfl (by first | exact Or.inl rfl | exact Or.inr rfl) px_bl)
  (pxs_cons (pxs_for (ts := [6, 7]) PassesOwn.never rfl (pxi_enum (by rfl) B.b_enumerate (px_var (pv 0))) (pxg_tup (is := [6, 7]) rfl (pgs_cons (pg_name (i := 6) sc__cut.nd rfl (by first | exact Or.inl rfl | exact Or.inr rfl)) (pgs_cons (pg_name (i := 7) sc__cut.nd rfl (by first | exact Or.inl rfl | exact Or.inr rfl)) pgs_nil)) rfl) (pxs_one (pxs_if (pt_of_px (px_var (pv 5))) (pxs_one (pxs_asg sc__cut.nd rfl (by first | exact Or.inl rfl | exact Or.inr rfl) px_bl)) (pxs_one (pxs_if (pt_eq' hr (px_var (pv 7)) (px_gc (by rfl) C.c_QUOTE) (.inl rfl)) (pxs_one (pxs_asg sc__cut.nd rfl (by first | exact Or.inl rfl | exact Or.inr rfl) (px_not (px_var (pv 4))))) (pxs_one (pxs_if (pt_eq' hr (px_var (pv 7)) (px_gc (by rfl) C.c_BACKSLASH) (.inl rfl)) (pxs_one (pxs_asg sc__cut.nd rfl (by first | exact Or.inl rfl | exact Or.inr rfl) (px_var (pv 4)))) (pxs_one (pxs_if (PXW.pt (pw_and' (pt_eq' hr (px_var (pv 7)) (px_var (pv 1)) (.inl rfl)) (pw_and1' (pt_not' (pt_of_px (px_var (pv 4))))))) (pxs_cons (pxs_appO (pv 2) (px_sl (px_var (pv 0)) (pxo_some (px_var (pv 3))) (pxo_some (px_var (pv 6)))))
  (pxs_one (pxs_asg sc__cut.nd rfl (by first | exact Or.inl rfl | exact Or.inr rfl) (px_add (px_var (pv 6)) px_int)))) pxs_nil)))))))))
  (pxs_cons (pxs_appO (pv 2) (px_sl (px_var (pv 0)) (pxo_some (px_var (pv 3))) pxo_none))
  (pxs_one (pxs_ret (px_if (pt_of_px (px_var (pv 4))) px_non (px_any (pv 2)))))))))))
theorem cl__cut (B : Blt mg) (C : Cns K mg) (h : Fx K mg "_cut" s__cut ["text", "mark"]) : Cl P w K mg base 1 "_cut" 2 S__cut :=
  h.cl fun f fd F => fn_ok F sc__cut fun cdv A outer s H E hr => body__cut B C  f cdv A outer s H E hr
abbrev s_split_list : Stmt := topS 16
theorem sc_split_list : FnScope N_split_list ["value"] (defScope s_split_list) := ⟨rfl, rfl, rfl, by decide +kernel, rfl, by decide +kernel, by decide +kernel⟩
theorem body_split_list (B : Blt mg) (C : Cns K mg) (c__cut : Cl P w K mg base 1 "_cut" 2 S__cut) (c_trimmed : Cl P w K mg base 1 "trimmed" 1 S_trimmed) (f : Addr) (cdv : Value) (A : Around) (outer : List Env) (s : Shared) (H : Hp) (E : XK) (hr : Room 1 (A.deeper (envOfC "split_list" (defScope s_split_list) s.heap.objs.size f cdv))) : PXS (cxOf CX0 P w K mg base N_split_list "split_list" (defScope s_split_list) f cdv A outer s H E).nox 1 (defBody s_split_list) Y_split_list :=
  (pxs_cons (pxs_asg sc_split_list.nd rfl (by first | exact Or.inl rfl | exact Or.inr rfl) (px_call c__cut (fun _ _ => run_len) hr (by decide) (by rfl) (pxa_cons (px_var (pv 0)) (pxa_cons px_str pxa_nil))))
  (pxs_cons (pxs_if (pt_isN' (px_var (pv 1))) (pxs_one (pxs_ret px_non)) pxs_nil)
  (pxs_cons (by first | exact pxs_lcD (own := [("part", 3)]) (ts := [3]) rfl sc_split_list.nd rfl rfl (sw_true rfl rfl rfl (by decide +kernel)) (blkOk_by (N := N_split_list) (sc := defScope s_split_list) (by decide +kernel)) (pxi_data (px_var (pv 1))) (fun _ _ _ _ _ => (pxg_name sc_split_list.nd rfl (by first | exact Or.inl rfl | exact Or.inr rfl))) (fun _ _ _ _ _ => pts_nil') (fun _ _ _ _ _ => (px_call c_trimmed (fun _ _ => run_len) hr (by decide) (by rfl) (pxa_cons (px_var (pv 3)) pxa_nil))) (by decide) | exact pxs_asg sc_split_list.nd rfl (by first | exact Or.inl rfl | exact Or.inr rfl) (PL.px (pl_lc (own := [("part", 3)]) (ts := [3]) rfl sc_split_list.nd (blkOk_by (N := N_split_list) (sc := defScope s_split_list) (by decide +kernel)) (pxi_data (px_var (pv 1))) (fun _ _ _ _ _ => (pxg_name sc_split_list.nd rfl (by first | exact Or.inl rfl | exact Or.inr rfl))) (fun _ _ _ _ _ => pts_nil') (fun _ _ _ _ _ => (px_call c_trimmed (fun _ _ => run_len) hr (by decide) (by rfl) (pxa_cons (px_var (pv 3)) pxa_nil))) (by decide))))
  (pxs_one (pxs_retL (pl_lc (own := [("part", 3)]) (ts := [3]) rfl sc_split_list.nd (blkOk_by (N := N_split_list) (sc := defScope s_split_list) (by decide +kernel)) (pxi_data (px_var (pv 2))) (fun _ _ _ _ _ => (pxg_name sc_split_list.nd rfl (by first | exact Or.inl rfl | exact Or.inr rfl))) (fun _ _ _ _ _ => pts_one' (pt_ne' hr (px_var (pv 3)) px_str (.inl rfl))) (fun _ _ _ _ _ => (px_var (pv 3))) (by decide)))))))
theorem cl_split_list (B : Blt mg) (C : Cns K mg) (h : Fx K mg "split_list" s_split_list ["value"]) (c__cut : Cl P w K mg base 1 "_cut" 2 S__cut) (c_trimmed : Cl P w K mg base 1 "trimmed" 1 S_trimmed) : Cl P w K mg base 2 "split_list" 1 S_split_list :=
  h.cl fun f fd F => fn_ok F sc_split_list fun cdv A outer s H E hr => body_split_list B C c__cut c_trimmed f cdv A outer s H E hr
abbrev s_join_values : Stmt := topS 17
theorem sc_join_values : FnScope N_join_values ["fields", "name"] (defScope s_join_values) := ⟨rfl, rfl, rfl, by decide +kernel, rfl, by decide +kernel, by decide +kernel⟩
theorem body_join_values (B : Blt mg) (C : Cns K mg) (c_values : Cl P w K mg base 2 "values" 2 S_values) (f : Addr) (cdv : Value) (A : Around) (outer : List Env) (s : Shared) (H : Hp) (E : XK) (hr : Room 2 (A.deeper (envOfC "join_values" (defScope s_join_values) s.heap.objs.size f cdv))) : PXS (cxOf CX0 P w K mg base N_join_values "join_values" (defScope s_join_values) f cdv A outer s H E).nox 2 (defBody s_join_values) Y_join_values :=
  (pxs_cons (pxs_asg sc_join_values.nd rfl (by first | exact Or.inl rfl | exact Or.inr rfl) (px_call c_values (fun _ _ => run_len) hr (by decide) (by rfl) (pxa_cons (px_var (pv 0)) (pxa_cons (px_var (pv 1)) pxa_nil))))
  (pxs_one (pxs_ret (px_if (pt_eq' hr (px_call1 call_len vu_len (by rfl) B.b_len Fw.boot_len (px_var (pv 2))) px_int (.inl rfl)) px_non (px_join px_str (px_var (pv 2)))))))
theorem cl_join_values (B : Blt mg) (C : Cns K mg) (h : Fx K mg "join_values" s_join_values ["fields", "name"]) (c_values : Cl P w K mg base 2 "values" 2 S_values) : Cl P w K mg base 3 "join_values" 2 S_join_values :=
  h.cl fun f fd F => fn_ok F sc_join_values fun cdv A outer s H E hr => body_join_values B C c_values f cdv A outer s H E hr
abbrev s__read_directive : Stmt := topS 22
theorem sc__read_directive : FnScope N__read_directive ["element"] (defScope s__read_directive) := ⟨rfl, rfl, rfl, by decide +kernel, rfl, by decide +kernel, by decide +kernel⟩
theorem body__read_directive (B : Blt mg) (C : Cns K mg) (c_is_token : Cl P w K mg base 3 "is_token" 1 S_is_token) (c_read_quoted : Cl P w K mg base 1 "read_quoted" 1 S_read_quoted) (c_lower : Cl P w K mg base 1 "lower" 1 S_lower) (f : Addr) (cdv : Value) (A : Around) (outer : List Env) (s : Shared) (H : Hp) (E : XK) (hr : Room 3 (A.deeper (envOfC "_read_directive" (defScope s__read_directive) s.heap.objs.size f cdv))) : PXS (cxOf CX0 P w K mg base N__read_directive "_read_directive" (defScope s__read_directive) f cdv A outer s H E).nox 1 (defBody s__read_directive) Y__read_directive :=
  (pxs_cons (pxs_asgG (px_partition (px_var (pv 0)) px_str) (pxg_tup (is := [2, 3, 4]) rfl (pgs_cons (pg_name (i := 2) sc__read_directive.nd rfl (by first | exact Or.inl rfl | exact Or.inr rfl)) (pgs_cons (pg_name (i := 3) sc__read_directive.nd rfl (by first | exact Or.inl rfl | exact Or.inr rfl)) (pgs_cons (pg_name (i := 4) sc__read_directive.nd rfl (by first | exact Or.inl rfl | exact Or.inr rfl)) pgs_nil))) rfl))
  (pxs_cons (pxs_if (pt_not' (pt_of_px (px_call c_is_token (fun _ _ => run_len) hr (by decide) (by rfl) (pxa_cons (px_var (pv 2)) pxa_nil)))) (pxs_one (pxs_ret px_non)) pxs_nil)
  (pxs_cons (pxs_if (pt_eq' hr (px_var (pv 3)) px_str (.inl rfl)) (pxs_one (pxs_ret (px_tup (pxa_cons (px_call c_lower (fun _ _ => run_len) hr (by decide) (by rfl) (pxa_cons (px_var (pv 2)) pxa_nil)) (pxa_cons px_non pxa_nil))))) pxs_nil)
  (pxs_cons (pxs_asg sc__read_directive.nd rfl (by first | exact Or.inl rfl | exact Or.inr rfl) (px_if (pt_of_px (px_call c_is_token (fun _ _ => run_len) hr (by decide) (by rfl) (pxa_cons (px_var (pv 4)) pxa_nil))) (px_var (pv 4)) (px_call c_read_quoted (fun _ _ => run_len) hr (by decide) (by rfl) (pxa_cons (px_var (pv 4)) pxa_nil))))
  (pxs_one (pxs_ret (px_if (pt_isN' (px_var (pv 1))) px_non (px_tup (pxa_cons (px_call c_lower (fun _ _ => run_len) hr (by decide) (by rfl) (pxa_cons (px_var (pv 2)) pxa_nil)) (pxa_cons (px_var (pv 1)) pxa_nil))))))))))
theorem cl__read_directive (B : Blt mg) (C : Cns K mg) (h : Fx K mg "_read_directive" s__read_directive ["element"]) (c_is_token : Cl P w K mg base 3 "is_token" 1 S_is_token) (c_read_quoted : Cl P w K mg base 1 "read_quoted" 1 S_read_quoted) (c_lower : Cl P w K mg base 1 "lower" 1 S_lower) : Cl P w K mg base 4 "_read_directive" 1 S__read_directive :=
  h.cl fun f fd F => fn_ok F sc__read_directive fun cdv A outer s H E hr => body__read_directive B C c_is_token c_read_quoted c_lower f cdv A outer s H E hr
abbrev s_read_directives : Stmt := topS 23
theorem sc_read_directives : FnScope N_read_directives ["fields"] (defScope s_read_directives) := ⟨rfl, rfl, rfl, by decide +kernel, rfl, by decide +kernel, by decide +kernel⟩
theorem body_read_directives (B : Blt mg) (C : Cns K mg) (c_join_values : Cl P w K mg base 3 "join_values" 2 S_join_values) (c_split_list : Cl P w K mg base 2 "split_list" 1 S_split_list) (c__read_directive : Cl P w K mg base 4 "_read_directive" 1 S__read_directive) (f : Addr) (cdv : Value) (A : Around) (outer : List Env) (s : Shared) (H : Hp) (E : XK) (hr : Room 4 (A.deeper (envOfC "read_directives" (defScope s_read_directives) s.heap.objs.size f cdv))) : PXS (cxOf CX0 P w K mg base N_read_directives "read_directives" (defScope s_read_directives) f cdv A outer s H E).nox 1 (defBody s_read_directives) Y_read_directives :=
  (pxs_cons (pxs_asg sc_read_directives.nd rfl (by first | exact Or.inl rfl | exact Or.inr rfl) (px_call c_join_values (fun _ _ => run_len) hr (by decide) (by rfl) (pxa_cons (px_var (pv 0)) (pxa_cons px_str pxa_nil))))
  (pxs_cons (pxs_asg sc_read_directives.nd rfl (by first | exact Or.inl rfl | exact Or.inr rfl) (px_if (pt_isN' (px_var (pv 1))) (PL.px (pl_lst pxa_nil)) (px_call c_split_list (fun _ _ => run_len) hr (by decide) (by rfl) (pxa_cons (px_var (pv 1)) pxa_nil))))
  (pxs_cons (pxs_if (pt_isN' (px_var (pv 2))) (pxs_one (pxs_ret (px_gc (by rfl) C.c_UNREADABLE))) pxs_nil)
  (pxs_cons (by first | exact pxs_lcD (own := [("part", 4)]) (ts := [4]) rfl sc_read_directives.nd rfl rfl (sw_true rfl rfl rfl (by decide +kernel)) (blkOk_by (N := N_read_directives) (sc := defScope s_read_directives) (by decide +kernel)) (pxi_data (px_var (pv 2))) (fun _ _ _ _ _ => (pxg_name sc_read_directives.nd rfl (by first | exact Or.inl rfl | exact Or.inr rfl))) (fun _ _ _ _ _ => pts_nil') (fun _ _ _ _ _ => (px_call c__read_directive (fun _ _ => run_len) hr (by decide) (by rfl) (pxa_cons (px_var (pv 4)) pxa_nil))) (by decide) | exact pxs_asg sc_read_directives.nd rfl (by first | exact Or.inl rfl | exact Or.inr rfl) (PL.px (pl_lc (own := [("part", 4)]) (ts := [4]) rfl sc_read_directives.nd (blkOk_by (N := N_read_directives) (sc := defScope s_read_directives) (by decide +kernel)) (pxi_data (px_var (pv 2))) (fun _ _ _ _ _ => (pxg_name sc_read_directives.nd rfl (by first | exact Or.inl rfl | exact Or.inr rfl))) (fun _ _ _ _ _ => pts_nil') (fun _ _ _ _ _ => (px_call c__read_directive (fun _ _ => run_len) hr (by decide) (by rfl) (pxa_cons (px_var (pv 4)) pxa_nil))) (by decide))))
  (pxs_one (pxs_ret (px_callT1 call_tuple_of vu_tuple (by rfl) B.b_tuple Fw.boot_tuple (PL.px (pl_lc (own := [("pair", 5)]) (ts := [5]) rfl sc_read_directives.nd (blkOk_by (N := N_read_directives) (sc := defScope s_read_directives) (by decide +kernel)) (pxi_data (px_var (pv 3))) (fun _ _ _ _ _ => (pxg_name sc_read_directives.nd rfl (by first | exact Or.inl rfl | exact Or.inr rfl))) (fun _ _ _ _ _ => pts_one' (pt_notN' (px_var (pv 5)))) (fun _ _ _ _ _ => (px_var (pv 5))) (by decide))))))))))
theorem cl_read_directives (B : Blt mg) (C : Cns K mg) (h : Fx K mg "read_directives" s_read_directives ["fields"]) (c_join_values : Cl P w K mg base 3 "join_values" 2 S_join_values) (c_split_list : Cl P w K mg base 2 "split_list" 1 S_split_list) (c__read_directive : Cl P w K mg base 4 "_read_directive" 1 S__read_directive) : Cl P w K mg base 5 "read_directives" 1 S_read_directives :=
  h.cl fun f fd F => fn_ok F sc_read_directives fun cdv A outer s H E hr => body_read_directives B C c_join_values c_split_list c__read_directive f cdv A outer s H E hr
abbrev s_directive : Stmt := topS 24
theorem sc_directive : FnScope N_directive ["directives", "name"] (defScope s_directive) := ⟨rfl, rfl, rfl, by decide +kernel, rfl, by decide +kernel, by decide +kernel⟩
theorem body_directive (B : Blt mg) (C : Cns K mg) (c_lower : Cl P w K mg base 1 "lower" 1 S_lower) (f : Addr) (cdv : Value) (A : Around) (outer : List Env) (s : Shared) (H : Hp) (E : XK) (hr : Room 1 (A.deeper (envOfC "directive" (defScope s_directive) s.heap.objs.size f cdv))) : PXS (cxOf CX0 P w K mg base N_directive "directive" (defScope s_directive) f cdv A outer s H E).nox 2 (defBody s_directive) Y_directive :=
  (pxs_cons (pxs_for (ts := [2, 3]) PassesOwn.never rfl (pxi_data (px_var (pv 0))) (pxg_tup (is := [2, 3]) rfl (pgs_cons (pg_name (i := 2) sc_directive.nd rfl (by first | exact Or.inl rfl | exact Or.inr rfl)) (pgs_cons (pg_name (i := 3) sc_directive.nd rfl (by first | exact Or.inl rfl | exact Or.inr rfl)) pgs_nil)) rfl) (pxs_one (pxs_if (pt_eq' hr (px_var (pv 2)) (px_call c_lower (fun _ _ => run_len) hr (by decide) (by rfl) (pxa_cons (px_var (pv 1)) pxa_nil)) (.inl rfl)) (pxs_one (pxs_ret (px_tup (pxa_cons px_bl (pxa_cons (px_var (pv 3)) pxa_nil))))) pxs_nil)))
  (pxs_one (pxs_ret (px_tup (pxa_cons px_bl (pxa_cons px_non pxa_nil))))))
theorem cl_directive (B : Blt mg) (C : Cns K mg) (h : Fx K mg "directive" s_directive ["directives", "name"]) (c_lower : Cl P w K mg base 1 "lower" 1 S_lower) : Cl P w K mg base 2 "directive" 2 S_directive :=
  h.cl fun f fd F => fn_ok F sc_directive fun cdv A outer s H E hr => body_directive B C c_lower f cdv A outer s H E hr
abbrev s_seconds : Stmt := topS 25
theorem sc_seconds : FnScope N_seconds ["value"] (defScope s_seconds) := ⟨rfl, rfl, rfl, by decide +kernel, rfl, by decide +kernel, by decide +kernel⟩
theorem body_seconds (B : Blt mg) (C : Cns K mg) (c_is_digits : Cl P w K mg base 1 "is_digits" 1 S_is_digits) (f : Addr) (cdv : Value) (A : Around) (outer : List Env) (s : Shared) (H : Hp) (E : XK) (hr : Room 1 (A.deeper (envOfC "seconds" (defScope s_seconds) s.heap.objs.size f cdv))) : PXS (cxOf CX0 P w K mg base N_seconds "seconds" (defScope s_seconds) f cdv A outer s H E).nox 1 (defBody s_seconds) Y_seconds :=
  (pxs_cons (pxs_if (PXW.pt (pw_or' (pt_isN' (px_var (pv 0))) (pw_or' (pt_not' (pt_of_px (px_call c_is_digits (fun _ _ => run_len) hr (by decide) (by rfl) (pxa_cons (px_var (pv 0)) pxa_nil)))) (pw_or1' (pt_gt' (px_call1 call_len vu_len (by rfl) B.b_len Fw.boot_len (px_var (pv 0))) (px_gc (by rfl) C.c_MOST_DIGITS) (.inl rfl)))))) (pxs_one (pxs_ret px_non)) pxs_nil)
  (pxs_one (pxs_ret (px_callN (call_min2 rfl) va_min (by rfl) B.b_min Fw.boot_min (pxa_cons (px_callT1 cr_intA vu_int (by rfl) B.b_int Fw.boot_int (px_var (pv 0))) (pxa_cons (px_gc (by rfl) C.c_MOST_SECONDS) pxa_nil))))))
theorem cl_seconds (B : Blt mg) (C : Cns K mg) (h : Fx K mg "seconds" s_seconds ["value"]) (c_is_digits : Cl P w K mg base 1 "is_digits" 1 S_is_digits) : Cl P w K mg base 2 "seconds" 1 S_seconds :=
  h.cl fun f fd F => fn_ok F sc_seconds fun cdv A outer s H E hr => body_seconds B C c_is_digits f cdv A outer s H E hr
abbrev s__law_draw : Stmt := topS 27
theorem sc__law_draw : FnScope N__law_draw ["script"] (defScope s__law_draw) := ⟨rfl, rfl, rfl, by decide +kernel, rfl, by decide +kernel, by decide +kernel⟩
theorem body__law_draw (B : Blt mg) (C : Cns K mg) (f : Addr) (cdv : Value) (A : Around) (outer : List Env) (s : Shared) (H : Hp) (E : XK) (hr : Room 0 (A.deeper (envOfC "_law_draw" (defScope s__law_draw) s.heap.objs.size f cdv))) : PXS (cxOf CX0 P w K mg base N__law_draw "_law_draw" (defScope s__law_draw) f cdv A outer s H E).nox 1 (defBody s__law_draw) Y__law_draw :=
  (pxs_cons (pxs_asg sc__law_draw.nd rfl (by first | exact Or.inl rfl | exact Or.inr rfl) px_int)
  (pxs_cons (pxs_for (ts := [2]) PassesOwn.never rfl (pxi_scr (pv 0)) (pxg_name sc__law_draw.nd rfl (by first | exact Or.inl rfl | exact Or.inr rfl)) (pxs_one (pxs_asg sc__law_draw.nd rfl (by first | exact Or.inl rfl | exact Or.inr rfl) (px_mod (px_callT1 cr_intA vu_int (by rfl) B.b_int Fw.boot_int (px_add (px_add (px_mul (px_var (pv 1)) px_int) (px_mod (px_call1 call_abs vu_abs (by rfl) B.b_abs Fw.boot_abs (px_callT1 cr_intA vu_int (by rfl) B.b_int Fw.boot_int (px_var (pv 2)))) px_int)) px_int)) px_int))))
  (pxs_one (pxs_retL (pl_lst (pxa_cons (PL.px (pl_lc (own := [("cell", 2)]) (ts := [2]) rfl sc__law_draw.nd (blkOk_by (N := N__law_draw) (sc := defScope s__law_draw) (by decide +kernel)) (pxi_scr (pv 0)) (fun _ _ _ _ _ => (pxg_name sc__law_draw.nd rfl (by first | exact Or.inl rfl | exact Or.inr rfl))) (fun _ _ _ _ _ => pts_nil') (fun _ _ _ _ _ => (px_call1 call_abs vu_abs (by rfl) B.b_abs Fw.boot_abs (px_callT1 cr_intA vu_int (by rfl) B.b_int Fw.boot_int (px_var (pv 2))))) (by decide))) (pxa_cons (px_neg px_int) (pxa_cons px_int (pxa_cons (px_var (pv 1)) pxa_nil)))))))))
theorem cl__law_draw (B : Blt mg) (C : Cns K mg) (h : Fx K mg "_law_draw" s__law_draw ["script"]) : Cl P w K mg base 1 "_law_draw" 1 S__law_draw :=
  h.cl fun f fd F => fn_ok F sc__law_draw fun cdv A outer s H E hr => body__law_draw B C  f cdv A outer s H E hr
abbrev s__law_take : Stmt := topS 28
theorem sc__law_take : FnScope N__law_take ["draw", "many"] (defScope s__law_take) := ⟨rfl, rfl, rfl, by decide +kernel, rfl, by decide +kernel, by decide +kernel⟩
theorem body__law_take (B : Blt mg) (C : Cns K mg) (f : Addr) (cdv : Value) (A : Around) (outer : List Env) (s : Shared) (H : Hp) (E : XK) (hr : Room 0 (A.deeper (envOfC "_law_take" (defScope s__law_take) s.heap.objs.size f cdv))) : PXS (cxOf CX0 P w K mg base N__law_take "_law_take" (defScope s__law_take) f cdv A outer s H E).nox 2 (defBody s__law_take) Y__law_take :=
  (pxs_cons (pxs_if (pt_eq' hr (px_ixO (pv 0) px_int) px_int (.inl rfl)) (pxs_cons (pxs_setO (px_add (px_ixO (pv 0) px_int) px_int) (pv 0) px_int)
  (pxs_cons (pxs_if (pt_lt' (px_ixO (pv 0) px_int) (px_call1 call_len vu_len (by rfl) B.b_len Fw.boot_len (px_ixO (pv 0) px_int)) (.inl rfl)) (pxs_one (pxs_setO (px_ix (px_ixO (pv 0) px_int) (px_ixO (pv 0) px_int)) (pv 0) px_int)) pxs_nil)
  (pxs_one (pxs_if (pt_eq' hr (px_ixO (pv 0) px_int) px_int (.inl rfl)) (pxs_cons (pxs_setO (px_mod (px_callT1 cr_intA vu_int (by rfl) B.b_int Fw.boot_int (px_add (px_mul (px_ixO (pv 0) px_int) px_int) px_int)) px_int) (pv 0) px_int)
  (pxs_one (pxs_setO (px_ixO (pv 0) px_int) (pv 0) px_int))) pxs_nil)))) pxs_nil)
  (pxs_cons (pxs_asg sc__law_take.nd rfl (by first | exact Or.inl rfl | exact Or.inr rfl) (px_mod (px_callT1 cr_intA vu_int (by rfl) B.b_int Fw.boot_int (px_ixO (pv 0) px_int)) (px_var (pv 1))))
  (pxs_cons (pxs_setO (px_div (px_ixO (pv 0) px_int) (px_var (pv 1))) (pv 0) px_int)
  (pxs_one (pxs_ret (px_var (pv 2)))))))
theorem cl__law_take (B : Blt mg) (C : Cns K mg) (h : Fx K mg "_law_take" s__law_take ["draw", "many"]) : Cl P w K mg base 1 "_law_take" 2 S__law_take :=
  h.cl fun f fd F => fn_ok F sc__law_take fun cdv A outer s H E hr => body__law_take B C  f cdv A outer s H E hr
abbrev s__law_part : Stmt := topS 29
theorem sc__law_part : FnScope N__law_part ["draw"] (defScope s__law_part) := ⟨rfl, rfl, rfl, by decide +kernel, rfl, by decide +kernel, by decide +kernel⟩
theorem body__law_part (B : Blt mg) (C : Cns K mg) (c__law_take : Cl P w K mg base 1 "_law_take" 2 S__law_take) (f : Addr) (cdv : Value) (A : Around) (outer : List Env) (s : Shared) (H : Hp) (E : XK) (hr : Room 1 (A.deeper (envOfC "_law_part" (defScope s__law_part) s.heap.objs.size f cdv))) : PXS (cxOf CX0 P w K mg base N__law_part "_law_part" (defScope s__law_part) f cdv A outer s H E).nox 1 (defBody s__law_part) Y__law_part :=
  (pxs_cons (pxs_asg sc__law_part.nd rfl (by first | exact Or.inl rfl | exact Or.inr rfl) (PL.px (pl_lst (pxa_cons px_str (pxa_cons px_str (pxa_cons px_str (pxa_cons px_str (pxa_cons px_str (pxa_cons px_str (pxa_cons px_str (pxa_cons px_str (pxa_cons px_str pxa_nil))))))))))))
  (pxs_cons (pxs_asg sc__law_part.nd rfl (by first | exact Or.inl rfl | exact Or.inr rfl) (px_ix (px_var (pv 1)) (px_callM c__law_take (fun _ _ => run_len) hr (by decide) (by rfl) (pv 0) (pxa_cons px_int pxa_nil))))
  (pxs_cons (pxs_asg sc__law_part.nd rfl (by first | exact Or.inl rfl | exact Or.inr rfl) (px_callM c__law_take (fun _ _ => run_len) hr (by decide) (by rfl) (pv 0) (pxa_cons px_int pxa_nil)))
  (pxs_cons (pxs_if (pt_eq' hr (px_var (pv 3)) px_int (.inl rfl)) (pxs_one (pxs_ret (px_tup (pxa_cons (px_ix (PL.px (pl_lst (pxa_cons px_str (pxa_cons px_str (pxa_cons px_str (pxa_cons px_str (pxa_cons px_str (pxa_cons px_str (pxa_cons px_str (pxa_cons px_str pxa_nil)))))))))) (px_callM c__law_take (fun _ _ => run_len) hr (by decide) (by rfl) (pv 0) (pxa_cons px_int pxa_nil))) (pxa_cons px_non pxa_nil))))) pxs_nil)
  (pxs_cons (pxs_if (pt_lt' (px_var (pv 3)) px_int (.inl rfl)) (pxs_one (pxs_ret (px_tup (pxa_cons (px_var (pv 2)) (pxa_cons (px_tup (pxa_cons (px_lower (px_var (pv 2))) (pxa_cons px_non pxa_nil))) pxa_nil))))) pxs_nil)
  (pxs_cons (pxs_if (pt_eq' hr (px_var (pv 3)) px_int (.inl rfl)) (pxs_cons (pxs_asg sc__law_part.nd rfl (by first | exact Or.inl rfl | exact Or.inr rfl) (px_ix (PL.px (pl_lst (pxa_cons px_str (pxa_cons px_str (pxa_cons px_str (pxa_cons px_str pxa_nil)))))) (px_callM c__law_take (fun _ _ => run_len) hr (by decide) (by rfl) (pv 0) (pxa_cons px_int pxa_nil))))
  (pxs_one (pxs_ret (px_tup (pxa_cons (px_add (px_addTk (pxk_addC (px_var (pv 2))) (pxt_repl (PX.t (px_var (pv 5))))) px_str) (pxa_cons (px_tup (pxa_cons (px_lower (px_var (pv 2))) (pxa_cons (px_var (pv 5)) pxa_nil))) pxa_nil)))))) pxs_nil)
  (pxs_cons (pxs_asg sc__law_part.nd rfl (by first | exact Or.inl rfl | exact Or.inr rfl) (px_ix (PL.px (pl_lst (pxa_cons px_str (pxa_cons px_str (pxa_cons px_str (pxa_cons px_str (pxa_cons px_str pxa_nil))))))) (px_callM c__law_take (fun _ _ => run_len) hr (by decide) (by rfl) (pv 0) (pxa_cons px_int pxa_nil))))
  (pxs_one (pxs_ret (px_tup (pxa_cons (px_add (px_add (px_var (pv 2)) px_str) (px_var (pv 4))) (pxa_cons (px_tup (pxa_cons (px_lower (px_var (pv 2))) (pxa_cons (px_var (pv 4)) pxa_nil))) pxa_nil))))))))))))
theorem cl__law_part (B : Blt mg) (C : Cns K mg) (h : Fx K mg "_law_part" s__law_part ["draw"]) (c__law_take : Cl P w K mg base 1 "_law_take" 2 S__law_take) : Cl P w K mg base 2 "_law_part" 1 S__law_part :=
  h.cl fun f fd F => fn_ok F sc__law_part fun cdv A outer s H E hr => body__law_part B C c__law_take f cdv A outer s H E hr
abbrev s__law_seconds : Stmt := topS 30
theorem sc__law_seconds : FnScope N__law_seconds ["text"] (defScope s__law_seconds) := ⟨rfl, rfl, rfl, by decide +kernel, rfl, by decide +kernel, by decide +kernel⟩
theorem body__law_seconds (B : Blt mg) (C : Cns K mg) (f : Addr) (cdv : Value) (A : Around) (outer : List Env) (s : Shared) (H : Hp) (E : XK) (hr : Room 0 (A.deeper (envOfC "_law_seconds" (defScope s__law_seconds) s.heap.objs.size f cdv))) : PXS (cxOf CX0 P w K mg base N__law_seconds "_law_seconds" (defScope s__law_seconds) f cdv A outer s H E).nox 1 (defBody s__law_seconds) Y__law_seconds :=
  (pxs_cons (pxs_if (PXW.pt (pw_or' (pt_isN' (px_var (pv 0))) (pw_or1' (pt_not' (pt_chle px_int (px_call1 call_len vu_len (by rfl) B.b_len Fw.boot_len (px_var (pv 0))) px_int))))) (pxs_one (pxs_ret px_non)) pxs_nil)
  (pxs_cons (pxs_asg sc__law_seconds.nd rfl (by first | exact Or.inl rfl | exact Or.inr rfl) px_int)
  (pxs_cons (pxs_for (ts := [2]) PassesOwn.never rfl (pxi_data (px_var (pv 0))) (pxg_name sc__law_seconds.nd rfl (by first | exact Or.inl rfl | exact Or.inr rfl)) (pxs_cons (pxs_if (pt_nin' hr (px_var (pv 2)) px_str (.inl rfl)) (pxs_one (pxs_ret px_non)) pxs_nil)
  (pxs_one (pxs_asg sc__law_seconds.nd rfl (by first | exact Or.inl rfl | exact Or.inr rfl) (px_add (px_mul (px_var (pv 1)) px_int) (px_callT1 cr_intA vu_int (by rfl) B.b_int Fw.boot_int (px_var (pv 2))))))))
  (pxs_one (pxs_ret (px_callN (call_min2 rfl) va_min (by rfl) B.b_min Fw.boot_min (pxa_cons (px_var (pv 1)) (pxa_cons (px_pow px_int px_int) pxa_nil))))))))
theorem cl__law_seconds (B : Blt mg) (C : Cns K mg) (h : Fx K mg "_law_seconds" s__law_seconds ["text"]) : Cl P w K mg base 1 "_law_seconds" 1 S__law_seconds :=
  h.cl fun f fd F => fn_ok F sc__law_seconds fun cdv A outer s H E hr => body__law_seconds B C  f cdv A outer s H E hr
abbrev s_law : Stmt := topS 31
theorem sc_law : FnScope N_law ["script"] (defScope s_law) := ⟨rfl, rfl, rfl, by decide +kernel, rfl, by decide +kernel, by decide +kernel⟩
theorem body_law (B : Blt mg) (C : Cns K mg) (c__law_draw : Cl P w K mg base 1 "_law_draw" 1 S__law_draw) (c_read_directives : Cl P w K mg base 5 "read_directives" 1 S_read_directives) (c__law_take : Cl P w K mg base 1 "_law_take" 2 S__law_take) (c_seconds : Cl P w K mg base 2 "seconds" 1 S_seconds) (c__law_seconds : Cl P w K mg base 1 "_law_seconds" 1 S__law_seconds) (c__law_part : Cl P w K mg base 2 "_law_part" 1 S__law_part) (c_directive : Cl P w K mg base 2 "directive" 2 S_directive) (f : Addr) (cdv : Value) (A : Around) (outer : List Env) (s : Shared) (H : Hp) (E : XK) (hr : Room 5 (A.deeper (envOfC "law" (defScope s_law) s.heap.objs.size f cdv))) : PXS (cxOf CX0 P w K mg base N_law "law" (defScope s_law) f cdv A outer s H E).nox 1 (defBody s_law) Y_law :=
  (pxs_cons (pxs_asgL (by decide) sc_law.nd rfl (by first | exact Or.inl rfl | exact Or.inr rfl) (pl_callS c__law_draw hr (by decide) (by rfl) (pv 0)))
  (pxs_cons (pxs_asgL (by decide) sc_law.nd rfl (by first | exact Or.inl rfl | exact Or.inr rfl) (pl_lst (pxa_cons (px_tup (pxa_cons px_str (pxa_cons px_str pxa_nil))) pxa_nil)))
  (pxs_cons (pxs_asg sc_law.nd rfl (by first | exact Or.inl rfl | exact Or.inr rfl) (PL.px (pl_lst pxa_nil)))
  (pxs_cons (pxs_asg sc_law.nd rfl (by first | exact Or.inl rfl | exact Or.inr rfl) px_bl)
  (pxs_cons (pxs_for (ts := [5]) PassesOwn.never rfl (pxi_rng1 (by rfl) B.b_range (px_callM c__law_take (fun _ _ => run_len) hr (by decide) (by rfl) (pv 1) (pxa_cons px_int pxa_nil))) (pxg_name sc_law.nd rfl (by first | exact Or.inl rfl | exact Or.inr rfl)) (pxs_cons (pxs_asg sc_law.nd rfl (by first | exact Or.inl rfl | exact Or.inr rfl) px_str)
  (pxs_cons (pxs_for (ts := [10]) PassesOwn.never rfl (pxi_rng1 (by rfl) B.b_range (px_callM c__law_take (fun _ _ => run_len) hr (by decide) (by rfl) (pv 1) (pxa_cons px_int pxa_nil))) (pxg_name sc_law.nd rfl (by first | exact Or.inl rfl | exact Or.inr rfl)) (pxs_cons (pxs_asg sc_law.nd rfl (by first | exact Or.inl rfl | exact Or.inr rfl) (px_callM c__law_part (fun _ _ => run_len) hr (by decide) (by rfl) (pv 1) pxa_nil))
  (pxs_cons (pxs_asg sc_law.nd rfl (by first | exact Or.inl rfl | exact Or.inr rfl) (px_add (px_add (px_add (px_var (pv 9)) (px_ix (PL.px (pl_lst (pxa_cons px_str (pxa_cons px_str (pxa_cons px_str pxa_nil))))) (px_callM c__law_take (fun _ _ => run_len) hr (by decide) (by rfl) (pv 1) (pxa_cons px_int pxa_nil)))) (px_ix (px_var (pv 14)) px_int)) (px_ix (PL.px (pl_lst (pxa_cons px_str (pxa_cons px_str pxa_nil)))) (px_callM c__law_take (fun _ _ => run_len) hr (by decide) (by rfl) (pv 1) (pxa_cons px_int pxa_nil)))))
  (pxs_one (pxs_if (pt_notN' (px_ix (px_var (pv 14)) px_int)) (pxs_one (pxs_asg sc_law.nd rfl (by first | exact Or.inl rfl | exact Or.inr rfl) (PL.px (pl_cat (px_var (pv 3)) (PL.px (pl_lst (pxa_cons (px_ix (px_var (pv 14)) px_int) pxa_nil))))))) pxs_nil)))))
  (pxs_cons (pxs_appO (pv 2) (px_tup (pxa_cons px_str (pxa_cons (px_add (px_var (pv 9)) px_str) pxa_nil))))
  (pxs_one (pxs_asg sc_law.nd rfl (by first | exact Or.inl rfl | exact Or.inr rfl) (PL.px (pl_cat (px_var (pv 3)) (PL.px (pl_lst (pxa_cons (px_tup (pxa_cons px_str (pxa_cons px_non pxa_nil))) pxa_nil)))))))))))
  (pxs_cons (pxs_if (PXW.pt (pw_and' (pt_gt' (px_call1 call_len vu_len (by rfl) B.b_len Fw.boot_len (px_own (pv 2))) px_int (.inl rfl)) (pw_and1' (pt_eq' hr (px_callM c__law_take (fun _ _ => run_len) hr (by decide) (by rfl) (pv 1) (pxa_cons px_int pxa_nil)) px_int (.inl rfl))))) (pxs_cons (pxs_asg sc_law.nd rfl (by first | exact Or.inl rfl | exact Or.inr rfl) px_bl)
  (pxs_one (pxs_appO (pv 2) (px_tup (pxa_cons px_str (pxa_cons px_str pxa_nil)))))) pxs_nil)
  (pxs_cons (pxs_if (pt_not' (pt_of_px (px_var (pv 4)))) (pxs_one (pxs_asg sc_law.nd rfl (by first | exact Or.inl rfl | exact Or.inr rfl) (PL.px (pl_lst (pxa_cons (px_tup (pxa_cons px_str (pxa_cons px_non pxa_nil))) pxa_nil))))) pxs_nil)
  (pxs_cons (pxs_asg sc_law.nd rfl (by first | exact Or.inl rfl | exact Or.inr rfl) (px_call c_read_directives (fun _ _ => run_len) hr (by decide) (by rfl) (pxa_cons (px_tupA (by rfl) B.b_tuple (pv 2)) pxa_nil)))
  (pxs_cons (pxs_if (PXW.pt (pw_or' (pt_not' (pt_of_px (px_isi (u := "tuple") (T := "tuple") (by rfl) B.b_isinstance (pe_bltn (v := .ty "tuple") (by rfl) B.b_tuple Fw.boot_tuple rfl) (px_var (pv 6))))) (pw_or1' (pt_ne' hr (px_var (pv 6)) (px_callT1 call_tuple_of vu_tuple (by rfl) B.b_tuple Fw.boot_tuple (px_var (pv 3))) (.inl rfl))))) (pxs_one (pxs_ret px_bl)) pxs_nil)
  (pxs_cons (pxs_for (ts := [7]) PassesOwn.never rfl (pxi_data (PL.px (pl_lst (pxa_cons px_str (pxa_cons px_str (pxa_cons px_str (pxa_cons px_str (pxa_cons px_str (pxa_cons px_str (pxa_cons px_str (pxa_cons px_str pxa_nil))))))))))) (pxg_name sc_law.nd rfl (by first | exact Or.inl rfl | exact Or.inr rfl)) (pxs_cons (by first | exact pxs_lcD (own := [("pair", 15)]) (ts := [15]) rfl sc_law.nd rfl rfl (sw_true rfl rfl rfl (by decide +kernel)) (blkOk_by (N := N_law) (sc := defScope s_law) (by decide +kernel)) (pxi_data (px_var (pv 3))) (fun _ _ _ _ _ => (pxg_name sc_law.nd rfl (by first | exact Or.inl rfl | exact Or.inr rfl))) (fun _ _ _ _ _ => pts_one' (pt_eq' hr (px_ix (px_var (pv 15)) px_int) (px_var (pv 7)) (.inl rfl))) (fun _ _ _ _ _ => (px_var (pv 15))) (by decide) | exact pxs_asg sc_law.nd rfl (by first | exact Or.inl rfl | exact Or.inr rfl) (PL.px (pl_lc (own := [("pair", 15)]) (ts := [15]) rfl sc_law.nd (blkOk_by (N := N_law) (sc := defScope s_law) (by decide +kernel)) (pxi_data (px_var (pv 3))) (fun _ _ _ _ _ => (pxg_name sc_law.nd rfl (by first | exact Or.inl rfl | exact Or.inr rfl))) (fun _ _ _ _ _ => pts_one' (pt_eq' hr (px_ix (px_var (pv 15)) px_int) (px_var (pv 7)) (.inl rfl))) (fun _ _ _ _ _ => (px_var (pv 15))) (by decide))))
  (pxs_one (pxs_if (pt_ne' hr (px_call c_directive (fun _ _ => run_len) hr (by decide) (by rfl) (pxa_cons (px_var (pv 6)) (pxa_cons (px_var (pv 7)) pxa_nil))) (px_if (pt_ne' hr (px_var (pv 11)) (PL.px (pl_lst pxa_nil)) (.inl rfl)) (px_tup (pxa_cons px_bl (pxa_cons (px_ix (px_ix (px_var (pv 11)) px_int) px_int) pxa_nil))) (px_tup (pxa_cons px_bl (pxa_cons px_non pxa_nil)))) (.inl rfl)) (pxs_one (pxs_ret px_bl)) pxs_nil))))
  (pxs_cons (pxs_asg sc_law.nd rfl (by first | exact Or.inl rfl | exact Or.inr rfl) (px_join px_str (PL.px (pl_lc (own := [("k", 5)]) (ts := [5]) rfl sc_law.nd (blkOk_by (N := N_law) (sc := defScope s_law) (by decide +kernel)) (pxi_rng1 (by rfl) B.b_range (px_ix (PL.px (pl_lst (pxa_cons px_int (pxa_cons px_int (pxa_cons px_int (pxa_cons px_int (pxa_cons px_int (pxa_cons px_int (pxa_cons px_int (pxa_cons px_int pxa_nil)))))))))) (px_callM c__law_take (fun _ _ => run_len) hr (by decide) (by rfl) (pv 1) (pxa_cons px_int pxa_nil)))) (fun _ _ _ _ _ => (pxg_name sc_law.nd rfl (by first | exact Or.inl rfl | exact Or.inr rfl))) (fun _ _ _ _ _ => pts_nil') (fun _ _ _ _ _ => (px_ix px_str (px_callM c__law_take (fun _ _ => run_len) hr (by decide) (by rfl) (pv 1) (pxa_cons px_int pxa_nil)))) (by decide)))))
  (pxs_cons (pxs_for (ts := [9]) PassesOwn.never rfl (pxi_data (PL.px (pl_lst (pxa_cons (px_var (pv 8)) (pxa_cons px_str (pxa_cons px_str (pxa_cons px_str (pxa_cons px_str (pxa_cons px_str (pxa_cons px_non (pxa_cons px_str (pxa_cons px_str pxa_nil)))))))))))) (pxg_name sc_law.nd rfl (by first | exact Or.inl rfl | exact Or.inr rfl)) (pxs_cons (pxs_asg sc_law.nd rfl (by first | exact Or.inl rfl | exact Or.inr rfl) (px_call c_seconds (fun _ _ => run_len) hr (by decide) (by rfl) (pxa_cons (px_var (pv 9)) pxa_nil)))
  (pxs_cons (pxs_asg sc_law.nd rfl (by first | exact Or.inl rfl | exact Or.inr rfl) (px_call c__law_seconds (fun _ _ => run_len) hr (by decide) (by rfl) (pxa_cons (px_var (pv 9)) pxa_nil)))
  (pxs_one (pxs_if (PXW.pt (pw_or' (PXW.pt (pw_and' (pt_isN' (px_var (pv 13))) (pw_and1' (pt_notN' (px_var (pv 12)))))) (pw_or1' (PXW.pt (pw_and' (pt_notN' (px_var (pv 13))) (pw_and1' (pt_ne' hr (px_var (pv 12)) (px_var (pv 13)) (.inl rfl)))))))) (pxs_one (pxs_ret px_bl)) pxs_nil)))))
  (pxs_one (pxs_ret px_bl))))))))))))))
theorem cl_law (B : Blt mg) (C : Cns K mg) (h : Fx K mg "law" s_law ["script"]) (c__law_draw : Cl P w K mg base 1 "_law_draw" 1 S__law_draw) (c_read_directives : Cl P w K mg base 5 "read_directives" 1 S_read_directives) (c__law_take : Cl P w K mg base 1 "_law_take" 2 S__law_take) (c_seconds : Cl P w K mg base 2 "seconds" 1 S_seconds) (c__law_seconds : Cl P w K mg base 1 "_law_seconds" 1 S__law_seconds) (c__law_part : Cl P w K mg base 2 "_law_part" 1 S__law_part) (c_directive : Cl P w K mg base 2 "directive" 2 S_directive) : Cl P w K mg base 6 "law" 1 S_law :=
  h.cl fun f fd F => fn_ok F sc_law fun cdv A outer s H E hr => body_law B C c__law_draw c_read_directives c__law_take c_seconds c__law_seconds c__law_part c_directive f cdv A outer s H E hr
end
end ownanswer_k66_directives
open PySem PySem.W
open PyProof.Rows hiding St
namespace ownanswer_k66_directives
open PySem PySem.Spec L2 Fw
theorem all_mk {P : Program} {w : World} {K : PySem.W.Frag} {h : Heap} {mg : Str → Option Value} {fa : Addr} (X : K.In h) (G : h.Ns mainGlobals mg) (hfa : mg "law" = some (.ref fa))
    {f0 : Addr} {oc0 : Value} {od0 an0 : Option Addr} {sl0 : Array (Option Value)} {kV0 dc0 pm0 cd0 ct0 : Value}
    {f1 : Addr} {oc1 : Value} {od1 an1 : Option Addr} {sl1 : Array (Option Value)} {kV1 dc1 pm1 cd1 ct1 : Value}
    {f2 : Addr} {oc2 : Value} {od2 an2 : Option Addr} {sl2 : Array (Option Value)} {kV2 dc2 pm2 cd2 ct2 : Value}
    {f3 : Addr} {oc3 : Value} {od3 an3 : Option Addr} {sl3 : Array (Option Value)} {kV3 dc3 pm3 cd3 ct3 : Value}
    {f4 : Addr} {oc4 : Value} {od4 an4 : Option Addr} {sl4 : Array (Option Value)} {kV4 dc4 pm4 cd4 ct4 : Value}
    {f5 : Addr} {oc5 : Value} {od5 an5 : Option Addr} {sl5 : Array (Option Value)} {kV5 dc5 pm5 cd5 ct5 : Value}
    {f6 : Addr} {oc6 : Value} {od6 an6 : Option Addr} {sl6 : Array (Option Value)} {kV6 dc6 pm6 cd6 ct6 : Value}
    {f7 : Addr} {oc7 : Value} {od7 an7 : Option Addr} {sl7 : Array (Option Value)} {kV7 dc7 pm7 cd7 ct7 : Value}
    {f8 : Addr} {oc8 : Value} {od8 an8 : Option Addr} {sl8 : Array (Option Value)} {kV8 dc8 pm8 cd8 ct8 : Value}
    {f9 : Addr} {oc9 : Value} {od9 an9 : Option Addr} {sl9 : Array (Option Value)} {kV9 dc9 pm9 cd9 ct9 : Value}
    {f10 : Addr} {oc10 : Value} {od10 an10 : Option Addr} {sl10 : Array (Option Value)} {kV10 dc10 pm10 cd10 ct10 : Value}
    {f11 : Addr} {oc11 : Value} {od11 an11 : Option Addr} {sl11 : Array (Option Value)} {kV11 dc11 pm11 cd11 ct11 : Value}
    {f12 : Addr} {oc12 : Value} {od12 an12 : Option Addr} {sl12 : Array (Option Value)} {kV12 dc12 pm12 cd12 ct12 : Value}
    {f13 : Addr} {oc13 : Value} {od13 an13 : Option Addr} {sl13 : Array (Option Value)} {kV13 dc13 pm13 cd13 ct13 : Value}
    {f14 : Addr} {oc14 : Value} {od14 an14 : Option Addr} {sl14 : Array (Option Value)} {kV14 dc14 pm14 cd14 ct14 : Value}
    {f15 : Addr} {oc15 : Value} {od15 an15 : Option Addr} {sl15 : Array (Option Value)} {kV15 dc15 pm15 cd15 ct15 : Value}
    {f16 : Addr} {oc16 : Value} {od16 an16 : Option Addr} {sl16 : Array (Option Value)} {kV16 dc16 pm16 cd16 ct16 : Value}
    {f17 : Addr} {oc17 : Value} {od17 an17 : Option Addr} {sl17 : Array (Option Value)} {kV17 dc17 pm17 cd17 ct17 : Value}
    {f18 : Addr} {oc18 : Value} {od18 an18 : Option Addr} {sl18 : Array (Option Value)} {kV18 dc18 pm18 cd18 ct18 : Value}
    {f19 : Addr} {oc19 : Value} {od19 an19 : Option Addr} {sl19 : Array (Option Value)} {kV19 dc19 pm19 cd19 ct19 : Value}
    {f20 : Addr} {oc20 : Value} {od20 an20 : Option Addr} {sl20 : Array (Option Value)} {kV20 dc20 pm20 cd20 ct20 : Value}
    {g0 : Addr} {dd0 : Option Addr} {it0 : Array Value} {m0 : Nat} {sg0 : Array (Option Value)} {vs0 : List V}
    {t1 : Tok}
    {t2 : Tok}
    {t3 : Tok}
    {g4 : Addr} {dd4 : Option Addr} {m4 : Nat} {sg4 : Array (Option Value)} {h4_0 : Addr}
    {de4_0 : Option Addr} {it4_0 : Array Value} {m4_0 : Nat} {sg4_0 : Array (Option Value)} {vs4_0 : List V}
    {t5 : Tok}
    {t6 : Tok}
    (a0 : PySem.W.nsIn K mainGlobals "is_digit" = some (some (.ref f0))) (l0 : K.lookup f0 = some ⟨oc0, od0, .func (PySem.W.fnOf "is_digit" "is_digit" (defArgs s_is_digit) (defBody s_is_digit) (defScope s_is_digit) .none kV0 dc0 pm0 an0 cd0 ct0), sl0⟩) (c0 : PySem.W.codeIn K cd0 "is_digit" = true) (k0 : PySem.W.keepIn K (.ref f0) = true)
    (a1 : PySem.W.nsIn K mainGlobals "is_letter" = some (some (.ref f1))) (l1 : K.lookup f1 = some ⟨oc1, od1, .func (PySem.W.fnOf "is_letter" "is_letter" (defArgs s_is_letter) (defBody s_is_letter) (defScope s_is_letter) .none kV1 dc1 pm1 an1 cd1 ct1), sl1⟩) (c1 : PySem.W.codeIn K cd1 "is_letter" = true) (k1 : PySem.W.keepIn K (.ref f1) = true)
    (a2 : PySem.W.nsIn K mainGlobals "is_token_sign" = some (some (.ref f2))) (l2 : K.lookup f2 = some ⟨oc2, od2, .func (PySem.W.fnOf "is_token_sign" "is_token_sign" (defArgs s_is_token_sign) (defBody s_is_token_sign) (defScope s_is_token_sign) .none kV2 dc2 pm2 an2 cd2 ct2), sl2⟩) (c2 : PySem.W.codeIn K cd2 "is_token_sign" = true) (k2 : PySem.W.keepIn K (.ref f2) = true)
    (a3 : PySem.W.nsIn K mainGlobals "is_token" = some (some (.ref f3))) (l3 : K.lookup f3 = some ⟨oc3, od3, .func (PySem.W.fnOf "is_token" "is_token" (defArgs s_is_token) (defBody s_is_token) (defScope s_is_token) .none kV3 dc3 pm3 an3 cd3 ct3), sl3⟩) (c3 : PySem.W.codeIn K cd3 "is_token" = true) (k3 : PySem.W.keepIn K (.ref f3) = true)
    (a4 : PySem.W.nsIn K mainGlobals "is_digits" = some (some (.ref f4))) (l4 : K.lookup f4 = some ⟨oc4, od4, .func (PySem.W.fnOf "is_digits" "is_digits" (defArgs s_is_digits) (defBody s_is_digits) (defScope s_is_digits) .none kV4 dc4 pm4 an4 cd4 ct4), sl4⟩) (c4 : PySem.W.codeIn K cd4 "is_digits" = true) (k4 : PySem.W.keepIn K (.ref f4) = true)
    (a5 : PySem.W.nsIn K mainGlobals "lower" = some (some (.ref f5))) (l5 : K.lookup f5 = some ⟨oc5, od5, .func (PySem.W.fnOf "lower" "lower" (defArgs s_lower) (defBody s_lower) (defScope s_lower) .none kV5 dc5 pm5 an5 cd5 ct5), sl5⟩) (c5 : PySem.W.codeIn K cd5 "lower" = true) (k5 : PySem.W.keepIn K (.ref f5) = true)
    (a6 : PySem.W.nsIn K mainGlobals "trimmed" = some (some (.ref f6))) (l6 : K.lookup f6 = some ⟨oc6, od6, .func (PySem.W.fnOf "trimmed" "trimmed" (defArgs s_trimmed) (defBody s_trimmed) (defScope s_trimmed) .none kV6 dc6 pm6 an6 cd6 ct6), sl6⟩) (c6 : PySem.W.codeIn K cd6 "trimmed" = true) (k6 : PySem.W.keepIn K (.ref f6) = true)
    (a7 : PySem.W.nsIn K mainGlobals "values" = some (some (.ref f7))) (l7 : K.lookup f7 = some ⟨oc7, od7, .func (PySem.W.fnOf "values" "values" (defArgs s_values) (defBody s_values) (defScope s_values) .none kV7 dc7 pm7 an7 cd7 ct7), sl7⟩) (c7 : PySem.W.codeIn K cd7 "values" = true) (k7 : PySem.W.keepIn K (.ref f7) = true)
    (a8 : PySem.W.nsIn K mainGlobals "read_quoted" = some (some (.ref f8))) (l8 : K.lookup f8 = some ⟨oc8, od8, .func (PySem.W.fnOf "read_quoted" "read_quoted" (defArgs s_read_quoted) (defBody s_read_quoted) (defScope s_read_quoted) .none kV8 dc8 pm8 an8 cd8 ct8), sl8⟩) (c8 : PySem.W.codeIn K cd8 "read_quoted" = true) (k8 : PySem.W.keepIn K (.ref f8) = true)
    (a9 : PySem.W.nsIn K mainGlobals "_cut" = some (some (.ref f9))) (l9 : K.lookup f9 = some ⟨oc9, od9, .func (PySem.W.fnOf "_cut" "_cut" (defArgs s__cut) (defBody s__cut) (defScope s__cut) .none kV9 dc9 pm9 an9 cd9 ct9), sl9⟩) (c9 : PySem.W.codeIn K cd9 "_cut" = true) (k9 : PySem.W.keepIn K (.ref f9) = true)
    (a10 : PySem.W.nsIn K mainGlobals "split_list" = some (some (.ref f10))) (l10 : K.lookup f10 = some ⟨oc10, od10, .func (PySem.W.fnOf "split_list" "split_list" (defArgs s_split_list) (defBody s_split_list) (defScope s_split_list) .none kV10 dc10 pm10 an10 cd10 ct10), sl10⟩) (c10 : PySem.W.codeIn K cd10 "split_list" = true) (k10 : PySem.W.keepIn K (.ref f10) = true)
    (a11 : PySem.W.nsIn K mainGlobals "join_values" = some (some (.ref f11))) (l11 : K.lookup f11 = some ⟨oc11, od11, .func (PySem.W.fnOf "join_values" "join_values" (defArgs s_join_values) (defBody s_join_values) (defScope s_join_values) .none kV11 dc11 pm11 an11 cd11 ct11), sl11⟩) (c11 : PySem.W.codeIn K cd11 "join_values" = true) (k11 : PySem.W.keepIn K (.ref f11) = true)
    (a12 : PySem.W.nsIn K mainGlobals "_read_directive" = some (some (.ref f12))) (l12 : K.lookup f12 = some ⟨oc12, od12, .func (PySem.W.fnOf "_read_directive" "_read_directive" (defArgs s__read_directive) (defBody s__read_directive) (defScope s__read_directive) .none kV12 dc12 pm12 an12 cd12 ct12), sl12⟩) (c12 : PySem.W.codeIn K cd12 "_read_directive" = true) (k12 : PySem.W.keepIn K (.ref f12) = true)
    (a13 : PySem.W.nsIn K mainGlobals "read_directives" = some (some (.ref f13))) (l13 : K.lookup f13 = some ⟨oc13, od13, .func (PySem.W.fnOf "read_directives" "read_directives" (defArgs s_read_directives) (defBody s_read_directives) (defScope s_read_directives) .none kV13 dc13 pm13 an13 cd13 ct13), sl13⟩) (c13 : PySem.W.codeIn K cd13 "read_directives" = true) (k13 : PySem.W.keepIn K (.ref f13) = true)
    (a14 : PySem.W.nsIn K mainGlobals "directive" = some (some (.ref f14))) (l14 : K.lookup f14 = some ⟨oc14, od14, .func (PySem.W.fnOf "directive" "directive" (defArgs s_directive) (defBody s_directive) (defScope s_directive) .none kV14 dc14 pm14 an14 cd14 ct14), sl14⟩) (c14 : PySem.W.codeIn K cd14 "directive" = true) (k14 : PySem.W.keepIn K (.ref f14) = true)
    (a15 : PySem.W.nsIn K mainGlobals "seconds" = some (some (.ref f15))) (l15 : K.lookup f15 = some ⟨oc15, od15, .func (PySem.W.fnOf "seconds" "seconds" (defArgs s_seconds) (defBody s_seconds) (defScope s_seconds) .none kV15 dc15 pm15 an15 cd15 ct15), sl15⟩) (c15 : PySem.W.codeIn K cd15 "seconds" = true) (k15 : PySem.W.keepIn K (.ref f15) = true)
    (a16 : PySem.W.nsIn K mainGlobals "_law_draw" = some (some (.ref f16))) (l16 : K.lookup f16 = some ⟨oc16, od16, .func (PySem.W.fnOf "_law_draw" "_law_draw" (defArgs s__law_draw) (defBody s__law_draw) (defScope s__law_draw) .none kV16 dc16 pm16 an16 cd16 ct16), sl16⟩) (c16 : PySem.W.codeIn K cd16 "_law_draw" = true) (k16 : PySem.W.keepIn K (.ref f16) = true)
    (a17 : PySem.W.nsIn K mainGlobals "_law_take" = some (some (.ref f17))) (l17 : K.lookup f17 = some ⟨oc17, od17, .func (PySem.W.fnOf "_law_take" "_law_take" (defArgs s__law_take) (defBody s__law_take) (defScope s__law_take) .none kV17 dc17 pm17 an17 cd17 ct17), sl17⟩) (c17 : PySem.W.codeIn K cd17 "_law_take" = true) (k17 : PySem.W.keepIn K (.ref f17) = true)
    (a18 : PySem.W.nsIn K mainGlobals "_law_part" = some (some (.ref f18))) (l18 : K.lookup f18 = some ⟨oc18, od18, .func (PySem.W.fnOf "_law_part" "_law_part" (defArgs s__law_part) (defBody s__law_part) (defScope s__law_part) .none kV18 dc18 pm18 an18 cd18 ct18), sl18⟩) (c18 : PySem.W.codeIn K cd18 "_law_part" = true) (k18 : PySem.W.keepIn K (.ref f18) = true)
    (a19 : PySem.W.nsIn K mainGlobals "_law_seconds" = some (some (.ref f19))) (l19 : K.lookup f19 = some ⟨oc19, od19, .func (PySem.W.fnOf "_law_seconds" "_law_seconds" (defArgs s__law_seconds) (defBody s__law_seconds) (defScope s__law_seconds) .none kV19 dc19 pm19 an19 cd19 ct19), sl19⟩) (c19 : PySem.W.codeIn K cd19 "_law_seconds" = true) (k19 : PySem.W.keepIn K (.ref f19) = true)
    (a20 : PySem.W.nsIn K mainGlobals "law" = some (some (.ref f20))) (l20 : K.lookup f20 = some ⟨oc20, od20, .func (PySem.W.fnOf "law" "law" (defArgs s_law) (defBody s_law) (defScope s_law) .none kV20 dc20 pm20 an20 cd20 ct20), sl20⟩) (c20 : PySem.W.codeIn K cd20 "law" = true) (k20 : PySem.W.keepIn K (.ref f20) = true)
    (b0 : PySem.W.nsIn K mainGlobals "abs" = some none)
    (b1 : PySem.W.nsIn K mainGlobals "all" = some none)
    (b2 : PySem.W.nsIn K mainGlobals "enumerate" = some none)
    (b3 : PySem.W.nsIn K mainGlobals "int" = some none)
    (b4 : PySem.W.nsIn K mainGlobals "isinstance" = some none)
    (b5 : PySem.W.nsIn K mainGlobals "len" = some none)
    (b6 : PySem.W.nsIn K mainGlobals "min" = some none)
    (b7 : PySem.W.nsIn K mainGlobals "ord" = some none)
    (b8 : PySem.W.nsIn K mainGlobals "range" = some none)
    (b9 : PySem.W.nsIn K mainGlobals "tuple" = some none)
    (n0 : PySem.W.nsIn K mainGlobals "TOKEN_MARKS" = some (some (.ref g0))) (o0 : K.lookup g0 = some ⟨.type "tuple", dd0, .seq it0 m0, sg0⟩) (e0 : flatsOf it0.toList = some (vs0, [PyData.int 33, PyData.int 35, PyData.int 36, PyData.int 38, PyData.int 39, PyData.int 42, PyData.int 43, PyData.int 45, PyData.int 46, PyData.int 94, PyData.int 95, PyData.int 96, PyData.int 124, PyData.int 126])) (z0 : it0.size ≤ sizeLine)
    (n1 : PySem.W.nsIn K mainGlobals "DIGITS" = some (some (.str "0123456789" t1)))
    (n2 : PySem.W.nsIn K mainGlobals "QUOTE" = some (some (.str "\"" t2)))
    (n3 : PySem.W.nsIn K mainGlobals "BACKSLASH" = some (some (.str "\\" t3)))
    (n4 : PySem.W.nsIn K mainGlobals "UNREADABLE" = some (some (.ref g4))) (o4 : K.lookup g4 = some ⟨.type "tuple", dd4, .seq #[.ref h4_0] m4, sg4⟩)
    (o4_0 : K.lookup h4_0 = some ⟨.type "tuple", de4_0, .seq it4_0 m4_0, sg4_0⟩) (e4_0 : flatsOf it4_0.toList = some (vs4_0, [PyData.str "no-store", PyData.none])) (z4_0 : it4_0.size ≤ sizeLine)
    (n5 : PySem.W.nsIn K mainGlobals "MOST_DIGITS" = some (some (.int 20 t5)))
    (n6 : PySem.W.nsIn K mainGlobals "MOST_SECONDS" = some (some (.int 2147483648 t6)))
    : ∃ fd : FuncData, (∀ (s : Shared) (v : Value), BindsTo s fd ⟨[v], []⟩ [("script", v)]) ∧ ∀ base : Heap, K.In base → base.Ns mainGlobals mg → FnOk P w K mg base CX0 6 fa fd ["script"] (spF K 1 S_law) := by
  have F_is_digit : Fx K mg "is_digit" s_is_digit ["octet"] := Fx.of X G a0 l0 c0 k0 (fun _ _ _ _ _ _ us hl => match us, hl with | [_], _ => rfl)
  have F_is_letter : Fx K mg "is_letter" s_is_letter ["octet"] := Fx.of X G a1 l1 c1 k1 (fun _ _ _ _ _ _ us hl => match us, hl with | [_], _ => rfl)
  have F_is_token_sign : Fx K mg "is_token_sign" s_is_token_sign ["octet"] := Fx.of X G a2 l2 c2 k2 (fun _ _ _ _ _ _ us hl => match us, hl with | [_], _ => rfl)
  have F_is_token : Fx K mg "is_token" s_is_token ["text"] := Fx.of X G a3 l3 c3 k3 (fun _ _ _ _ _ _ us hl => match us, hl with | [_], _ => rfl)
  have F_is_digits : Fx K mg "is_digits" s_is_digits ["text"] := Fx.of X G a4 l4 c4 k4 (fun _ _ _ _ _ _ us hl => match us, hl with | [_], _ => rfl)
  have F_lower : Fx K mg "lower" s_lower ["text"] := Fx.of X G a5 l5 c5 k5 (fun _ _ _ _ _ _ us hl => match us, hl with | [_], _ => rfl)
  have F_trimmed : Fx K mg "trimmed" s_trimmed ["text"] := Fx.of X G a6 l6 c6 k6 (fun _ _ _ _ _ _ us hl => match us, hl with | [_], _ => rfl)
  have F_values : Fx K mg "values" s_values ["fields", "name"] := Fx.of X G a7 l7 c7 k7 (fun _ _ _ _ _ _ us hl => match us, hl with | [_, _], _ => rfl)
  have F_read_quoted : Fx K mg "read_quoted" s_read_quoted ["text"] := Fx.of X G a8 l8 c8 k8 (fun _ _ _ _ _ _ us hl => match us, hl with | [_], _ => rfl)
  have F__cut : Fx K mg "_cut" s__cut ["text", "mark"] := Fx.of X G a9 l9 c9 k9 (fun _ _ _ _ _ _ us hl => match us, hl with | [_, _], _ => rfl)
  have F_split_list : Fx K mg "split_list" s_split_list ["value"] := Fx.of X G a10 l10 c10 k10 (fun _ _ _ _ _ _ us hl => match us, hl with | [_], _ => rfl)
  have F_join_values : Fx K mg "join_values" s_join_values ["fields", "name"] := Fx.of X G a11 l11 c11 k11 (fun _ _ _ _ _ _ us hl => match us, hl with | [_, _], _ => rfl)
  have F__read_directive : Fx K mg "_read_directive" s__read_directive ["element"] := Fx.of X G a12 l12 c12 k12 (fun _ _ _ _ _ _ us hl => match us, hl with | [_], _ => rfl)
  have F_read_directives : Fx K mg "read_directives" s_read_directives ["fields"] := Fx.of X G a13 l13 c13 k13 (fun _ _ _ _ _ _ us hl => match us, hl with | [_], _ => rfl)
  have F_directive : Fx K mg "directive" s_directive ["directives", "name"] := Fx.of X G a14 l14 c14 k14 (fun _ _ _ _ _ _ us hl => match us, hl with | [_, _], _ => rfl)
  have F_seconds : Fx K mg "seconds" s_seconds ["value"] := Fx.of X G a15 l15 c15 k15 (fun _ _ _ _ _ _ us hl => match us, hl with | [_], _ => rfl)
  have F__law_draw : Fx K mg "_law_draw" s__law_draw ["script"] := Fx.of X G a16 l16 c16 k16 (fun _ _ _ _ _ _ us hl => match us, hl with | [_], _ => rfl)
  have F__law_take : Fx K mg "_law_take" s__law_take ["draw", "many"] := Fx.of X G a17 l17 c17 k17 (fun _ _ _ _ _ _ us hl => match us, hl with | [_, _], _ => rfl)
  have F__law_part : Fx K mg "_law_part" s__law_part ["draw"] := Fx.of X G a18 l18 c18 k18 (fun _ _ _ _ _ _ us hl => match us, hl with | [_], _ => rfl)
  have F__law_seconds : Fx K mg "_law_seconds" s__law_seconds ["text"] := Fx.of X G a19 l19 c19 k19 (fun _ _ _ _ _ _ us hl => match us, hl with | [_], _ => rfl)
  have B : Blt mg := ⟨trivial, PySem.W.mg_none_of X G b0, PySem.W.mg_none_of X G b1, PySem.W.mg_none_of X G b2, PySem.W.mg_none_of X G b3, PySem.W.mg_none_of X G b4, PySem.W.mg_none_of X G b5, PySem.W.mg_none_of X G b6, PySem.W.mg_none_of X G b7, PySem.W.mg_none_of X G b8, PySem.W.mg_none_of X G b9⟩
  have C : Cns K mg := ⟨trivial, Cn.tup X G n0 o0 e0 z0, Cn.str X G n1, Cn.str X G n2, Cn.str X G n3, Cn.of X G n4 (Kn.node o4 (.cons (relRef h4_0) .nil) (show (1 : Nat) ≤ sizeLine by decide) fun P => (.cons (Kn.flat o4_0 e4_0 z4_0 P) .nil)), Cn.int X G n5, Cn.int X G n6⟩
  refine law_of X G hfa a20 l20 c20 k20 (fun s v => .of_eq rfl) (fun base f fd F => ?_)
  have c_is_digit : Cl P w K mg base 1 "is_digit" 1 S_is_digit := cl_is_digit B C F_is_digit 
  have c_is_letter : Cl P w K mg base 1 "is_letter" 1 S_is_letter := cl_is_letter B C F_is_letter 
  have c_is_token_sign : Cl P w K mg base 2 "is_token_sign" 1 S_is_token_sign := cl_is_token_sign B C F_is_token_sign c_is_letter c_is_digit
  have c_is_token : Cl P w K mg base 3 "is_token" 1 S_is_token := cl_is_token B C F_is_token c_is_token_sign
  have c_is_digits : Cl P w K mg base 1 "is_digits" 1 S_is_digits := cl_is_digits B C F_is_digits 
  have c_lower : Cl P w K mg base 1 "lower" 1 S_lower := cl_lower B C F_lower 
  have c_trimmed : Cl P w K mg base 1 "trimmed" 1 S_trimmed := cl_trimmed B C F_trimmed 
  have c_values : Cl P w K mg base 2 "values" 2 S_values := cl_values B C F_values c_lower
  have c_read_quoted : Cl P w K mg base 1 "read_quoted" 1 S_read_quoted := cl_read_quoted B C F_read_quoted 
  have c__cut : Cl P w K mg base 1 "_cut" 2 S__cut := cl__cut B C F__cut 
  have c_split_list : Cl P w K mg base 2 "split_list" 1 S_split_list := cl_split_list B C F_split_list c__cut c_trimmed
  have c_join_values : Cl P w K mg base 3 "join_values" 2 S_join_values := cl_join_values B C F_join_values c_values
  have c__read_directive : Cl P w K mg base 4 "_read_directive" 1 S__read_directive := cl__read_directive B C F__read_directive c_is_token c_read_quoted c_lower
  have c_read_directives : Cl P w K mg base 5 "read_directives" 1 S_read_directives := cl_read_directives B C F_read_directives c_join_values c_split_list c__read_directive
  have c_directive : Cl P w K mg base 2 "directive" 2 S_directive := cl_directive B C F_directive c_lower
  have c_seconds : Cl P w K mg base 2 "seconds" 1 S_seconds := cl_seconds B C F_seconds c_is_digits
  have c__law_draw : Cl P w K mg base 1 "_law_draw" 1 S__law_draw := cl__law_draw B C F__law_draw 
  have c__law_take : Cl P w K mg base 1 "_law_take" 2 S__law_take := cl__law_take B C F__law_take 
  have c__law_part : Cl P w K mg base 2 "_law_part" 1 S__law_part := cl__law_part B C F__law_part c__law_take
  have c__law_seconds : Cl P w K mg base 1 "_law_seconds" 1 S__law_seconds := cl__law_seconds B C F__law_seconds 
  exact fn_ok F sc_law fun cdv A outer s H E hr => body_law B C c__law_draw c_read_directives c__law_take c_seconds c__law_seconds c__law_part c_directive f cdv A outer s H E hr
end ownanswer_k66_directives
set_option maxRecDepth 100000 in
set_option maxHeartbeats 0 in
theorem PySem.Challenge.cw_ownanswer_k66_directives_holds : PySem.Challenge.rw_ownanswer_k66_directives.Holds := by
  w_on; o_law; k_head; (case hw => w_witness2)
  k_fill
  refine L2.walk_of (l := PySem.Challenge.rw_ownanswer_k66_directives) (n := 63) (k := 6) (x := "script") (CX := fun _ => L2.CX0) (sp := fun w => Fw.spF _ 1 ownanswer_k66_directives.S_law) rfl (by decide) rfl ⟨rfl, by decide, by decide⟩ (fun w h Y => PySem.W.kIn_of Y) ?F (fun _ _ a ns hl _ hS => Fw.sp_law hS (ownanswer_k66_directives.law_true ns hl)) (fun _ _ _ _ _ h => h)
  case F =>
    intro w mg fa h KX G hmg
    refine' ownanswer_k66_directives.all_mk KX G hmg ?a0 ?l0 ?c0 ?k0 ?a1 ?l1 ?c1 ?k1 ?a2 ?l2 ?c2 ?k2 ?a3 ?l3 ?c3 ?k3 ?a4 ?l4 ?c4 ?k4 ?a5 ?l5 ?c5 ?k5 ?a6 ?l6 ?c6 ?k6 ?a7 ?l7 ?c7 ?k7 ?a8 ?l8 ?c8 ?k8 ?a9 ?l9 ?c9 ?k9 ?a10 ?l10 ?c10 ?k10 ?a11 ?l11 ?c11 ?k11 ?a12 ?l12 ?c12 ?k12 ?a13 ?l13 ?c13 ?k13 ?a14 ?l14 ?c14 ?k14 ?a15 ?l15 ?c15 ?k15 ?a16 ?l16 ?c16 ?k16 ?a17 ?l17 ?c17 ?k17 ?a18 ?l18 ?c18 ?k18 ?a19 ?l19 ?c19 ?k19 ?a20 ?l20 ?c20 ?k20 ?b0 ?b1 ?b2 ?b3 ?b4 ?b5 ?b6 ?b7 ?b8 ?b9 ?n0 ?o0 ?e0 ?z0 ?n1 ?n2 ?n3 ?n4 ?o4 ?o4_0 ?e4_0 ?z4_0 ?n5 ?n6
    (case a0 => k_is)
    (case l0 => k_is)
    (case c0 => k_is)
    (case k0 => k_is)
    (case a1 => k_is)
    (case l1 => k_is)
    (case c1 => k_is)
    (case k1 => k_is)
    (case a2 => k_is)
    (case l2 => k_is)
    (case c2 => k_is)
    (case k2 => k_is)
    (case a3 => k_is)
    (case l3 => k_is)
    (case c3 => k_is)
    (case k3 => k_is)
    (case a4 => k_is)
    (case l4 => k_is)
    (case c4 => k_is)
    (case k4 => k_is)
    (case a5 => k_is)
    (case l5 => k_is)
    (case c5 => k_is)
    (case k5 => k_is)
    (case a6 => k_is)
    (case l6 => k_is)
    (case c6 => k_is)
    (case k6 => k_is)
    (case a7 => k_is)
    (case l7 => k_is)
    (case c7 => k_is)
    (case k7 => k_is)
    (case a8 => k_is)
    (case l8 => k_is)
    (case c8 => k_is)
    (case k8 => k_is)
    (case a9 => k_is)
    (case l9 => k_is)
    (case c9 => k_is)
    (case k9 => k_is)
    (case a10 => k_is)
    (case l10 => k_is)
    (case c10 => k_is)
    (case k10 => k_is)
    (case a11 => k_is)
    (case l11 => k_is)
    (case c11 => k_is)
    (case k11 => k_is)
    (case a12 => k_is)
    (case l12 => k_is)
    (case c12 => k_is)
    (case k12 => k_is)
    (case a13 => k_is)
    (case l13 => k_is)
    (case c13 => k_is)
    (case k13 => k_is)
    (case a14 => k_is)
    (case l14 => k_is)
    (case c14 => k_is)
    (case k14 => k_is)
    (case a15 => k_is)
    (case l15 => k_is)
    (case c15 => k_is)
    (case k15 => k_is)
    (case a16 => k_is)
    (case l16 => k_is)
    (case c16 => k_is)
    (case k16 => k_is)
    (case a17 => k_is)
    (case l17 => k_is)
    (case c17 => k_is)
    (case k17 => k_is)
    (case a18 => k_is)
    (case l18 => k_is)
    (case c18 => k_is)
    (case k18 => k_is)
    (case a19 => k_is)
    (case l19 => k_is)
    (case c19 => k_is)
    (case k19 => k_is)
    (case a20 => k_is)
    (case l20 => k_is)
    (case c20 => k_is)
    (case k20 => k_is)
    (case b0 => k_is)
    (case b1 => k_is)
    (case b2 => k_is)
    (case b3 => k_is)
    (case b4 => k_is)
    (case b5 => k_is)
    (case b6 => k_is)
    (case b7 => k_is)
    (case b8 => k_is)
    (case b9 => k_is)
    (case n0 => k_is)
    (case o0 => k_is)
    (case e0 => rfl)
    (case z0 => decide)
    (case n1 => k_is)
    (case n2 => k_is)
    (case n3 => k_is)
    (case n4 => k_is)
    (case o4 => k_is)
    (case o4_0 => k_is)
    (case e4_0 => rfl)
    (case z4_0 => decide)
    (case n5 => k_is)
    (case n6 => k_is)
