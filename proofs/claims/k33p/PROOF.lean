import PyProof.Rows.All
import Wide.All
import OpenK.AllK
import Wide.FinOn
import HandS.ForMost
import HandS.FStr
import HandS.Wide
import HandS.Flow
import HandS.Style
import HandS.StrMore
import HandS.Conv
import HandS.IsInst
import HandS.TupAny
import HandS.Replace
import HandS.RaiseMore
import HandS.Deep
import KE.KeyNested
import KE.KDictKeyed
import PyProof.AutoSeq1
import PyProof.Rows.StrIntSpec
import PyProof.Draws
import PyProof.EnumMake
import HandS.ReplaceLit
import HandS.ReplaceList
import HandS.WideBits
import HandS.Codes
import HandS.Strs
import HandS.TupSets
import HandS.Keys
import HandS.SortOrd
import HandS.SetKeys
import HandS.More
import HandS.DictComp
import HandS.TupLe
import PySem.Challenge.RW_ownanswer_k33_turns_by_marks
set_option Elab.async false
set_option linter.all false
set_option maxRecDepth 100000
set_option maxHeartbeats 4000000
namespace Fw
open PySem PySem.Spec L2
open PyProof.Rows hiding St

/-- tuples of the modules (not made in the run) may look so: those that look otherwise may be keys -/
def okC : List PyData → Bool
  | [.int _, .int _] => false
  | .int 58 :: _ => false
  | _ => true
def SqK (K : PySem.W.Frag) (a : Addr) (xs : List V) : Prop := ∃ (o : Obj) (its : Array Value) (n : Nat), K.lookup a = some o ∧ o.cls = .type "tuple" ∧ o.data = .seq its n ∧ its.size ≤ sizeLine ∧ Vals xs its.toList
def SqC (K : PySem.W.Frag) (H : Hp) (a : Addr) (xs : List V) (ds : List PyData) : Prop := H a = some (.tup xs) ∨ (okC ds = true ∧ SqK K a xs)
theorem SqC.of {K : PySem.W.Frag} {H : Hp} {a : Addr} {xs : List V} {ds : List PyData} (e : H a = some (.tup xs)) : SqC K H a xs ds := .inl e
theorem SqC.sq {K : PySem.W.Frag} {H : Hp} {a : Addr} {xs : List V} {ds : List PyData} (h : SqC K H a xs ds) : SqT K H a xs := h.elim (fun e => .inl (.inl e)) fun e => .inr e.2
theorem SqC.mono {K : PySem.W.Frag} {H H' : Hp} {a : Addr} {xs : List V} {ds : List PyData} (h : SqC K H a xs ds) (e : Same H H') : SqC K H' a xs ds := h.elim (fun z => .inl (e _ _ z)) .inr
mutual
inductive Dq (K : PySem.W.Frag) (H : Hp) : V → PyData → Prop
  | non : Dq K H .non .none
  | bl (b : Bool) : Dq K H (.bl b) (.bool b)
  | int (i : Int) : Dq K H (.int i) (.int i)
  | str (x : Str) : Dq K H (.str x) (.str x)
  | lst {a : Addr} {xs : List V} {ds : List PyData} : H a = some (.lst xs) → DqAll K H xs ds → Dq K H (.ref a) (.list ds)
  | tup {a : Addr} {xs : List V} {ds : List PyData} : SqC K H a xs ds → DqAll K H xs ds → Dq K H (.ref a) (.tuple ds)
inductive DqAll (K : PySem.W.Frag) (H : Hp) : List V → List PyData → Prop
  | nil : DqAll K H [] []
  | cons {v : V} {vs : List V} {d : PyData} {ds : List PyData} : Dq K H v d → DqAll K H vs ds → DqAll K H (v :: vs) (d :: ds)
end
theorem seqT {K : PySem.W.Frag} {H H' : Hp} {a : Addr} {xs : List V} (e : Same H H') (h : SqT K H a xs) : SqT K H' a xs := by
  rcases h with (h | ⟨o, h⟩) | h
  · exact .inl (.inl (e _ _ h))
  · exact .inl (.inr ⟨o, e _ _ h⟩)
  · exact .inr h
theorem seqC {K : PySem.W.Frag} {H H' : Hp} {a : Addr} {xs : List V} {ds : List PyData} (e : Same H H') (h : SqC K H a xs ds) : SqT K H' a xs := (h.mono e).sq
mutual
theorem Dq.mono {K : PySem.W.Frag} {H H' : Hp} (e : Same H H') : ∀ {v : V} {d : PyData}, Dq K H v d → Dq K H' v d
  | _, _, .non => .non
  | _, _, .bl b => .bl b
  | _, _, .int i => .int i
  | _, _, .str x => .str x
  | _, _, .lst h r => .lst (e _ _ h) (DqAll.mono e r)
  | _, _, .tup h r => .tup (h.mono e) (DqAll.mono e r)
theorem DqAll.mono {K : PySem.W.Frag} {H H' : Hp} (e : Same H H') : ∀ {vs : List V} {ds : List PyData}, DqAll K H vs ds → DqAll K H' vs ds
  | _, _, .nil => .nil
  | _, _, .cons h r => .cons (Dq.mono e h) (DqAll.mono e r)
end
mutual
theorem Dq.dp {K : PySem.W.Frag} {H : Hp} : ∀ {v : V} {d : PyData}, Dq K H v d → Dp K H v d
  | _, _, .non => .non
  | _, _, .bl b => .bl b
  | _, _, .int i => .int i
  | _, _, .str x => .str x
  | _, _, .lst h r => .lst (SqL.of h) (DqAll.dp r)
  | _, _, .tup h r => .tup h.sq (DqAll.dp r)
theorem DqAll.dp {K : PySem.W.Frag} {H : Hp} : ∀ {vs : List V} {ds : List PyData}, DqAll K H vs ds → DpAll K H vs ds
  | _, _, .nil => .nil
  | _, _, .cons h r => .cons (Dq.dp h) (DqAll.dp r)
end
theorem DqAll.length {K : PySem.W.Frag} {H : Hp} : ∀ {vs : List V} {ds : List PyData}, DqAll K H vs ds → vs.length = ds.length
  | _, _, .nil => rfl
  | _, _, .cons _ r => congrArg (· + 1) (DqAll.length r)
theorem DqAll.get {K : PySem.W.Frag} {H : Hp} : ∀ {vs : List V} {ds : List PyData} {i : Nat} {d : PyData}, DqAll K H vs ds → ds[i]? = some d → ∃ v, vs[i]? = some v ∧ Dq K H v d
  | _, _, _, _, .nil, e => by simp at e
  | _, _, 0, _, .cons h _, e => by simp at e; subst e; exact ⟨_, rfl, h⟩
  | _, _, i + 1, _, .cons _ r, e => by
    obtain ⟨v, a, b⟩ := DqAll.get (i := i) r (by simpa using e)
    exact ⟨v, by simpa using a, b⟩
theorem DqAll.getV {K : PySem.W.Frag} {H : Hp} : ∀ {vs : List V} {ds : List PyData} {i : Nat} {v : V}, DqAll K H vs ds → vs[i]? = some v → ∃ d, ds[i]? = some d ∧ Dq K H v d
  | _, _, _, _, .nil, e => by simp at e
  | _, _, 0, _, .cons h _, e => by simp at e; subst e; exact ⟨_, rfl, h⟩
  | _, _, i + 1, _, .cons _ r, e => by
    obtain ⟨v, a, b⟩ := DqAll.getV (i := i) r (by simpa using e)
    exact ⟨v, by simpa using a, b⟩
theorem DqAll.append {K : PySem.W.Frag} {H : Hp} : ∀ {vs ws : List V} {ds es : List PyData}, DqAll K H vs ds → DqAll K H ws es → DqAll K H (vs ++ ws) (ds ++ es)
  | _, _, _, _, .nil, s => s
  | _, _, _, _, .cons h r, s => .cons h (DqAll.append r s)
theorem DqAll.take {K : PySem.W.Frag} {H : Hp} : ∀ {vs : List V} {ds : List PyData} (n : Nat), DqAll K H vs ds → DqAll K H (vs.take n) (ds.take n)
  | _, _, 0, _ => .nil
  | _, _, _ + 1, .nil => .nil
  | _, _, n + 1, .cons h r => .cons h (DqAll.take n r)
theorem DqAll.drop {K : PySem.W.Frag} {H : Hp} : ∀ {vs : List V} {ds : List PyData} (n : Nat), DqAll K H vs ds → DqAll K H (vs.drop n) (ds.drop n)
  | _, _, 0, r => r
  | _, _, _ + 1, .nil => .nil
  | _, _, n + 1, .cons _ r => DqAll.drop n r
theorem DqAll.set {K : PySem.W.Frag} {H : Hp} {v : V} {d : PyData} (h : Dq K H v d) : ∀ {vs : List V} {ds : List PyData} (i : Nat), DqAll K H vs ds → DqAll K H (vs.set i v) (ds.set i d)
  | _, _, _, .nil => .nil
  | _, _, 0, .cons _ r => .cons h r
  | _, _, i + 1, .cons a r => .cons a (DqAll.set h i r)
theorem DqAll.one {K : PySem.W.Frag} {H : Hp} {v : V} {d : PyData} (h : Dq K H v d) : DqAll K H [v] [d] := .cons h .nil

inductive Tr where
  | dat (d : PyData)
  | lst (xs : List PyData)
  | dic (kvs : List (Key × PyData))
  | dit (kvs : List (List Key × PyData))
  | row (xss : List (List PyData))
  | din (kvs : List (NestedKey × PyData))
  | hol (a : Addr)
  | ins (C : Str) (fs : List (Str × Tr))
  | dst (fs : List (Str × Tr))
/-- the class that the top's name holds -/
def clsK (K : PySem.W.Frag) (C : Str) (a : Addr) : Prop := PySem.W.nsIn K mainGlobals C = some (some (.ref a))
inductive DqKV {κ : Type} (K : PySem.W.Frag) (H : Hp) : List (κ × V) → List (κ × PyData) → Prop
  | nil : DqKV K H [] []
  | cons {k : κ} {v : V} {d : PyData} {l : List (κ × V)} {r : List (κ × PyData)} : Dq K H v d → DqKV K H l r → DqKV K H ((k, v) :: l) ((k, d) :: r)
mutual
def flatN : NestedKey → Bool
  | .none => false
  | .num _ => true
  | .text _ => false
  | .tup ks => flatNs ks
def flatNs : List NestedKey → Bool
  | [] => true
  | k :: ks => flatN k && flatNs ks
end
mutual
theorem flatN_hash {w w' : World} : ∀ k : NestedKey, flatN k = true → k.hash w = k.hash w'
  | .none, h => by cases h
  | .num _, _ => rfl
  | .text _, h => by cases h
  | .tup ks, h => by
    unfold NestedKey.hash
    rw [flatNs_hash (w := w) (w' := w') ks (by unfold flatN at h; exact h)]
theorem flatNs_hash {w w' : World} : ∀ ks : List NestedKey, flatNs ks = true → NestedKey.hashes w ks = NestedKey.hashes w' ks
  | [], _ => rfl
  | k :: ks, h => by
    unfold flatNs at h
    rw [Bool.and_eq_true] at h
    unfold NestedKey.hashes
    rw [flatN_hash (w := w) (w' := w') k h.1, flatNs_hash (w := w) (w' := w') ks h.2]
end
abbrev NX (l : List (NestedKey × Addr × V)) (xs : List (NestedKey × Addr × Value)) : Prop := Paired (fun p q => p.1 = q.1 ∧ p.2.1 = q.2.1 ∧ RelV p.2.2 q.2.2) l xs
abbrev prN (l : List (NestedKey × Addr × V)) : List (NestedKey × V) := l.map fun x => (x.1, x.2.2)
/-- the dict whose keys are such tuples, by its object alone -/
def NDic (a : Addr) (l : List (NestedKey × Addr × V)) (h : Heap) : Prop :=
  (a == sysModules) = false ∧ l.length ≤ sizeLine ∧ (l.map (·.1)).Nodup ∧ (∀ x ∈ l, flatN x.1 = true) ∧
    ∃ (o : Obj) (es : Array DictEntry) (ep : Nat) (xs : List (NestedKey × Addr × Value)) (w : World), h.get? a = some o ∧ o.ExactDict ∧ o.data = .dict es ep ∧ NX l xs ∧ es.toList = xs.map fun x => ⟨x.1.hash w, .ref x.2.1, x.2.2⟩
/-- a key's tuple stands in the persistent part -/
def KeyOk (K : PySem.W.Frag) (P : Hp) (x : NestedKey × Addr × V) : Prop := Dq K P (.ref x.2.1) x.1.data ∧ flatN x.1 = true ∧ x.1.depth ≤ 8
theorem KeyOk.mono {K : PySem.W.Frag} {P P' : Hp} (s : Same P P') {x : NestedKey × Addr × V} (h : KeyOk K P x) : KeyOk K P' x := ⟨h.1.mono s, h.2⟩
def NKV (K : PySem.W.Frag) (P : Hp) (l : List (NestedKey × Addr × V)) (r : List (NestedKey × PyData)) : Prop := DqKV K P (prN l) r ∧ ∀ x ∈ l, KeyOk K P x
/-- lists inside a list that is owned: they are owned too -/
inductive RowL (K : PySem.W.Frag) (P H : Hp) : List (List PyData) → List V → List Addr → Prop
  | nil : RowL K P H [] [] []
  | cons {b : Addr} {us vs : List V} {xs : List PyData} {xss : List (List PyData)} {fp : List Addr} : P b = none → H b = some (.lst us) → DqAll K P us xs → RowL K P H xss vs fp → b ∉ fp → RowL K P H (xs :: xss) (.ref b :: vs) (b :: fp)
theorem RowL.footN {K : PySem.W.Frag} {P H : Hp} : ∀ {xss : List (List PyData)} {vs : List V} {fp : List Addr}, RowL K P H xss vs fp → ∀ a ∈ fp, ¬ ∃ xs, H a = some (.tup xs)
  | _, _, _, .nil, _, h => nomatch h
  | _, _, _, .cons _ q _ r _, a, h => by
    rcases List.mem_cons.mp h with rfl | h
    · rintro ⟨xs, e⟩; rw [q] at e; cases e
    · exact RowL.footN r a h
theorem RowL.foot {K : PySem.W.Frag} {P H : Hp} : ∀ {xss : List (List PyData)} {vs : List V} {fp : List Addr}, RowL K P H xss vs fp → ∀ a ∈ fp, P a = none ∧ ∃ o, H a = some o
  | _, _, _, .nil, _, h => nomatch h
  | _, _, _, .cons p q _ r _, a, h => by
    rcases List.mem_cons.mp h with rfl | h
    · exact ⟨p, _, q⟩
    · exact RowL.foot r a h
theorem RowL.mono {K : PySem.W.Frag} {P P' H H' : Hp} (pp : Same P P') : ∀ {xss : List (List PyData)} {vs : List V} {fp : List Addr}, RowL K P H xss vs fp → (∀ a, a ∈ fp → H' a = H a ∧ P' a = none) → RowL K P' H' xss vs fp
  | _, _, _, .nil, _ => .nil
  | _, _, _, .cons _ q d r n, k => .cons (k _ List.mem_cons_self).2 ((k _ List.mem_cons_self).1.trans q) (d.mono pp) (RowL.mono pp r fun a h => k a (List.mem_cons_of_mem _ h)) n
theorem RowL.det {K : PySem.W.Frag} {P H : Hp} : ∀ {xss : List (List PyData)} {vs : List V} {fp fq : List Addr}, RowL K P H xss vs fp → RowL K P H xss vs fq → fp = fq
  | _, _, _, _, .nil, r => by cases r; rfl
  | _, _, _, _, .cons _ _ _ s _, r => by
    cases r with
    | cons _ _ _ s2 _ => rw [RowL.det s s2]
/-- the attributes of a dict that stands for a record -/
abbrev dstL (l : List (Str × V)) : List (Key × V) := l.map fun p => (.inr p.1, p.2)
mutual
inductive TR (K : PySem.W.Frag) (P H : Hp) : Tr → V → List Addr → Prop
  | dat {d : PyData} {v : V} : Dq K P v d → TR K P H (.dat d) v []
  | lst {a : Addr} {vs : List V} {xs : List PyData} : P a = none → H a = some (.lst vs) → DqAll K P vs xs → TR K P H (.lst xs) (.ref a) [a]
  | dic {a : Addr} {l : List (Key × V)} {r : List (Key × PyData)} : P a = none → H a = some (.dK l) → DqKV K P l r → TR K P H (.dic r) (.ref a) [a]
  | dit {a : Addr} {l : List (List Key × V)} {r : List (List Key × PyData)} : P a = none → H a = some (.dT l) → DqKV K P l r → TR K P H (.dit r) (.ref a) [a]
  | row {a : Addr} {vs : List V} {xss : List (List PyData)} {fp : List Addr} : P a = none → H a = some (.lst vs) → RowL K P H xss vs fp → a ∉ fp → TR K P H (.row xss) (.ref a) (a :: fp)
  | din {a : Addr} {l : List (NestedKey × Addr × V)} {r : List (NestedKey × PyData)} : P a = none → H a = some (.ext (NDic a l)) → NKV K P l r → TR K P H (.din r) (.ref a) [a]
  | hol {a : Addr} : TR K P H (.hol a) (.ref a) []
  | dst {a : Addr} {fs : List (Str × Tr)} {l : List (Str × V)} {fp : List Addr} : P a = none → H a = some (.dK (dstL l)) → TRs K P H fs l fp → a ∉ fp → TR K P H (.dst fs) (.ref a) (a :: fp)
  | ins {C : Str} {c a dx : Addr} {fs : List (Str × Tr)} {l : List (Str × V)} {fp : List Addr} : P a = none → P dx = none → H a = some (.ins c dx l) → H dx = some (.own a) → clsK K C c → TRs K P H fs l fp → a ∉ fp → dx ∉ fp → dx ≠ a → TR K P H (.ins C fs) (.ref a) (a :: dx :: fp)
inductive TRs (K : PySem.W.Frag) (P H : Hp) : List (Str × Tr) → List (Str × V) → List Addr → Prop
  | nil : TRs K P H [] [] []
  | cons {x : Str} {t : Tr} {v : V} {ts : List (Str × Tr)} {l : List (Str × V)} {fp fq : List Addr} : TR K P H t v fp → TRs K P H ts l fq → (∀ a ∈ fp, a ∉ fq) → TRs K P H ((x, t) :: ts) ((x, v) :: l) (fp ++ fq)
end
theorem DqKV.mono {κ : Type} {K : PySem.W.Frag} {H H' : Hp} {l : List (κ × V)} {r : List (κ × PyData)} (h : DqKV K H l r) (s : Same H H') : DqKV K H' l r := by
  induction h with
  | nil => exact .nil
  | cons d _ ih => exact .cons (d.mono s) ih
theorem NKV.mono {K : PySem.W.Frag} {P P' : Hp} {l : List (NestedKey × Addr × V)} {r : List (NestedKey × PyData)} (h : NKV K P l r) (s : Same P P') : NKV K P' l r := ⟨h.1.mono s, fun x hx => (h.2 x hx).mono s⟩
mutual
theorem TR.footN {K : PySem.W.Frag} {P H : Hp} : ∀ {t : Tr} {v : V} {fp : List Addr}, TR K P H t v fp → ∀ a ∈ fp, ¬ ∃ xs, H a = some (.tup xs)
  | _, _, _, .dat _, _, h => nomatch h
  | _, _, _, .lst p q _, a, h => by cases List.mem_singleton.mp h; rintro ⟨xs, e⟩; rw [q] at e; cases e
  | _, _, _, .dic p q _, a, h => by cases List.mem_singleton.mp h; rintro ⟨xs, e⟩; rw [q] at e; cases e
  | _, _, _, .dit p q _, a, h => by cases List.mem_singleton.mp h; rintro ⟨xs, e⟩; rw [q] at e; cases e
  | _, _, _, .row p q r _, a, h => by
    rcases List.mem_cons.mp h with rfl | h
    · rintro ⟨xs, e⟩; rw [q] at e; cases e
    · exact r.footN a h
  | _, _, _, .din p q _, a, h => by cases List.mem_singleton.mp h; rintro ⟨xs, e⟩; rw [q] at e; cases e
  | _, _, _, .hol, _, h => nomatch h
  | _, _, _, .dst p q r _, a, h => by
    rcases List.mem_cons.mp h with rfl | h
    · rintro ⟨xs, e⟩; rw [q] at e; cases e
    · exact TRs.footN r a h
  | _, _, _, .ins p1 p2 q1 q2 _ r _ _ _, a, h => by
    rcases List.mem_cons.mp h with rfl | h
    · rintro ⟨xs, e⟩; rw [q1] at e; cases e
    · rcases List.mem_cons.mp h with rfl | h
      · rintro ⟨xs, e⟩; rw [q2] at e; cases e
      · exact TRs.footN r a h
theorem TRs.footN {K : PySem.W.Frag} {P H : Hp} : ∀ {t : List (Str × Tr)} {v : List (Str × V)} {fp : List Addr}, TRs K P H t v fp → ∀ a ∈ fp, ¬ ∃ xs, H a = some (.tup xs)
  | _, _, _, .nil, _, h => nomatch h
  | _, _, _, .cons t ts _, a, h => by
    rcases List.mem_append.mp h with h | h
    · exact TR.footN t a h
    · exact TRs.footN ts a h
end
mutual
theorem TR.foot {K : PySem.W.Frag} {P H : Hp} : ∀ {t : Tr} {v : V} {fp : List Addr}, TR K P H t v fp → ∀ a ∈ fp, P a = none ∧ ∃ o, H a = some o
  | _, _, _, .dat _, _, h => nomatch h
  | _, _, _, .lst p q _, a, h => by cases List.mem_singleton.mp h; exact ⟨p, _, q⟩
  | _, _, _, .dic p q _, a, h => by cases List.mem_singleton.mp h; exact ⟨p, _, q⟩
  | _, _, _, .dit p q _, a, h => by cases List.mem_singleton.mp h; exact ⟨p, _, q⟩
  | _, _, _, .row p q r _, a, h => by
    rcases List.mem_cons.mp h with rfl | h
    · exact ⟨p, _, q⟩
    · exact r.foot a h
  | _, _, _, .din p q _, a, h => by cases List.mem_singleton.mp h; exact ⟨p, _, q⟩
  | _, _, _, .hol, _, h => nomatch h
  | _, _, _, .dst p q r _, a, h => by
    rcases List.mem_cons.mp h with rfl | h
    · exact ⟨p, _, q⟩
    · exact TRs.foot r a h
  | _, _, _, .ins p1 p2 q1 q2 _ r _ _ _, a, h => by
    rcases List.mem_cons.mp h with rfl | h
    · exact ⟨p1, _, q1⟩
    · rcases List.mem_cons.mp h with rfl | h
      · exact ⟨p2, _, q2⟩
      · exact TRs.foot r a h
theorem TRs.foot {K : PySem.W.Frag} {P H : Hp} : ∀ {t : List (Str × Tr)} {v : List (Str × V)} {fp : List Addr}, TRs K P H t v fp → ∀ a ∈ fp, P a = none ∧ ∃ o, H a = some o
  | _, _, _, .nil, _, h => nomatch h
  | _, _, _, .cons r s _, a, h => by
    rcases List.mem_append.mp h with h | h
    · exact TR.foot r a h
    · exact TRs.foot s a h
end
mutual
theorem TR.mono {K : PySem.W.Frag} {P P' H H' : Hp} (pp : Same P P') : ∀ {t : Tr} {v : V} {fp : List Addr}, TR K P H t v fp → (∀ a, a ∈ fp → H' a = H a ∧ P' a = none) → TR K P' H' t v fp
  | _, _, _, .dat d, _ => .dat (d.mono pp)
  | _, _, _, .lst _ q r, k => .lst (k _ (List.mem_singleton.mpr rfl)).2 ((k _ (List.mem_singleton.mpr rfl)).1.trans q) (r.mono pp)
  | _, _, _, .dic _ q r, k => .dic (k _ (List.mem_singleton.mpr rfl)).2 ((k _ (List.mem_singleton.mpr rfl)).1.trans q) (r.mono pp)
  | _, _, _, .dit _ q r, k => .dit (k _ (List.mem_singleton.mpr rfl)).2 ((k _ (List.mem_singleton.mpr rfl)).1.trans q) (r.mono pp)
  | _, _, _, .row _ q r n, k => .row (k _ List.mem_cons_self).2 ((k _ List.mem_cons_self).1.trans q) (r.mono pp fun a h => k a (List.mem_cons_of_mem _ h)) n
  | _, _, _, .din _ q r, k => .din (k _ (List.mem_singleton.mpr rfl)).2 ((k _ (List.mem_singleton.mpr rfl)).1.trans q) (r.mono pp)
  | _, _, _, .hol, _ => .hol
  | _, _, _, .dst _ q r n, k => .dst (k _ List.mem_cons_self).2 ((k _ List.mem_cons_self).1.trans q) (TRs.mono pp r fun a h => k a (List.mem_cons_of_mem _ h)) n
  | _, _, _, .ins _ _ q1 q2 c r n1 n2 n3, k => .ins (k _ List.mem_cons_self).2 (k _ (List.mem_cons_of_mem _ List.mem_cons_self)).2 ((k _ List.mem_cons_self).1.trans q1) ((k _ (List.mem_cons_of_mem _ List.mem_cons_self)).1.trans q2) c
      (TRs.mono pp r fun a h => k a (List.mem_cons_of_mem _ (List.mem_cons_of_mem _ h))) n1 n2 n3
theorem TRs.mono {K : PySem.W.Frag} {P P' H H' : Hp} (pp : Same P P') : ∀ {t : List (Str × Tr)} {v : List (Str × V)} {fp : List Addr}, TRs K P H t v fp → (∀ a, a ∈ fp → H' a = H a ∧ P' a = none) → TRs K P' H' t v fp
  | _, _, _, .nil, _ => .nil
  | _, _, _, .cons r s d, k => .cons (TR.mono pp r fun a h => k a (List.mem_append_left _ h)) (TRs.mono pp s fun a h => k a (List.mem_append_right _ h)) d
end

inductive Sl where
  | un
  | dat (d : PyData)
  | own (xs : List PyData)
  | scr (ns : List Int)
  | fn (x : Str)
  | tr (t : Tr)
/-- what is owned: a list, an object, a dict -/
def Sl.ow : Sl → Bool
  | .own _ => true
  | .tr _ => true
  | _ => false
abbrev En := List Sl

inductive SlR (K : PySem.W.Frag) (P H : Hp) : Sl → Option V → List Addr → Prop
  | un {ov : Option V} : SlR K P H .un ov []
  | dat {d : PyData} {v : V} : Dq K P v d → SlR K P H (.dat d) (some v) []
  | own {a : Addr} {vs : List V} {xs : List PyData} : P a = none → H a = some (.lst vs) → DqAll K P vs xs → SlR K P H (.own xs) (some (.ref a)) [a]
  | scr {a : Addr} {ns : List Int} : SqL K P a (ns.map V.int) → SlR K P H (.scr ns) (some (.ref a)) []
  | fn {x : Str} {f : Addr} : PySem.W.nsIn K mainGlobals x = some (some (.ref f)) → SlR K P H (.fn x) (some (.ref f)) []
  | tr {t : Tr} {a : Addr} {fp : List Addr} : TR K P H t (.ref a) fp → SlR K P H (.tr t) (some (.ref a)) fp

/-- no new thing in P' but what was free -/
def Fre (H : Hp) (a : Addr) : Prop := H a = none ∨ ∃ xs, H a = some (.tup xs)
def Fresh (F : Addr → Prop) (P H P' : Hp) : Prop := ∀ a o, P' a = some o → (∃ u, P a = some u) ∨ Fre H a ∨ F a
def In (fps : Nat → List Addr) (a : Addr) : Prop := ∃ i, a ∈ fps i
abbrev NoF : Addr → Prop := fun _ => False

structure Rel (K : PySem.W.Frag) (vs0 : List V) (P : Hp) (E : En) (σ : St) (H : Hp) (fps : Nat → List Addr) : Prop where
  sub : Same P H
  len : E.length = σ.length
  sl : ∀ (i : Nat) (s : Sl), E[i]? = some s → ∃ ov, σ[i]? = some ov ∧ SlR K P H s ov (fps i)
  out : ∀ i : Nat, E.length ≤ i → fps i = []
  dj : ∀ (i j : Nat) (a : Addr), a ∈ fps i → a ∈ fps j → i = j
  par : ∀ (i : Nat) (s : Sl) (v : V), vs0[i]? = some v → E[i]? = some s → s.ow = true → σ[i]? = some (some v)

structure Step (F : Addr → Prop) (P H : Hp) (F' : Addr → Prop) (P' H' : Hp) : Prop where
  pp : Same P P'
  keep : ∀ a o, H a = some o → ¬ F a → H' a = some o
  fresh : Fresh F P H P'
  foot : ∀ a, F' a → F a ∨ H a = none
  live : ∀ a o, H a = some o → ∃ u, H' a = some u

theorem Step.refl (F : Addr → Prop) (P H : Hp) : Step F P H F P H := ⟨Same.refl P, fun _ _ h _ => h, fun a o h => .inl ⟨o, h⟩, fun _ h => .inl h, fun _ o h => ⟨o, h⟩⟩
theorem Step.trans {F F1 F2 : Addr → Prop} {P H P1 H1 P2 H2 : Hp} (a : Step F P H F1 P1 H1) (b : Step F1 P1 H1 F2 P2 H2) : Step F P H F2 P2 H2 where
  pp := a.pp.trans b.pp
  keep := fun x o h n => b.keep x o (a.keep x o h n) fun h1 => by
    rcases a.foot x h1 with h2 | h2
    · exact n h2
    · rw [h] at h2; cases h2
  fresh := fun x o h => by
    rcases b.fresh x o h with ⟨u, h1⟩ | h1 | h1
    · exact a.fresh x u h1
    · by_cases hF : F x
      · exact .inr (.inr hF)
      · cases e : H x with
        | none => exact .inr (.inl (.inl e))
        | some u =>
          rcases h1 with h1 | ⟨xs, h1⟩
          · rw [a.keep x u e hF] at h1
            cases h1
          · rw [a.keep x u e hF] at h1
            cases h1
            exact .inr (.inl (.inr ⟨xs, e⟩))
    · rcases a.foot x h1 with h2 | h2
      · exact .inr (.inr h2)
      · exact .inr (.inl (.inl h2))
  foot := fun x h => by
    rcases b.foot x h with h1 | h1
    · exact a.foot x h1
    · by_cases hF : F x
      · exact .inl hF
      · cases e : H x with
        | none => exact .inr rfl
        | some u =>
          rw [a.keep x u e hF] at h1
          cases h1
  live := fun x o h => by
    obtain ⟨u, h1⟩ := a.live x o h
    exact b.live x u h1

theorem Step.free {F F' : Addr → Prop} {P H P' H' : Hp} (s : Step F P H F' P' H') {a : Addr} (h : H' a = none) : H a = none := by
  cases e : H a with
  | none => rfl
  | some o =>
    obtain ⟨u, h1⟩ := s.live a o e
    rw [h] at h1
    cases h1
section
variable {K : PySem.W.Frag} {vs0 : List V} {P P' : Hp} {E E' : En} {σ σ' : St} {H H' : Hp} {fps fps' : Nat → List Addr}
theorem SlR.foot {s : Sl} {ov : Option V} {fp : List Addr} (h : SlR K P H s ov fp) {a : Addr} (ha : a ∈ fp) : P a = none ∧ ∃ o, H a = some o := by
  cases h with
  | un => cases ha
  | dat _ => cases ha
  | own p q _ =>
    cases List.mem_singleton.mp ha
    exact ⟨p, _, q⟩
  | scr _ => cases ha
  | fn _ => cases ha
  | tr r => exact r.foot a ha
theorem SlR.footN {s : Sl} {ov : Option V} {fp : List Addr} (h : SlR K P H s ov fp) {a : Addr} (ha : a ∈ fp) : ¬ ∃ xs, H a = some (.tup xs) := by
  cases h with
  | un => cases ha
  | dat _ => cases ha
  | own p q _ =>
    cases List.mem_singleton.mp ha
    rintro ⟨xs, e⟩
    rw [q] at e
    cases e
  | scr _ => cases ha
  | fn _ => cases ha
  | tr r => exact r.footN a ha
theorem Rel.footN (r : Rel K vs0 P E σ H fps) {a : Addr} (h : In fps a) : ¬ ∃ xs, H a = some (.tup xs) := by
  obtain ⟨i, hi⟩ := h
  by_cases hl : i < E.length
  · obtain ⟨ov, _, q⟩ := r.sl i E[i] (List.getElem?_eq_getElem hl)
    exact q.footN hi
  · rw [r.out i (by omega)] at hi
    cases hi
theorem Rel.foot (r : Rel K vs0 P E σ H fps) {a : Addr} (h : In fps a) : P a = none ∧ ∃ o, H a = some o := by
  obtain ⟨i, hi⟩ := h
  by_cases hl : i < E.length
  · obtain ⟨ov, _, q⟩ := r.sl i E[i] (List.getElem?_eq_getElem hl)
    exact q.foot hi
  · rw [r.out i (by omega)] at hi
    cases hi
theorem SlR.mono {s : Sl} {ov : Option V} {fp : List Addr} (h : SlR K P H s ov fp) (pp : Same P P') (k : ∀ a, a ∈ fp → H' a = H a ∧ P' a = none) : SlR K P' H' s ov fp := by
  cases h with
  | un => exact .un
  | dat d => exact .dat (d.mono pp)
  | own p q r =>
    obtain ⟨h1, h2⟩ := k _ (List.mem_singleton.mpr rfl)
    exact .own h2 (h1.trans q) (r.mono pp)
  | scr q => exact .scr (pp.seq q)
  | fn q => exact .fn q
  | tr q => exact .tr (q.mono pp k)
/-- the persistent part grows by what was free; all that was tracked stays -/
theorem Rel.alloc (r : Rel K vs0 P E σ H fps) (pp : Same P P') (sub : Same P' H') (hh : Same H H') (fr : Fresh NoF P H P') : Rel K vs0 P' E σ H' fps := by
  refine ⟨sub, r.len, fun i s hs => ?_, r.out, r.dj, r.par⟩
  obtain ⟨ov, e, q⟩ := r.sl i s hs
  refine ⟨ov, e, q.mono pp fun a ha => ?_⟩
  obtain ⟨h1, o, h2⟩ := q.foot ha
  refine ⟨(hh _ _ h2).trans h2.symm, ?_⟩
  cases e2 : P' a with
  | none => rfl
  | some u =>
    rcases fr a u e2 with ⟨w, h3⟩ | h3 | h3
    · rw [h1] at h3; cases h3
    · rcases h3 with h3 | h3
      · rw [h2] at h3; cases h3
      · exact absurd h3 (q.footN ha)
    · exact h3.elim
theorem Step.alloc {F : Addr → Prop} (pp : Same P P') (hh : Same H H') (fr : Fresh NoF P H P') : Step F P H F P' H' :=
  ⟨pp, fun a o h _ => hh a o h, fun a o h => by
    rcases fr a o h with h | h | h
    · exact .inl h
    · exact .inr (.inl h)
    · exact h.elim, fun a h => .inl h, fun a o h => ⟨o, hh a o h⟩⟩
end

abbrev SE (α : Type) := En → Option (α × En)
def ret {α : Type} (a : α) : SE α := fun E => some (a, E)
def bnd {α β : Type} (f : SE α) (k : α → SE β) : SE β := fun E => match f E with
  | some (a, E') => k a E'
  | none => none
def lft {α : Type} (o : Option α) : SE α := fun E => match o with
  | some a => some (a, E)
  | none => none
theorem bnd_some {α β : Type} {f : SE α} {k : α → SE β} {E E2 : En} {b : β} (h : bnd f k E = some (b, E2)) : ∃ a E1, f E = some (a, E1) ∧ k a E1 = some (b, E2) := by
  unfold bnd at h
  split at h
  · rename_i a E1 e
    exact ⟨a, E1, e, h⟩
  · cases h
theorem lft_some {α : Type} {o : Option α} {E E2 : En} {a : α} (h : lft o E = some (a, E2)) : o = some a ∧ E2 = E := by
  unfold lft at h
  split at h
  · injection h with h
    injection h with h1 h2
    subst h1 h2
    exact ⟨rfl, rfl⟩
  · cases h
theorem ret_some {α : Type} {a b : α} {E E2 : En} (h : ret a E = some (b, E2)) : b = a ∧ E2 = E := by
  unfold ret at h
  injection h with h
  injection h with h1 h2
  exact ⟨h1.symm, h2.symm⟩

/-- which heap a value's data is read in -/
abbrev pick (p : Bool) (P H : Hp) : Hp := bif p then P else H
/-- m: the expression may change owned lists; p: its value stands in the persistent part -/
def tX (K : PySem.W.Frag) (m p : Bool) (f : SE PyData) : TE := fun σ H Q => ∃ (vs0 : List V) (P : Hp) (E : En) (fps : Nat → List Addr) (d : PyData) (E' : En), Rel K vs0 P E σ H fps ∧ f E = some (d, E') ∧
  ∀ (P' H' : Hp) (fps' : Nat → List Addr) (v : V), Rel K vs0 P' E' σ H' fps' → Step (In fps) P H (In fps') P' H' → (m = false → Same H H') → Dq K (pick p P' H') v d → Q v H'
def tXL (K : PySem.W.Frag) (m : Bool) (f : SE (List PyData)) : TE := fun σ H Q => ∃ (vs0 : List V) (P : Hp) (E : En) (fps : Nat → List Addr) (ds : List PyData) (E' : En), Rel K vs0 P E σ H fps ∧ f E = some (ds, E') ∧
  ∀ (P' H' : Hp) (fps' : Nat → List Addr) (a : Addr) (vs : List V), Rel K vs0 P' E' σ H' fps' → Step (In fps) P H (In fps') P' H' → (m = false → Same H H') → H a = none → P' a = none → ¬ In fps' a → H' a = some (.lst vs) → DqAll K P' vs ds → Q (.ref a) H'
def tXT (K : PySem.W.Frag) (m : Bool) (f : SE Bool) : TT := fun σ H Q => ∃ (vs0 : List V) (P : Hp) (E : En) (fps : Nat → List Addr) (b : Bool) (E' : En), Rel K vs0 P E σ H fps ∧ f E = some (b, E') ∧
  ∀ (P' H' : Hp) (fps' : Nat → List Addr), Rel K vs0 P' E' σ H' fps' → Step (In fps) P H (In fps') P' H' → (m = false → Same H H') → Q b H'
def tXA (K : PySem.W.Frag) (m : Bool) (f : SE (List PyData)) : TA := fun σ H Q => ∃ (vs0 : List V) (P : Hp) (E : En) (fps : Nat → List Addr) (ds : List PyData) (E' : En), Rel K vs0 P E σ H fps ∧ f E = some (ds, E') ∧
  ∀ (P' H' : Hp) (fps' : Nat → List Addr) (vs : List V), Rel K vs0 P' E' σ H' fps' → Step (In fps) P H (In fps') P' H' → (m = false → Same H H') → DqAll K P' vs ds → Q vs H'

/-- an expression | a new list | a test | arguments -/
def PX (X : Cx) (m p : Bool) (e : Expr) (f : SE PyData) : Prop := PE X e (tX X.K m p f)
def PL (X : Cx) (m : Bool) (e : Expr) (f : SE (List PyData)) : Prop := PE X e (tXL X.K m f)
def PXT (X : Cx) (m : Bool) (e : Expr) (f : SE Bool) : Prop := PT X e (tXT X.K m f)
def PXA (X : Cx) (m : Bool) (es : List Expr) (f : SE (List PyData)) : Prop := PA X es (tXA X.K m f)

theorem pe_imp {X : Cx} {e : Expr} {t u : TE} (h : PE X e t) (i : ∀ σ H Q, u σ H Q → t σ H Q) : PE X e u := ⟨fun pins s σ H Q I q => h.run pins s σ H Q I (i σ H Q q)⟩
theorem pt_imp {X : Cx} {e : Expr} {t u : TT} (h : PT X e t) (i : ∀ σ H Q, u σ H Q → t σ H Q) : PT X e u := ⟨fun pins s σ H Q I q => h.run pins s σ H Q I (i σ H Q q)⟩
theorem pw_imp {X : Cx} {e : Expr} {t u : TT} (h : PW X e t) (i : ∀ σ H Q, u σ H Q → t σ H Q) : PW X e u := ⟨fun wh pins s σ H Q I q => h.run wh pins s σ H Q I (i σ H Q q)⟩
theorem pa_imp {X : Cx} {es : List Expr} {t u : TA} (h : PA X es t) (i : ∀ σ H Q, u σ H Q → t σ H Q) : PA X es u := ⟨fun pos pins s σ H Q I q => h.run pos pins s σ H Q I (i σ H Q q)⟩
theorem ps_imp {X : Cx} {st : Stmt} {t u : TS} (h : PS X st t) (i : ∀ D σ H, u D σ H → t D σ H) : PS X st u := ⟨fun pins s σ H D I q => h.run pins s σ H D I (i D σ H q)⟩
theorem pss_imp {X : Cx} {st : List Stmt} {t u : TS} (h : PSs X st t) (i : ∀ D σ H, u D σ H → t D σ H) : PSs X st u := ⟨fun pins s σ H D I q => h.run pins s σ H D I (i D σ H q)⟩

theorem Dq.pick {K : PySem.W.Frag} {P H : Hp} {v : V} {d : PyData} {p : Bool} (s : Same P H) (h : Dq K (pick p P H) v d) : Dq K H v d := by
  cases p with
  | true => exact h.mono s
  | false => exact h

section
variable {X : Cx} {m m1 m2 p p1 p2 : Bool} {e a b : Expr} {pos : Pos} {f fa fb : SE PyData}
theorem PX.eff (h : PX X m p e f) : PX X true p e f := pe_imp h fun σ H Q => by
  rintro ⟨vs0, P, E, fps, d, E', r, hf, q⟩
  exact ⟨vs0, P, E, fps, d, E', r, hf, fun P' H' fps' v r' st _ dv => q P' H' fps' v r' st (fun z => nomatch z) dv⟩
theorem PX.brw (h : PX X m true e f) : PX X m false e f := pe_imp h fun σ H Q => by
  rintro ⟨vs0, P, E, fps, d, E', r, hf, q⟩
  exact ⟨vs0, P, E, fps, d, E', r, hf, fun P' H' fps' v r' st sm dv => q P' H' fps' v r' st sm (Dq.mono r'.sub dv)⟩
/-- a new list handed on is never changed again -/
theorem PL.px {g : SE (List PyData)} (h : PL X m e g) : PX X m true e (bnd g fun ds => ret (.list ds)) := pe_imp h fun σ H Q => by
  rintro ⟨vs0, P, E, fps, d, E', r, hf, q⟩
  obtain ⟨ds, E1, h1, h2⟩ := bnd_some hf
  obtain ⟨rfl, rfl⟩ := ret_some h2
  refine ⟨vs0, P, E, fps, ds, _, r, h1, fun P' H' fps' ad vs r' st sm ha pa nf hv dv => ?_⟩
  have s1 : Same P' (upd P' ad (.lst vs)) := fun x o hx => by rw [upd_ne (ne_of_none hx pa)]; exact hx
  have fr : ∀ x o, upd P' ad (.lst vs) x = some o → x = ad ∨ P' x = some o := fun x o hx => by
    by_cases e1 : x = ad
    · exact .inl e1
    · rw [upd_ne e1] at hx; exact .inr hx
  refine q (upd P' ad (.lst vs)) H' fps' (.ref ad) ⟨fun x o hx => ?_, r'.len, fun i s hs => ?_, r'.out, r'.dj, r'.par⟩ ⟨st.pp.trans s1, st.keep, fun x o hx => ?_, st.foot, st.live⟩ sm (.lst upd_same (dv.mono s1))
  · rcases fr x o hx with rfl | h3
    · rw [upd_same] at hx; cases hx; exact hv
    · exact r'.sub x o h3
  · obtain ⟨ov, e1, q1⟩ := r'.sl i s hs
    refine ⟨ov, e1, q1.mono s1 fun x hx => ⟨rfl, ?_⟩⟩
    have hne : x ≠ ad := fun z => nf (z ▸ ⟨i, hx⟩)
    rw [upd_ne hne]
    exact (q1.foot hx).1
  · rcases fr x o hx with rfl | h3
    · exact .inr (.inl (.inl ha))
    · exact st.fresh x o h3
end
end Fw
namespace Fw
open PySem PySem.Spec L2
open PyProof.Rows hiding St

def rdD (i : Nat) : SE PyData := fun E => match E[i]? with
  | some (.dat d) => some (d, E)
  | _ => none
def rdO (i : Nat) : SE PyData := fun E => match E[i]? with
  | some (.own xs) => some (.list xs, E)
  | _ => none
theorem rdD_some {i : Nat} {E E2 : En} {d : PyData} (h : rdD i E = some (d, E2)) : E[i]? = some (.dat d) ∧ E2 = E := by
  unfold rdD at h
  split at h
  · rename_i d' e
    injection h with h
    injection h with h1 h2
    subst h1 h2
    exact ⟨e, rfl⟩
  · cases h
theorem rdO_some {i : Nat} {E E2 : En} {d : PyData} (h : rdO i E = some (d, E2)) : ∃ xs, E[i]? = some (.own xs) ∧ d = .list xs ∧ E2 = E := by
  unfold rdO at h
  split at h
  · rename_i xs e
    injection h with h
    injection h with h1 h2
    subst h1 h2
    exact ⟨xs, e, rfl, rfl⟩
  · cases h
section
variable {X : Cx} {m m1 m2 p p1 p2 : Bool} {e a b : Expr} {pos : Pos} {f fa fb : SE PyData}
theorem px_var {i : Nat} (h : PE X e (tVar i)) : PX X false true e (rdD i) := pe_imp h fun σ H Q => by
  rintro ⟨vs0, P, E, fps, d, E', r, hf, q⟩
  obtain ⟨h1, rfl⟩ := rdD_some hf
  obtain ⟨ov, e1, s⟩ := r.sl i _ h1
  generalize hfp : fps i = fp at s
  cases s with
  | dat dv => exact ⟨_, e1, q P H fps _ r (.refl _ _ _) (fun _ => Same.refl H) dv⟩
theorem px_own {i : Nat} (h : PE X e (tVar i)) : PX X false false e (rdO i) := pe_imp h fun σ H Q => by
  rintro ⟨vs0, P, E, fps, d, E', r, hf, q⟩
  obtain ⟨xs, h1, rfl, rfl⟩ := rdO_some hf
  obtain ⟨ov, e1, s⟩ := r.sl i _ h1
  generalize hfp : fps i = fp at s
  cases s with
  | own pa ha dv => exact ⟨_, e1, q P H fps _ r (.refl _ _ _) (fun _ => Same.refl H) (.lst ha (dv.mono r.sub))⟩
/-- a value that is known everywhere -/
def Kn (K : PySem.W.Frag) (v : V) (d : PyData) : Prop := ∀ P : Hp, Dq K P v d
theorem px_kn {v : V} {d : PyData} (h : PE X e (tC v)) (k : Kn X.K v d) : PX X false true e (ret d) := pe_imp h fun σ H Q => by
  rintro ⟨vs0, P, E, fps, d', E', r, hf, q⟩
  obtain ⟨rfl, rfl⟩ := ret_some hf
  exact q P H fps v r (.refl _ _ _) (fun _ => Same.refl H) (k P)
theorem px_int {i : Int} {j : Nat} : PX X false true (.Constant (.int i) j pos) (ret (.int i)) := px_kn pe_int fun _ => .int i
theorem px_bl {b : Bool} {j : Nat} : PX X false true (.Constant (.bool b) j pos) (ret (.bool b)) := px_kn pe_bl fun _ => .bl b
theorem px_non {j : Nat} : PX X false true (.Constant .none j pos) (ret .none) := px_kn pe_non fun _ => .non
theorem px_str {x : Str} {j : Nat} : PX X false true (.Constant (.str x) j pos) (ret (.str x)) := px_kn pe_str fun _ => .str x

/-- what is shown behind an operation that lays new things at most -/
abbrev After (K : PySem.W.Frag) (P H : Hp) (z : PyData) (Q : VK) : Prop := ∀ (P' H' : Hp) (v : V), Same P P' → Same P' H' → Same H H' → Fresh NoF P H P' → Dq K P' v z → Q v H'
theorem Fresh.same {F : Addr → Prop} {P H : Hp} : Fresh F P H P := fun a o h => .inl ⟨o, h⟩
theorem After.at {K : PySem.W.Frag} {P H : Hp} {z : PyData} {Q : VK} (q : After K P H z Q) {v : V} (s : Same P H) (h : Dq K P v z) : Q v H := q P H v (Same.refl P) s (Same.refl H) .same h
theorem same_upd {H : Hp} {p : Addr} {o : HO} (h : H p = none) : Same H (upd H p o) := fun b x e => by
  rw [upd_ne (ne_of_none e h)]
  exact e
theorem same_upd2 {P H : Hp} {p : Addr} {o : HO} (s : Same P H) (h : H p = none) : Same (upd P p o) (upd H p o) := fun b x e => by
  by_cases e1 : b = p
  · subst e1
    rw [upd_same] at e ⊢
    exact e
  · rw [upd_ne e1] at e ⊢
    exact s b x e
theorem sub_none {P H : Hp} {p : Addr} (s : Same P H) (h : H p = none) : P p = none := by
  cases e : P p with
  | none => rfl
  | some o =>
    rw [s p o e] at h
    cases h
theorem fresh_upd {F : Addr → Prop} {P H : Hp} {p : Addr} {o : HO} (h : H p = none) : Fresh F P H (upd P p o) := fun a u e => by
  by_cases e1 : a = p
  · subst e1
    exact .inr (.inl (.inl h))
  · rw [upd_ne e1] at e
    exact .inl ⟨u, e⟩
theorem After.new {K : PySem.W.Frag} {P H : Hp} {z : PyData} {Q : VK} (q : After K P H z Q) {p : Addr} {o : HO} (s : Same P H) (h : H p = none) (d : Dq K (upd P p o) (.ref p) z) : Q (.ref p) (upd H p o) :=
  q (upd P p o) (upd H p o) (.ref p) (same_upd (sub_none s h)) (same_upd2 s h) (same_upd h) (fresh_upd h) d
def VO (K : PySem.W.Frag) (p1 p2 : Bool) (r : R2) (g : PyData → PyData → Option PyData) : Prop := ∀ (P H : Hp) (x y : V) (d e z : PyData) (Q : VK), Same P H → Dq K (pick p1 P H) x d → Dq K (pick p2 P H) y e → g d e = some z → After K P H z Q → r x y H Q
def VU (K : PySem.W.Frag) (p : Bool) (r : V → Hp → VK → Prop) (g : PyData → Option PyData) : Prop := ∀ (P H : Hp) (x : V) (d z : PyData) (Q : VK), Same P H → Dq K (pick p P H) x d → g d = some z → After K P H z Q → r x H Q
def bin (fa fb : SE PyData) (g : PyData → PyData → Option PyData) : SE PyData := bnd fa fun d => bnd fb fun e => lft (g d e)
def una (fa : SE PyData) (g : PyData → Option PyData) : SE PyData := bnd fa fun d => lft (g d)

theorem px_op2 {r : R2} {g : PyData → PyData → Option PyData} (h : PE X e (tOp r (tX X.K m1 p1 fa) (tX X.K m2 p2 fb))) (v : VO X.K p1 p2 r g) (hf : p1 = true ∨ m2 = false) : PX X (m1 || m2) true e (bin fa fb g) := pe_imp h fun σ H Q => by
  rintro ⟨vs0, P, E, fps, d, E', rel, hh, q⟩
  obtain ⟨d1, E1, h1, hh⟩ := bnd_some hh
  obtain ⟨d2, E2, h2, hh⟩ := bnd_some hh
  obtain ⟨h3, rfl⟩ := lft_some hh
  refine ⟨vs0, P, E, fps, d1, E1, rel, h1, fun P1 H1 fps1 x r1 s1 m1' dx => ⟨vs0, P1, E1, fps1, d2, E', r1, h2, fun P2 H2 fps2 y r2 s2 m2' dy => ?_⟩⟩
  have dx2 : Dq X.K (pick p1 P2 H2) x d1 := by
    cases p1 with
    | true => exact Dq.mono s2.pp dx
    | false =>
      rcases hf with hf | hf
      · cases hf
      · exact Dq.mono (m2' hf) dx
  refine v P2 H2 x y d1 d2 d Q r2.sub dx2 dy h3 fun P3 H3 w pp su hh fr dw => ?_
  refine q P3 H3 fps2 w (r2.alloc pp su hh fr) ((s1.trans s2).trans (.alloc pp hh fr)) (fun hm => ?_) dw
  rw [Bool.or_eq_false_iff] at hm
  exact ((m1' hm.1).trans (m2' hm.2)).trans hh
theorem px_op1 {r : V → Hp → VK → Prop} {g : PyData → Option PyData} (h : PE X e (fun σ H Q => tX X.K m p fa σ H fun x H1 => r x H1 Q)) (v : VU X.K p r g) : PX X m true e (una fa g) := pe_imp h fun σ H Q => by
  rintro ⟨vs0, P, E, fps, d, E', rel, hh, q⟩
  obtain ⟨d1, E1, h1, hh⟩ := bnd_some hh
  obtain ⟨h3, rfl⟩ := lft_some hh
  refine ⟨vs0, P, E, fps, d1, _, rel, h1, fun P1 H1 fps1 x r1 s1 m1' dx => ?_⟩
  refine v P1 H1 x d1 d Q r1.sub dx h3 fun P3 H3 w pp su hh fr dw => ?_
  exact q P3 H3 fps1 w (r1.alloc pp su hh fr) (s1.trans (.alloc pp hh fr)) (fun hm => (m1' hm).trans hh) dw

def gAdd : PyData → PyData → Option PyData
  | .int i, .int j => some (.int (i + j))
  | .str x, .str y => if x.length + y.length ≤ sizeLine then some (.str (x ++ y)) else none
  | .tuple xs, .tuple ys => if xs.length + ys.length ≤ sizeLine then some (.tuple (xs ++ ys)) else none
  | _, _ => none
abbrev rAddA (K : PySem.W.Frag) : R2 := fun x y H Q => (rI0 fun i j => .int (i + j)) x y H Q ∨ ((fun x y H Q => ∃ i j, x = V.str i ∧ y = V.str j ∧ i.length + j.length ≤ sizeLine ∧ Q (.str (i ++ j)) H) x y H Q ∨ rCatA K x y H Q)
theorem op_addA : OpR X (binaryOp .Add) (rAddA X.K) := op_add.or (op_add_str.or op_catA)
theorem vo_add {K : PySem.W.Frag} : VO K true true (rAddA K) gAdd := by
  intro P H x y d e z Q su dx dy hg q
  unfold gAdd at hg
  split at hg
  · cases dx; cases dy; cases hg
    exact .inl ⟨_, _, rfl, rfl, q.at su (.int _)⟩
  · split at hg
    · rename_i hl
      cases dx; cases dy; cases hg
      exact .inr (.inl ⟨_, _, rfl, rfl, hl, q.at su (.str _)⟩)
    · cases hg
  · split at hg
    · rename_i xs ys hl
      cases dx with
      | @tup a vs _ ha hv =>
        cases dy with
        | @tup b ws _ hb hw =>
          cases hg
          have l1 := hv.length
          have l2 := hw.length
          refine .inr (.inr ⟨a, b, vs, ws, rfl, rfl, seqC su ha, seqC su hb, by omega, fun e1 => ?_, fun e1 e2 => ?_, fun e1 e2 p hp => ?_⟩)
          · subst e1
            have : xs = [] := by cases xs with | nil => rfl | cons => simp at l1
            subst this
            exact q.at su (.tup hb hw)
          · subst e2
            have : ys = [] := by cases ys with | nil => rfl | cons => simp at l2
            subst this
            rw [List.append_nil] at q
            exact q.at su (.tup ha hv)
          · have s1 : Same P (upd P p (.tup (vs ++ ws))) := Fw.same_upd (sub_none su hp)
            exact q.new su hp (.tup (SqC.of upd_same) ((hv.mono s1).append (hw.mono s1)))
    · cases hg
  · cases hg
theorem px_add (ha : PX X m1 true a fa) (hb : PX X m2 true b fb) : PX X (m1 || m2) true (.BinOp a .Add b pos) (bin fa fb gAdd) := px_op2 (pe_op op_addA ha hb) vo_add (.inl rfl)
theorem dq_int {K : PySem.W.Frag} {H : Hp} {x : V} {i : Int} (h : Dq K H x (.int i)) : x = .int i := by cases h; rfl
theorem dq_bl {K : PySem.W.Frag} {H : Hp} {x : V} {i : Bool} (h : Dq K H x (.bool i)) : x = .bl i := by cases h; rfl
theorem dq_str {K : PySem.W.Frag} {H : Hp} {x : V} {i : Str} (h : Dq K H x (.str i)) : x = .str i := by cases h; rfl
/-- ints alone, under a condition -/
def gI (c : Int → Int → Bool) (g : Int → Int → PyData) : PyData → PyData → Option PyData
  | .int i, .int j => if c i j then some (g i j) else none
  | _, _ => none
theorem vo_I {K : PySem.W.Frag} {C : Int → Int → Prop} {c : Int → Int → Bool} {gv : Int → Int → V} {g : Int → Int → PyData} (hc : ∀ i j, c i j = true → C i j) (hd : ∀ i j P, Dq K P (gv i j) (g i j)) : VO K p1 p2 (rI C gv) (gI c g) := by
  intro P H x y d e z Q su dx dy hg q
  unfold gI at hg
  split at hg
  · split at hg
    · rename_i hl
      cases hg
      rw [dq_int dx, dq_int dy]
      exact ⟨_, _, rfl, rfl, hc _ _ hl, q.at su (hd _ _ _)⟩
    · cases hg
  · cases hg
theorem vo_I0 {K : PySem.W.Frag} {gv : Int → Int → V} {g : Int → Int → PyData} (hd : ∀ i j P, Dq K P (gv i j) (g i j)) : VO K p1 p2 (rI0 gv) (gI (fun _ _ => true) g) := by
  intro P H x y d e z Q su dx dy hg q
  unfold gI at hg
  split at hg
  · cases hg
    rw [dq_int dx, dq_int dy]
    exact ⟨_, _, rfl, rfl, q.at su (hd _ _ _)⟩
  · cases hg
def gSub := gI (fun _ _ => true) fun i j => .int (i - j)
def cMul (i j : Int) : Bool := decide (-(2 ^ 64) < i ∧ i < 2 ^ 64) || decide (-(2 ^ 64) < j ∧ j < 2 ^ 64)
def gMul := gI cMul fun i j => .int (i * j)
def gDiv := gI (fun _ j => decide (0 < j ∧ j < 18446744073709551616)) fun i j => .int (i / j)
def gMod := gI (fun _ j => decide (0 < j)) fun i j => .int (i % j)
theorem px_sub (ha : PX X m1 true a fa) (hb : PX X m2 true b fb) : PX X (m1 || m2) true (.BinOp a .Sub b pos) (bin fa fb gSub) := px_op2 (pe_op op_sub ha hb) (vo_I0 fun _ _ _ => .int _) (.inl rfl)
theorem px_mul (ha : PX X m1 true a fa) (hb : PX X m2 true b fb) : PX X (m1 || m2) true (.BinOp a .Mult b pos) (bin fa fb gMul) := px_op2 (pe_op op_mul ha hb) (vo_I (fun i j h => by
  unfold cMul at h
  rw [Bool.or_eq_true, decide_eq_true_iff, decide_eq_true_iff] at h
  exact h) fun _ _ _ => .int _) (.inl rfl)
theorem px_div (ha : PX X m1 true a fa) (hb : PX X m2 true b fb) : PX X (m1 || m2) true (.BinOp a .FloorDiv b pos) (bin fa fb gDiv) := px_op2 (pe_op op_fdivW ha hb) (vo_I (C := CDivW) (fun i j h => by
  have h : 0 < j ∧ j < 18446744073709551616 := of_decide_eq_true h
  exact wide_div (b := 64) h.1 (by have := h.2; omega) (by decide) (by decide)) fun _ _ _ => .int _) (.inl rfl)
theorem px_mod (ha : PX X m1 true a fa) (hb : PX X m2 true b fb) : PX X (m1 || m2) true (.BinOp a .Mod b pos) (bin fa fb gMod) := px_op2 (pe_op op_mod ha hb) (vo_I (fun i j h => of_decide_eq_true h) fun _ _ _ => .int _) (.inl rfl)
def gNeg : PyData → Option PyData
  | .int i => some (.int (-i))
  | _ => none
theorem px_neg (ha : PX X m p a fa) : PX X m true (.UnaryOp .USub a pos) (una fa gNeg) := px_op1 (pe_un un_neg ha) (by
  intro P H x d z Q su dx hg q
  unfold gNeg at hg
  split at hg
  · cases hg
    rw [dq_int dx]
    exact ⟨_, rfl, q.at su (.int _)⟩
  · cases hg)

def okEq : PyData → PyData → Bool
  | .none, .none => true
  | .none, .int _ => true
  | .int _, .none => true
  | .none, .bool _ => true
  | .bool _, .none => true
  | .none, .str _ => true
  | .str _, .none => true
  | .int _, .int _ => true
  | .bool _, .bool _ => true
  | .str _, .str _ => true
  | .int _, .str _ => true
  | .str _, .int _ => true
  | d, e => SeqAt.shaped d && SeqAt.shaped e
def gEq (d e : PyData) : Option PyData := if okEq d e then some (.bool (PyData.eqv d e)) else none
def gNe (d e : PyData) : Option PyData := if okEq d e then some (.bool (!PyData.eqv d e)) else none
theorem okEq_cases {K : PySem.W.Frag} {H : Hp} {x y : V} {d e : PyData} (h : okEq d e = true) (dx : Dq K H x d) (dy : Dq K H y e) : (scal x y = true ∧ PyData.eqv d e = decide (x = y)) ∨ (SeqAt.shaped d = true ∧ SeqAt.shaped e = true) := by
  unfold okEq at h
  split at h
  all_goals first
    | (cases dx; cases dy; refine .inl ⟨rfl, ?_⟩; simp [PyData.eqv]; done)
    | (cases dx; cases dy; refine .inl ⟨rfl, ?_⟩; simp [PyData.eqv, Bool.beq_eq_decide_eq]; done)
    | (rw [Bool.and_eq_true] at h; exact .inr h)
abbrev rEqA (K : PySem.W.Frag) : R2 := fun x y H Q => rEq x y H Q ∨ rEqD K x y H Q
abbrev rNeA (K : PySem.W.Frag) : R2 := fun x y H Q => rNe x y H Q ∨ rNeD K x y H Q
theorem vo_eq {K : PySem.W.Frag} : VO K p1 p2 (rEqA K) gEq := by
  intro P H x y d e z Q su dx dy hg q
  unfold gEq at hg
  split at hg
  · rename_i hok
    cases hg
    have dx := Dq.pick su dx
    have dy := Dq.pick su dy
    rcases okEq_cases hok dx dy with ⟨h1, h2⟩ | ⟨h1, h2⟩
    · refine .inl ⟨h1, ?_⟩
      rw [← h2]
      exact q.at su (.bl _)
    · exact .inr ⟨d, e, dx.dp, dy.dp, h1, h2, q.at su (.bl _)⟩
  · cases hg
theorem vo_ne {K : PySem.W.Frag} : VO K p1 p2 (rNeA K) gNe := by
  intro P H x y d e z Q su dx dy hg q
  unfold gNe at hg
  split at hg
  · rename_i hok
    cases hg
    have dx := Dq.pick su dx
    have dy := Dq.pick su dy
    rcases okEq_cases hok dx dy with ⟨h1, h2⟩ | ⟨h1, h2⟩
    · refine .inl ⟨h1, ?_⟩
      rw [← h2]
      exact q.at su (.bl _)
    · exact .inr ⟨d, e, dx.dp, dy.dp, h1, h2, q.at su (.bl _)⟩
  · cases hg
theorem px_eq {k : Nat} (hr : Room k X.A) (ha : PX X m1 p1 a fa) (hb : PX X m2 p2 b fb) (hf : p1 = true ∨ m2 = false) : PX X (m1 || m2) true (.Compare a [.Eq] [b] pos) (bin fa fb gEq) := px_op2 (pe_cmpR (op_eq.or (op_eqD hr.units)) ha hb (nomark _)) vo_eq hf
theorem px_ne {k : Nat} (hr : Room k X.A) (ha : PX X m1 p1 a fa) (hb : PX X m2 p2 b fb) (hf : p1 = true ∨ m2 = false) : PX X (m1 || m2) true (.Compare a [.NotEq] [b] pos) (bin fa fb gNe) := px_op2 (pe_cmpR (op_ne.or (op_neD hr.units)) ha hb (nomark _)) vo_ne hf
def gLt := gI (fun _ _ => true) fun i j => .bool (decide (i < j))
def gGt := gI (fun _ _ => true) fun i j => .bool (decide (j < i))
def gGe := gI (fun _ _ => true) fun i j => .bool (decide (j ≤ i))
def gLe : PyData → PyData → Option PyData
  | .int i, .int j => some (.bool (decide (i ≤ j)))
  | .str x, .str y => some (.bool (!decide (y.cps.toList < x.cps.toList)))
  | _, _ => none
abbrev rLeA : R2 := fun x y H Q => (rI0 fun i j => .bl (decide (i ≤ j))) x y H Q ∨ (fun x y H Q => ∃ i j, x = V.str i ∧ y = V.str j ∧ Q (.bl (!decide (j.cps.toList < i.cps.toList))) H) x y H Q
theorem op_leA : OpR X (compareOp .LtE) rLeA := op_le.or op_le_str
theorem vo_le {K : PySem.W.Frag} : VO K p1 p2 rLeA gLe := by
  intro P H x y d e z Q su dx dy hg q
  unfold gLe at hg
  split at hg
  · cases hg
    rw [dq_int dx, dq_int dy]
    exact .inl ⟨_, _, rfl, rfl, q.at su (.bl _)⟩
  · cases hg
    rw [dq_str dx, dq_str dy]
    exact .inr ⟨_, _, rfl, rfl, q.at su (.bl _)⟩
  · cases hg
theorem px_lt (ha : PX X m1 p1 a fa) (hb : PX X m2 p2 b fb) (hf : p1 = true ∨ m2 = false) : PX X (m1 || m2) true (.Compare a [.Lt] [b] pos) (bin fa fb gLt) := px_op2 (pe_cmpR op_lt ha hb (nomark _)) (vo_I0 fun _ _ _ => .bl _) hf
theorem px_gt (ha : PX X m1 p1 a fa) (hb : PX X m2 p2 b fb) (hf : p1 = true ∨ m2 = false) : PX X (m1 || m2) true (.Compare a [.Gt] [b] pos) (bin fa fb gGt) := px_op2 (pe_cmpR op_gt ha hb (nomark _)) (vo_I0 fun _ _ _ => .bl _) hf
theorem px_ge (ha : PX X m1 p1 a fa) (hb : PX X m2 p2 b fb) (hf : p1 = true ∨ m2 = false) : PX X (m1 || m2) true (.Compare a [.GtE] [b] pos) (bin fa fb gGe) := px_op2 (pe_cmpR op_ge ha hb (nomark _)) (vo_I0 fun _ _ _ => .bl _) hf
theorem px_le (ha : PX X m1 p1 a fa) (hb : PX X m2 p2 b fb) (hf : p1 = true ∨ m2 = false) : PX X (m1 || m2) true (.Compare a [.LtE] [b] pos) (bin fa fb gLe) := px_op2 (pe_cmpR op_leA ha hb (nomark _)) vo_le hf
/-- is None, is not None -/
def gIsN : PyData → Option PyData
  | .none => some (.bool true)
  | _ => some (.bool false)
def gNotN : PyData → Option PyData
  | .none => some (.bool false)
  | _ => some (.bool true)
theorem px_isN {j : Nat} {pos' : Pos} (ha : PX X m p a fa) : PX X m true (.Compare a [.Is] [.Constant .none j pos'] pos) (una fa gIsN) := px_op1 (r := fun x H Q => Q (.bl (decide (x = .non))) H) (pe_cmp (pc_isN ha)) (by
  intro P H x d z Q su dx hg q
  unfold gIsN at hg
  cases dx <;> cases hg <;> exact q.at su (.bl _))
theorem px_notN {j : Nat} {pos' : Pos} (ha : PX X m p a fa) : PX X m true (.Compare a [.IsNot] [.Constant .none j pos'] pos) (una fa gNotN) := px_op1 (r := fun x H Q => Q (.bl (!decide (x = .non))) H) (pe_cmp (pc_notN ha)) (by
  intro P H x d z Q su dx hg q
  unfold gNotN at hg
  cases dx <;> cases hg <;> exact q.at su (.bl _))
end
end Fw
namespace Fw
open PySem PySem.Spec L2
open PyProof.Rows hiding St
section
variable {X : Cx} {m m1 m2 m3 p p1 p2 p3 : Bool} {e a b c : Expr} {rest : List Expr} {pos : Pos} {f fa fb fc : SE PyData}

def toB (f : SE PyData) : SE Bool := bnd f fun d => match d with
  | .bool b => ret b
  | _ => fun _ => none
theorem toB_some {E E2 : En} {b : Bool} (h : toB f E = some (b, E2)) : f E = some (.bool b, E2) := by
  obtain ⟨d, E1, h1, h2⟩ := bnd_some h
  split at h2
  · obtain ⟨rfl, rfl⟩ := ret_some h2
    exact h1
  · cases h2
theorem pt_of_px (h : PX X m p e f) (he : ∀ whole, isTrue e X.env whole = (do let v ← whole; standAt e.pos; holding [v] (truthy v)) := by intro _; rfl) : PXT X m e (toB f) := pt_imp (pt_val h he) fun σ H Q => by
  rintro ⟨vs0, P, E, fps, bb, E', r, hf, q⟩
  refine ⟨vs0, P, E, fps, .bool bb, E', r, toB_some hf, fun P' H' fps' v r' st sm dv => ?_⟩
  have : v = .bl bb := by cases p <;> exact dq_bl dv
  exact ⟨bb, this, q P' H' fps' r' st sm⟩
theorem pt_op2 {r : R2} {g : PyData → PyData → Option PyData} (h : PT X e (tTest (tOp r (tX X.K m1 p1 fa) (tX X.K m2 p2 fb)))) (v : VO X.K p1 p2 r g) (hf : p1 = true ∨ m2 = false) : PXT X (m1 || m2) e (toB (bin fa fb g)) := pt_imp h fun σ H Q => by
  rintro ⟨vs0, P, E, fps, d, E', rel, hh, q⟩
  have hh := toB_some hh
  obtain ⟨d1, E1, h1, hh⟩ := bnd_some hh
  obtain ⟨d2, E2, h2, hh⟩ := bnd_some hh
  obtain ⟨h3, rfl⟩ := lft_some hh
  refine ⟨vs0, P, E, fps, d1, E1, rel, h1, fun P1 H1 fps1 x r1 s1 m1' dx => ⟨vs0, P1, E1, fps1, d2, E', r1, h2, fun P2 H2 fps2 y r2 s2 m2' dy => ?_⟩⟩
  have dx2 : Dq X.K (pick p1 P2 H2) x d1 := by
    cases p1 with
    | true => exact Dq.mono s2.pp dx
    | false =>
      rcases hf with hf | hf
      · cases hf
      · exact Dq.mono (m2' hf) dx
  refine v P2 H2 x y d1 d2 (.bool d) _ r2.sub dx2 dy h3 fun P3 H3 w pp su hh fr dw => ?_
  refine ⟨d, dq_bl dw, q P3 H3 fps2 (r2.alloc pp su hh fr) ((s1.trans s2).trans (.alloc pp hh fr)) (fun hm => ?_)⟩
  rw [Bool.or_eq_false_iff] at hm
  exact ((m1' hm.1).trans (m2' hm.2)).trans hh
theorem pt_op1 {r : V → Hp → VK → Prop} {g : PyData → Option PyData} (h : PT X e (tB (fun σ H Q => tX X.K m p fa σ H fun x H1 => r x H1 Q))) (v : VU X.K p r g) : PXT X m e (toB (una fa g)) := pt_imp h fun σ H Q => by
  rintro ⟨vs0, P, E, fps, d, E', rel, hh, q⟩
  have hh := toB_some hh
  obtain ⟨d1, E1, h1, hh⟩ := bnd_some hh
  obtain ⟨h3, rfl⟩ := lft_some hh
  refine ⟨vs0, P, E, fps, d1, _, rel, h1, fun P1 H1 fps1 x r1 s1 m1' dx => ?_⟩
  refine v P1 H1 x d1 (.bool d) _ r1.sub dx h3 fun P3 H3 w pp su hh fr dw => ?_
  exact ⟨d, dq_bl dw, q P3 H3 fps1 (r1.alloc pp su hh fr) (s1.trans (.alloc pp hh fr)) (fun hm => (m1' hm).trans hh)⟩
theorem pt_eq' {k : Nat} (hr : Room k X.A) (ha : PX X m1 p1 a fa) (hb : PX X m2 p2 b fb) (hf : p1 = true ∨ m2 = false) : PXT X (m1 || m2) (.Compare a [.Eq] [b] pos) (toB (bin fa fb gEq)) := pt_op2 (pt_cmpR (op_eq.or (op_eqD hr.units)) ha hb (nomark _)) vo_eq hf
theorem pt_ne' {k : Nat} (hr : Room k X.A) (ha : PX X m1 p1 a fa) (hb : PX X m2 p2 b fb) (hf : p1 = true ∨ m2 = false) : PXT X (m1 || m2) (.Compare a [.NotEq] [b] pos) (toB (bin fa fb gNe)) := pt_op2 (pt_cmpR (op_ne.or (op_neD hr.units)) ha hb (nomark _)) vo_ne hf
theorem pt_lt' (ha : PX X m1 p1 a fa) (hb : PX X m2 p2 b fb) (hf : p1 = true ∨ m2 = false) : PXT X (m1 || m2) (.Compare a [.Lt] [b] pos) (toB (bin fa fb gLt)) := pt_op2 (pt_cmpR (op_lt) ha hb (nomark _)) (vo_I0 fun _ _ _ => .bl _) hf
theorem pt_gt' (ha : PX X m1 p1 a fa) (hb : PX X m2 p2 b fb) (hf : p1 = true ∨ m2 = false) : PXT X (m1 || m2) (.Compare a [.Gt] [b] pos) (toB (bin fa fb gGt)) := pt_op2 (pt_cmpR (op_gt) ha hb (nomark _)) (vo_I0 fun _ _ _ => .bl _) hf
theorem pt_ge' (ha : PX X m1 p1 a fa) (hb : PX X m2 p2 b fb) (hf : p1 = true ∨ m2 = false) : PXT X (m1 || m2) (.Compare a [.GtE] [b] pos) (toB (bin fa fb gGe)) := pt_op2 (pt_cmpR (op_ge) ha hb (nomark _)) (vo_I0 fun _ _ _ => .bl _) hf
theorem pt_le' (ha : PX X m1 p1 a fa) (hb : PX X m2 p2 b fb) (hf : p1 = true ∨ m2 = false) : PXT X (m1 || m2) (.Compare a [.LtE] [b] pos) (toB (bin fa fb gLe)) := pt_op2 (pt_cmpR (op_leA) ha hb (nomark _)) vo_le hf
theorem pt_isN' {j : Nat} {pos' : Pos} (ha : PX X m p a fa) : PXT X m (.Compare a [.Is] [.Constant .none j pos'] pos) (toB (una fa gIsN)) := pt_op1 (r := fun x H Q => Q (.bl (decide (x = .non))) H) (pt_cmp (pc_isN ha)) (by
  intro P H x d z Q su dx hg q
  unfold gIsN at hg
  cases dx <;> cases hg <;> exact q.at su (.bl _))
theorem pt_notN' {j : Nat} {pos' : Pos} (ha : PX X m p a fa) : PXT X m (.Compare a [.IsNot] [.Constant .none j pos'] pos) (toB (una fa gNotN)) := pt_op1 (r := fun x H Q => Q (.bl (!decide (x = .non))) H) (pt_cmp (pc_notN ha)) (by
  intro P H x d z Q su dx hg q
  unfold gNotN at hg
  cases dx <;> cases hg <;> exact q.at su (.bl _))

def PXW (X : Cx) (m : Bool) (e : Expr) (f : SE Bool) : Prop := PW X e (tXT X.K m f)
variable {g ga gb : SE Bool}
theorem PXW.pt (h : PXW X m e g) : PXT X m e g := PW.pt h
def sAnd (ga gb : SE Bool) : SE Bool := bnd ga fun b => if b then gb else ret false
def sOr (ga gb : SE Bool) : SE Bool := bnd ga fun b => if b then ret true else gb
def sNot (ga : SE Bool) : SE Bool := bnd ga fun b => ret (!b)
theorem pw_and1' (h : PXT X m a g) : PXW X m (.BoolOp .And [a] pos) g := pw_and1 h
theorem pw_or1' (h : PXT X m a g) : PXW X m (.BoolOp .Or [a] pos) g := pw_or1 h
theorem pw_and' (h1 : PXT X m1 a ga) (h2 : PXW X m2 (.BoolOp .And (b :: rest) pos) gb) : PXW X (m1 || m2) (.BoolOp .And (a :: b :: rest) pos) (sAnd ga gb) := pw_imp (pw_and h1 h2) fun σ H Q => by
  rintro ⟨vs0, P, E, fps, d, E', rel, hh, q⟩
  obtain ⟨d1, E1, h1, hh⟩ := bnd_some hh
  refine ⟨vs0, P, E, fps, d1, E1, rel, h1, fun P1 H1 fps1 r1 s1 m1' => ?_⟩
  cases d1 with
  | true =>
    rw [if_pos rfl] at hh
    rw [if_pos rfl]
    refine ⟨vs0, P1, E1, fps1, d, E', r1, hh, fun P2 H2 fps2 r2 s2 m2' => q P2 H2 fps2 r2 (s1.trans s2) fun hm => ?_⟩
    rw [Bool.or_eq_false_iff] at hm
    exact (m1' hm.1).trans (m2' hm.2)
  | false =>
    rw [if_neg Bool.false_ne_true] at hh
    obtain ⟨rfl, rfl⟩ := ret_some hh
    rw [if_neg Bool.false_ne_true]
    refine q P1 H1 fps1 r1 s1 fun hm => ?_
    rw [Bool.or_eq_false_iff] at hm
    exact m1' hm.1
theorem pw_or' (h1 : PXT X m1 a ga) (h2 : PXW X m2 (.BoolOp .Or (b :: rest) pos) gb) : PXW X (m1 || m2) (.BoolOp .Or (a :: b :: rest) pos) (sOr ga gb) := pw_imp (pw_or h1 h2) fun σ H Q => by
  rintro ⟨vs0, P, E, fps, d, E', rel, hh, q⟩
  obtain ⟨d1, E1, h1, hh⟩ := bnd_some hh
  refine ⟨vs0, P, E, fps, d1, E1, rel, h1, fun P1 H1 fps1 r1 s1 m1' => ?_⟩
  cases d1 with
  | false =>
    rw [if_neg Bool.false_ne_true] at hh
    rw [if_neg Bool.false_ne_true]
    refine ⟨vs0, P1, E1, fps1, d, E', r1, hh, fun P2 H2 fps2 r2 s2 m2' => q P2 H2 fps2 r2 (s1.trans s2) fun hm => ?_⟩
    rw [Bool.or_eq_false_iff] at hm
    exact (m1' hm.1).trans (m2' hm.2)
  | true =>
    rw [if_pos rfl] at hh
    obtain ⟨rfl, rfl⟩ := ret_some hh
    rw [if_pos rfl]
    refine q P1 H1 fps1 r1 s1 fun hm => ?_
    rw [Bool.or_eq_false_iff] at hm
    exact m1' hm.1
theorem pt_not' (h : PXT X m a g) : PXT X m (.UnaryOp .Not a pos) (sNot g) := pt_imp (pt_not h) fun σ H Q => by
  rintro ⟨vs0, P, E, fps, d, E', rel, hh, q⟩
  obtain ⟨d1, E1, h1, hh⟩ := bnd_some hh
  obtain ⟨rfl, rfl⟩ := ret_some hh
  exact ⟨vs0, P, E, fps, d1, _, rel, h1, q⟩
def vAnd (fa fb : SE PyData) : SE PyData := bnd (toB fa) fun b => if b then fb else ret (.bool false)
def vOr (fa fb : SE PyData) : SE PyData := bnd (toB fa) fun b => if b then ret (.bool true) else fb
def gNot : PyData → Option PyData
  | .bool b => some (.bool (!b))
  | _ => none
theorem px_one {op : BoolOp} (h : PX X m p a fa) : PX X m p (.BoolOp op [a] pos) fa := pe_one h
theorem px_and (h1 : PX X m1 p1 a fa) (h2 : PX X m2 true (.BoolOp .And (b :: rest) pos) fb) : PX X (m1 || m2) true (.BoolOp .And (a :: b :: rest) pos) (vAnd fa fb) := pe_imp (pe_and h1 h2) fun σ H Q => by
  rintro ⟨vs0, P, E, fps, d, E', rel, hh, q⟩
  obtain ⟨d1, E1, h1, hh⟩ := bnd_some hh
  refine ⟨vs0, P, E, fps, .bool d1, E1, rel, toB_some h1, fun P1 H1 fps1 v r1 s1 m1' dv => ⟨d1, by cases p1 <;> exact dq_bl dv, ?_⟩⟩
  cases d1 with
  | true =>
    rw [if_pos rfl] at hh
    rw [if_pos rfl]
    refine ⟨vs0, P1, E1, fps1, d, E', r1, hh, fun P2 H2 fps2 v2 r2 s2 m2' dv2 => q P2 H2 fps2 v2 r2 (s1.trans s2) (fun hm => ?_) dv2⟩
    rw [Bool.or_eq_false_iff] at hm
    exact (m1' hm.1).trans (m2' hm.2)
  | false =>
    rw [if_neg Bool.false_ne_true] at hh
    obtain ⟨rfl, rfl⟩ := ret_some hh
    rw [if_neg Bool.false_ne_true]
    refine q P1 H1 fps1 _ r1 s1 (fun hm => ?_) (.bl false)
    rw [Bool.or_eq_false_iff] at hm
    exact m1' hm.1
theorem px_or (h1 : PX X m1 p1 a fa) (h2 : PX X m2 true (.BoolOp .Or (b :: rest) pos) fb) : PX X (m1 || m2) true (.BoolOp .Or (a :: b :: rest) pos) (vOr fa fb) := pe_imp (pe_or h1 h2) fun σ H Q => by
  rintro ⟨vs0, P, E, fps, d, E', rel, hh, q⟩
  obtain ⟨d1, E1, h1, hh⟩ := bnd_some hh
  refine ⟨vs0, P, E, fps, .bool d1, E1, rel, toB_some h1, fun P1 H1 fps1 v r1 s1 m1' dv => ⟨d1, by cases p1 <;> exact dq_bl dv, ?_⟩⟩
  cases d1 with
  | false =>
    rw [if_neg Bool.false_ne_true] at hh
    rw [if_neg Bool.false_ne_true]
    refine ⟨vs0, P1, E1, fps1, d, E', r1, hh, fun P2 H2 fps2 v2 r2 s2 m2' dv2 => q P2 H2 fps2 v2 r2 (s1.trans s2) (fun hm => ?_) dv2⟩
    rw [Bool.or_eq_false_iff] at hm
    exact (m1' hm.1).trans (m2' hm.2)
  | true =>
    rw [if_pos rfl] at hh
    obtain ⟨rfl, rfl⟩ := ret_some hh
    rw [if_pos rfl]
    refine q P1 H1 fps1 _ r1 s1 (fun hm => ?_) (.bl true)
    rw [Bool.or_eq_false_iff] at hm
    exact m1' hm.1
theorem px_not (h : PX X m p a fa) : PX X m true (.UnaryOp .Not a pos) (una fa gNot) := px_op1 (r := fun x H Q => ∃ c, x = .bl c ∧ Q (.bl (!c)) H) (pe_not h) (by
  intro P H x d z Q su dx hg q
  unfold gNot at hg
  split at hg
  · cases hg
    exact ⟨_, dq_bl dx, q.at su (.bl _)⟩
  · cases hg)
def sIf (g : SE Bool) (fa fb : SE PyData) : SE PyData := bnd g fun b => if b then fa else fb
theorem px_if (hc : PXT X m1 c g) (ha : PX X m2 p a fa) (hb : PX X m3 p b fb) : PX X (m1 || (m2 || m3)) p (.IfExp c a b pos) (sIf g fa fb) := pe_imp (pe_ifExp hc ha hb) fun σ H Q => by
  rintro ⟨vs0, P, E, fps, d, E', rel, hh, q⟩
  obtain ⟨d1, E1, h1, hh⟩ := bnd_some hh
  refine ⟨vs0, P, E, fps, d1, E1, rel, h1, fun P1 H1 fps1 r1 s1 m1' => ?_⟩
  cases d1 with
  | true =>
    rw [if_pos rfl] at hh
    rw [if_pos rfl]
    refine ⟨vs0, P1, E1, fps1, d, E', r1, hh, fun P2 H2 fps2 v2 r2 s2 m2' dv2 => q P2 H2 fps2 v2 r2 (s1.trans s2) (fun hm => ?_) dv2⟩
    rw [Bool.or_eq_false_iff, Bool.or_eq_false_iff] at hm
    exact (m1' hm.1).trans (m2' hm.2.1)
  | false =>
    rw [if_neg Bool.false_ne_true] at hh
    rw [if_neg Bool.false_ne_true]
    refine ⟨vs0, P1, E1, fps1, d, E', r1, hh, fun P2 H2 fps2 v2 r2 s2 m2' dv2 => q P2 H2 fps2 v2 r2 (s1.trans s2) (fun hm => ?_) dv2⟩
    rw [Bool.or_eq_false_iff, Bool.or_eq_false_iff] at hm
    exact (m1' hm.1).trans (m2' hm.2.2)

def flatD : PyData → Bool
  | .none => true
  | .bool _ => true
  | .int _ => true
  | .str _ => true
  | _ => false
theorem flat_of {K : PySem.W.Frag} {H : Hp} {x : V} {d : PyData} (dx : Dq K H x d) : flatV x = flatD d := by cases dx <;> rfl
theorem eqV_of {K : PySem.W.Frag} {H : Hp} {x y : V} {d e : PyData} (dx : Dq K H x d) (dy : Dq K H y e) (h1 : flatD d = true) (h2 : flatD e = true) : eqV x y = PyData.eqv d e := by
  cases dx <;> cases dy <;> first
    | (simp [eqV, PyData.eqv]; done)
    | (cases h1; done)
    | (cases h2; done)
theorem all_flat {K : PySem.W.Frag} {H : Hp} : ∀ {vs : List V} {ds : List PyData}, DqAll K H vs ds → vs.all flatV = ds.all flatD
  | _, _, .nil => rfl
  | _, _, .cons h r => by rw [List.all_cons, List.all_cons, flat_of h, all_flat r]
theorem any_eq {K : PySem.W.Frag} {H : Hp} {x : V} {d : PyData} (dx : Dq K H x d) (h1 : flatD d = true) : ∀ {vs : List V} {ds : List PyData}, DqAll K H vs ds → ds.all flatD = true → (vs.any fun y => eqV y x) = ds.any fun y => PyData.eqv y d
  | _, _, .nil, _ => rfl
  | _, _, .cons h r, hf => by
    rw [List.all_cons, Bool.and_eq_true] at hf
    rw [List.any_cons, List.any_cons, eqV_of h dx hf.1 h1, any_eq dx h1 r hf.2]
def gInB : PyData → PyData → Option Bool
  | d, .list ys => if flatD d && ys.all flatD then some (ys.any fun y => PyData.eqv y d) else if SeqAt.shaped d && SeqAt.shaped (.list ys) then some (ys.any fun y => PyData.eqv y d) else none
  | d, .tuple ys => if flatD d && ys.all flatD then some (ys.any fun y => PyData.eqv y d) else if SeqAt.shaped d && SeqAt.shaped (.tuple ys) then some (ys.any fun y => PyData.eqv y d) else none
  | .str x, .str z => match x.cps.toList with
    | [c] => some (decide (c ∈ z.cps.toList))
    | _ => none
  | _, _ => none
def gIn (d e : PyData) : Option PyData := (gInB d e).map .bool
def gNin (d e : PyData) : Option PyData := (gInB d e).map fun b => .bool (!b)
def rInDT (K : PySem.W.Frag) : R2 := fun x y H Q => ∃ d ds, Dp K H x d ∧ Dp K H y (.tuple ds) ∧ SeqAt.shaped d = true ∧ SeqAt.shaped (.tuple ds) = true ∧ Q (.bl (ds.any fun z => PyData.eqv z d)) H
def rNotInDT (K : PySem.W.Frag) : R2 := fun x y H Q => ∃ d ds, Dp K H x d ∧ Dp K H y (.tuple ds) ∧ SeqAt.shaped d = true ∧ SeqAt.shaped (.tuple ds) = true ∧ Q (.bl (!ds.any fun z => PyData.eqv z d)) H
theorem shT_room {A : Around} {ds : List PyData} {d : PyData} (sd : SeqAt.shaped d = true) (hu : A.units + 65 < cLine) : A.units + 1 + min (PyData.depthAll ds) d.depth < cLine := by
  have h1 := SeqAt.depth_of_shaped sd
  have h2 : min (PyData.depthAll ds) d.depth ≤ d.depth := Nat.min_le_right _ _
  omega
theorem op_inDT (hu : X.A.units + 65 < cLine) : OpR X (compareOp .In) (rInDT X.K) := by
  intro pins s σ H x y v u Q I rx ry h
  obtain ⟨d, ds, hd, he, sd, se, q⟩ := h
  obtain ⟨as, r1⟩ := Dp.reads I d x v hd rx
  obtain ⟨bs, r2⟩ := Dp.reads I (.tuple ds) y u he ry
  exact SeqAt.in_tuple_reads r2 r1 (SeqAt.canLay_of_shaped se) (SeqAt.canLay_of_shaped sd) (shT_room sd hu) ⟨.bl _, H, I, rfl, q⟩
theorem op_notInDT (hu : X.A.units + 65 < cLine) : OpR X (compareOp .NotIn) (rNotInDT X.K) := by
  intro pins s σ H x y v u Q I rx ry h
  obtain ⟨d, ds, hd, he, sd, se, q⟩ := h
  obtain ⟨as, r1⟩ := Dp.reads I d x v hd rx
  obtain ⟨bs, r2⟩ := Dp.reads I (.tuple ds) y u he ry
  exact SeqAt.notIn_tuple_reads r2 r1 (SeqAt.canLay_of_shaped se) (SeqAt.canLay_of_shaped sd) (shT_room sd hu) ⟨.bl _, H, I, rfl, q⟩
abbrev rInX (K : PySem.W.Frag) (neg : Bool) : R2 := fun x y H Q => rIn K neg x y H Q ∨ ((fun x y H Q => ∃ (c : Nat) (z : Str), x = .str ⟨#[c]⟩ ∧ y = .str z ∧ Q (.bl (if neg then !decide (c ∈ z.cps.toList) else decide (c ∈ z.cps.toList))) H) x y H Q ∨
  ((fun x y H Q => ∃ d ds, Dp K H x d ∧ Dp K H y (.list ds) ∧ SeqAt.shaped d = true ∧ SeqAt.shaped (.list ds) = true ∧ Q (.bl (if neg then !(ds.any fun z => PyData.eqv z d) else ds.any fun z => PyData.eqv z d)) H) x y H Q ∨
  (fun x y H Q => ∃ d ds, Dp K H x d ∧ Dp K H y (.tuple ds) ∧ SeqAt.shaped d = true ∧ SeqAt.shaped (.tuple ds) = true ∧ Q (.bl (if neg then !(ds.any fun z => PyData.eqv z d) else ds.any fun z => PyData.eqv z d)) H) x y H Q))
theorem op_inX (hu : X.A.units + 65 < cLine) : OpR X (compareOp .In) (rInX X.K false) := op_in_seq.or (OpR.or (op_in_sign) (OpR.or (op_inD hu) (op_inDT hu)))
theorem op_ninX (hu : X.A.units + 65 < cLine) : OpR X (compareOp .NotIn) (rInX X.K true) := op_notIn_seq.or (OpR.or (op_notIn_sign) (OpR.or (op_notInD hu) (op_notInDT hu)))
theorem in_core {K : PySem.W.Frag} {P H : Hp} {x y : V} {d e : PyData} {Q : VK} {b neg : Bool} (su : Same P H) (dx : Dq K (pick p1 P H) x d) (dy : Dq K (pick p2 P H) y e) (hg : gInB d e = some b) (q : Q (.bl (if neg then !b else b)) H) : rInX K neg x y H Q := by
  replace dx := Dq.pick su dx
  replace dy := Dq.pick su dy
  unfold gInB at hg
  split at hg
  · rename_i ys
    split at hg
    · rename_i hfl
      rw [Bool.and_eq_true] at hfl
      cases dy with
      | @lst a vs _ ha hv =>
        cases hg
        refine .inl ⟨a, vs, rfl, .inl (SqL.of ha), by rw [flat_of dx]; exact hfl.1, by rw [all_flat hv]; exact hfl.2, ?_⟩
        have e1 : inV x vs = ys.any fun y => PyData.eqv y d := any_eq dx hfl.1 hv hfl.2
        rw [e1]
        exact q
    · split at hg
      · rename_i hfl
        rw [Bool.and_eq_true] at hfl
        cases hg
        exact .inr (.inr (.inl ⟨d, ys, dx.dp, dy.dp, hfl.1, hfl.2, q⟩))
      · cases hg
  · rename_i ys
    split at hg
    · rename_i hfl
      rw [Bool.and_eq_true] at hfl
      cases dy with
      | @tup a vs _ ha hv =>
        cases hg
        refine .inl ⟨a, vs, rfl, .inr ha.sq, by rw [flat_of dx]; exact hfl.1, by rw [all_flat hv]; exact hfl.2, ?_⟩
        have e1 : inV x vs = ys.any fun y => PyData.eqv y d := any_eq dx hfl.1 hv hfl.2
        rw [e1]
        exact q
    · split at hg
      · rename_i hfl
        rw [Bool.and_eq_true] at hfl
        cases hg
        exact .inr (.inr (.inr ⟨d, ys, dx.dp, dy.dp, hfl.1, hfl.2, q⟩))
      · cases hg
  · rename_i xs zs
    split at hg
    · rename_i c hc
      cases hg
      refine .inr (.inl ⟨c, zs, ?_, dq_str dy, q⟩)
      rw [dq_str dx]
      have : xs = ⟨#[c]⟩ := by
        cases xs with
        | mk cps =>
          congr 1
          exact Array.toList_inj.mp hc
      rw [this]
    · cases hg
  · cases hg
theorem vo_in {K : PySem.W.Frag} : VO K p1 p2 (rInX K false) gIn := by
  intro P H x y d e z Q su dx dy hg q
  unfold gIn at hg
  cases h : gInB d e with
  | none => rw [h] at hg; cases hg
  | some b =>
    rw [h] at hg
    cases hg
    exact in_core (neg := false) su dx dy h (q.at su (.bl _))
theorem vo_nin {K : PySem.W.Frag} : VO K p1 p2 (rInX K true) gNin := by
  intro P H x y d e z Q su dx dy hg q
  unfold gNin at hg
  cases h : gInB d e with
  | none => rw [h] at hg; cases hg
  | some b =>
    rw [h] at hg
    cases hg
    exact in_core (neg := true) su dx dy h (q.at su (.bl _))
theorem Room.u65 {k : Nat} {A : Around} (hr : Room k A) : A.units + 65 < cLine := by have := hr.un; omega
theorem px_in {k : Nat} (hr : Room k X.A) (ha : PX X m1 p1 a fa) (hb : PX X m2 p2 b fb) (hf : p1 = true ∨ m2 = false) (hm : behindInMarks .In b = false := by rfl) : PX X (m1 || m2) true (.Compare a [.In] [b] pos) (bin fa fb gIn) := px_op2 (pe_cmpR (op_inX (Room.u65 hr)) ha hb hm) vo_in hf
theorem px_nin {k : Nat} (hr : Room k X.A) (ha : PX X m1 p1 a fa) (hb : PX X m2 p2 b fb) (hf : p1 = true ∨ m2 = false) (hm : behindInMarks .NotIn b = false := by rfl) : PX X (m1 || m2) true (.Compare a [.NotIn] [b] pos) (bin fa fb gNin) := px_op2 (pe_cmpR (op_ninX (Room.u65 hr)) ha hb hm) vo_nin hf
theorem pt_in' {k : Nat} (hr : Room k X.A) (ha : PX X m1 p1 a fa) (hb : PX X m2 p2 b fb) (hf : p1 = true ∨ m2 = false) (hm : behindInMarks .In b = false := by rfl) : PXT X (m1 || m2) (.Compare a [.In] [b] pos) (toB (bin fa fb gIn)) := pt_op2 (pt_cmpR (op_inX (Room.u65 hr)) ha hb hm) vo_in hf
theorem pt_nin' {k : Nat} (hr : Room k X.A) (ha : PX X m1 p1 a fa) (hb : PX X m2 p2 b fb) (hf : p1 = true ∨ m2 = false) (hm : behindInMarks .NotIn b = false := by rfl) : PXT X (m1 || m2) (.Compare a [.NotIn] [b] pos) (toB (bin fa fb gNin)) := pt_op2 (pt_cmpR (op_ninX (Room.u65 hr)) ha hb hm) vo_nin hf

def chn (fa fb fc : SE PyData) (g1 g2 : PyData → PyData → Option PyData) : SE PyData := bnd fa fun d => bnd fb fun e => bnd (toB (lft (g1 d e))) fun k => if k then bnd fc fun w => lft (g2 e w) else ret (.bool false)
theorem chn_core {K : PySem.W.Frag} {r1 r2 : R2} {g1 g2 : PyData → PyData → Option PyData} (v1 : VO K true true r1 g1) (v2 : VO K true true r2 g2) {σ : St} {H : Hp} {Q : VK} (h : tX K (m1 || (m2 || m3)) true (chn fa fb fc g1 g2) σ H Q) : tChain r1 r2 (tX K m1 true fa) (tX K m2 true fb) (tX K m3 true fc) σ H Q := by
  obtain ⟨vs0, P, E, fps, d, E', rel, hh, q⟩ := h
  obtain ⟨d1, E1, h1, hh⟩ := bnd_some hh
  obtain ⟨d2, E2, h2, hh⟩ := bnd_some hh
  obtain ⟨k, E3, h3, hh⟩ := bnd_some hh
  obtain ⟨h3', rfl⟩ := lft_some (toB_some h3)
  refine ⟨vs0, P, E, fps, d1, E1, rel, h1, fun P1 H1 fps1 x r1 s1 m1' dx => ⟨vs0, P1, E1, fps1, d2, _, r1, h2, fun P2 H2 fps2 y r2 s2 m2' dy => ?_⟩⟩
  refine v1 P2 H2 x y d1 d2 _ _ r2.sub (Dq.mono s2.pp dx) dy h3' fun P3 H3 z pp su hh3 fr dz => ⟨k, dq_bl dz, ?_⟩
  have r3 := r2.alloc pp su hh3 fr
  have s3 := (s1.trans s2).trans (Step.alloc (F := In fps2) pp hh3 fr)
  cases k with
  | true =>
    rw [if_pos rfl] at hh
    rw [if_pos rfl]
    obtain ⟨d4, E4, h4, hh⟩ := bnd_some hh
    obtain ⟨h5, rfl⟩ := lft_some hh
    refine ⟨vs0, P3, _, fps2, d4, _, r3, h4, fun P4 H4 fps4 w r4 s4 m4' dw => ?_⟩
    refine v2 P4 H4 y w d2 d4 d _ r4.sub (Dq.mono (pp.trans s4.pp) dy) dw h5 fun P5 H5 u pp5 su5 hh5 fr5 du => ?_
    refine q P5 H5 fps4 u (r4.alloc pp5 su5 hh5 fr5) ((s3.trans s4).trans (.alloc pp5 hh5 fr5)) (fun hm => ?_) du
    rw [Bool.or_eq_false_iff, Bool.or_eq_false_iff] at hm
    exact ((((m1' hm.1).trans (m2' hm.2.1)).trans hh3).trans (m4' hm.2.2)).trans hh5
  | false =>
    rw [if_neg Bool.false_ne_true] at hh
    obtain ⟨rfl, rfl⟩ := ret_some hh
    rw [if_neg Bool.false_ne_true]
    refine q P3 H3 fps2 _ r3 s3 (fun hm => ?_) (.bl false)
    rw [Bool.or_eq_false_iff, Bool.or_eq_false_iff] at hm
    exact ((m1' hm.1).trans (m2' hm.2.1)).trans hh3
theorem px_chle (ha : PX X m1 true a fa) (hb : PX X m2 true b fb) (hc : PX X m3 true c fc) : PX X (m1 || (m2 || m3)) true (.Compare a [.LtE, .LtE] [b, c] pos) (chn fa fb fc gLe gLe) := pe_imp (pe_chain op_leA op_leA ha hb hc (nomark c)) fun σ H Q h => chn_core vo_le vo_le h
theorem pt_chle (ha : PX X m1 true a fa) (hb : PX X m2 true b fb) (hc : PX X m3 true c fc) : PXT X (m1 || (m2 || m3)) (.Compare a [.LtE, .LtE] [b, c] pos) (toB (chn fa fb fc gLe gLe)) := pt_imp (pt_chain op_leA op_leA ha hb hc (nomark c)) fun σ H Q => by
  rintro ⟨vs0, P, E, fps, d, E', rel, hh, q⟩
  refine chn_core vo_le vo_le ⟨vs0, P, E, fps, .bool d, E', rel, toB_some hh, fun P' H' fps' v r' st sm dv => ⟨d, dq_bl dv, q P' H' fps' r' st sm⟩⟩

def sNil : SE (List PyData) := ret []
def sCons (fa : SE PyData) (fs : SE (List PyData)) : SE (List PyData) := bnd fa fun d => bnd fs fun ds => ret (d :: ds)
variable {es : List Expr} {fs : SE (List PyData)}
theorem pxa_nil : PXA X false [] sNil := pa_imp pa_nil fun σ H Q => by
  rintro ⟨vs0, P, E, fps, ds, E', rel, hh, q⟩
  obtain ⟨rfl, rfl⟩ := ret_some hh
  exact q P H fps [] rel (.refl _ _ _) (fun _ => Same.refl H) .nil
theorem pxa_cons (h1 : PX X m1 true a fa) (h2 : PXA X m2 es fs) (hs : starEach (a :: es) X.env = (false, eval a X.env) :: starEach es X.env := by rfl) : PXA X (m1 || m2) (a :: es) (sCons fa fs) := pa_imp (pa_cons h1 h2 hs) fun σ H Q => by
  rintro ⟨vs0, P, E, fps, d, E', rel, hh, q⟩
  obtain ⟨d1, E1, h1, hh⟩ := bnd_some hh
  obtain ⟨d2, E2, h2, hh⟩ := bnd_some hh
  obtain ⟨rfl, rfl⟩ := ret_some hh
  refine ⟨vs0, P, E, fps, d1, E1, rel, h1, fun P1 H1 fps1 x r1 s1 m1' dx => ⟨vs0, P1, E1, fps1, d2, _, r1, h2, fun P2 H2 fps2 ys r2 s2 m2' dy => ?_⟩⟩
  refine q P2 H2 fps2 (x :: ys) r2 (s1.trans s2) (fun hm => ?_) (.cons (Dq.mono s2.pp dx) dy)
  rw [Bool.or_eq_false_iff] at hm
  exact (m1' hm.1).trans (m2' hm.2)
def dTup (fs : SE (List PyData)) : SE PyData := bnd fs fun ds => if ds.length ≤ sizeLine then ret (.tuple ds) else fun _ => none
def dLst (fs : SE (List PyData)) : SE (List PyData) := bnd fs fun ds => if ds.length ≤ sizeLine then ret ds else fun _ => none
theorem px_tup {k : Nat} (h : PXA X m es fs) : PX X m true (.Tuple es k pos) (dTup fs) := pe_imp (pe_tup h) fun σ H Q => by
  rintro ⟨vs0, P, E, fps, d, E', rel, hh, q⟩
  obtain ⟨ds, E1, h1, hh⟩ := bnd_some hh
  split at hh
  · rename_i hl
    obtain ⟨rfl, rfl⟩ := ret_some hh
    refine ⟨vs0, P, E, fps, ds, _, rel, h1, fun P1 H1 fps1 vs r1 s1 m1' dv => ⟨by rw [dv.length]; exact hl, fun p0 hp => ?_⟩⟩
    have s2 : Same P1 (upd P1 p0 (.tup vs)) := Fw.same_upd (sub_none r1.sub hp)
    exact q (upd P1 p0 (.tup vs)) (upd H1 p0 (.tup vs)) fps1 (.ref p0) (r1.alloc s2 (same_upd2 r1.sub hp) (Fw.same_upd hp) (fresh_upd hp)) (s1.trans (.alloc s2 (Fw.same_upd hp) (fresh_upd hp)))
      (fun hm => (m1' hm).trans (Fw.same_upd hp)) (.tup (SqC.of upd_same) (dv.mono s2))
  · cases hh
theorem Rel.newList {K : PySem.W.Frag} {vs0 : List V} {P : Hp} {E : En} {σ : St} {H : Hp} {fps : Nat → List Addr} (r : Rel K vs0 P E σ H fps) {p0 : Addr} {o : HO} (hp : H p0 = none) : Rel K vs0 P E σ (upd H p0 o) fps :=
  r.alloc (Same.refl P) (fun x u hx => by rw [upd_ne (ne_of_none (r.sub x u hx) hp)]; exact r.sub x u hx) (Fw.same_upd hp) .same
theorem Rel.notIn {K : PySem.W.Frag} {vs0 : List V} {P : Hp} {E : En} {σ : St} {H : Hp} {fps : Nat → List Addr} (r : Rel K vs0 P E σ H fps) {p0 : Addr} (hp : H p0 = none) : ¬ In fps p0 := fun h => by
  obtain ⟨_, o, h2⟩ := r.foot h
  rw [hp] at h2
  cases h2
end
end Fw
namespace Fw
open PySem PySem.Spec L2
open PyProof.Rows hiding St
section
variable {X : Cx} {m m1 m2 m3 p p1 p2 p3 : Bool} {e a b c : Expr} {es : List Expr} {pos : Pos} {f fa fb fc : SE PyData} {fs fs2 : SE (List PyData)}

/-- what is shown behind an operation that lays a new list -/
abbrev AfterL (K : PySem.W.Frag) (P H : Hp) (zs : List PyData) (Q : VK) : Prop := ∀ (P' H' : Hp) (l : Addr) (vs : List V), Same P P' → Same P' H' → Same H H' → Fresh NoF P H P' → H l = none → P' l = none → H' l = some (.lst vs) → DqAll K P' vs zs → Q (.ref l) H'
theorem AfterL.new {K : PySem.W.Frag} {P H : Hp} {zs : List PyData} {Q : VK} (q : AfterL K P H zs Q) {l : Addr} {vs : List V} (s : Same P H) (h : H l = none) (d : DqAll K P vs zs) : Q (.ref l) (upd H l (.lst vs)) :=
  q P (upd H l (.lst vs)) l vs (Same.refl P) (fun x u hx => by rw [upd_ne (ne_of_none (s x u hx) h)]; exact s x u hx) (Fw.same_upd h) .same h (sub_none s h) upd_same d
/-- .. as data -/
theorem AfterL.of {K : PySem.W.Frag} {P H : Hp} {zs : List PyData} {Q : VK} (q : After K P H (.list zs) Q) : AfterL K P H zs Q := fun P' H' l vs pp su hh fr hl pl hv dv => by
  have s1 : Same P' (upd P' l (.lst vs)) := Fw.same_upd pl
  refine q (upd P' l (.lst vs)) H' (.ref l) (pp.trans s1) (fun x u hx => ?_) hh (fun x u hx => ?_) (.lst upd_same (dv.mono s1))
  · by_cases e1 : x = l
    · subst e1
      rw [upd_same] at hx
      cases hx
      exact hv
    · rw [upd_ne e1] at hx
      exact su x u hx
  · by_cases e1 : x = l
    · subst e1
      exact .inr (.inl (.inl hl))
    · rw [upd_ne e1] at hx
      exact fr x u hx
theorem tXL_end {K : PySem.W.Frag} {vs0 : List V} {P H P1 H1 : Hp} {E1 : En} {σ : L2.St} {fps fps1 : Nat → List Addr} {zs : List PyData} {Q : VK} (r1 : Rel K vs0 P1 E1 σ H1 fps1) (s1 : Step (In fps) P H (In fps1) P1 H1) (sm : m = false → Same H H1)
    (q : ∀ (P' H' : Hp) (fps' : Nat → List Addr) (a : Addr) (vs : List V), Rel K vs0 P' E1 σ H' fps' → Step (In fps) P H (In fps') P' H' → (m = false → Same H H') → H a = none → P' a = none → ¬ In fps' a → H' a = some (.lst vs) → DqAll K P' vs zs → Q (.ref a) H') :
    AfterL K P1 H1 zs Q := fun P' H' l vs pp su hh fr hl pl hv dv => by
  have r2 := r1.alloc pp su hh fr
  have s2 := s1.trans (.alloc (F := In fps1) pp hh fr)
  exact q P' H' fps1 l vs r2 s2 (fun hm => (sm hm).trans hh) (s1.free hl) pl (r1.notIn hl) hv dv
def VLA (K : PySem.W.Frag) (r : List V → Hp → VK → Prop) (g : List PyData → Option (List PyData)) : Prop := ∀ (P H : Hp) (xs : List V) (ds zs : List PyData) (Q : VK), Same P H → DqAll K P xs ds → g ds = some zs → AfterL K P H zs Q → r xs H Q
def VAA (K : PySem.W.Frag) (r : List V → Hp → VK → Prop) (g : List PyData → Option PyData) : Prop := ∀ (P H : Hp) (xs : List V) (ds : List PyData) (z : PyData) (Q : VK), Same P H → DqAll K P xs ds → g ds = some z → After K P H z Q → r xs H Q
def mny {α β : Type} (fs : SE α) (g : α → Option β) : SE β := bnd fs fun ds => lft (g ds)
theorem pl_args {r : List V → Hp → VK → Prop} {g : List PyData → Option (List PyData)} (h : PE X e (fun σ H Q => tXA X.K m fs σ H fun vs H1 => r vs H1 Q)) (v : VLA X.K r g) : PL X m e (mny fs g) := pe_imp h fun σ H Q => by
  rintro ⟨vs0, P, E, fps, d, E', rel, hh, q⟩
  obtain ⟨ds, E1, h1, hh⟩ := bnd_some hh
  obtain ⟨h2, rfl⟩ := lft_some hh
  exact ⟨vs0, P, E, fps, ds, _, rel, h1, fun P1 H1 fps1 vs r1 s1 m1' dv => v P1 H1 vs ds d Q r1.sub dv h2 (tXL_end r1 s1 m1' q)⟩
theorem px_args {r : List V → Hp → VK → Prop} {g : List PyData → Option PyData} (h : PE X e (fun σ H Q => tXA X.K m fs σ H fun vs H1 => r vs H1 Q)) (v : VAA X.K r g) : PX X m true e (mny fs g) := pe_imp h fun σ H Q => by
  rintro ⟨vs0, P, E, fps, d, E', rel, hh, q⟩
  obtain ⟨ds, E1, h1, hh⟩ := bnd_some hh
  obtain ⟨h2, rfl⟩ := lft_some hh
  refine ⟨vs0, P, E, fps, ds, _, rel, h1, fun P1 H1 fps1 vs r1 s1 m1' dv => v P1 H1 vs ds d Q r1.sub dv h2 fun P3 H3 w pp su hh fr dw => ?_⟩
  exact q P3 H3 fps1 w (r1.alloc pp su hh fr) (s1.trans (.alloc pp hh fr)) (fun hm => (m1' hm).trans hh) dw
def VOL (K : PySem.W.Frag) (p1 p2 : Bool) (r : R2) (g : PyData → PyData → Option (List PyData)) : Prop := ∀ (P H : Hp) (x y : V) (d e : PyData) (zs : List PyData) (Q : VK), Same P H → Dq K (pick p1 P H) x d → Dq K (pick p2 P H) y e → g d e = some zs → AfterL K P H zs Q → r x y H Q
def binL (fa fb : SE PyData) (g : PyData → PyData → Option (List PyData)) : SE (List PyData) := bnd fa fun d => bnd fb fun e => lft (g d e)
theorem pl_op2 {r : R2} {g : PyData → PyData → Option (List PyData)} (h : PE X e (tOp r (tX X.K m1 p1 fa) (tX X.K m2 p2 fb))) (v : VOL X.K p1 p2 r g) (hf : p1 = true ∨ m2 = false) : PL X (m1 || m2) e (binL fa fb g) := pe_imp h fun σ H Q => by
  rintro ⟨vs0, P, E, fps, d, E', rel, hh, q⟩
  obtain ⟨d1, E1, h1, hh⟩ := bnd_some hh
  obtain ⟨d2, E2, h2, hh⟩ := bnd_some hh
  obtain ⟨h3, rfl⟩ := lft_some hh
  refine ⟨vs0, P, E, fps, d1, E1, rel, h1, fun P1 H1 fps1 x r1 s1 m1' dx => ⟨vs0, P1, E1, fps1, d2, E', r1, h2, fun P2 H2 fps2 y r2 s2 m2' dy => ?_⟩⟩
  have dx2 : Dq X.K (pick p1 P2 H2) x d1 := by
    cases p1 with
    | true => exact Dq.mono s2.pp dx
    | false =>
      rcases hf with hf | hf
      · cases hf
      · exact Dq.mono (m2' hf) dx
  refine v P2 H2 x y d1 d2 d Q r2.sub dx2 dy h3 (tXL_end r2 (s1.trans s2) (fun hm => ?_) q)
  rw [Bool.or_eq_false_iff] at hm
  exact (m1' hm.1).trans (m2' hm.2)
theorem pl_lst (h : PXA X m es fs) : PL X m (.List es pos) (dLst fs) := pe_imp (pe_lst h) fun σ H Q => by
  rintro ⟨vs0, P, E, fps, d, E', rel, hh, q⟩
  obtain ⟨ds, E1, h1, hh⟩ := bnd_some hh
  split at hh
  · rename_i hl
    obtain ⟨rfl, rfl⟩ := ret_some hh
    exact ⟨vs0, P, E, fps, _, _, rel, h1, fun P1 H1 fps1 vs r1 s1 m1' dv => ⟨by rw [dv.length]; exact hl, fun p0 hp => (tXL_end r1 s1 m1' q).new r1.sub hp dv⟩⟩
  · cases hh
/-- [a] + [b] -/
def gCat : PyData → PyData → Option (List PyData)
  | .list xs, .list ys => if xs.length + ys.length ≤ sizeLine then some (xs ++ ys) else none
  | _, _ => none
theorem pl_cat (ha : PX X m1 true a fa) (hb : PX X m2 true b fb) : PL X (m1 || m2) (.BinOp a .Add b pos) (binL fa fb gCat) := pl_op2 (pe_op op_cat ha hb) (by
  intro P H x y d e zs Q su dx dy hg q
  unfold gCat at hg
  split at hg
  · split at hg
    · rename_i xs ys hl
      cases dx with
      | @lst l vs _ hx hv =>
        cases dy with
        | @lst l2 ws _ hy hw =>
          cases hg
          have l1 := hv.length
          have l2 := hw.length
          exact ⟨_, _, vs, ws, rfl, rfl, su _ _ hx, su _ _ hy, by omega, fun p0 hp => q.new su hp (hv.append hw)⟩
    · cases hg
  · cases hg) (.inl rfl)

def gIx : PyData → PyData → Option PyData
  | .list ys, .int i => atI ys i
  | .tuple ys, .int i => atI ys i
  | .str z, .int i => if z.length ≤ sizeLine then (atI z.cps.toList i).map fun c => .str ⟨#[c]⟩ else none
  | _, _ => none
theorem atI_dq {K : PySem.W.Frag} {H : Hp} {vs : List V} {ds : List PyData} (h : DqAll K H vs ds) {i : Int} {d : PyData} (e : atI ds i = some d) : ∃ v, atI vs i = some v ∧ Dq K H v d := by
  unfold atI at e ⊢
  rw [h.length]
  cases e1 : ixN ds.length i with
  | none => rw [e1] at e; cases e
  | some j =>
    rw [e1] at e
    obtain ⟨v, h1, h2⟩ := h.get (i := j) (show ds[j]? = some d from e)
    exact ⟨v, h1, h2⟩
theorem vo_ix {K : PySem.W.Frag} : VO K true p2 (rIx K) gIx := by
  intro P H x y d e z Q su dx dy hg q
  unfold gIx at hg
  split at hg
  · cases dx with
    | @lst l vs _ hx hv =>
      obtain ⟨v, h1, h2⟩ := atI_dq hv hg
      rw [dq_int dy]
      exact .inl ⟨l, vs, _, v, rfl, rfl, SqL.of (su _ _ hx), h1, q.at su h2⟩
  · cases dx with
    | @tup l vs _ hx hv =>
      obtain ⟨v, h1, h2⟩ := atI_dq hv hg
      rw [dq_int dy]
      exact .inr (.inl ⟨l, vs, _, v, rfl, rfl, seqC su hx, h1, q.at su h2⟩)
  · split at hg
    · rename_i s i hl
      rw [dq_str dx, dq_int dy]
      cases e1 : atI s.cps.toList i with
      | none => rw [e1] at hg; cases hg
      | some c =>
        rw [e1] at hg
        cases hg
        exact .inr (.inr ⟨_, _, c, rfl, rfl, hl, e1, q.at su (.str _)⟩)
    · cases hg
  · cases hg
theorem px_ix (ha : PX X m1 true a fa) (hb : PX X m2 p2 b fb) (hp : PlainIx b := by exact fun _ _ => rfl) : PX X (m1 || m2) true (.Subscript a b pos) (bin fa fb gIx) := px_op2 (pe_ix ix_seq ha hb hp) vo_ix (.inl rfl)
/-- the slot's list as it stands, if it is an owned one -/
def own? (i : Nat) (E : En) : Option (List PyData) := match E[i]? with
  | some (.own xs) => some xs
  | _ => none
theorem own?_some {i : Nat} {E : En} {xs : List PyData} (h : own? i E = some xs) : E[i]? = some (.own xs) := by
  unfold own? at h
  split at h
  · rename_i ys e1
    cases h
    exact e1
  · cases h
theorem Rel.ownAt {K : PySem.W.Frag} {vs0 : List V} {P : Hp} {E : En} {σ : L2.St} {H : Hp} {fps : Nat → List Addr} (r : Rel K vs0 P E σ H fps) {i : Nat} {xs : List PyData} (h : own? i E = some xs) :
    ∃ (a : Addr) (vs : List V), σ[i]? = some (some (.ref a)) ∧ fps i = [a] ∧ P a = none ∧ H a = some (.lst vs) ∧ DqAll K P vs xs := by
  obtain ⟨ov, e1, s⟩ := r.sl i _ (own?_some h)
  generalize hfp : fps i = fp at s
  cases s with
  | own pa ha dv => exact ⟨_, _, e1, rfl, pa, ha, dv⟩
def ixO (i : Nat) (fb : SE PyData) : SE PyData := fun E => match own? i E with
  | some _ => bnd fb (fun e => fun E1 => match own? i E1 with
    | some xs => lft (gIx (.list xs) e) E1
    | none => none) E
  | none => none
theorem px_ixO {i : Nat} (ha : PE X a (tVar i)) (hb : PX X m2 p2 b fb) (hp : PlainIx b := by exact fun _ _ => rfl) : PX X m2 true (.Subscript a b pos) (ixO i fb) := pe_imp (pe_ix ix_seq ha hb hp) fun σ H Q => by
  rintro ⟨vs0, P, E, fps, d, E', rel, hh, q⟩
  unfold ixO at hh
  split at hh
  · rename_i xs0 e0
    obtain ⟨ad, vs0', es, -, -, -, -⟩ := rel.ownAt e0
    obtain ⟨d1, E1, h1, hh⟩ := bnd_some hh
    split at hh
    · rename_i xs e1
      obtain ⟨h2, rfl⟩ := lft_some hh
      refine ⟨_, es, vs0, P, E, fps, d1, _, rel, h1, fun P1 H1 fps1 y r1 s1 m1' dy => ?_⟩
      obtain ⟨ad2, vs, es2, -, -, hv, dv⟩ := r1.ownAt e1
      rw [es] at es2
      cases es2
      obtain ⟨i', hi'⟩ : ∃ i', d1 = .int i' := by
        cases d1 <;> first | exact ⟨_, rfl⟩ | (cases h2; done)
      subst hi'
      obtain ⟨v, g1, g2⟩ := atI_dq dv (show atI xs i' = some d from h2)
      have ey : y = .int i' := by cases p2 <;> exact dq_int dy
      exact .inl ⟨ad, vs, i', v, rfl, ey, SqL.of hv, g1, q P1 H1 fps1 v r1 s1 m1' g2⟩
    · cases hh
  · cases hh

def tXO (K : PySem.W.Frag) (m : Bool) (f : SE (Option Int)) : TO := fun σ H Q => ∃ (vs0 : List V) (P : Hp) (E : En) (fps : Nat → List Addr) (o : Option Int) (E' : En), Rel K vs0 P E σ H fps ∧ f E = some (o, E') ∧
  ∀ (P' H' : Hp) (fps' : Nat → List Addr), Rel K vs0 P' E' σ H' fps' → Step (In fps) P H (In fps') P' H' → (m = false → Same H H') → Q o H'
def PXO (X : Cx) (m : Bool) (e : Option Expr) (f : SE (Option Int)) : Prop := PO X e (tXO X.K m f)
theorem po_imp {X : Cx} {e : Option Expr} {t u : TO} (h : PO X e t) (i : ∀ σ H Q, u σ H Q → t σ H Q) : PO X e u := ⟨fun pins s σ H Q I q => h.run pins s σ H Q I (i σ H Q q)⟩
def sPart (f : SE PyData) : SE (Option Int) := bnd f fun d => match d with
  | .int i => ret (some i)
  | _ => fun _ => none
theorem pxo_none : PXO X false none (ret none) := po_imp po_none fun σ H Q => by
  rintro ⟨vs0, P, E, fps, o, E', rel, hh, q⟩
  obtain ⟨rfl, rfl⟩ := ret_some hh
  exact q P H fps rel (.refl _ _ _) fun _ => Same.refl H
theorem pxo_some (h : PX X m p e f) : PXO X m (some e) (sPart f) := po_imp (po_some h) fun σ H Q => by
  rintro ⟨vs0, P, E, fps, o, E', rel, hh, q⟩
  obtain ⟨d, E1, h1, hh⟩ := bnd_some hh
  split at hh
  · obtain ⟨rfl, rfl⟩ := ret_some hh
    exact ⟨vs0, P, E, fps, _, _, rel, h1, fun P1 H1 fps1 v r1 s1 m1' dv => ⟨_, by cases p <;> exact dq_int dv, q P1 H1 fps1 r1 s1 m1'⟩⟩
  · cases hh
def cutL {α : Type} (xs : List α) (lo hi : Option Int) : List α := (xs.drop (HT.sIx xs.length 0 lo)).take (HT.sIx xs.length xs.length hi - HT.sIx xs.length 0 lo)
theorem cut_dq {K : PySem.W.Frag} {H : Hp} {vs : List V} {ds : List PyData} (h : DqAll K H vs ds) (lo hi : Option Int) : DqAll K H (cutV vs lo hi) (cutL ds lo hi) := by
  unfold cutV cutL
  rw [h.length]
  exact (h.drop _).take _
def gSl (d : PyData) (lo hi : Option Int) : Option PyData := match d with
  | .str z => if z.length ≤ sizeLine then some (.str (cutS z lo hi)) else none
  | .tuple ys => some (.tuple (cutL ys lo hi))
  | .list ys => some (.list (cutL ys lo hi))
  | _ => none
def sSl (f : SE PyData) (fl fh : SE (Option Int)) : SE PyData := bnd f fun d => bnd fl fun lo => bnd fh fun hi => lft (gSl d lo hi)
abbrev rSlX3 (K : PySem.W.Frag) : V → Option Int → Option Int → Hp → VK → Prop := fun x lo hi H Q => rSlS x lo hi H Q ∨ (rSlA K x lo hi H Q ∨ rSlL K x lo hi H Q)
theorem sl_any3 : L2.SlR X (rSlX3 X.K) := L2.SlR.or sl_str (L2.SlR.or sl_tupA sl_list)
theorem cut_whole {α : Type} {xs : List α} {lo hi : Option Int} (h : HT.sIx xs.length 0 lo = 0 ∧ HT.sIx xs.length xs.length hi = xs.length) : cutL xs lo hi = xs := by
  unfold cutL
  rw [h.1, h.2, List.drop_zero, Nat.sub_zero, List.take_length]
theorem px_sl {lo hi : Option Expr} {p2' : Pos} {fl fh : SE (Option Int)} (ha : PX X m1 true a fa) (hl : PXO X m2 lo fl) (hh : PXO X m3 hi fh) : PX X (m1 || (m2 || m3)) true (.Subscript a (.Slice lo hi none p2') pos) (sSl fa fl fh) := pe_imp (pe_slice sl_any3 ha hl hh) fun σ H Q => by
  rintro ⟨vs0, P, E, fps, d, E', rel, hh, q⟩
  obtain ⟨d1, E1, h1, hh⟩ := bnd_some hh
  obtain ⟨l, E2, h2, hh⟩ := bnd_some hh
  obtain ⟨u, E3, h3, hh⟩ := bnd_some hh
  obtain ⟨h4, rfl⟩ := lft_some hh
  refine ⟨vs0, P, E, fps, d1, E1, rel, h1, fun P1 H1 fps1 x r1 s1 m1' dx => ⟨vs0, P1, E1, fps1, l, E2, r1, h2, fun P2 H2 fps2 r2 s2 m2' => ⟨vs0, P2, E2, fps2, u, _, r2, h3, fun P3 H3 fps3 r3 s3 m3' => ?_⟩⟩⟩
  have dx3 : Dq X.K P3 x d1 := Dq.mono (s2.pp.trans s3.pp) dx
  have fin : After X.K P3 H3 d Q := fun P4 H4 w pp su hh fr dw => by
    refine q P4 H4 fps3 w (r3.alloc pp su hh fr) (((s1.trans s2).trans s3).trans (.alloc pp hh fr)) (fun hm => ?_) dw
    rw [Bool.or_eq_false_iff, Bool.or_eq_false_iff] at hm
    exact (((m1' hm.1).trans (m2' hm.2.1)).trans (m3' hm.2.2)).trans hh
  unfold gSl at h4
  split at h4
  · split at h4
    · rename_i hz
      cases h4
      rw [dq_str dx3]
      exact .inl ⟨_, rfl, hz, fin.at r3.sub (.str _)⟩
    · cases h4
  · cases h4
    cases dx3 with
    | @tup ad vs ys hx hv =>
      refine .inr (.inl ⟨ad, vs, rfl, seqC r3.sub hx, fun hw => ?_, fun _ p0 hp => ?_⟩)
      · rw [hv.length] at hw
        rw [cut_whole hw] at fin
        exact fin.at r3.sub (.tup hx hv)
      · exact fin.new r3.sub hp (.tup (SqC.of upd_same) ((cut_dq hv l u).mono (Fw.same_upd (sub_none r3.sub hp))))
  · cases h4
    cases dx3 with
    | @lst ad vs ys hx hv =>
      refine .inr (.inr ⟨ad, vs, rfl, SqL.of (r3.sub _ _ hx), fun p0 hp => ?_⟩)
      exact fin.new r3.sub hp (.lst upd_same ((cut_dq hv l u).mono (Fw.same_upd (sub_none r3.sub hp))))
  · cases h4
end
end Fw
namespace Fw
open PySem PySem.Spec L2
open PyProof.Rows hiding St
section
variable {X : Cx} {m m1 m2 m3 p p1 p2 p3 : Bool} {e a b c : Expr} {es : List Expr} {pos px apos : Pos} {f fa fb fc : SE PyData} {fs fs2 : SE (List PyData)} {x : Str} {K : PySem.W.Frag}

theorem px_call1 {id : String} {r : List V → Hp → VK → Prop} {g : PyData → Option PyData} (hc : CallR X (.builtin id) r) (v : VU X.K p (fun y H Q => r [y] H Q) g) (hg : Gl X x) (hm : X.mg x = none) (hv : bootBuiltins x = some (.builtin id)) (ha : PX X m p a fa)
    (hn : x ≠ "__name__" := by decide) (hd : (x == ("__debug__" : Str)) = false := by decide) (he : starEach [a] X.env = (false, eval a X.env) :: starEach [] X.env := by rfl) : PX X m true (.Call (.Name x px) [a] [] pos) (una fa g) :=
  px_op1 (r := fun y H Q => r [y] H Q) (pe_callB hc hg hm hv (pa_cons ha pa_nil he) hn hd he rfl) v
theorem px_callT1 {T : String} {r : List V → Hp → VK → Prop} {g : PyData → Option PyData} (hc : CallR X (.type T) r) (v : VU X.K p (fun y H Q => r [y] H Q) g) (hg : Gl X x) (hm : X.mg x = none) (hv : bootBuiltins x = some (.type T)) (ha : PX X m p a fa)
    (hn : x ≠ "__name__" := by decide) (hd : (x == ("__debug__" : Str)) = false := by decide) (he : starEach [a] X.env = (false, eval a X.env) :: starEach [] X.env := by rfl) : PX X m true (.Call (.Name x px) [a] [] pos) (una fa g) :=
  px_op1 (r := fun y H Q => r [y] H Q) (pe_callTy hc hg hm hv (pa_cons ha pa_nil he) hn hd he rfl) v
def gLen : PyData → Option PyData
  | .str z => if z.length ≤ sizeLine then some (.int z.length) else none
  | .list ys => some (.int ys.length)
  | .tuple ys => some (.int ys.length)
  | _ => none
theorem vu_len : VU K p (fun y H Q => ∃ x n, [y] = [x] ∧ LenV K x H n ∧ Q (.int n) H) gLen := by
  intro P H y d z Q su dy hg q
  replace dy := Dq.pick su dy
  unfold gLen at hg
  split at hg
  · split at hg
    · rename_i hl
      cases hg
      rw [dq_str dy]
      exact ⟨_, _, rfl, ⟨hl, rfl⟩, q.at su (.int _)⟩
    · cases hg
  · cases hg
    cases dy with
    | @lst l vs _ hx hv => exact ⟨_, _, rfl, .inl ⟨vs, SqL.of hx, rfl⟩, by rw [hv.length]; exact q.at su (.int _)⟩
  · cases hg
    cases dy with
    | @tup l vs _ hx hv => exact ⟨_, _, rfl, .inr ⟨vs, hx.sq, rfl⟩, by rw [hv.length]; exact q.at su (.int _)⟩
  · cases hg
def gAbs : PyData → Option PyData
  | .int i => some (.int (if i < 0 then -i else i))
  | _ => none
theorem vu_abs : VU K p (fun y H Q => ∃ i, [y] = [.int i] ∧ Q (.int (if i < 0 then -i else i)) H) gAbs := by
  intro P H y d z Q su dy hg q
  unfold gAbs at hg
  split at hg
  · cases hg
    rw [dq_int dy]
    exact ⟨_, rfl, q.at su (.int _)⟩
  · cases hg
def gInt : PyData → Option PyData
  | .int i => some (.int i)
  | .bool b => some (.int (if b then 1 else 0))
  | .str z => if z.length ≤ 640 then (PySem.intText? z).map .int else none
  | _ => none
theorem cr_intA : CallR X (.type "int") (fun xs H Q => ((∃ i, xs = [.int i] ∧ Q (.int i) H) ∨ ∃ k, xs = [.bl k] ∧ Q (.int (if k then 1 else 0)) H) ∨ (∃ a n, xs = [.str a] ∧ PySem.intText? a = some n ∧ a.length ≤ 640 ∧ Q (.int n) H)) := call_int1.or call_int_str
theorem vu_int : VU K p (fun y H Q => ((∃ i, [y] = [.int i] ∧ Q (.int i) H) ∨ ∃ k, [y] = [.bl k] ∧ Q (.int (if k then 1 else 0)) H) ∨ (∃ a n, [y] = [.str a] ∧ PySem.intText? a = some n ∧ a.length ≤ 640 ∧ Q (.int n) H)) gInt := by
  intro P H y d z Q su dy hg q
  unfold gInt at hg
  split at hg
  · cases hg
    rw [dq_int dy]
    exact .inl (.inl ⟨_, rfl, q.at su (.int _)⟩)
  · cases hg
    rw [dq_bl dy]
    exact .inl (.inr ⟨_, rfl, q.at su (.int _)⟩)
  · split at hg
    · rename_i s hl
      rw [dq_str dy]
      cases e1 : PySem.intText? s with
      | none => rw [e1] at hg; cases hg
      | some n =>
        rw [e1] at hg
        cases hg
        exact .inr ⟨_, n, rfl, e1, hl, q.at su (.int _)⟩
    · cases hg
  · cases hg
def gOrd : PyData → Option PyData
  | .str z => if z.length = 1 then some (.int (z.cps.getD 0 0 : Nat)) else none
  | _ => none
theorem vu_ord : VU K p (fun y H Q => ∃ x, [y] = [.str x] ∧ x.length = 1 ∧ Q (.int (x.cps.getD 0 0 : Nat)) H) gOrd := by
  intro P H y d z Q su dy hg q
  unfold gOrd at hg
  split at hg
  · split at hg
    · rename_i hl
      cases hg
      rw [dq_str dy]
      exact ⟨_, rfl, hl, q.at su (.int _)⟩
    · cases hg
  · cases hg
def gStr : PyData → Option PyData
  | .int i => if i.natAbs.log2 < 1920 then some (.str (toString i)) else none
  | .str z => some (.str z)
  | _ => none
theorem cr_strA : CallR X (.type "str") (fun xs H Q => (∃ i, xs = [.int i] ∧ i.natAbs.log2 < 1920 ∧ Q (.str (toString i)) H) ∨ (∃ a, xs = [.str a] ∧ Q (.str a) H)) := call_str_int.or SkE.call_str_str
theorem vu_str : VU K p (fun y H Q => (∃ i, [y] = [.int i] ∧ i.natAbs.log2 < 1920 ∧ Q (.str (toString i)) H) ∨ (∃ a, [y] = [.str a] ∧ Q (.str a) H)) gStr := by
  intro P H y d z Q su dy hg q
  unfold gStr at hg
  split at hg
  · split at hg
    · rename_i hl
      cases hg
      rw [dq_int dy]
      exact .inl ⟨_, rfl, hl, q.at su (.str _)⟩
    · cases hg
  · cases hg
    rw [dq_str dy]
    exact .inr ⟨_, rfl, q.at su (.str _)⟩
  · cases hg
def gTuple : PyData → Option PyData
  | .list ys => some (.tuple ys)
  | .tuple ys => some (.tuple ys)
  | _ => none
theorem vu_tuple : VU K true (fun y H Q => ∃ p ys, [y] = [.ref p] ∧ ((SqL K H p ys ∧ ∀ l, H l = none → Q (.ref l) (upd H l (.tup ys))) ∨ (SqT K H p ys ∧ Q (.ref p) H))) gTuple := by
  intro P H y d z Q su dy hg q
  unfold gTuple at hg
  split at hg
  · cases hg
    cases dy with
    | @lst l vs _ hx hv => exact ⟨l, vs, rfl, .inl ⟨SqL.of (su _ _ hx), fun p0 hp => q.new su hp (.tup (SqC.of upd_same) (hv.mono (Fw.same_upd (sub_none su hp))))⟩⟩
  · cases hg
    cases dy with
    | @tup l vs _ hx hv => exact ⟨l, vs, rfl, .inr ⟨seqC su hx, q.at su (.tup hx hv)⟩⟩
  · cases hg
/-- tuple(name of an owned list) -/
def tupO (i : Nat) : SE PyData := fun E => match own? i E with
  | some xs => some (.tuple xs, E)
  | none => none
theorem px_tupO {i : Nat} (hg : Gl X "tuple") (hm : X.mg "tuple" = none) (ha : PE X a (tVar i)) (he : starEach [a] X.env = (false, eval a X.env) :: starEach [] X.env := by rfl) : PX X false true (.Call (.Name "tuple" px) [a] [] pos) (tupO i) :=
  pe_imp (pe_callTy (T := "tuple") call_tuple_of hg hm (by decide +kernel) (pa_cons ha pa_nil he) (by decide) (by decide) he rfl) fun σ H Q => by
  rintro ⟨vs0, P, E, fps, d, E', rel, hh, q⟩
  unfold tupO at hh
  split at hh
  · rename_i xs e1
    cases hh
    obtain ⟨ad, vs, es, -, -, hv, dv⟩ := rel.ownAt e1
    refine ⟨_, es, ad, vs, rfl, .inl ⟨SqL.of hv, fun p0 hp => ?_⟩⟩
    have s1 : Same P (upd P p0 (.tup vs)) := Fw.same_upd (sub_none rel.sub hp)
    exact q (upd P p0 (.tup vs)) (upd H p0 (.tup vs)) fps (.ref p0) (rel.alloc s1 (same_upd2 rel.sub hp) (Fw.same_upd hp) (fresh_upd hp)) (.alloc s1 (Fw.same_upd hp) (fresh_upd hp)) (fun _ => Fw.same_upd hp) (.tup (SqC.of upd_same) (dv.mono s1))
  · cases hh
/-- list(x) -/
def gList : PyData → Option (List PyData)
  | .list ys => some ys
  | .tuple ys => some ys
  | _ => none
def unaL (fa : SE PyData) (g : PyData → Option (List PyData)) : SE (List PyData) := bnd fa fun d => lft (g d)
theorem pl_op1 {r : V → Hp → VK → Prop} {g : PyData → Option (List PyData)} (h : PE X e (fun σ H Q => tX X.K m p fa σ H fun x H1 => r x H1 Q)) (v : ∀ (P H : Hp) (y : V) (d : PyData) (zs : List PyData) (Q : VK), Same P H → Dq X.K (pick p P H) y d → g d = some zs → AfterL X.K P H zs Q → r y H Q) : PL X m e (unaL fa g) := pe_imp h fun σ H Q => by
  rintro ⟨vs0, P, E, fps, d, E', rel, hh, q⟩
  obtain ⟨d1, E1, h1, hh⟩ := bnd_some hh
  obtain ⟨h3, rfl⟩ := lft_some hh
  exact ⟨vs0, P, E, fps, d1, _, rel, h1, fun P1 H1 fps1 x r1 s1 m1' dx => v P1 H1 x d1 d Q r1.sub dx h3 (tXL_end r1 s1 m1' q)⟩
theorem pl_list (hg : Gl X "list") (hm : X.mg "list" = none) (ha : PX X m true a fa) (he : starEach [a] X.env = (false, eval a X.env) :: starEach [] X.env := by rfl) : PL X m (.Call (.Name "list" px) [a] [] pos) (unaL fa gList) :=
  pl_op1 (r := fun y H Q => ∃ p ys, [y] = [.ref p] ∧ (SqL X.K H p ys ∨ SqT X.K H p ys) ∧ ∀ l, H l = none → Q (.ref l) (upd H l (.lst ys))) (pe_callTy (T := "list") call_list_of hg hm (by decide +kernel) (pa_cons ha pa_nil he) (by decide) (by decide) he rfl) (by
    intro P H y d zs Q su dy hg q
    unfold gList at hg
    split at hg
    · cases hg
      cases dy with
      | @lst l vs _ hx hv => exact ⟨l, vs, rfl, .inl (SqL.of (su _ _ hx)), fun p0 hp => q.new su hp hv⟩
    · cases hg
      cases dy with
      | @tup l vs _ hx hv => exact ⟨l, vs, rfl, .inr (seqC su hx), fun p0 hp => q.new su hp hv⟩
    · cases hg)
/-- a list of ints | bools | texts alone -/
def intsOf : List PyData → Option (List Int)
  | [] => some []
  | .int i :: r => (intsOf r).map (i :: ·)
  | _ :: _ => none
def boolsOf : List PyData → Option (List Bool)
  | [] => some []
  | .bool i :: r => (boolsOf r).map (i :: ·)
  | _ :: _ => none
def strsOf : List PyData → Option (List Str)
  | [] => some []
  | .str i :: r => (strsOf r).map (i :: ·)
  | _ :: _ => none
theorem ints_dq {H : Hp} : ∀ {vs : List V} {ds : List PyData} {ns : List Int}, DqAll K H vs ds → intsOf ds = some ns → vs = ns.map V.int
  | _, _, _, .nil, e => by cases e; rfl
  | _, _, _, .cons (d := d) h r, e => by
    cases d <;> first
      | (cases e; done)
      | (rw [dq_int h]
         unfold intsOf at e
         cases e1 : intsOf _ with
         | none => rw [e1] at e; cases e
         | some k => rw [e1] at e; cases e; rw [ints_dq r e1]; rfl)
theorem bools_dq {H : Hp} : ∀ {vs : List V} {ds : List PyData} {ns : List Bool}, DqAll K H vs ds → boolsOf ds = some ns → vs = ns.map V.bl
  | _, _, _, .nil, e => by cases e; rfl
  | _, _, _, .cons (d := d) h r, e => by
    cases d <;> first
      | (cases e; done)
      | (rw [dq_bl h]
         unfold boolsOf at e
         cases e1 : boolsOf _ with
         | none => rw [e1] at e; cases e
         | some k => rw [e1] at e; cases e; rw [bools_dq r e1]; rfl)
theorem strs_dq {H : Hp} : ∀ {vs : List V} {ds : List PyData} {ns : List Str}, DqAll K H vs ds → strsOf ds = some ns → vs = ns.map V.str
  | _, _, _, .nil, e => by cases e; rfl
  | _, _, _, .cons (d := d) h r, e => by
    cases d <;> first
      | (cases e; done)
      | (rw [dq_str h]
         unfold strsOf at e
         cases e1 : strsOf _ with
         | none => rw [e1] at e; cases e
         | some k => rw [e1] at e; cases e; rw [strs_dq r e1]; rfl)
def gSum : PyData → Option PyData
  | .list ys => (intsOf ys).map fun ns => .int ns.sum
  | _ => none
theorem vu_sum : VU K p (fun y H Q => rSum K [y] H Q) gSum := by
  intro P H y d z Q su dy hg q
  replace dy := Dq.pick su dy
  unfold gSum at hg
  split at hg
  · rename_i ys
    cases e1 : intsOf ys with
    | none => rw [e1] at hg; cases hg
    | some ns =>
      rw [e1] at hg
      cases hg
      cases dy with
      | @lst l vs _ hx hv => exact ⟨l, ns, rfl, by rw [← ints_dq hv e1]; exact SqL.of hx, q.at su (.int _)⟩
  · cases hg
def gAll : PyData → Option PyData
  | .list ys => (boolsOf ys).map fun ns => .bool (ns.all id)
  | _ => none
def gAny : PyData → Option PyData
  | .list ys => (boolsOf ys).map fun ns => .bool (ns.any id)
  | _ => none
theorem vu_all : VU K p (fun y H Q => rAll K [y] H Q) gAll := by
  intro P H y d z Q su dy hg q
  replace dy := Dq.pick su dy
  unfold gAll at hg
  split at hg
  · rename_i ys
    cases e1 : boolsOf ys with
    | none => rw [e1] at hg; cases hg
    | some ns =>
      rw [e1] at hg
      cases hg
      cases dy with
      | @lst l vs _ hx hv => exact ⟨l, ns, rfl, by rw [← bools_dq hv e1]; exact SqL.of hx, q.at su (.bl _)⟩
  · cases hg
theorem vu_any : VU K p (fun y H Q => rAny K [y] H Q) gAny := by
  intro P H y d z Q su dy hg q
  replace dy := Dq.pick su dy
  unfold gAny at hg
  split at hg
  · rename_i ys
    cases e1 : boolsOf ys with
    | none => rw [e1] at hg; cases hg
    | some ns =>
      rw [e1] at hg
      cases hg
      cases dy with
      | @lst l vs _ hx hv => exact ⟨l, ns, rfl, by rw [← bools_dq hv e1]; exact SqL.of hx, q.at su (.bl _)⟩
  · cases hg
/-- isinstance(x, T) -/
def tyD : PyData → String
  | .none => "NoneType"
  | .bool _ => "bool"
  | .int _ => "int"
  | .str _ => "str"
  | .list _ => "list"
  | .tuple _ => "tuple"
  | .dict _ => "dict"
def gIsi (T : String) (d : PyData) : Option PyData := (kitB (tyD d) T).map .bool
theorem ty_dq {H : Hp} {y : V} {d : PyData} (h : Dq K H y d) : TyX K H y (.type (tyD d)) := by
  cases h with
  | non => exact .base .non
  | bl b => exact .base (.bl b)
  | int i => exact .base (.int i)
  | str z => exact .base (.str z)
  | lst h _ => exact .base (.lst h)
  | tup h _ =>
    rcases h.sq with (h | ⟨o, h⟩) | ⟨o, its, n, hk, hc, _⟩
    · exact .base (.tup h)
    · exact .fTuple h
    · exact .kTuple hk hc
theorem px_isi {T : Str} {u : String} (hg : Gl X "isinstance") (hm : X.mg "isinstance" = none) (hT : PE X b (tC (.ty u))) (ha : PX X m p a fa) (he : starEach [a, b] X.env = (false, eval a X.env) :: starEach [b] X.env := by rfl) (he2 : starEach [b] X.env = (false, eval b X.env) :: starEach [] X.env := by rfl)
    (hpl : (backTo pos (starEach [b] X.env)).any (·.1) = false := by rfl) : PX X m true (.Call (.Name "isinstance" px) [a, b] [] pos) (una fa (gIsi u)) :=
  px_op1 (r := fun y H Q => rIsi X.K [y, .ty u] H Q) (pe_callB (id := "isinstance") call_isi hg hm (by decide +kernel) (pa_cons ha (pa_cons hT pa_nil he2) he) (by decide) (by decide) he hpl) (by
    intro P H y d z Q su dy hg q
    replace dy := Dq.pick su dy
    unfold gIsi at hg
    cases e1 : kitB (tyD d) u with
    | none => rw [e1] at hg; cases hg
    | some bb =>
      rw [e1] at hg
      cases hg
      exact ⟨y, .ty u, _, _, bb, rfl, .ty u, ty_dq dy, kit_ty e1, q.at su (.bl _)⟩)
/-- min(a, b), max(a, b) of ints -/
def gMax : List PyData → Option PyData
  | [.int i, .int j] => some (.int (if j > i then j else i))
  | _ => none
def gMin : List PyData → Option PyData
  | [.int i, .int j] => some (.int (if j < i then j else i))
  | _ => none
theorem va_max : VAA K (fun xs H Q => ∃ i j, xs = [.int i, .int j] ∧ Q (.int (if j > i then j else i)) H) gMax := by
  intro P H xs ds z Q su dx hg q
  unfold gMax at hg
  split at hg
  · cases hg
    cases dx with
    | cons h1 r1 =>
      cases r1 with
      | cons h2 r2 =>
        cases r2
        rw [dq_int h1, dq_int h2]
        exact ⟨_, _, rfl, q.at su (.int _)⟩
  · cases hg
theorem va_min : VAA K (fun xs H Q => ∃ i j, xs = [.int i, .int j] ∧ Q (.int (if j < i then j else i)) H) gMin := by
  intro P H xs ds z Q su dx hg q
  unfold gMin at hg
  split at hg
  · cases hg
    cases dx with
    | cons h1 r1 =>
      cases r1 with
      | cons h2 r2 =>
        cases r2
        rw [dq_int h1, dq_int h2]
        exact ⟨_, _, rfl, q.at su (.int _)⟩
  · cases hg
theorem px_callN {id : String} {r : List V → Hp → VK → Prop} {g : List PyData → Option PyData} (hc : CallR X (.builtin id) r) (v : VAA X.K r g) (hg : Gl X x) (hm : X.mg x = none) (hv : bootBuiltins x = some (.builtin id)) (ha : PXA X m (a :: es) fs)
    (hn : x ≠ "__name__" := by decide) (hd : (x == ("__debug__" : Str)) = false := by decide) (he : starEach (a :: es) X.env = (false, eval a X.env) :: starEach es X.env := by rfl) (hpl : (backTo pos (starEach es X.env)).any (·.1) = false := by rfl) : PX X m true (.Call (.Name x px) (a :: es) [] pos) (mny fs g) :=
  px_args (r := r) (pe_callB hc hg hm hv ha hn hd he hpl) v

def m1S (fa fb : SE PyData) (g : Str → PyData → Option PyData) : SE PyData := bnd fa fun d => match d with
  | .str s => bnd fb fun e => lft (g s e)
  | _ => fun _ => none
def m1L (fa fb : SE PyData) (g : Str → PyData → Option (List PyData)) : SE (List PyData) := bnd fa fun d => match d with
  | .str s => bnd fb fun e => lft (g s e)
  | _ => fun _ => none
theorem px_m1 {r : V → List V → Hp → VK → Prop} {g : Str → PyData → Option PyData} (h : PE X e (tM1 r (tX X.K m1 true fa) (tX X.K m2 p2 fb))) (v : ∀ (P H : Hp) (s : Str) (y : V) (d z : PyData) (Q : VK), Same P H → Dq X.K (pick p2 P H) y d → g s d = some z → After X.K P H z Q → r (.str s) [y] H Q) : PX X (m1 || m2) true e (m1S fa fb g) := pe_imp h fun σ H Q => by
  rintro ⟨vs0, P, E, fps, d, E', rel, hh, q⟩
  obtain ⟨d1, E1, h1, hh⟩ := bnd_some hh
  split at hh
  · rename_i s
    obtain ⟨d2, E2, h2, hh⟩ := bnd_some hh
    obtain ⟨h3, rfl⟩ := lft_some hh
    refine ⟨vs0, P, E, fps, _, E1, rel, h1, fun P1 H1 fps1 x r1 s1 m1' dx => ⟨⟨s, dq_str dx⟩, vs0, P1, E1, fps1, d2, _, r1, h2, fun P2 H2 fps2 y r2 s2 m2' dy => ?_⟩⟩
    rw [dq_str dx]
    refine v P2 H2 s y d2 d Q r2.sub dy h3 fun P3 H3 w pp su hh fr dw => ?_
    refine q P3 H3 fps2 w (r2.alloc pp su hh fr) ((s1.trans s2).trans (.alloc pp hh fr)) (fun hm => ?_) dw
    rw [Bool.or_eq_false_iff] at hm
    exact ((m1' hm.1).trans (m2' hm.2)).trans hh
  · cases hh
theorem pl_m1 {r : V → List V → Hp → VK → Prop} {g : Str → PyData → Option (List PyData)} (h : PE X e (tM1 r (tX X.K m1 true fa) (tX X.K m2 p2 fb))) (v : ∀ (P H : Hp) (s : Str) (y : V) (d : PyData) (zs : List PyData) (Q : VK), Same P H → Dq X.K (pick p2 P H) y d → g s d = some zs → AfterL X.K P H zs Q → r (.str s) [y] H Q) : PL X (m1 || m2) e (m1L fa fb g) := pe_imp h fun σ H Q => by
  rintro ⟨vs0, P, E, fps, d, E', rel, hh, q⟩
  obtain ⟨d1, E1, h1, hh⟩ := bnd_some hh
  split at hh
  · rename_i s
    obtain ⟨d2, E2, h2, hh⟩ := bnd_some hh
    obtain ⟨h3, rfl⟩ := lft_some hh
    refine ⟨vs0, P, E, fps, _, E1, rel, h1, fun P1 H1 fps1 x r1 s1 m1' dx => ⟨⟨s, dq_str dx⟩, vs0, P1, E1, fps1, d2, _, r1, h2, fun P2 H2 fps2 y r2 s2 m2' dy => ?_⟩⟩
    rw [dq_str dx]
    refine v P2 H2 s y d2 d Q r2.sub dy h3 (tXL_end r2 (s1.trans s2) (fun hm => ?_) q)
    rw [Bool.or_eq_false_iff] at hm
    exact (m1' hm.1).trans (m2' hm.2)
  · cases hh
def m0S (fa : SE PyData) (g : Str → Option PyData) : SE PyData := bnd fa fun d => match d with
  | .str s => lft (g s)
  | _ => fun _ => none
theorem px_m0 {r : V → List V → Hp → VK → Prop} {g : Str → Option PyData} (h : PE X e (tM0 r (tX X.K m p fa))) (v : ∀ (P H : Hp) (s : Str) (z : PyData) (Q : VK), Same P H → g s = some z → After X.K P H z Q → r (.str s) [] H Q) : PX X m true e (m0S fa g) := pe_imp h fun σ H Q => by
  rintro ⟨vs0, P, E, fps, d, E', rel, hh, q⟩
  obtain ⟨d1, E1, h1, hh⟩ := bnd_some hh
  split at hh
  · rename_i s
    obtain ⟨h3, rfl⟩ := lft_some hh
    refine ⟨vs0, P, E, fps, _, _, rel, h1, fun P1 H1 fps1 x r1 s1 m1' dx => ?_⟩
    have ex : x = .str s := by cases p <;> exact dq_str dx
    refine ⟨⟨s, ex⟩, ?_⟩
    rw [ex]
    exact v P1 H1 s d Q r1.sub h3 fun P3 H3 w pp su hh fr dw => q P3 H3 fps1 w (r1.alloc pp su hh fr) (s1.trans (.alloc pp hh fr)) (fun hm => (m1' hm).trans hh) dw
  · cases hh
section
variable {apos : Pos} (hs : starEach [b] X.env = [(false, eval b X.env)] := by rfl) (hbL : attributeBase a "lower" X.env (eval a X.env) = eval a X.env := by rfl) (hline : (apos.endLine == pos.line) = true := by rfl)
def gLower (s : Str) : Option PyData := if s.length ≤ 5592405 then some (.str (Txt.lower s)) else none
def gUpper (s : Str) : Option PyData := if s.length ≤ 5592405 then some (.str (Txt.upper s)) else none
theorem px_lower (ha : PX X m p a fa) (hb : attributeBase a "lower" X.env (eval a X.env) = eval a X.env := by rfl) (hline : (apos.endLine == pos.line) = true := by rfl) : PX X m true (.Call (.Attribute a "lower" apos) [] [] pos) (m0S fa gLower) := px_m0 (pe_lower ha hb hline) (by
  intro P H s z Q su hg q
  unfold gLower at hg
  split at hg
  · rename_i hl
    cases hg
    exact ⟨s, rfl, rfl, hl, q.at su (.str _)⟩
  · cases hg)
theorem px_upper (ha : PX X m p a fa) (hb : attributeBase a "upper" X.env (eval a X.env) = eval a X.env := by rfl) (hline : (apos.endLine == pos.line) = true := by rfl) : PX X m true (.Call (.Attribute a "upper" apos) [] [] pos) (m0S fa gUpper) := px_m0 (pe_upper ha hb hline) (by
  intro P H s z Q su hg q
  unfold gUpper at hg
  split at hg
  · rename_i hl
    cases hg
    exact ⟨s, rfl, rfl, hl, q.at su (.str _)⟩
  · cases hg)
def gStrip (s : Str) : PyData → Option PyData
  | .str t => if s.length ≤ sizeLine then some (.str (Txt.stripChars s t)) else none
  | _ => none
def gLstrip (s : Str) : PyData → Option PyData
  | .str t => if s.length ≤ sizeLine then some (.str (Txt.lstripChars s t)) else none
  | _ => none
theorem px_strip (ha : PX X m1 true a fa) (hb : PX X m2 p2 b fb) (hs : starEach [b] X.env = [(false, eval b X.env)] := by rfl) (hba : attributeBase a "strip" X.env (eval a X.env) = eval a X.env := by rfl) (hline : (apos.endLine == pos.line) = true := by rfl) : PX X (m1 || m2) true (.Call (.Attribute a "strip" apos) [b] [] pos) (m1S fa fb gStrip) :=
  px_m1 (pe_m1 PySem.F.slot_str_strip PySem.F.type_str_strip mt_stripChars ha hb hs hba hline) (by
  intro P H s y d z Q su dy hg q
  unfold gStrip at hg
  split at hg
  · split at hg
    · rename_i hl
      cases hg
      rw [dq_str dy]
      exact ⟨s, _, rfl, rfl, hl, q.at su (.str _)⟩
    · cases hg
  · cases hg)
theorem px_lstrip (ha : PX X m1 true a fa) (hb : PX X m2 p2 b fb) (hs : starEach [b] X.env = [(false, eval b X.env)] := by rfl) (hba : attributeBase a "lstrip" X.env (eval a X.env) = eval a X.env := by rfl) (hline : (apos.endLine == pos.line) = true := by rfl) : PX X (m1 || m2) true (.Call (.Attribute a "lstrip" apos) [b] [] pos) (m1S fa fb gLstrip) :=
  px_m1 (pe_m1 PySem.F.slot_str_lstrip PySem.F.type_str_lstrip mt_lstripChars ha hb hs hba hline) (by
  intro P H s y d z Q su dy hg q
  unfold gLstrip at hg
  split at hg
  · split at hg
    · rename_i hl
      cases hg
      rw [dq_str dy]
      exact ⟨s, _, rfl, rfl, hl, q.at su (.str _)⟩
    · cases hg
  · cases hg)
def gSplit (s : Str) : PyData → Option (List PyData)
  | .str t => if (t.length == 0) = false ∧ s.length + 2 ≤ sizeLine then some ((Txt.split s t).map .str) else none
  | _ => none
theorem strs_all {H : Hp} : ∀ ys : List Str, DqAll K H (ys.map V.str) (ys.map PyData.str)
  | [] => .nil
  | y :: ys => .cons (.str y) (strs_all ys)
theorem ints_all {H : Hp} : ∀ ys : List Int, DqAll K H (ys.map V.int) (ys.map PyData.int)
  | [] => .nil
  | y :: ys => .cons (.int y) (ints_all ys)
theorem pl_split (ha : PX X m1 true a fa) (hb : PX X m2 p2 b fb) (hs : starEach [b] X.env = [(false, eval b X.env)] := by rfl) (hba : attributeBase a "split" X.env (eval a X.env) = eval a X.env := by rfl) (hline : (apos.endLine == pos.line) = true := by rfl) : PL X (m1 || m2) (.Call (.Attribute a "split" apos) [b] [] pos) (m1L fa fb gSplit) :=
  pl_m1 (pe_split ha hb hs hba hline) (by
  intro P H s y d z Q su dy hg q
  unfold gSplit at hg
  split at hg
  · split at hg
    · rename_i hl
      cases hg
      rw [dq_str dy]
      exact ⟨s, _, rfl, rfl, hl.1, hl.2, fun p0 hp => q.new su hp (strs_all _)⟩
    · cases hg
  · cases hg)
def gPartition (s : Str) : PyData → Option PyData
  | .str t => if (t.length == 0) = false ∧ s.length ≤ sizeLine then some (.tuple [.str (Txt.partition s t).1, .str (Txt.partition s t).2.1, .str (Txt.partition s t).2.2]) else none
  | _ => none
theorem px_partition (ha : PX X m1 true a fa) (hb : PX X m2 p2 b fb) (hs : starEach [b] X.env = [(false, eval b X.env)] := by rfl) (hba : attributeBase a "partition" X.env (eval a X.env) = eval a X.env := by rfl) (hline : (apos.endLine == pos.line) = true := by rfl) : PX X (m1 || m2) true (.Call (.Attribute a "partition" apos) [b] [] pos) (m1S fa fb gPartition) :=
  px_m1 (pe_partition ha hb hs hba hline) (by
  intro P H s y d z Q su dy hg q
  unfold gPartition at hg
  split at hg
  · split at hg
    · rename_i hl
      cases hg
      rw [dq_str dy]
      exact ⟨s, _, rfl, rfl, hl.1, hl.2, fun p0 hp => q.new su hp (.tup (SqC.of upd_same) (.cons (.str _) (.cons (.str _) (.cons (.str _) .nil))))⟩
    · cases hg
  · cases hg)
def gJoin (s : Str) : PyData → Option PyData
  | .list ys => match strsOf ys with
    | some zs => if (zs.map (·.length)).sum + zs.length * s.length ≤ 16777216 then some (.str (Txt.join s zs)) else none
    | none => none
  | .tuple ys => match strsOf ys with
    | some zs => if (zs.map (·.length)).sum + zs.length * s.length ≤ 16777216 then some (.str (Txt.join s zs)) else none
    | none => none
  | _ => none
theorem px_join (ha : PX X m1 true a fa) (hb : PX X m2 p2 b fb) (hs : starEach [b] X.env = [(false, eval b X.env)] := by rfl) (hba : attributeBase a "join" X.env (eval a X.env) = eval a X.env := by rfl) (hline : (apos.endLine == pos.line) = true := by rfl) : PX X (m1 || m2) true (.Call (.Attribute a "join" apos) [b] [] pos) (m1S fa fb gJoin) :=
  px_m1 (pe_join ha hb hs hba hline) (by
  intro P H s y d z Q su dy hg q
  replace dy := Dq.pick su dy
  unfold gJoin at hg
  split at hg
  · split at hg
    · rename_i zs e1
      split at hg
      · rename_i hl
        cases hg
        cases dy with
        | @lst l vs _ hx hv => exact ⟨s, l, zs, rfl, rfl, .inl (by rw [← strs_dq hv e1]; exact SqL.of hx), hl, q.at su (.str _)⟩
      · cases hg
    · cases hg
  · split at hg
    · rename_i zs e1
      split at hg
      · rename_i hl
        cases hg
        cases dy with
        | @tup l vs _ hx hv => exact ⟨s, l, zs, rfl, rfl, .inr (by rw [← strs_dq hv e1]; exact hx.sq), hl, q.at su (.str _)⟩
      · cases hg
    · cases hg
  · cases hg)
end

def gFmt : PyData → Option PyData
  | .str y => if y.length ≤ sizeLine then some (.str y) else none
  | .int i => if i.natAbs.log2 < 1920 then some (.str (toString i)) else none
  | _ => none
theorem px_fmt (ha : PX X m p a fa) : PX X m true (.FormattedValue a (-1) none pos) (una fa gFmt) := px_op1 (r := fun x H1 Q => (∃ y : Str, x = .str y ∧ y.length ≤ sizeLine ∧ Q (.str y) H1) ∨ ∃ i : Int, x = .int i ∧ i.natAbs.log2 < 1920 ∧ Q (.str (toString i)) H1) (pe_fmt ha) (by
  intro P H y d z Q su dy hg q
  unfold gFmt at hg
  split at hg
  · split at hg
    · rename_i hl
      cases hg
      exact .inl ⟨_, dq_str dy, hl, q.at su (.str _)⟩
    · cases hg
  · split at hg
    · rename_i hl
      cases hg
      exact .inr ⟨_, dq_int dy, hl, q.at su (.str _)⟩
    · cases hg
  · cases hg)
inductive PXJ (X : Cx) : List Expr → List (SE PyData) → Prop where
  | nil : PXJ X [] []
  | cons {e : Expr} {m p : Bool} {f : SE PyData} {es : List Expr} {fs : List (SE PyData)} (h : PX X m p e f) (r : PXJ X es fs) : PXJ X (e :: es) (f :: fs)
def jns : List (SE PyData) → Str → SE PyData
  | [], acc => ret (.str acc)
  | f :: fs, acc => bnd f fun d => match d with
    | .str y => if (acc ++ y).length ≤ sizeLine then jns fs (acc ++ y) else fun _ => none
    | _ => fun _ => none
theorem pj_of {es : List Expr} {fs : List (SE PyData)} (h : PXJ X es fs) : ∃ ts, PJ X es ts ∧ ∀ (acc : Str) (σ : L2.St) (H : Hp) (Q : VK), tX X.K true true (jns fs acc) σ H Q → tJs ts acc σ H fun out H1 => Q (.str out) H1 := by
  induction h with
  | nil =>
    refine ⟨[], .nil, fun acc σ H Q => ?_⟩
    rintro ⟨vs0, P, E, fps, d, E', rel, hh, q⟩
    obtain ⟨rfl, rfl⟩ := ret_some hh
    exact q P H fps _ rel (.refl _ _ _) (fun _ => Same.refl H) (.str acc)
  | @cons e m p f es fs h r ih =>
    obtain ⟨ts, h1, h2⟩ := ih
    refine ⟨tX X.K m p f :: ts, .cons h h1, fun acc σ H Q => ?_⟩
    rintro ⟨vs0, P, E, fps, d, E', rel, hh, q⟩
    obtain ⟨d1, E1, g1, hh⟩ := bnd_some hh
    split at hh
    · rename_i y
      split at hh
      · rename_i hl
        refine ⟨vs0, P, E, fps, _, E1, rel, g1, fun P1 H1 fps1 x r1 s1 m1' dx => ⟨y, by cases p <;> exact dq_str dx, hl, h2 _ σ H1 Q ⟨vs0, P1, E1, fps1, d, E', r1, hh, fun P2 H2 fps2 v r2 s2 m2' dv => q P2 H2 fps2 v r2 (s1.trans s2) (fun hm => nomatch hm) dv⟩⟩⟩
      · cases hh
    · cases hh
theorem px_joined {v1 v2 : Expr} {rest : List Expr} {fs : List (SE PyData)} (h : PXJ X (v1 :: v2 :: rest) fs) : PX X true true (.JoinedStr (v1 :: v2 :: rest) pos) (jns fs Str.empty) := by
  obtain ⟨ts, h1, h2⟩ := pj_of h
  exact pe_imp (pe_joined h1) fun σ H Q q => h2 _ σ H Q q
theorem px_joined1 (h : PX X m p e f) : PX X m p (.JoinedStr [e] pos) f := pe_joined1 h
end
end Fw
namespace Fw
open PySem PySem.Spec L2
open PyProof.Rows hiding St
structure Snap (K : PySem.W.Frag) (J : It) (G : Hp → Prop) (ds : List PyData) : Prop where
  mono : ∀ P P', Same P P' → G P → G P'
  go : ∀ (i : Nat) (P H : Hp), i < ds.length → G P → Same P H → J.go i H
  yld : ∀ (i : Nat) (P H : Hp) (y : V) (H' : Hp) (d : PyData), G P → Same P H → ds[i]? = some d → J.yld i H y H' → ∃ P', Same P P' ∧ Same P' H' ∧ Same H H' ∧ Fresh NoF P H P' ∧ Dq K P' y d
  stop : ∀ (P H : Hp), G P → Same P H → J.stop ds.length H
def tXI (K : PySem.W.Frag) (m : Bool) (f : SE (List PyData)) : TI := fun σ H R => ∃ (vs0 : List V) (P : Hp) (E : En) (fps : Nat → List Addr) (ds : List PyData) (E' : En), Rel K vs0 P E σ H fps ∧ f E = some (ds, E') ∧
  ∀ (P' H' : Hp) (fps' : Nat → List Addr) (J : It) (G : Hp → Prop), Rel K vs0 P' E' σ H' fps' → Step (In fps) P H (In fps') P' H' → (m = false → Same H H') → Snap K J G ds → G P' → R J H'
def PXI (X : Cx) (m : Bool) (tg e : Expr) (f : SE (List PyData)) : Prop := PI X tg e (tXI X.K m f)
def signs (z : Str) : List PyData := z.cps.toList.map fun c => .str ⟨#[c]⟩
def itemsOf : PyData → Option (List PyData)
  | .list ys => some ys
  | .tuple ys => some ys
  | .str z => some (signs z)
  | _ => none
theorem snap_list {K : PySem.W.Frag} {a : Addr} {vs : List V} {ds : List PyData} : Snap K (Itl K a) (fun P => P a = some (.lst vs) ∧ DqAll K P vs ds) ds where
  mono := fun P P' s h => ⟨s _ _ h.1, h.2.mono s⟩
  go := fun i P H hi h s => ⟨vs, vs[i]'(by rw [h.2.length]; exact hi), SqL.of (s _ _ h.1), by simp⟩
  yld := fun i P H y H' d h s hd hy => by
    obtain ⟨rfl, hy⟩ := hy
    obtain ⟨v, h1, h2⟩ := h.2.get hd
    have h3 := hy vs (SqL.of (s _ _ h.1))
    rw [h1] at h3
    cases h3
    exact ⟨P, Same.refl P, s, Same.refl _, .same, h2⟩
  stop := fun P H h s => ⟨vs, SqL.of (s _ _ h.1), by rw [h.2.length]; exact Nat.le_refl _⟩
theorem snap_tup {K : PySem.W.Frag} {a : Addr} {vs : List V} {ds : List PyData} : Snap K (Itt K a) (fun P => SqT K P a vs ∧ DqAll K P vs ds) ds where
  mono := fun P P' s h => ⟨seqT s h.1, h.2.mono s⟩
  go := fun i P H hi h s => ⟨vs, vs[i]'(by rw [h.2.length]; exact hi), seqT s h.1, by simp⟩
  yld := fun i P H y H' d h s hd hy => by
    obtain ⟨rfl, hy⟩ := hy
    obtain ⟨v, h1, h2⟩ := h.2.get hd
    have h3 := hy vs (seqT s h.1)
    rw [h1] at h3
    cases h3
    exact ⟨P, Same.refl P, s, Same.refl _, .same, h2⟩
  stop := fun P H h s => ⟨vs, seqT s h.1, by rw [h.2.length]; exact Nat.le_refl _⟩
theorem snap_str {K : PySem.W.Frag} {z : Str} : Snap K (Its z) (fun _ => True) (signs z) where
  mono := fun _ _ _ _ => trivial
  go := fun i P H hi _ _ => by
    show i < z.cps.size
    simpa [signs] using hi
  yld := fun i P H y H' d _ s hd hy => by
    obtain ⟨rfl, c, h1, rfl⟩ := hy
    refine ⟨P, Same.refl P, s, Same.refl _, .same, ?_⟩
    unfold signs at hd
    rw [List.getElem?_map, Array.getElem?_toList, h1] at hd
    cases hd
    exact .str _
  stop := fun P H _ _ => by
    show z.cps.size ≤ (signs z).length
    simp [signs]
theorem snap_scr {K : PySem.W.Frag} {a : Addr} {ns : List Int} : Snap K (Itl K a) (fun P => SqL K P a (ns.map V.int)) (ns.map PyData.int) where
  mono := fun P P' s h => s.seq h
  go := fun i P H hi h s => ⟨ns.map V.int, (ns.map V.int)[i]'(by simpa using hi), s.seq h, by simp⟩
  yld := fun i P H y H' d h s hd hy => by
    obtain ⟨rfl, hy⟩ := hy
    have h3 := hy _ (s.seq h)
    refine ⟨P, Same.refl P, s, Same.refl _, .same, ?_⟩
    rw [List.getElem?_map] at hd h3
    cases e : ns[i]? with
    | none => rw [e] at hd; cases hd
    | some n =>
      rw [e] at hd h3
      cases hd
      cases h3
      exact .int n
  stop := fun P H h s => ⟨_, s.seq h, by simp⟩
def rngL (lo : Int) (n : Nat) : List PyData := (List.range n).map fun i => .int (lo + (i : Nat))
theorem snap_rng {K : PySem.W.Frag} {lo : Int} {n : Nat} : Snap K (Itr lo n) (fun _ => True) (rngL lo n) where
  mono := fun _ _ _ _ => trivial
  go := fun i P H hi _ _ => by
    show i < n
    simpa [rngL] using hi
  yld := fun i P H y H' d _ s hd hy => by
    obtain ⟨rfl, rfl⟩ := hy
    refine ⟨P, Same.refl P, s, Same.refl _, .same, ?_⟩
    unfold rngL at hd
    rw [List.getElem?_map] at hd
    cases e : (List.range n)[i]? with
    | none => rw [e] at hd; cases hd
    | some k =>
      rw [e] at hd
      have : k = i := by
        have := List.getElem?_eq_some_iff.mp e
        obtain ⟨h1, h2⟩ := this
        rw [List.getElem_range] at h2
        exact h2.symm
      subst this
      cases hd
      exact .int _
  stop := fun P H _ _ => by
    show n ≤ (rngL lo n).length
    simp [rngL]
theorem pi_imp {X : Cx} {tg e : Expr} {t u : TI} (h : PI X tg e t) (i : ∀ σ H R, u σ H R → t σ H R) : PI X tg e u := ⟨fun pins s σ H R I q => h.run pins s σ H R I (i σ H R q)⟩
section
variable {X : Cx} {m m1 m2 m3 p p1 p2 p3 : Bool} {e a b c tg : Expr} {es : List Expr} {pos px apos : Pos} {f fa fb fc : SE PyData} {fs fs2 : SE (List PyData)} {x : Str}
/-- data that is walked -/
def sItems (fa : SE PyData) : SE (List PyData) := bnd fa fun d => lft (itemsOf d)
theorem pxi_data (h : PX X m true a fa) : PXI X m tg a (sItems fa) := ⟨fun pins s σ H R I q => by
  obtain ⟨vs0, P, E, fps, ds, E', rel, hh, q⟩ := q
  obtain ⟨d, E1, h1, hh⟩ := bnd_some hh
  obtain ⟨h2, rfl⟩ := lft_some hh
  unfold itemsOf at h2
  split at h2
  · cases h2
    refine (pi_list h).run pins s σ H R I ⟨vs0, P, E, fps, _, _, rel, h1, fun P1 H1 fps1 v r1 s1 m1' dv => ?_⟩
    cases dv with
    | @lst ad vs _ hx hv => exact ⟨ad, rfl, ⟨vs, SqL.of (r1.sub _ _ hx)⟩, q P1 H1 fps1 _ _ r1 s1 m1' snap_list ⟨hx, hv⟩⟩
  · cases h2
    refine (pi_tup h).run pins s σ H R I ⟨vs0, P, E, fps, _, _, rel, h1, fun P1 H1 fps1 v r1 s1 m1' dv => ?_⟩
    cases dv with
    | @tup ad vs _ hx hv => exact ⟨ad, rfl, ⟨vs, seqC r1.sub hx⟩, q P1 H1 fps1 _ _ r1 s1 m1' snap_tup ⟨hx.sq, hv⟩⟩
  · cases h2
    refine (pi_str h).run pins s σ H R I ⟨vs0, P, E, fps, _, _, rel, h1, fun P1 H1 fps1 v r1 s1 m1' dv => ?_⟩
    exact ⟨_, dq_str dv, q P1 H1 fps1 _ _ r1 s1 m1' snap_str trivial⟩
  · cases h2⟩
/-- the script -/
def sScr (i : Nat) : SE (List PyData) := fun E => match E[i]? with
  | some (.scr ns) => some (ns.map .int, E)
  | _ => none
theorem pxi_scr {i : Nat} (h : PE X a (tVar i)) : PXI X false tg a (sScr i) := pi_imp (pi_list h) fun σ H R => by
  rintro ⟨vs0, P, E, fps, ds, E', rel, hh, q⟩
  unfold sScr at hh
  split at hh
  · rename_i ns e1
    cases hh
    obtain ⟨ov, e2, s⟩ := rel.sl i _ e1
    generalize hfp : fps i = fp at s
    cases s with
    | scr hs => exact ⟨_, e2, _, rfl, ⟨_, rel.sub.seq hs⟩, q P H fps _ _ rel (.refl _ _ _) (fun _ => Same.refl H) snap_scr hs⟩
  · cases hh
/-- range(n), range(a, b) -/
def sRng1 (fa : SE PyData) : SE (List PyData) := bnd fa fun d => match d with
  | .int j => if -(2 ^ 62) ≤ j ∧ j < 2 ^ 62 then ret (rngL 0 j.toNat) else fun _ => none
  | _ => fun _ => none
theorem pxi_rng1 (hg : Gl X "range") (hm : X.mg "range" = none) (h : PX X m p a fa) (hs : starEach [a] X.env = [(false, eval a X.env)] := by rfl) : PXI X m tg (.Call (.Name "range" px) [a] [] pos) (sRng1 fa) := pi_imp (pi_range1 hg hm (pa_cons h pa_nil hs) hs) fun σ H R => by
  rintro ⟨vs0, P, E, fps, ds, E', rel, hh, q⟩
  obtain ⟨d, E1, h1, hh⟩ := bnd_some hh
  split at hh
  · split at hh
    · rename_i j hj
      obtain ⟨rfl, rfl⟩ := ret_some hh
      refine ⟨vs0, P, E, fps, _, _, rel, h1, fun P1 H1 fps1 v r1 s1 m1' dv => ⟨j, by rw [dq_int dv], hj.1, hj.2, q P1 H1 fps1 _ _ r1 s1 m1' snap_rng trivial⟩⟩
    · cases hh
  · cases hh
def sRng2 (fa fb : SE PyData) : SE (List PyData) := bnd fa fun d => bnd fb fun e => match d, e with
  | .int i, .int j => if -(2 ^ 62) ≤ i ∧ i < 2 ^ 62 ∧ -(2 ^ 62) ≤ j ∧ j < 2 ^ 62 then ret (rngL i (j - i).toNat) else fun _ => none
  | _, _ => fun _ => none
theorem pxi_rng2 (hg : Gl X "range") (hm : X.mg "range" = none) (ha : PX X m1 p1 a fa) (hb : PX X m2 p2 b fb) (hs : starEach [a, b] X.env = [(false, eval a X.env), (false, eval b X.env)] := by rfl) (hs2 : starEach [b] X.env = [(false, eval b X.env)] := by rfl) : PXI X (m1 || m2) tg (.Call (.Name "range" px) [a, b] [] pos) (sRng2 fa fb) :=
  pi_imp (pi_range2 hg hm (pa_cons ha (pa_cons hb pa_nil hs2) (by rw [hs, hs2])) hs hs2) fun σ H R => by
  rintro ⟨vs0, P, E, fps, ds, E', rel, hh, q⟩
  obtain ⟨d, E1, h1, hh⟩ := bnd_some hh
  obtain ⟨d2, E2, h2, hh⟩ := bnd_some hh
  split at hh
  · split at hh
    · rename_i hj
      obtain ⟨rfl, rfl⟩ := ret_some hh
      refine ⟨vs0, P, E, fps, _, _, rel, h1, fun P1 H1 fps1 v r1 s1 m1' dv => ⟨vs0, P1, _, fps1, _, _, r1, h2, fun P2 H2 fps2 w r2 s2 m2' dw => ⟨_, _, by rw [dq_int dv, dq_int dw], hj, q P2 H2 fps2 _ _ r2 (s1.trans s2) (fun hm => ?_) snap_rng trivial⟩⟩⟩
      rw [Bool.or_eq_false_iff] at hm
      exact (m1' hm.1).trans (m2' hm.2)
    · cases hh
  · cases hh
/-- the name of a list that is not changed any more -/
def rdA (i : Nat) : SE PyData := fun E => match E[i]? with
  | some (.dat d) => some (d, E)
  | some (.own xs) => some (.list xs, E.set i (.dat (.list xs)))
  | _ => none
end

section
variable {K : PySem.W.Frag} {vs0 : List V} {P P' : Hp} {E E' : En} {σ σ' : L2.St} {H H' : Hp} {fps fps' : Nat → List Addr}
def clr (fps : Nat → List Addr) (i : Nat) (l : List Addr) : Nat → List Addr := fun j => if j = i then l else fps j
theorem in_clr {i : Nat} {l : List Addr} {a : Addr} (h : In (clr fps i l) a) : a ∈ l ∨ In fps a := by
  obtain ⟨j, hj⟩ := h
  unfold clr at hj
  split at hj
  · exact .inl hj
  · exact .inr ⟨j, hj⟩
theorem Rel.put {i : Nat} {s : Sl} {ov : Option V} {l : List Addr} (r : Rel K vs0 P E σ H fps) (hs : SlR K P H s ov l) (hl : ∀ a ∈ l, ∀ j, j ≠ i → a ∉ fps j) (hp : ∀ v, vs0[i]? = some v → s.ow = true → ov = some v) : Rel K vs0 P (E.set i s) (σ.set i ov) H (if i < E.length then clr fps i l else fps) := by
  by_cases hi : i < E.length
  · rw [if_pos hi]
    have hi' : i < σ.length := by rw [← r.len]; exact hi
    refine ⟨r.sub, by rw [List.length_set, List.length_set]; exact r.len, fun j t ht => ?_, fun j hj => ?_, fun j k a hj hk => ?_, fun j xs v hv ht ho => ?_⟩
    · by_cases e : i = j
      · subst e
        rw [List.getElem?_set_self hi] at ht
        cases ht
        exact ⟨ov, List.getElem?_set_self hi', by unfold clr; rw [if_pos rfl]; exact hs⟩
      · rw [List.getElem?_set_ne e] at ht
        obtain ⟨w, h1, h2⟩ := r.sl j t ht
        exact ⟨w, by rw [List.getElem?_set_ne e]; exact h1, by unfold clr; rw [if_neg (Ne.symm e)]; exact h2⟩
    · rw [List.length_set] at hj
      unfold clr
      rw [if_neg (by omega)]
      exact r.out j hj
    · unfold clr at hj hk
      by_cases e1 : j = i
      · by_cases e2 : k = i
        · exact e1.trans e2.symm
        · rw [if_pos e1] at hj
          rw [if_neg e2] at hk
          exact absurd hk (hl a hj k e2)
      · by_cases e2 : k = i
        · rw [if_neg e1] at hj
          rw [if_pos e2] at hk
          exact absurd hj (hl a hk j e1)
        · rw [if_neg e1] at hj
          rw [if_neg e2] at hk
          exact r.dj j k a hj hk
    · by_cases e : i = j
      · subst e
        rw [List.getElem?_set_self hi] at ht
        rw [List.getElem?_set_self hi']
        cases ht
        exact congrArg some (hp v hv ho)
      · rw [List.getElem?_set_ne e] at ht
        rw [List.getElem?_set_ne e]
        exact r.par j xs v hv ht ho
  · rw [if_neg hi]
    have hi' : ¬ i < σ.length := by rw [← r.len]; exact hi
    rw [List.set_eq_of_length_le (by omega), List.set_eq_of_length_le (by omega)]
    exact r
theorem Rel.putDat {i : Nat} {d : PyData} {v : V} (r : Rel K vs0 P E σ H fps) (h : Dq K P v d) : ∃ fps', Rel K vs0 P (E.set i (.dat d)) (σ.set i (some v)) H fps' ∧ Step (In fps) P H (In fps') P H := by
  refine ⟨_, r.put (.dat h) (fun a ha => nomatch ha) (fun v' _ e => Bool.noConfusion e), Same.refl P, fun a o h1 _ => h1, .same, fun a ha => ?_, fun a o h1 => ⟨o, h1⟩⟩
  split at ha
  · rcases in_clr ha with h1 | h1
    · cases h1
    · exact .inl h1
  · exact .inl ha
theorem Rel.putUn {i : Nat} {ov : Option V} (r : Rel K vs0 P E σ H fps) : ∃ fps', Rel K vs0 P (E.set i .un) (σ.set i ov) H fps' ∧ Step (In fps) P H (In fps') P H := by
  refine ⟨_, r.put .un (fun a ha => nomatch ha) (fun v' _ e => Bool.noConfusion e), Same.refl P, fun a o h1 _ => h1, .same, fun a ha => ?_, fun a o h1 => ⟨o, h1⟩⟩
  split at ha
  · rcases in_clr ha with h1 | h1
    · cases h1
    · exact .inl h1
  · exact .inl ha
/-- an owned list becomes data -/
theorem Rel.freeze {i : Nat} {xs : List PyData} (r : Rel K vs0 P E σ H fps) (h : own? i E = some xs) : ∃ (ad : Addr) (vs : List V), σ[i]? = some (some (.ref ad)) ∧ Rel K vs0 (upd P ad (.lst vs)) (E.set i (.dat (.list xs))) σ H (clr fps i []) ∧
    Step (In fps) P H (In (clr fps i [])) (upd P ad (.lst vs)) H ∧ Dq K (upd P ad (.lst vs)) (.ref ad) (.list xs) := by
  obtain ⟨ad, vs, es, ef, pa, ha, dv⟩ := r.ownAt h
  have s1 : Same P (upd P ad (.lst vs)) := Fw.same_upd pa
  have dq : Dq K (upd P ad (.lst vs)) (.ref ad) (.list xs) := .lst upd_same (dv.mono s1)
  have hi : i < E.length := by
    have := own?_some h
    exact (List.getElem?_eq_some_iff.mp this).1
  refine ⟨ad, vs, es, ⟨fun x u hx => ?_, by rw [List.length_set]; exact r.len, fun j t ht => ?_, fun j hj => ?_, fun j k a hj hk => ?_, fun j ys v hv ht ho => ?_⟩, ⟨s1, fun a o h1 _ => h1, fun a o hx => ?_, fun a ha' => ?_, fun a o h1 => ⟨o, h1⟩⟩, dq⟩
  · by_cases e : x = ad
    · subst e
      rw [upd_same] at hx
      cases hx
      exact ha
    · rw [upd_ne e] at hx
      exact r.sub x u hx
  · by_cases e : i = j
    · subst e
      rw [List.getElem?_set_self hi] at ht
      cases ht
      exact ⟨_, es, by unfold clr; rw [if_pos rfl]; exact .dat dq⟩
    · rw [List.getElem?_set_ne e] at ht
      obtain ⟨ov, h1, h2⟩ := r.sl j t ht
      refine ⟨ov, h1, ?_⟩
      unfold clr
      rw [if_neg (Ne.symm e)]
      refine h2.mono s1 fun a ha' => ⟨rfl, ?_⟩
      have : a ≠ ad := fun z => e (r.dj i j ad (by rw [ef]; exact List.mem_singleton.mpr rfl) (z ▸ ha'))
      rw [upd_ne this]
      exact (h2.foot ha').1
  · rw [List.length_set] at hj
    unfold clr
    rw [if_neg (by omega)]
    exact r.out j hj
  · unfold clr at hj hk
    split at hj
    · cases hj
    · split at hk
      · cases hk
      · exact r.dj j k a hj hk
  · by_cases e : i = j
    · subst e
      rw [List.getElem?_set_self hi] at ht
      cases ht
      exact Bool.noConfusion ho
    · rw [List.getElem?_set_ne e] at ht
      exact r.par j ys v hv ht ho
  · by_cases e : a = ad
    · subst e
      exact .inr (.inr ⟨i, by rw [ef]; exact List.mem_singleton.mpr rfl⟩)
    · rw [upd_ne e] at hx
      exact .inl ⟨o, hx⟩
  · rcases in_clr ha' with h1 | h1
    · cases h1
    · exact .inl h1
end
section
variable {X : Cx} {m m1 m2 m3 p p1 p2 p3 : Bool} {e a b c tg : Expr} {es : List Expr} {pos px apos : Pos} {f fa fb fc : SE PyData} {fs fs2 : SE (List PyData)} {x : Str}
theorem px_any {i : Nat} (h : PE X e (tVar i)) : PX X true true e (rdA i) := pe_imp h fun σ H Q => by
  rintro ⟨vs0, P, E, fps, d, E', r, hf, q⟩
  unfold rdA at hf
  split at hf
  · rename_i d' e1
    cases hf
    obtain ⟨ov, e2, s⟩ := r.sl i _ e1
    generalize hfp : fps i = fp at s
    cases s with
    | dat dv => exact ⟨_, e2, q P H fps _ r (.refl _ _ _) (fun h => nomatch h) dv⟩
  · rename_i xs e1
    cases hf
    have e2 : own? i E = some xs := by unfold own?; rw [e1]
    obtain ⟨ad, vs, es, r1, s1, dq⟩ := r.freeze e2
    exact ⟨_, es, q _ H _ _ r1 s1 (fun h => nomatch h) dq⟩
  · cases hf
end
end Fw
namespace Fw
open PySem PySem.Spec L2
open PyProof.Rows hiding St
inductive Fl where
  | nx | bk | ct
  | rt (s : Sl)
abbrev SS := En → Option (Fl × En)
/-- what is wanted behind a statement that ends so -/
def Con (K : PySem.W.Frag) (vs0 : List V) (D : Ends) (F : Addr → Prop) (P H : Hp) : Fl → En → Prop
  | .nx, E' => ∀ (P' H' : Hp) (fps' : Nat → List Addr) (σ' : L2.St), Rel K vs0 P' E' σ' H' fps' → Step F P H (In fps') P' H' → D.nx σ' H'
  | .bk, E' => ∀ (P' H' : Hp) (fps' : Nat → List Addr) (σ' : L2.St), Rel K vs0 P' E' σ' H' fps' → Step F P H (In fps') P' H' → D.bk σ' H'
  | .ct, E' => ∀ (P' H' : Hp) (fps' : Nat → List Addr) (σ' : L2.St), Rel K vs0 P' E' σ' H' fps' → Step F P H (In fps') P' H' → D.ct σ' H'
  | .rt s, E' => ∀ (P' H' : Hp) (fps' : Nat → List Addr) (σ' : L2.St) (v : V) (fr : List Addr), Rel K vs0 P' E' σ' H' fps' → Step F P H (fun a => In fps' a ∨ a ∈ fr) P' H' → SlR K P' H' s (some v) fr → (∀ a ∈ fr, ¬ In fps' a) → D.rt v H'
theorem Con.on {K : PySem.W.Frag} {vs0 : List V} {D : Ends} {F F1 : Addr → Prop} {P H P1 H1 : Hp} {fl : Fl} {E' : En} (c : Con K vs0 D F P H fl E') (s : Step F P H F1 P1 H1) : Con K vs0 D F1 P1 H1 fl E' := by
  cases fl with
  | nx => exact fun P' H' fps' σ' r st => c P' H' fps' σ' r (s.trans st)
  | bk => exact fun P' H' fps' σ' r st => c P' H' fps' σ' r (s.trans st)
  | ct => exact fun P' H' fps' σ' r st => c P' H' fps' σ' r (s.trans st)
  | rt s' => exact fun P' H' fps' σ' v fr r st q1 q2 => c P' H' fps' σ' v fr r (s.trans st) q1 q2
/-- n: the parameters' number -/
def tS (K : PySem.W.Frag) (n : Nat) (f : SS) : TS := fun D σ H => ∃ (vs0 : List V) (P : Hp) (E : En) (fps : Nat → List Addr) (fl : Fl) (E' : En), vs0.length = n ∧ Rel K vs0 P E σ H fps ∧ f E = some (fl, E') ∧ Con K vs0 D (In fps) P H fl E'
def PXS1 (X : Cx) (n : Nat) (st : Stmt) (f : SS) : Prop := PS X st (tS X.K n f)
def PXS (X : Cx) (n : Nat) (st : List Stmt) (f : SS) : Prop := PSs X st (tS X.K n f)
def seqS (f g : SS) : SS := fun E => match f E with
  | some (.nx, E') => g E'
  | r => r
def nxt : SS := fun E => some (.nx, E)
section
variable {X : Cx} {n : Nat} {m m1 m2 m3 p p1 p2 p3 : Bool} {st : Stmt} {sts sts2 : List Stmt} {e a b c tg : Expr} {es : List Expr} {pos px apos : Pos} {f fa fb fc : SE PyData} {fs fs2 : SE (List PyData)} {x : Str} {g h : SS}
theorem pxs_nil : PXS X n [] nxt := pss_imp pss_nil fun D σ H => by
  rintro ⟨vs0, P, E, fps, fl, E', hn, r, hf, q⟩
  cases hf
  exact q P H fps σ r (.refl _ _ _)
theorem pxs_one (h1 : PXS1 X n st g) : PXS X n [st] g := pss_one h1
theorem pxs_cons (h1 : PXS1 X n st g) (h2 : PXS X n sts h) : PXS X n (st :: sts) (seqS g h) := pss_imp (pss_cons h1 h2) fun D σ H => by
  rintro ⟨vs0, P, E, fps, fl, E', hn, r, hf, q⟩
  unfold seqS at hf
  split at hf
  · rename_i E1 e1
    exact ⟨vs0, P, E, fps, .nx, E1, hn, r, e1, fun P1 H1 fps1 σ1 r1 s1 => ⟨vs0, P1, E1, fps1, fl, E', hn, r1, hf, q.on s1⟩⟩
  · rename_i hne
    refine ⟨vs0, P, E, fps, fl, E', hn, r, hf, ?_⟩
    cases fl with
    | nx => exact absurd hf (hne E')
    | bk => exact q
    | ct => exact q
    | rt s => exact q
theorem pxs_pass : PXS1 X n (.Pass pos) nxt := ps_imp ps_pass fun D σ H => by
  rintro ⟨vs0, P, E, fps, fl, E', hn, r, hf, q⟩
  cases hf
  exact q P H fps σ r (.refl _ _ _)
def brkS : SS := fun E => some (.bk, E)
def cntS : SS := fun E => some (.ct, E)
theorem pxs_break : PXS1 X n (.Break pos) brkS := ps_imp ps_break fun D σ H => by
  rintro ⟨vs0, P, E, fps, fl, E', hn, r, hf, q⟩
  cases hf
  exact q P H fps σ r (.refl _ _ _)
theorem pxs_cont : PXS1 X n (.Continue pos) cntS := ps_imp ps_continue fun D σ H => by
  rintro ⟨vs0, P, E, fps, fl, E', hn, r, hf, q⟩
  cases hf
  exact q P H fps σ r (.refl _ _ _)
/-- an expression dropped -/
def drpS (fa : SE PyData) : SS := fun E => match fa E with
  | some (_, E') => some (.nx, E')
  | none => none
theorem pxs_drop (h1 : PX X m p e fa) (hs : swapsWith e none pos.line X.env = pure false := by rfl) : PXS1 X n (.Expr e pos) (drpS fa) := ps_imp (ps_expr h1 hs) fun D σ H => by
  rintro ⟨vs0, P, E, fps, fl, E', hn, r, hf, q⟩
  unfold drpS at hf
  split at hf
  · rename_i d E1 e1
    cases hf
    exact ⟨vs0, P, E, fps, d, _, r, e1, fun P1 H1 fps1 v r1 s1 _ _ => q P1 H1 fps1 σ r1 s1⟩
  · cases hf
/-- x = data -/
def asg (i : Nat) (fa : SE PyData) : SS := fun E => match fa E with
  | some (d, E') => some (.nx, E'.set i (.dat d))
  | none => none
theorem pxs_asg {i : Nat} {pos' : Pos} (hN : X.N.Nodup) (hi : X.N[i]? = some x) (hx : Loc X.env.scope x) (h1 : PX X m true e fa) (hs : swapsWith e (some (.Name x pos')) pos.line X.env = pure false := by rfl) (hf : X.fn x = true ∨ X.env.scope.names.lookup x = some .local := by first | exact .inl rfl | exact .inr rfl | assumption) :
    PXS1 X n (.Assign [.Name x pos'] e pos) (asg i fa) := ps_imp (ps_set hN hi hx h1 hs hf) fun D σ H => by
  rintro ⟨vs0, P, E, fps, fl, E', hn, r, hf, q⟩
  unfold asg at hf
  split at hf
  · rename_i d E1 e1
    cases hf
    refine ⟨vs0, P, E, fps, d, E1, r, e1, fun P1 H1 fps1 v r1 s1 _ dv => ?_⟩
    obtain ⟨fps2, r2, s2⟩ := r1.putDat (i := i) dv
    exact q P1 H1 fps2 _ r2 (s1.trans s2)
  · cases hf
/-- x = a new list that x owns -/
def asgL (i : Nat) (fs : SE (List PyData)) : SS := fun E => match fs E with
  | some (ds, E') => some (.nx, E'.set i (.own ds))
  | none => none
theorem pxs_asgL {i : Nat} {pos' : Pos} (hi' : n ≤ i) (hN : X.N.Nodup) (hi : X.N[i]? = some x) (hx : Loc X.env.scope x) (h1 : PL X m e fs) (hs : swapsWith e (some (.Name x pos')) pos.line X.env = pure false := by rfl) (hf : X.fn x = true ∨ X.env.scope.names.lookup x = some .local := by first | exact .inl rfl | exact .inr rfl | assumption) :
    PXS1 X n (.Assign [.Name x pos'] e pos) (asgL i fs) := ps_imp (ps_set hN hi hx h1 hs hf) fun D σ H => by
  rintro ⟨vs0, P, E, fps, fl, E', hn, r, hf, q⟩
  unfold asgL at hf
  split at hf
  · rename_i ds E1 e1
    cases hf
    refine ⟨vs0, P, E, fps, ds, E1, r, e1, fun P1 H1 fps1 ad vs r1 s1 _ ha pa nf hv dv => ?_⟩
    have r2 := r1.put (i := i) (s := .own ds) (ov := some (.ref ad)) (l := [ad]) (.own pa hv dv) (fun y hy j _ hj => by
      cases List.mem_singleton.mp hy
      exact nf ⟨j, hj⟩) (fun v hv' _ => by
        have := (List.getElem?_eq_some_iff.mp hv').1
        omega)
    refine q P1 H1 _ _ r2 ⟨s1.pp, s1.keep, s1.fresh, fun y hy => ?_, s1.live⟩
    split at hy
    · rcases in_clr hy with h2 | h2
      · cases List.mem_singleton.mp h2
        exact .inr ha
      · exact s1.foot y h2
    · exact s1.foot y hy
  · cases hf
/-- targets -/
def tXG (K : PySem.W.Frag) (ts : List Nat) (b : PyData → En → Option En) : TG := fun v σ H Q => ∃ (vs0 : List V) (P : Hp) (E : En) (fps : Nat → List Addr) (d : PyData) (E' : En), Rel K vs0 P E σ H fps ∧ Dq K P v d ∧ b d E = some E' ∧
  ∀ (fps' : Nat → List Addr) (σ' : L2.St), Rel K vs0 P E' σ' H fps' → Step (In fps) P H (In fps') P H → σ'.length = σ.length → (∀ k, k ∉ ts → σ'[k]? = σ[k]?) → Q σ' H
def PXG (X : Cx) (ts : List Nat) (tg : Expr) (b : PyData → En → Option En) : Prop := PG X tg (tXG X.K ts b)
theorem pg_imp {X : Cx} {tg : Expr} {t u : TG} (h : PG X tg t) (i : ∀ v σ H Q, u v σ H Q → t v σ H Q) : PG X tg u := ⟨fun pins s σ H v w Q I r q => h.run pins s σ H v w Q I r (i v σ H Q q)⟩
def toN (i : Nat) : PyData → En → Option En := fun d E => some (E.set i (.dat d))
theorem pxg_name {i : Nat} (hN : X.N.Nodup) (hi : X.N[i]? = some x) (hx : Loc X.env.scope x) (hf : X.fn x = true ∨ X.env.scope.names.lookup x = some .local := by first | exact .inl rfl | exact .inr rfl | assumption) : PXG X [i] (.Name x pos) (toN i) := pg_imp (pg_name hN hi hx hf) fun v σ H Q => by
  rintro ⟨vs0, P, E, fps, d, E', r, dv, hb, q⟩
  cases hb
  obtain ⟨fps2, r2, s2⟩ := r.putDat (i := i) dv
  exact q fps2 _ r2 s2 (List.length_set ..) fun k hk => List.getElem?_set_ne (fun z => hk (by rw [z]; exact List.mem_singleton.mpr rfl))
/-- several plain names -/
inductive PXGs (X : Cx) : List Expr → List Nat → TGs → Prop where
  | nil : PXGs X [] [] gNil
  | cons {es : List Expr} {is : List Nat} {t : TGs} {x : Str} {i : Nat} {pos : Pos} (h : PXGs X es is t) : PXGs X (.Name x pos :: es) (i :: is) (gCons (gName i) t)
def toNs : List Nat → List PyData → En → Option En
  | [], [], E => some E
  | i :: is, d :: ds, E => toNs is ds (E.set i (.dat d))
  | _, _, _ => none
def gNs : List Nat → TGs
  | [] => gNil
  | i :: is => gCons (gName i) (gNs is)
theorem gNs_run {K : PySem.W.Frag} {vs0 : List V} {P H : Hp} : ∀ (is : List Nat) (ds : List PyData) (vs : List V) (E E' : En) (σ : L2.St) (fps : Nat → List Addr) (Q : L2.St → Hp → Prop), Rel K vs0 P E σ H fps → DqAll K P vs ds → toNs is ds E = some E' →
    (∀ (fps' : Nat → List Addr) (σ' : L2.St), Rel K vs0 P E' σ' H fps' → Step (In fps) P H (In fps') P H → σ'.length = σ.length → (∀ k, k ∉ is → σ'[k]? = σ[k]?) → Q σ' H) → gNs is vs σ H Q
  | [], [], _, E, E', σ, fps, Q, r, .nil, h, q => by
    cases h
    exact ⟨rfl, q fps σ r (.refl _ _ _) rfl fun _ _ => rfl⟩
  | [], _ :: _, _, _, _, _, _, _, _, _, h, _ => by cases h
  | _ :: _, [], _, _, _, _, _, _, _, _, h, _ => by cases h
  | i :: is, d :: ds, _, E, E', σ, fps, Q, r, .cons (v := v) (vs := vs) dv dr, h, q => by
    obtain ⟨fps2, r2, s2⟩ := r.putDat (i := i) dv
    refine ⟨v, vs, rfl, gNs_run is ds vs _ E' _ fps2 Q r2 dr h fun fps' σ' r' s' hl hk => q fps' σ' r' (s2.trans s') (hl.trans (List.length_set ..)) fun k hk' => ?_⟩
    rw [List.mem_cons, not_or] at hk'
    rw [hk k hk'.2, List.getElem?_set_ne (fun z => hk'.1 z.symm)]
def toT (is : List Nat) : PyData → En → Option En := fun d E => match d with
  | .tuple ds => if ds.length = is.length then toNs is ds E else none
  | _ => none
theorem pxg_tup {is : List Nat} {k : Nat} {l : Nat} (hc : X.calm = true) (h : PGs X es (gNs is)) (hl : l = is.length) (hn : (assignEach es X.env).length = l := by rfl) (hst : (assignEach es X.env).findIdx? (·.1) = none := by rfl) : PXG X is (.Tuple es k pos) (toT is) := pg_imp (pg_tup hc h hn hst) fun v σ H Q => by
  rintro ⟨vs0, P, E, fps, d, E', r, dv, hb, q⟩
  unfold toT at hb
  split at hb
  · split at hb
    · rename_i hl2
      cases dv with
      | @tup ad vs ds ha hv => exact ⟨ad, vs, rfl, seqC r.sub ha, by rw [hv.length, hl2, hl], gNs_run is _ vs E E' σ fps Q r hv hb q⟩
    · cases hb
  · cases hb
/-- targets = data -/
def asgG (b : PyData → En → Option En) (fa : SE PyData) : SS := fun E => match fa E with
  | some (d, E') => match b d E' with
    | some E2 => some (.nx, E2)
    | none => none
  | none => none
theorem pxs_asgG {ts : List Nat} {bb : PyData → En → Option En} (h1 : PX X m true e fa) (hg : PXG X ts tg bb) (hs : swapsWithSole [tg] e pos.line X.env = pure false := by rfl) (hw : swappedStores [tg] e X.env = pure none := by rfl)
    (h2 : (assignEach [tg] X.env).map (·.2) = [assign tg X.env] := by rfl) : PXS1 X n (.Assign [tg] e pos) (asgG bb fa) := ps_imp (ps_asg h1 hg hs hw h2) fun D σ H => by
  rintro ⟨vs0, P, E, fps, fl, E', hn, r, hf, q⟩
  unfold asgG at hf
  split at hf
  · rename_i d E1 e1
    split at hf
    · rename_i E2 e2
      cases hf
      exact ⟨vs0, P, E, fps, d, E1, r, e1, fun P1 H1 fps1 v r1 s1 _ dv => ⟨vs0, P1, E1, fps1, d, _, r1, dv, e2, fun fps2 σ2 r2 s2 _ _ => q P1 H1 fps2 σ2 r2 (s1.trans s2)⟩⟩
    · cases hf
  · cases hf
/-- x += e, ints -/
def augS (i : Nat) (fn : Int → Int → Int) (fa : SE PyData) : SS := fun E => match E[i]? with
  | some (.dat (.int k)) => match fa E with
    | some (.int j, E') => some (.nx, E'.set i (.dat (.int (fn k j))))
    | _ => none
  | _ => none
theorem pxs_aug {i : Nat} {op : Operator} {fn : Int → Int → Int} {pos' : Pos} (ho : PIp X op (ipI fn)) (hN : X.N.Nodup) (hi : X.N[i]? = some x) (hx : Loc X.env.scope x) (h1 : PX X m p e fa) (hf : X.fn x = true ∨ X.env.scope.names.lookup x = some .local := by first | exact .inl rfl | exact .inr rfl | assumption) :
    PXS1 X n (.AugAssign (.Name x pos') op e pos) (augS i fn fa) := ps_imp (ps_aug hN hi hx h1 ho hf) fun D σ H => by
  rintro ⟨vs0, P, E, fps, fl, E', hn, r, hf, q⟩
  unfold augS at hf
  split at hf
  · rename_i k e0
    split at hf
    · rename_i j E1 e1
      cases hf
      obtain ⟨ov, e2, s⟩ := r.sl i _ e0
      generalize hfp : fps i = fp at s
      cases s with
      | dat dk =>
        rw [dq_int dk] at e2
        refine ⟨.int k, e2, vs0, P, E, fps, _, E1, r, e1, fun P1 H1 fps1 v r1 s1 _ dv => ⟨k, j, rfl, dq_int dv, ?_⟩⟩
        obtain ⟨fps2, r2, s2⟩ := r1.putDat (i := i) (.int (fn k j))
        exact q P1 H1 fps2 _ r2 (s1.trans s2)
    · cases hf
  · cases hf
/-- l[i] = e -/
theorem Rel.write {K : PySem.W.Frag} {vs0 : List V} {P H : Hp} {E : En} {σ : L2.St} {fps : Nat → List Addr} (r : Rel K vs0 P E σ H fps) {i : Nat} {xs : List PyData} (h : own? i E = some xs) {ad : Addr} (es : σ[i]? = some (some (.ref ad))) {ws : List V} {ys : List PyData} (dw : DqAll K P ws ys) :
    Rel K vs0 P (E.set i (.own ys)) σ (upd H ad (.lst ws)) fps ∧ Step (In fps) P H (In fps) P (upd H ad (.lst ws)) := by
  obtain ⟨ad2, vs, es2, ef, pa, ha, dv⟩ := r.ownAt h
  rw [es] at es2
  cases es2
  have hi : i < E.length := (List.getElem?_eq_some_iff.mp (own?_some h)).1
  refine ⟨⟨fun x u hx => ?_, by rw [List.length_set]; exact r.len, fun j t ht => ?_, fun j hj => by rw [List.length_set] at hj; exact r.out j hj, r.dj, fun j zs v hv ht ho => ?_⟩, Same.refl P, fun a o h1 nf => ?_, .same, fun a ha' => .inl ha', fun a o h1 => ?_⟩
  · have : x ≠ ad := fun z => by rw [z, pa] at hx; cases hx
    rw [upd_ne this]
    exact r.sub x u hx
  · by_cases e : i = j
    · subst e
      rw [List.getElem?_set_self hi] at ht
      cases ht
      exact ⟨_, es, by rw [ef]; exact .own pa upd_same dw⟩
    · rw [List.getElem?_set_ne e] at ht
      obtain ⟨ov, h1, h2⟩ := r.sl j t ht
      refine ⟨ov, h1, h2.mono (Same.refl P) fun y hy => ⟨?_, (h2.foot hy).1⟩⟩
      have : y ≠ ad := fun z => e (r.dj i j ad (by rw [ef]; exact List.mem_singleton.mpr rfl) (z ▸ hy))
      rw [upd_ne this]
  · by_cases e : i = j
    · subst e
      exact r.par i _ v hv (own?_some h) rfl
    · rw [List.getElem?_set_ne e] at ht
      exact r.par j zs v hv ht ho
  · have : a ≠ ad := fun z => nf ⟨i, by rw [ef, z]; exact List.mem_singleton.mpr rfl⟩
    rw [upd_ne this]
    exact h1
  · by_cases e : a = ad
    · subst e
      exact ⟨_, upd_same⟩
    · rw [upd_ne e]
      exact ⟨o, h1⟩
def setO (i : Nat) (fa fi : SE PyData) : SS := fun E => match fa E with
  | some (d, E1) => match own? i E1 with
    | some _ => match fi E1 with
      | some (.int k, E2) => match own? i E2 with
        | some xs => match ixN xs.length k with
          | some j => some (.nx, E2.set i (.own (xs.set j d)))
          | none => none
        | none => none
      | _ => none
    | none => none
  | none => none
theorem pxs_setO {i : Nat} (h1 : PX X m1 true e fa) (ho : PE X a (tVar i)) (hi : PX X m2 p2 b fb) (hst : ∀ v, assign (.Subscript a b px) X.env v = (do
      let ov ← holding [v] (eval a X.env)
      let iv ← holding [v, ov] (eval b X.env)
      standAt px
      holding [v, ov, iv] (setItem ov iv v)
      release [v, ov, iv] []) := by intro _; rfl) (hs : swapsWithSole [.Subscript a b px] e pos.line X.env = pure false := by rfl) (hw : swappedStores [.Subscript a b px] e X.env = pure none := by rfl)
    (h2 : (assignEach [.Subscript a b px] X.env).map (·.2) = [assign (.Subscript a b px) X.env] := by rfl) : PXS1 X n (.Assign [.Subscript a b px] e pos) (setO i fa fb) := ps_imp (ps_asg h1 (pg_sub ho hi set_list hst) hs hw h2) fun D σ H => by
  rintro ⟨vs0, P, E, fps, fl, E', hn, r, hf, q⟩
  unfold setO at hf
  split at hf
  · rename_i d E1 e1
    split at hf
    · rename_i xs0 e0
      split at hf
      · rename_i k E2 e2
        split at hf
        · rename_i xs e3
          split at hf
          · rename_i j e4
            cases hf
            refine ⟨vs0, P, E, fps, d, E1, r, e1, fun P1 H1 fps1 v r1 s1 _ dv => ?_⟩
            obtain ⟨ad, vs1, es1, -, -, -, -⟩ := r1.ownAt e0
            refine ⟨_, es1, vs0, P1, E1, fps1, _, E2, r1, e2, fun P2 H2 fps2 w r2 s2 _ dw => ?_⟩
            obtain ⟨ad2, vs, es, ef, pa, ha, dx⟩ := r2.ownAt e3
            rw [es1] at es
            cases es
            refine ⟨ad, vs, k, j, rfl, dq_int dw, ha, by rw [dx.length]; exact e4, ?_⟩
            obtain ⟨r3, s3⟩ := r2.write e3 es1 (dx.set (dv.mono s2.pp) j)
            exact q P2 _ fps2 σ r3 ((s1.trans s2).trans s3)
          · cases hf
        · cases hf
      · cases hf
    · cases hf
  · cases hf
/-- l.append(e) -/
def appO (i : Nat) (fa : SE PyData) : SS := fun E => match own? i E with
  | some _ => match fa E with
    | some (d, E1) => match own? i E1 with
      | some xs => if xs.length < sizeLine then some (.nx, E1.set i (.own (xs ++ [d]))) else none
      | none => none
    | none => none
  | none => none
theorem pxs_appO {i : Nat} (ho : PE X a (tVar i)) (h1 : PX X m true b fa) (hs : swapsWith (.Call (.Attribute a "append" apos) [b] [] px) none pos.line X.env = pure false := by rfl)
    (hb : attributeBase a "append" X.env (eval a X.env) = eval a X.env := by rfl)
    (h3 : ((((backTo px (starEach [b] X.env)).all fun x => !x.fst) && (backToKw px (keywordEach [] X.env)).all fun x => x.fst.isSome) && decide (([b] : List Expr).length + ([] : List Keyword).length + (if ([] : List Keyword).isEmpty = true then 0 else 1) < 30)) = true := by rfl)
    (hline : (apos.endLine == px.line) = true := by rfl) (he : starEach [b] X.env = (false, eval b X.env) :: starEach [] X.env := by rfl) (hpl : (backTo px (starEach [] X.env)).any (·.1) = false := by rfl) :
    PXS1 X n (.Expr (.Call (.Attribute a "append" apos) [b] [] px) pos) (appO i fa) := ps_imp (ps_expr (pe_bm PySem.F.plainAttrs_list PySem.F.slot_list_append PySem.F.type_list_append mt_append ho (pa_cons h1 pa_nil he) hb h3 hline he hpl) hs) fun D σ H => by
  rintro ⟨vs0, P, E, fps, fl, E', hn, r, hf, q⟩
  unfold appO at hf
  split at hf
  · rename_i xs0 e0
    split at hf
    · rename_i d E1 e1
      split at hf
      · rename_i xs e2
        split at hf
        · rename_i hl
          cases hf
          obtain ⟨ad, vs1, es1, -, -, ha1, -⟩ := r.ownAt e0
          refine ⟨_, es1, .inl ⟨rfl, vs1, SqL.of ha1⟩, vs0, P, E, fps, d, E1, r, e1, fun P1 H1 fps1 v r1 s1 _ dv => ?_⟩
          obtain ⟨ad2, vs, es, ef, pa, ha, dx⟩ := r1.ownAt e2
          rw [es1] at es
          cases es
          refine ⟨ad, vs, v, rfl, rfl, ha, by rw [dx.length]; exact hl, ?_⟩
          obtain ⟨r3, s3⟩ := r1.write e2 es1 (dx.append (.one dv))
          exact q P1 _ fps1 σ r3 (s1.trans s3)
        · cases hf
      · cases hf
    · cases hf
  · cases hf
/-- if -/
def ifS (t : SE Bool) (g h : SS) : SS := fun E => match t E with
  | some (true, E') => g E'
  | some (false, E') => h E'
  | none => none
theorem pxs_if {t : SE Bool} (hc : PXT X m c t) (ha : PXS X n sts g) (hb : PXS X n sts2 h) : PXS1 X n (.If c sts sts2 pos) (ifS t g h) := ps_imp (ps_if hc ha hb) fun D σ H => by
  rintro ⟨vs0, P, E, fps, fl, E', hn, r, hf, q⟩
  unfold ifS at hf
  split at hf
  · rename_i E1 e1
    refine ⟨vs0, P, E, fps, true, E1, r, e1, fun P1 H1 fps1 r1 s1 _ => ?_⟩
    show tS X.K n g D σ H1
    exact ⟨vs0, P1, E1, fps1, fl, E', hn, r1, hf, q.on s1⟩
  · rename_i E1 e1
    refine ⟨vs0, P, E, fps, false, E1, r, e1, fun P1 H1 fps1 r1 s1 _ => ?_⟩
    show tS X.K n h D σ H1
    exact ⟨vs0, P1, E1, fps1, fl, E', hn, r1, hf, q.on s1⟩
  · cases hf
/-- return -/
def retD (fa : SE PyData) : SS := fun E => match fa E with
  | some (d, E') => some (.rt (.dat d), E')
  | none => none
theorem pxs_ret (h1 : PX X m true e fa) : PXS1 X n (.Return (some e) pos) (retD fa) := ps_imp (ps_ret h1) fun D σ H => by
  rintro ⟨vs0, P, E, fps, fl, E', hn, r, hf, q⟩
  unfold retD at hf
  split at hf
  · rename_i d E1 e1
    cases hf
    exact ⟨vs0, P, E, fps, d, _, r, e1, fun P1 H1 fps1 v r1 s1 _ dv => q P1 H1 fps1 σ v [] r1 ⟨s1.pp, s1.keep, s1.fresh, (fun a ha => ha.elim (s1.foot a) (fun z => nomatch z)), s1.live⟩ (.dat dv) (fun a ha => nomatch ha)⟩
  · cases hf
def retL (fs : SE (List PyData)) : SS := fun E => match fs E with
  | some (ds, E') => some (.rt (.own ds), E')
  | none => none
theorem pxs_retL (h1 : PL X m e fs) : PXS1 X n (.Return (some e) pos) (retL fs) := ps_imp (ps_ret h1) fun D σ H => by
  rintro ⟨vs0, P, E, fps, fl, E', hn, r, hf, q⟩
  unfold retL at hf
  split at hf
  · rename_i d E1 e1
    cases hf
    exact ⟨vs0, P, E, fps, d, _, r, e1, fun P1 H1 fps1 ad vs r1 s1 _ ha pa nf hv dv => q P1 H1 fps1 σ (.ref ad) [ad] r1 ⟨s1.pp, s1.keep, s1.fresh, (fun y hy => hy.elim (s1.foot y) (fun z => .inr (List.mem_singleton.mp z ▸ ha))), s1.live⟩ (.own pa hv dv) (fun y hy => List.mem_singleton.mp hy ▸ nf)⟩
  · cases hf
def retN : SS := fun E => some (.rt (.dat .none), E)
theorem pxs_retN : PXS1 X n (.Return none pos) retN := ps_imp ps_retN fun D σ H => by
  rintro ⟨vs0, P, E, fps, fl, E', hn, r, hf, q⟩
  cases hf
  exact q P H fps σ .non [] r ⟨Same.refl P, fun _ _ h _ => h, .same, (fun a ha => ha.elim .inl (fun z => nomatch z)), fun a o h1 => ⟨o, h1⟩⟩ (.dat .non) (fun a ha => nomatch ha)
end
end Fw
namespace Fw
open PySem PySem.Spec L2
open PyProof.Rows hiding St
theorem meets_extT (l : Addr) (xs ys : Array Value) (n k : Nat) (b : Addr) (dd : Option Addr) (sl : Array (Option Value)) (h0 : ¬(!xs.isEmpty && Builtin.List.listTooLong (xs.size + ys.size)) = true) (h1 : xs.size ≤ sizeLine) (h2 : xs.size + ys.size ≤ sizeLine + 1) :
    Meets (Builtin.«list.extend» ⟨[.ref l, .ref b], []⟩) (fun _ R s => s.heap.get? l = some { cls := .type "list", data := .seq xs n } ∧ s.heap.get? b = some { cls := .type "tuple", dict := dd, data := .seq ys k, slots := sl } ∧ R (.ok (.ret Value.none)) { s with heap := s.heap.update l (Obj.mapSeq fun x => x ++ ys) }) :=
  .of_wp fun prog w A R s h => by
    obtain ⟨hp, g, d, tk, os⟩ := s
    obtain ⟨hl, hb, h⟩ := h
    have f1 := AutoSeq1.sub_tuple_list
    have f2 := AutoSeq1.sub_list_tuple
    have f3 := AutoSeq1.sub_tuple_tuple
    have f4 := AutoSeq1.sub_list_list
    have f5 := AutoSeq1.idx_int
    have hz : (xs ++ ys).size ≤ sizeLine + 1 := by rw [Array.size_append]; exact h2
    wp_walk using (wpAny_updateSeq hl rfl (hz := h1) (_hz' := hz)), AutoSeq1.wpAny_loadPart' hl, AutoSeq1.wpAny_loadPart' hb
    exact ⟨_, rfl, h⟩
/-- l.extend(t), t a list or a tuple that is read -/
def rExtA (K : PySem.W.Frag) : V → List V → Hp → VK → Prop := fun x vs H Q => rExtend x vs H Q ∨ ∃ l b xs zs, x = .ref l ∧ vs = [.ref b] ∧ H l = some (.lst xs) ∧ SqT K H b zs ∧ xs.length + zs.length ≤ sizeLine ∧ Q .non (upd H l (.lst (xs ++ zs)))
theorem mt_extA {X : Cx} : MtR X "list.extend" (rExtA X.K) := by
  intro pins s σ H x vs v us Q I rx rv h
  rcases h with h | ⟨l, b, xs, zs, rfl, rfl, hH, hB, hz, q⟩
  · exact mt_extend pins s σ H x vs v us Q I rx rv h
  · cases rx
    obtain ⟨u, rfl, ru⟩ := rv.one
    cases ru
    obtain ⟨z, its, n, r, hl, e⟩ := I.lstM hH
    obtain ⟨its2, r2, ⟨⟨cls, dd, data, sl⟩, ho, hc, k, hd⟩, hl2⟩ := I.tuple hB
    simp only at hc hd
    subst hc hd
    have e2 := r2.length
    have hsz : its.toArray.size + its2.toArray.size ≤ sizeLine := by rw [List.size_toArray, List.size_toArray]; omega
    refine call_meets F.slot_list_extend ⟨_, e, rfl⟩ F.entry_list_extend (F.args_list_extend_2 _ _)
      (meets_extT l its.toArray its2.toArray n k b dd sl (by rw [notLongL hsz, Bool.and_false]; exact Bool.false_ne_true) (by rw [List.size_toArray]; omega) (by omega)) ⟨e, ho, ?_⟩
    exact ⟨.non, _, I.lset (its' := its ++ its2) hH e (by simp) (r.append r2) (by rw [List.length_append]; omega), rfl, q⟩

section
variable {X : Cx} {n : Nat} {m m1 m2 m3 p p1 p2 p3 : Bool} {st : Stmt} {sts sts2 : List Stmt} {e a b c tg : Expr} {es : List Expr} {pos px apos : Pos} {f fa fb fc : SE PyData} {fs fs2 : SE (List PyData)} {x : Str} {g h : SS}
def extO (i : Nat) (fa : SE PyData) : SS := fun E => match own? i E with
  | some _ => match fa E with
    | some (d, E1) => match own? i E1, gList d with
      | some xs, some ys => if xs.length + ys.length ≤ sizeLine then some (.nx, E1.set i (.own (xs ++ ys))) else none
      | _, _ => none
    | none => none
  | none => none
theorem pxs_extO {i : Nat} (ho : PE X a (tVar i)) (h1 : PX X m true b fa) (hs : swapsWith (.Call (.Attribute a "extend" apos) [b] [] px) none pos.line X.env = pure false := by rfl)
    (hb : attributeBase a "extend" X.env (eval a X.env) = eval a X.env := by rfl)
    (h3 : ((((backTo px (starEach [b] X.env)).all fun x => !x.fst) && (backToKw px (keywordEach [] X.env)).all fun x => x.fst.isSome) && decide (([b] : List Expr).length + ([] : List Keyword).length + (if ([] : List Keyword).isEmpty = true then 0 else 1) < 30)) = true := by rfl)
    (hline : (apos.endLine == px.line) = true := by rfl) (he : starEach [b] X.env = (false, eval b X.env) :: starEach [] X.env := by rfl) (hpl : (backTo px (starEach [] X.env)).any (·.1) = false := by rfl) :
    PXS1 X n (.Expr (.Call (.Attribute a "extend" apos) [b] [] px) pos) (extO i fa) := ps_imp (ps_expr (pe_bm PySem.F.plainAttrs_list PySem.F.slot_list_extend PySem.F.type_list_extend mt_extA ho (pa_cons h1 pa_nil he) hb h3 hline he hpl) hs) fun D σ H => by
  rintro ⟨vs0, P, E, fps, fl, E', hn, r, hf, q⟩
  unfold extO at hf
  split at hf
  · rename_i xs0 e0
    split at hf
    · rename_i d E1 e1
      split at hf
      · rename_i xs ys e2 e3
        split at hf
        · rename_i hl
          cases hf
          obtain ⟨ad, vs1, es1, -, -, ha1, -⟩ := r.ownAt e0
          refine ⟨_, es1, .inl ⟨rfl, vs1, SqL.of ha1⟩, vs0, P, E, fps, d, E1, r, e1, fun P1 H1 fps1 v r1 s1 _ dv => ?_⟩
          obtain ⟨ad2, vs, es, ef, pa, ha, dx⟩ := r1.ownAt e2
          rw [es1] at es
          cases es
          unfold gList at e3
          split at e3
          · cases e3
            cases dv with
            | @lst ad3 ws _ hw dw =>
              refine .inl ⟨ad, ad3, vs, ws, rfl, rfl, ha, r1.sub _ _ hw, by rw [dx.length, dw.length]; exact hl, ?_⟩
              obtain ⟨r3, s3⟩ := r1.write e2 es1 (dx.append dw)
              exact q P1 _ fps1 σ r3 (s1.trans s3)
          · cases e3
            cases dv with
            | @tup ad3 ws _ hw dw =>
              refine .inr ⟨ad, ad3, vs, ws, rfl, rfl, ha, seqC r1.sub hw, by rw [dx.length, dw.length]; exact hl, ?_⟩
              obtain ⟨r3, s3⟩ := r1.write e2 es1 (dx.append dw)
              exact q P1 _ fps1 σ r3 (s1.trans s3)
          · cases e3
        · cases hf
      · cases hf
    · cases hf
  · cases hf
theorem setq {α : Type} {l : List α} {i : Nat} {x : α} (h : l[i]? = some x) : l.set i x = l := by
  obtain ⟨h1, h2⟩ := List.getElem?_eq_some_iff.mp h
  rw [← h2]
  exact List.set_getElem_self h1
/-- return of an owned list by its name -/
def retO (i : Nat) : SS := fun E => match own? i E with
  | some xs => some (.rt (.own xs), E.set i .un)
  | none => none
theorem pxs_retO {i : Nat} (h1 : PE X e (tVar i)) : PXS1 X n (.Return (some e) pos) (retO i) := ps_imp (ps_ret h1) fun D σ H => by
  rintro ⟨vs0, P, E, fps, fl, E', hn, r, hf, q⟩
  unfold retO at hf
  split at hf
  · rename_i xs e1
    cases hf
    obtain ⟨ad, vs, es, ef, pa, ha, dx⟩ := r.ownAt e1
    have hi : i < E.length := (List.getElem?_eq_some_iff.mp (own?_some e1)).1
    have r2 := r.put (i := i) (s := .un) (ov := some (.ref ad)) (l := []) .un (fun a ha => nomatch ha) (fun v' _ e => Bool.noConfusion e)
    rw [if_pos hi, setq es] at r2
    refine ⟨_, es, q P H _ σ (.ref ad) [ad] r2 ⟨Same.refl P, fun _ _ h _ => h, .same, (fun y hy => .inl ?_), fun a o h1 => ⟨o, h1⟩⟩ (.own pa ha dx) fun y hy hy2 => ?_⟩
    · rcases hy with hy | hy
      · rcases in_clr hy with h2 | h2
        · cases h2
        · exact h2
      · exact ⟨i, by rw [ef]; exact hy⟩
    · cases List.mem_singleton.mp hy
      obtain ⟨j, hj⟩ := hy2
      unfold clr at hj
      split at hj
      · cases hj
      · rename_i hne
        exact hne (r.dj j i ad hj (by rw [ef]; exact List.mem_singleton.mpr rfl))
  · cases hf
/-- while -/
def whN (t : SE Bool) (g : SS) : Nat → SS
  | 0, _ => none
  | k + 1, E => match t E with
    | some (false, E1) => some (.nx, E1)
    | some (true, E1) => match g E1 with
      | some (.nx, E2) => whN t g k E2
      | some (.ct, E2) => whN t g k E2
      | some (.bk, E2) => some (.nx, E2)
      | r => r
    | none => none
def fuelC : Nat := 1099511627776
def whS (t : SE Bool) (g : SS) : SS := whN t g fuelC
theorem pxs_while {t : SE Bool} (hp : PassesOwn (model X.prog X.w) X.A X.env X.xe) (hc : PXT X m c t) (hb : PXS X n sts g) : PXS1 X n (.While c sts [] pos) (whS t g) := ps_imp (ps_while hp hc hb) fun D σ H => by
  rintro ⟨vs0, P, E, fps, fl, E', hn, r, hf, q⟩
  refine ⟨fun k σ1 H1 => ∃ P1 E1 fps1, Rel X.K vs0 P1 E1 σ1 H1 fps1 ∧ Step (In fps) P H (In fps1) P1 H1 ∧ whN t g k E1 = some (fl, E'), ⟨fuelC, P, E, fps, r, .refl _ _ _, hf⟩, ?_⟩
  rintro k σ1 H1 ⟨P1, E1, fps1, r1, s1, h1⟩
  cases k with
  | zero => cases h1
  | succ k =>
    unfold whN at h1
    split at h1
    · rename_i E2 e2
      cases h1
      refine ⟨vs0, P1, E1, fps1, false, _, r1, e2, fun P2 H2 fps2 r2 s2 _ => ?_⟩
      show D.nx σ1 H2
      exact q P2 H2 fps2 σ1 r2 (s1.trans s2)
    · rename_i E2 e2
      refine ⟨vs0, P1, E1, fps1, true, E2, r1, e2, fun P2 H2 fps2 r2 s2 _ => ?_⟩
      show ∃ N : L2.St → Hp → Prop, _
      refine ⟨fun σ3 H3 => ∃ m', m' < k + 1 ∧ ∃ P3 E3 fps3, Rel X.K vs0 P3 E3 σ3 H3 fps3 ∧ Step (In fps) P H (In fps3) P3 H3 ∧ whN t g m' E3 = some (fl, E'), fun _ _ z => z, ?_⟩
      have st2 := s1.trans s2
      split at h1
      · rename_i E3 e3
        exact ⟨vs0, P2, E2, fps2, .nx, E3, hn, r2, e3, fun P3 H3 fps3 σ3 r3 s3 => ⟨k, Nat.lt_succ_self k, P3, E3, fps3, r3, st2.trans s3, h1⟩⟩
      · rename_i E3 e3
        exact ⟨vs0, P2, E2, fps2, .ct, E3, hn, r2, e3, fun P3 H3 fps3 σ3 r3 s3 => ⟨k, Nat.lt_succ_self k, P3, E3, fps3, r3, st2.trans s3, h1⟩⟩
      · rename_i E3 e3
        cases h1
        exact ⟨vs0, P2, E2, fps2, .bk, _, hn, r2, e3, fun P3 H3 fps3 σ3 r3 s3 => q P3 H3 fps3 σ3 r3 (st2.trans s3)⟩
      · rename_i n1 n2 n3
        refine ⟨vs0, P2, E2, fps2, fl, E', hn, r2, h1, ?_⟩
        cases fl with
        | nx => exact absurd h1 (n1 E')
        | ct => exact absurd h1 (n2 E')
        | bk => exact absurd h1 (n3 E')
        | rt s => exact q.on st2
    · cases h1
/-- for -/
def forL (bb : PyData → En → Option En) (g : SS) : List PyData → SS
  | [], E => some (.nx, E)
  | d :: ds, E => match bb d E with
    | some E1 => match g E1 with
      | some (.nx, E2) => forL bb g ds E2
      | some (.ct, E2) => forL bb g ds E2
      | some (.bk, E2) => some (.nx, E2)
      | r => r
    | none => none
def forS (it : SE (List PyData)) (bb : PyData → En → Option En) (g : SS) : SS := fun E => match it E with
  | some (ds, E1) => forL bb g ds E1
  | none => none
theorem pxs_for {ts : List Nat} {bb : PyData → En → Option En} (hp : PassesOwn (model X.prog X.w) X.A X.env X.xe) (hc : X.calm = true) (hi : PXI X m tg e fs) (hg : PXG X ts tg bb) (hb : PXS X n sts g) (hs : ∀ x, foldedSetIterable e X.env x = pure x := by intro _; rfl) :
    PXS1 X n (.For tg e sts [] pos) (forS fs bb g) := ps_imp (ps_for hp hc hi hg hb hs) fun D σ H => by
  rintro ⟨vs0, P, E, fps, fl, E', hn, r, hf, q⟩
  unfold forS at hf
  split at hf
  · rename_i ds E1 e1
    refine ⟨vs0, P, E, fps, ds, E1, r, e1, fun P1 H1 fps1 J G r1 s1 _ sn g1 => ?_⟩
    refine ⟨fun i k σ2 H2 => k = ds.length - i ∧ i ≤ ds.length ∧ ∃ P2 E2 fps2, Rel X.K vs0 P2 E2 σ2 H2 fps2 ∧ Step (In fps) P H (In fps2) P2 H2 ∧ G P2 ∧ forL bb g (ds.drop i) E2 = some (fl, E'), ⟨_, rfl, Nat.zero_le _, P1, E1, fps1, r1, s1, g1, hf⟩, ?_⟩
    rintro i k σ2 H2 ⟨rfl, hi2, P2, E2, fps2, r2, s2, g2, h2⟩
    by_cases hlt : i < ds.length
    · have ed : ds.drop i = ds[i] :: ds.drop (i + 1) := List.drop_eq_getElem_cons hlt
      rw [ed] at h2
      unfold forL at h2
      split at h2
      · rename_i E3 e3
        refine .inr ⟨sn.go i P2 H2 hlt g2 r2.sub, fun σ4 H4 => ∃ P4 E4 fps4, Rel X.K vs0 P4 E4 σ4 H4 fps4 ∧ Step (In fps) P H (In fps4) P4 H4 ∧ G P4 ∧ forL bb g (ds.drop (i + 1)) E4 = some (fl, E'), ?_, fun y H3 hy => ?_⟩
        · rintro σ4 H4 ⟨P4, E4, fps4, r4, s4, g4, h4⟩
          exact ⟨ds.length - (i + 1), by omega, rfl, hlt, P4, E4, fps4, r4, s4, g4, h4⟩
        · obtain ⟨P3, p1, p2, p3, p4, dv⟩ := sn.yld i P2 H2 y H3 ds[i] g2 r2.sub (List.getElem?_eq_getElem hlt) hy
          have r3 := r2.alloc p1 p2 p3 p4
          have s3 := s2.trans (Step.alloc (F := In fps2) p1 p3 p4)
          have g3 := sn.mono _ _ p1 g2
          refine ⟨vs0, P3, E2, fps2, ds[i], E3, r3, dv, e3, fun fps5 σ5 r5 s5 _ _ => ?_⟩
          have s6 := s3.trans s5
          split at h2
          · rename_i E7 e7
            exact ⟨vs0, P3, E3, fps5, .nx, E7, hn, r5, e7, fun P7 H7 fps7 σ7 r7 s7 => ⟨P7, E7, fps7, r7, s6.trans s7, sn.mono _ _ s7.pp g3, h2⟩⟩
          · rename_i E7 e7
            exact ⟨vs0, P3, E3, fps5, .ct, E7, hn, r5, e7, fun P7 H7 fps7 σ7 r7 s7 => ⟨P7, E7, fps7, r7, s6.trans s7, sn.mono _ _ s7.pp g3, h2⟩⟩
          · rename_i E7 e7
            cases h2
            exact ⟨vs0, P3, E3, fps5, .bk, _, hn, r5, e7, fun P7 H7 fps7 σ7 r7 s7 => q P7 H7 fps7 σ7 r7 (s6.trans s7)⟩
          · rename_i n1 n2 n3
            refine ⟨vs0, P3, E3, fps5, fl, E', hn, r5, h2, ?_⟩
            cases fl with
            | nx => exact absurd h2 (n1 E')
            | ct => exact absurd h2 (n2 E')
            | bk => exact absurd h2 (n3 E')
            | rt s => exact q.on s6
      · cases h2
    · have e0 : i = ds.length := by omega
      subst e0
      rw [List.drop_length] at h2
      cases h2
      exact .inl ⟨sn.stop P2 H2 g2 r2.sub, q P2 H2 fps2 σ2 r2 s2⟩
  · cases hf
def wipE : List Nat → En → Option En
  | [], E => some E
  | v :: vs, E => match wipE vs E with
    | some E1 => match E1[v]? with
      | some (.own _) => none
      | some (.tr _) => none
      | _ => some (E1.set v .un)
    | none => none
def bakE : List Nat → En → En → En
  | [], _, E1 => E1
  | v :: vs, E, E1 => match E[v]? with
    | some s => (bakE vs E E1).set v s
    | none => bakE vs E E1
/-- the loop of a comprehension; E: the slots ahead of it, whose own names' are put back behind each turn -/
def lcL (vs : List Nat) (bb : PyData → En → Option En) (t : SE Bool) (fe : SE PyData) : List PyData → SE (List PyData)
  | [], E => some ([], E)
  | d :: ds, E => match wipE vs E with
    | some E0 => match bb d E0 with
      | some E1 => match t E1 with
        | some (true, E2) => match fe E2 with
          | some (y, E3) => match lcL vs bb t fe ds (bakE vs E E3) with
            | some (ys, E4) => some (y :: ys, E4)
            | none => none
          | none => none
        | some (false, E2) => lcL vs bb t fe ds (bakE vs E E2)
        | none => none
      | none => none
    | none => none
def lcS (fs : SE (List PyData)) (vs : List Nat) (bb : PyData → En → Option En) (t : SE Bool) (fe : SE PyData) : SE (List PyData) := fun E => match fs E with
  | some (ds, E1) => if ds.length < sizeLine then lcL vs bb t fe ds E1 else none
  | none => none
end
section
variable {K : PySem.W.Frag} {vs0 : List V} {P P' : Hp} {E E' : En} {σ σ' : L2.St} {H H' : Hp} {fps fps' : Nat → List Addr}
theorem wipe_ok : ∀ {vs : List Nat} {E1 : En}, Rel K vs0 P E σ H fps → wipE vs E = some E1 → Rel K vs0 P E1 (wipe σ vs) H fps ∧ (∀ k, k ∉ vs → E1[k]? = E[k]?) ∧ E1.length = E.length ∧ ∀ k ∈ vs, ∀ s, E[k]? = some s → s.ow = false
  | [], _, r, h => by
    cases h
    exact ⟨r, fun _ _ => rfl, rfl, fun k hk => nomatch hk⟩
  | v :: vs, E1, r, h => by
    unfold wipE at h
    split at h
    · rename_i E2 e2
      obtain ⟨r2, k2, l2, o2⟩ := wipe_ok r e2
      split at h
      · cases h
      · cases h
      · rename_i hno hnt
        cases h
        have r3 := r2.put (i := v) (s := .un) (ov := none) (l := []) .un (fun a ha => nomatch ha) (fun v' _ e => Bool.noConfusion e)
        refine ⟨?_, fun k hk => ?_, by rw [List.length_set]; exact l2, fun k hk s => ?_⟩
        · -- no footprint stands at v
          have : fps v = [] := by
            by_cases hv : v < E2.length
            · obtain ⟨ov, _, s⟩ := r2.sl v _ (List.getElem?_eq_getElem hv)
              generalize hfp : fps v = fp at s
              cases hs : E2[v] with
              | own xs => exact absurd (show E2[v]? = some (.own xs) by rw [List.getElem?_eq_getElem hv, hs]) (hno xs)
              | un => rw [hs] at s; cases s; rfl
              | dat d => rw [hs] at s; cases s; rfl
              | scr d => rw [hs] at s; cases s; rfl
              | fn d => rw [hs] at s; cases s; rfl
              | tr t => exact absurd (show E2[v]? = some (.tr t) by rw [List.getElem?_eq_getElem hv, hs]) (hnt t)
            · exact r2.out v (by omega)
          have e1 : (if v < E2.length then clr fps v [] else fps) = fps := by
            split
            · funext j
              unfold clr
              split
              · rename_i ej
                rw [ej, this]
              · rfl
            · rfl
          rw [e1] at r3
          exact r3
        · rw [List.mem_cons, not_or] at hk
          rw [List.getElem?_set_ne (Ne.symm hk.1)]
          exact k2 k hk.2
        · rcases List.mem_cons.mp hk with rfl | hk
          · intro z
            by_cases hv : k ∈ vs
            · exact o2 k hv s z
            · have z2 := (k2 k hv).trans z
              cases s with
              | own xs => exact absurd z2 (hno xs)
              | tr t => exact absurd z2 (hnt t)
              | un => rfl
              | dat _ => rfl
              | scr _ => rfl
              | fn _ => rfl
          · exact o2 k hk s
    · cases h
theorem bak_get : ∀ {vs : List Nat} {E E3 : En} {k : Nat}, E3.length = E.length → (bakE vs E E3).length = E.length ∧ (k ∉ vs → (bakE vs E E3)[k]? = E3[k]?) ∧ (k ∈ vs → (bakE vs E E3)[k]? = E[k]?)
  | [], E, E3, k, hl => ⟨hl, fun _ => rfl, fun h => nomatch h⟩
  | v :: vs, E, E3, k, hl => by
    obtain ⟨h1, h2, h3⟩ := bak_get (vs := vs) (k := k) hl
    unfold bakE
    cases e : E[v]? with
    | none =>
      dsimp only
      refine ⟨h1, fun hk => h2 fun z => hk (List.mem_cons_of_mem _ z), fun hk => ?_⟩
      by_cases hv : k ∈ vs
      · exact h3 hv
      · rcases List.mem_cons.mp hk with rfl | hk
        · rw [e]
          have := List.getElem?_eq_none_iff.mp e
          exact List.getElem?_eq_none_iff.mpr (by omega)
        · exact absurd hk hv
    | some s =>
      dsimp only
      refine ⟨by rw [List.length_set]; exact h1, fun hk => ?_, fun hk => ?_⟩
      · rw [List.mem_cons, not_or] at hk
        rw [List.getElem?_set_ne (Ne.symm hk.1)]
        exact h2 hk.2
      · by_cases hv : v = k
        · subst hv
          have := (List.getElem?_eq_some_iff.mp e).1
          rw [List.getElem?_set_self (by omega), e]
        · rw [List.getElem?_set_ne hv]
          rcases List.mem_cons.mp hk with rfl | hk
          · exact absurd rfl hv
          · exact h3 hk
theorem wipe_get {σ : L2.St} : ∀ {vs : List Nat} {k : Nat}, k ∉ vs → (wipe σ vs)[k]? = σ[k]?
  | [], _, _ => rfl
  | v :: vs, k, h => by
    rw [List.mem_cons, not_or] at h
    unfold wipe
    rw [List.getElem?_set_ne (Ne.symm h.1)]
    exact wipe_get h.2
theorem wipe_in {σ : L2.St} : ∀ {vs : List Nat} {k : Nat}, k ∈ vs → k < σ.length → (wipe σ vs)[k]? = some none
  | v :: vs, k, h, hl => by
    unfold wipe
    by_cases hv : v = k
    · subst hv
      rw [List.getElem?_set_self (by rw [wipe_length]; exact hl)]
    · rw [List.getElem?_set_ne hv]
      rcases List.mem_cons.mp h with rfl | h
      · exact absurd rfl hv
      · exact wipe_in h hl
theorem wipe_eq {σ σ' : L2.St} {vs : List Nat} (hl : σ'.length = σ.length) (h : ∀ k, k ∉ vs → σ'[k]? = σ[k]?) : wipe σ' vs = wipe σ vs := by
  apply List.ext_getElem?
  intro k
  by_cases hk : k ∈ vs
  · by_cases hlk : k < σ.length
    · rw [wipe_in hk hlk, wipe_in hk (by omega)]
    · rw [List.getElem?_eq_none (by rw [wipe_length]; omega), List.getElem?_eq_none (by rw [wipe_length]; omega)]
  · rw [wipe_get hk, wipe_get hk, h k hk]
/-- behind a turn the own names' slots stand as ahead of the comprehension -/
theorem bak_ok {vs : List Nat} {E3 : En} {P3 H3 : Hp} {fps3 : Nat → List Addr} {σ3 : L2.St} (r : Rel K vs0 P E σ H fps) (r3 : Rel K vs0 P3 E3 σ3 H3 fps3) (pp : Same P P3) (hno : ∀ k ∈ vs, ∀ s, E[k]? = some s → s.ow = false) (hl : σ3.length = σ.length) (hk : ∀ k, k ∉ vs → σ3[k]? = σ[k]?) :
    ∃ fps4, Rel K vs0 P3 (bakE vs E E3) σ H3 fps4 ∧ ∀ a, In fps4 a → In fps3 a := by
  have hlE : E3.length = E.length := by rw [r3.len, r.len, hl]
  refine ⟨fun j => if j ∈ vs then [] else fps3 j, ⟨r3.sub, ?_, fun j s hs => ?_, fun j hj => ?_, fun j k a hj hk => ?_, fun j s v hv hs ho => ?_⟩, fun a ⟨j, hj⟩ => ?_⟩
  · rw [(bak_get (vs := vs) (k := 0) hlE).1, r.len]
  · obtain ⟨_, g2, g3⟩ := bak_get (vs := vs) (k := j) hlE
    by_cases hj : j ∈ vs
    · rw [if_pos hj]
      rw [g3 hj] at hs
      obtain ⟨ov, h1, h2⟩ := r.sl j s hs
      refine ⟨ov, h1, ?_⟩
      generalize hfp : fps j = fp at h2
      cases h2 with
      | un => exact .un
      | dat d => exact .dat (d.mono pp)
      | own _ _ _ => exact Bool.noConfusion (hno j hj _ hs)
      | scr q => exact .scr (pp.seq q)
      | fn q => exact .fn q
      | tr q => exact Bool.noConfusion (hno j hj _ hs)
    · rw [if_neg hj]
      rw [g2 hj] at hs
      obtain ⟨ov, h1, h2⟩ := r3.sl j s hs
      exact ⟨ov, by rw [← hk j hj]; exact h1, h2⟩
  · have := (bak_get (vs := vs) (k := 0) hlE).1
    split
    · rfl
    · exact r3.out j (by omega)
  · split at hj
    · cases hj
    · split at hk
      · cases hk
      · exact r3.dj j k a hj hk
  · obtain ⟨_, g2, g3⟩ := bak_get (vs := vs) (k := j) hlE
    by_cases hj : j ∈ vs
    · rw [g3 hj] at hs
      rw [hno j hj s hs] at ho
      cases ho
    · rw [g2 hj] at hs
      rw [← hk j hj]
      exact r3.par j s v hv hs ho
  · dsimp only at hj
    split at hj
    · cases hj
    · exact ⟨j, hj⟩
end
end Fw
namespace Fw
open PySem PySem.Spec L2
open PyProof.Rows hiding St
section
variable {K : PySem.W.Frag} {vs0 : List V} {P P' : Hp} {E E' : En} {σ σ' : L2.St} {H H' : Hp} {fps fps' : Nat → List Addr} {F F' : Addr → Prop}
theorem Step.poke {D : Addr} {o : HO} (s : Step F P H F' P' H') (h : H D = none) : Step F P H F' P' (upd H' D o) :=
  ⟨s.pp, fun a u ha nf => by
    have : a ≠ D := ne_of_none ha h
    rw [upd_ne this]
    exact s.keep a u ha nf, s.fresh, s.foot, fun a u ha => by
    have : a ≠ D := ne_of_none ha h
    rw [upd_ne this]
    exact s.live a u ha⟩
theorem Rel.poke {D : Addr} {o : HO} (r : Rel K vs0 P E σ H fps) (h : P D = none) (nf : ¬ In fps D) : Rel K vs0 P E σ (upd H D o) fps :=
  ⟨fun a u ha => by
    have : a ≠ D := ne_of_none ha h
    rw [upd_ne this]
    exact r.sub a u ha, r.len, fun i s hs => by
    obtain ⟨ov, h1, h2⟩ := r.sl i s hs
    refine ⟨ov, h1, h2.mono (Same.refl P) fun a ha => ⟨?_, (h2.foot ha).1⟩⟩
    have : a ≠ D := fun z => nf ⟨i, z ▸ ha⟩
    rw [upd_ne this], r.out, r.dj, r.par⟩
theorem Step.keepD {D : Addr} {o : HO} (s : Step F P H F' P' H') (h : H D = some o) (nf : ¬ F D) : H' D = some o ∧ ¬ F' D := ⟨s.keep D o h nf, fun z => by
  rcases s.foot D z with z | z
  · exact nf z
  · rw [h] at z; cases z⟩
theorem Step.noneD {D : Addr} {o : HO} (s : Step F P H F' P' H') (h : H D = some o) (nf : ¬ F D) (hp : P D = none) (nt : ∀ xs, o ≠ .tup xs := by intro _ h; cases h) : P' D = none := by
  cases e : P' D with
  | none => rfl
  | some u =>
    rcases s.fresh D u e with ⟨w, z⟩ | z | z
    · rw [hp] at z; cases z
    · rcases z with z | ⟨xs, z⟩
      · rw [h] at z; cases z
      · rw [h] at z; cases z; exact absurd rfl (nt xs)
    · exact absurd z nf
end
section
variable {X : Cx} {n : Nat} {m m1 m2 m3 p p1 p2 p3 : Bool} {elt tg iter : Expr} {ifs : List Expr} {pos px apos : Pos} {fe : SE PyData} {fs : SE (List PyData)} {scope : Scope}
theorem lc_imp {K : PySem.W.Frag} {vs ts : List Nat} {bb : PyData → En → Option En} {t : SE Bool} {σ : L2.St} {H : Hp} {Q : VK} (hts : ∀ k ∈ ts, k ∈ vs) : tXL K true (lcS fs vs bb t fe) σ H Q → tLc (tXI K m fs) (tXG K ts bb) (tXT K m2 t) (tX K m1 true fe) vs σ H Q := by
  rintro ⟨vs0, P, E, fps, zs, E', r, hf, q⟩
  unfold lcS at hf
  split at hf
  · rename_i ds E1 e1
    split at hf
    · rename_i hlen
      refine ⟨vs0, P, E, fps, ds, E1, r, e1, fun P1 H1 fps1 J G r1 s1 _ sn g1 D hD => ?_⟩
      have hHD : H D = none := s1.free hD
      refine ⟨fun i k H2 => k = ds.length - i ∧ i ≤ ds.length ∧ ∃ P2 E2 fps2 acc zs1 zs2, Rel K vs0 P2 E2 σ H2 fps2 ∧ Step (In fps) P H (In fps2) P2 H2 ∧ G P2 ∧ H2 D = some (.lst acc) ∧ P2 D = none ∧ ¬ In fps2 D ∧ DqAll K P2 acc zs1 ∧ acc.length ≤ i ∧ lcL vs bb t fe (ds.drop i) E2 = some (zs2, E') ∧ zs = zs1 ++ zs2, ?_, ?_⟩
      · refine ⟨_, rfl, Nat.zero_le _, P1, E1, fps1, [], [], zs, r1.newList hD, s1.poke hHD, g1, upd_same, sub_none r1.sub hD, r1.notIn hD, .nil, Nat.zero_le _, hf, rfl⟩
      · rintro i k H2 ⟨rfl, hi2, P2, E2, fps2, acc, zs1, zs2, r2, s2, g2, hD2, pD2, nD2, dacc, lacc, h2, ez⟩
        by_cases hlt : i < ds.length
        · have ed : ds.drop i = ds[i] :: ds.drop (i + 1) := List.drop_eq_getElem_cons hlt
          rw [ed] at h2
          unfold lcL at h2
          split at h2
          · rename_i E0 e0
            split at h2
            · rename_i Ea ea
              refine .inr ⟨sn.go i P2 H2 hlt g2 r2.sub, fun H4 => ∃ P4 E4 fps4 acc4 ys1 ys2, Rel K vs0 P4 E4 σ H4 fps4 ∧ Step (In fps) P H (In fps4) P4 H4 ∧ G P4 ∧ H4 D = some (.lst acc4) ∧ P4 D = none ∧ ¬ In fps4 D ∧ DqAll K P4 acc4 ys1 ∧ acc4.length ≤ i + 1 ∧ lcL vs bb t fe (ds.drop (i + 1)) E4 = some (ys2, E') ∧ zs = ys1 ++ ys2, ?_, fun y H3 hy => ?_⟩
              · rintro H4 ⟨P4, E4, fps4, acc4, ys1, ys2, w⟩
                exact ⟨ds.length - (i + 1), by omega, rfl, hlt, P4, E4, fps4, acc4, ys1, ys2, w⟩
              · obtain ⟨P3, p1, p2, p3, p4, dv⟩ := sn.yld i P2 H2 y H3 ds[i] g2 r2.sub (List.getElem?_eq_getElem hlt) hy
                have r3 := r2.alloc p1 p2 p3 p4
                have s3 := s2.trans (Step.alloc (F := In fps2) p1 p3 p4)
                have g3 := sn.mono _ _ p1 g2
                have hD3 := p3 _ _ hD2
                have pD3 : P3 D = none := (Step.alloc (F := In fps2) p1 p3 p4).noneD hD2 nD2 pD2
                obtain ⟨rw, kw, lw, ow⟩ := wipe_ok r3 e0
                refine ⟨vs0, P3, E0, fps2, ds[i], Ea, rw, dv, ea, fun fps5 σ5 r5 s5 hl5 hk5 => ?_⟩
                have hl : σ5.length = σ.length := by rw [hl5, wipe_length]
                have hk : ∀ k, k ∉ vs → σ5[k]? = σ[k]? := fun k hkv => by rw [hk5 k (fun z => hkv (hts k z)), wipe_get hkv]
                refine ⟨wipe_eq hl hk, ?_⟩
                obtain ⟨-, nD5⟩ := s5.keepD hD3 nD2
                split at h2
                · rename_i Eb eb
                  split at h2
                  · rename_i z Ec ec
                    split at h2
                    · rename_i ys E4 e4
                      cases h2
                      refine ⟨vs0, P3, Ea, fps5, true, Eb, r5, eb, fun P6 H6 fps6 r6 s6 _ => ?_⟩
                      show tX K m1 true fe σ5 H6 _
                      refine ⟨vs0, P6, Eb, fps6, z, Ec, r6, ec, fun P7 H7 fps7 v r7 s7 _ dz => ?_⟩
                      obtain ⟨hD6, nD6⟩ := s6.keepD hD3 nD5
                      obtain ⟨hD7, nD7⟩ := s7.keepD hD6 nD6
                      have pD6 := s6.noneD hD3 nD5 pD3
                      have pD7 := s7.noneD hD6 nD6 pD6
                      have pp : Same P3 P7 := s6.pp.trans s7.pp
                      obtain ⟨fps8, r8, i8⟩ := bak_ok r3 r7 pp ow hl hk
                      refine ⟨acc, hD7, by omega, P7, _, fps8, acc ++ [v], zs1 ++ [z], ys, r8.poke pD7 (fun w => nD7 (i8 D w)), ?_, sn.mono _ _ pp g3, upd_same, pD7, (fun w => nD7 (i8 D w)), (dacc.mono (p1.trans pp)).append (.one dz), by rw [List.length_append, List.length_singleton]; omega, e4, by rw [ez]; simp⟩
                      have s8 := ((s3.trans s5).trans s6).trans s7
                      exact Step.poke ⟨s8.pp, s8.keep, s8.fresh, fun a ha => s8.foot a (i8 a ha), s8.live⟩ hHD
                    · cases h2
                  · cases h2
                · rename_i Eb eb
                  refine ⟨vs0, P3, Ea, fps5, false, Eb, r5, eb, fun P6 H6 fps6 r6 s6 _ => ?_⟩
                  obtain ⟨hD6, nD6⟩ := s6.keepD hD3 nD5
                  have pD6 := s6.noneD hD3 nD5 pD3
                  obtain ⟨fps8, r8, i8⟩ := bak_ok r3 r6 s6.pp ow hl hk
                  have s8 := (s3.trans s5).trans s6
                  exact ⟨P6, _, fps8, acc, zs1, zs2, r8, ⟨s8.pp, s8.keep, s8.fresh, fun a ha => s8.foot a (i8 a ha), s8.live⟩, sn.mono _ _ s6.pp g3, hD6, pD6, (fun w => nD6 (i8 D w)), dacc.mono (p1.trans s6.pp), by omega, h2, ez⟩
                · cases h2
            · cases h2
          · cases h2
        · have e0 : i = ds.length := by omega
          subst e0
          rw [List.drop_length] at h2
          cases h2
          rw [List.append_nil] at ez
          subst ez
          exact .inl ⟨sn.stop P2 H2 g2 r2.sub, q P2 H2 fps2 D acc r2 s2 (fun z => nomatch z) hHD pD2 nD2 hD2 dacc⟩
    · cases hf
  · cases hf
theorem pl_lc {own : List (Str × Nat)} {ts : List Nat} {bb : PyData → En → Option En} {t : SE Bool} (hc : X.calm = true) (hN : X.N.Nodup) (ok : BlkOk X.N X.env.scope scope own) (hi : PXI X m tg iter fs)
    (hg : ∀ (s : Shared) (H : Hp) (C : Addr) (cl : List (Str × Addr)) (fp : List Addr), PXG (X.blk s H scope (compEnvC scope cl C X.env) fp) ts tg bb)
    (ht : ∀ (s : Shared) (H : Hp) (C : Addr) (cl : List (Str × Addr)) (fp : List Addr), PTs (X.blk s H scope (compEnvC scope cl C X.env) fp) ifs (tXT X.K m2 t))
    (he : ∀ (s : Shared) (H : Hp) (C : Addr) (cl : List (Str × Addr)) (fp : List Addr), PX (X.blk s H scope (compEnvC scope cl C X.env) fp) m1 true elt fe)
    (hts : ∀ k ∈ ts, k ∈ own.map (·.2)) (hs : ∀ x, foldedSetIterable iter X.env x = pure x := by intro _; rfl) :
    PL X true (.ListComp elt [⟨tg, iter, ifs, 0⟩] scope pos) (lcS fs (own.map (·.2)) bb t fe) := pe_imp (pe_lc (g := tXG X.K ts bb) (tt := tXT X.K m2 t) (te := tX X.K m1 true fe) hc hN hi ok hg ht he hs) fun σ H Q => lc_imp hts
def yesS : SE Bool := ret true
theorem pts_nil' : PTs X [] (tXT X.K false yesS) := ⟨fun pins s σ H Q I hq => by
  obtain ⟨vs0, P, E, fps, b, E', r, hf, q⟩ := hq
  obtain ⟨rfl, rfl⟩ := ret_some hf
  exact pts_nil.run pins s σ H Q I (q P H fps r (.refl _ _ _) fun _ => Same.refl H)⟩
theorem pts_one' {c : Expr} {t : SE Bool} (h : PXT X m c t) : PTs X [c] (tXT X.K m t) := pts_one h

abbrev Fn := List Sl → Option (Sl × List Sl)
def collect : List Sl → En → Option (List Sl)
  | [], _ => some []
  | .own _ :: as, .own xs :: E => (collect as E).map (.own xs :: ·)
  | .own _ :: _, _ => none
  | .tr _ :: as, .tr t :: E => (collect as E).map (.tr t :: ·)
  | .tr _ :: _, _ => none
  | _ :: as, _ :: E => (collect as E).map (.un :: ·)
  | _ :: _, [] => none
def runF (n N : Nat) (body : SS) : Fn := fun as => if as.length = n then match body (as ++ List.replicate (N - n) .un) with
    | some (.rt s, E') => match collect as E' with
      | some outs => some (s, outs)
      | none => none
    | some (.nx, E') => match collect as E' with
      | some outs => some (.dat .none, outs)
      | none => none
    | _ => none
  else none
def spF (K : PySem.W.Frag) (n : Nat) (g : Fn) : Sp := fun vs H Q _ => vs.length = n ∧ ∃ (P : Hp) (as : List Sl) (fps : Nat → List Addr) (r : Sl) (outs : List Sl), Rel K vs P as (vs.map some) H fps ∧ g as = some (r, outs) ∧
  ∀ (P' H' : Hp) (fps' : Nat → List Addr) (v : V) (fr : List Addr), Rel K vs P' outs (vs.map some) H' fps' → Step (In fps) P H (fun a => In fps' a ∨ a ∈ fr) P' H' → SlR K P' H' r (some v) fr → (∀ a ∈ fr, ¬ In fps' a) → Q v H'
theorem collect_len : ∀ {as : List Sl} {E : En} {outs : List Sl}, collect as E = some outs → outs.length = as.length
  | [], _, _, h => by cases h; rfl
  | a :: as, [], _, h => by cases a <;> cases h
  | a :: as, e :: E, outs, h => by
    cases a <;> cases e <;> first
      | (cases h; done)
      | (simp only [collect, Option.map_eq_some_iff] at h
         obtain ⟨o, h1, rfl⟩ := h
         simp [collect_len h1])
theorem collect_get : ∀ {as : List Sl} {E : En} {outs : List Sl} {i : Nat} {s : Sl}, collect as E = some outs → outs[i]? = some s → s = .un ∨ (s.ow = true ∧ E[i]? = some s)
  | [], _, _, i, s, h, hs => by cases h; simp at hs
  | a :: as, [], _, _, _, h, _ => by cases a <;> cases h
  | a :: as, e :: E, outs, i, s, h, hs => by
    cases a <;> cases e <;> first
      | (cases h; done)
      | (simp only [collect, Option.map_eq_some_iff] at h
         obtain ⟨o, h1, rfl⟩ := h
         cases i with
         | zero =>
           simp only [List.getElem?_cons_zero, Option.some.injEq] at hs
           subst hs
           first
             | exact .inl rfl
             | exact .inr ⟨rfl, rfl⟩
         | succ i =>
           simp only [List.getElem?_cons_succ] at hs
           rcases collect_get h1 hs with h2 | ⟨h2, h3⟩
           · exact .inl h2
           · exact .inr ⟨h2, by simpa using h3⟩)
theorem rel_outs {K : PySem.W.Frag} {vs : List V} {P H : Hp} {as outs : List Sl} {E : En} {σ : L2.St} {fps : Nat → List Addr} (r : Rel K vs P E σ H fps) (h : collect as E = some outs) (hl : as.length = vs.length) :
    ∃ fps', Rel K vs P outs (vs.map some) H fps' ∧ ∀ a, In fps' a → In fps a := by
  refine ⟨fun i => match outs[i]? with
    | some (.own _) => fps i
    | some (.tr _) => fps i
    | _ => [], ⟨r.sub, by rw [collect_len h, hl, List.length_map], fun i s hs => ?_, fun i hi => ?_, fun i j a hi hj => ?_, fun i s v hv hs ho => by rw [List.getElem?_map, hv]; rfl⟩, fun a ⟨i, hi⟩ => ?_⟩
  · have hi : i < vs.length := by
      have := (List.getElem?_eq_some_iff.mp hs).1
      rw [collect_len h, hl] at this
      exact this
    refine ⟨some vs[i], by rw [List.getElem?_map, List.getElem?_eq_getElem hi]; rfl, ?_⟩
    rcases collect_get h hs with rfl | ⟨ho, he⟩
    · rw [hs]
      exact .un
    · rw [hs]
      obtain ⟨ov, h1, h2⟩ := r.sl i _ he
      have h3 := r.par i s vs[i] (List.getElem?_eq_getElem hi) he ho
      rw [h1] at h3
      cases h3
      cases s with
      | own _ => exact h2
      | tr _ => exact h2
      | un => cases ho
      | dat _ => cases ho
      | scr _ => cases ho
      | fn _ => cases ho
  · rw [List.getElem?_eq_none hi]
  · split at hi
    · split at hj
      · exact r.dj i j a hi hj
      · exact r.dj i j a hi hj
      · cases hj
    · split at hj
      · exact r.dj i j a hi hj
      · exact r.dj i j a hi hj
      · cases hj
    · cases hi
  · dsimp only at hi
    split at hi
    · exact ⟨i, hi⟩
    · exact ⟨i, hi⟩
    · cases hi
theorem rel_start {K : PySem.W.Frag} {vs : List V} {P H : Hp} {as : List Sl} {fps : Nat → List Addr} {N : List Str} (r : Rel K vs P as (vs.map some) H fps) : Rel K vs P (as ++ List.replicate (N.length - vs.length) .un) (L2.start N vs) H fps := by
  have hl : as.length = vs.length := by rw [r.len, List.length_map]
  unfold L2.start
  refine ⟨r.sub, by simp [hl], fun i s hs => ?_, fun i hi => ?_, r.dj, fun i s v hv hs ho => ?_⟩
  · by_cases hi : i < as.length
    · rw [List.getElem?_append_left hi] at hs
      obtain ⟨ov, h1, h2⟩ := r.sl i s hs
      exact ⟨ov, by rw [List.getElem?_append_left (by simp; omega)]; exact h1, h2⟩
    · rw [List.getElem?_append_right (by omega)] at hs
      have hs2 := List.getElem?_eq_some_iff.mp hs
      obtain ⟨h1, h2⟩ := hs2
      rw [List.getElem_replicate] at h2
      rw [List.length_replicate] at h1
      subst h2
      rw [r.out i (by omega)]
      refine ⟨none, ?_, .un⟩
      rw [List.getElem?_append_right (by simp; omega), List.getElem?_replicate, if_pos (by simp; omega)]
  · rw [List.length_append] at hi
    exact r.out i (by omega)
  · have hi : i < vs.length := (List.getElem?_eq_some_iff.mp hv).1
    rw [List.getElem?_append_left (by simp; omega), List.getElem?_map, hv]
    rfl
theorem fn_ok {P : Program} {w : World} {K : PySem.W.Frag} {mg : Str → Option Value} {base : Heap} {x qual : Str} {st : Stmt} {f : Addr} {fd : FuncData} {N ps : List Str} {k : Nat} {body : SS} (F : Fun K x qual st f fd) (S : FnScope N ps (defScope st))
    (hb : ∀ (cdv : Value) (A : Around) (outer : List Env) (s : Shared) (H : Hp) (E : XK), Room k (A.deeper (envOfC qual (defScope st) s.heap.objs.size f cdv)) → PXS (cxOf CX0 P w K mg base N qual (defScope st) f cdv A outer s H E).nox ps.length (defBody st) body) :
    FnOk P w K mg base CX0 (k + 1) f fd ps (spF K ps.length (runF ps.length N.length body)) := by
  refine F.ok S (fun vs H Q E h => h.1) (fun cdv A outer s H vs Q E hr h => ?_)
  obtain ⟨hl, P0, as, fps, r, outs, rel, hg, q⟩ := h
  refine ⟨_, hb cdv A outer s H E hr, ?_⟩
  have hla : as.length = ps.length := by rw [rel.len, List.length_map, hl]
  unfold runF at hg
  rw [if_pos hla] at hg
  have rs := rel_start (N := N) rel
  rw [hl] at rs
  split at hg
  · rename_i sr E' e1
    split at hg
    · rename_i outs' e2
      cases hg
      refine ⟨vs, P0, _, fps, .rt r, E', hl, rs, e1, fun P' H' fps' σ' v fr r' s' q1 q2 => ?_⟩
      obtain ⟨fps2, r2, i2⟩ := rel_outs r' e2 (hla.trans hl.symm)
      refine q P' H' fps2 v fr r2 ⟨s'.pp, s'.keep, s'.fresh, fun a ha => s'.foot a (ha.elim (fun z => .inl (i2 a z)) .inr), s'.live⟩ q1 fun a ha z => q2 a ha (i2 a z)
    · cases hg
  · rename_i E' e1
    split at hg
    · rename_i outs' e2
      cases hg
      refine ⟨vs, P0, _, fps, .nx, E', hl, rs, e1, fun P' H' fps' σ' r' s' => ?_⟩
      obtain ⟨fps2, r2, i2⟩ := rel_outs r' e2 (hla.trans hl.symm)
      exact q P' H' fps2 .non [] r2 ⟨s'.pp, s'.keep, s'.fresh, (fun a ha => ha.elim (fun z => s'.foot a (i2 a z)) (fun z => nomatch z)), s'.live⟩ (.dat .non) (fun a ha => nomatch ha)
    · cases hg
  · cases hg

structure Cl (P : Program) (w : World) (K : PySem.W.Frag) (mg : Str → Option Value) (base : Heap) (k : Nat) (x : Str) (n : Nat) (g : Fn) : Prop where
  ex : ∃ (f : Addr) (fd : FuncData) (ps : List Str), FnOk P w K mg base CX0 k f fd ps (spF K n g) ∧ mg x = some (.ref f) ∧ PySem.W.keepIn K (.ref f) = true ∧ Binds K fd ps []
theorem rel_data {K : PySem.W.Frag} {P H : Hp} {vs : List V} {ds : List PyData} (s : Same P H) (d : DqAll K P vs ds) : Rel K vs P (ds.map .dat) (vs.map some) H (fun _ => []) := by
  refine ⟨s, by rw [List.length_map, List.length_map, d.length], fun i t ht => ?_, fun _ _ => rfl, (fun _ _ _ h => nomatch h), fun i s v _ h ho => ?_⟩
  · rw [List.getElem?_map] at ht
    cases e : ds[i]? with
    | none => rw [e] at ht; cases ht
    | some d0 =>
      rw [e] at ht
      cases ht
      obtain ⟨v, h1, h2⟩ := d.get e
      exact ⟨some v, by rw [List.getElem?_map, h1]; rfl, .dat h2⟩
  · rw [List.getElem?_map] at h
    cases e : ds[i]? with
    | none => rw [e] at h; cases h
    | some d0 => rw [e] at h; cases h; cases ho
def callD (g : Fn) (ds : List PyData) : Option PyData := match g (ds.map .dat) with
  | some (.dat d, _) => some d
  | some (.own xs, _) => some (.list xs)
  | _ => none
def callV (g : Fn) (ds : List PyData) : Option (List PyData) := match g (ds.map .dat) with
  | some (.own xs, _) => some xs
  | _ => none
theorem no_in : ∀ a, ¬ In (fun _ => []) a := fun a ⟨_, h⟩ => nomatch h
theorem va_call {K : PySem.W.Frag} {g : Fn} {E0 : XK} {n : Nat} (hn : ∀ as r, g as = some r → as.length = n) : VAA K (fun vs H Q => spF K n g (vs ++ []) H Q E0) (callD g) := by
  intro P H xs ds z Q su dx hg q
  have e0 : xs ++ [] = xs := List.append_nil xs
  show spF K n g (xs ++ []) H Q E0
  rw [e0]
  unfold callD at hg
  split at hg
  · rename_i d outs e1
    cases hg
    have := hn _ _ e1
    rw [List.length_map] at this
    refine ⟨by rw [dx.length]; exact this, P, _, _, _, outs, rel_data su dx, e1, fun P' H' fps' v fr r' s' sr _ => ?_⟩
    cases sr with
    | dat dv => exact q P' H' v s'.pp r'.sub (fun a o ha => s'.keep a o ha (no_in a)) (fun a o ha => (s'.fresh a o ha).imp id (fun z => z.elim .inl (fun w => absurd w (no_in a)))) dv
  · rename_i ys outs e1
    cases hg
    have := hn _ _ e1
    rw [List.length_map] at this
    refine ⟨by rw [dx.length]; exact this, P, _, _, _, outs, rel_data su dx, e1, fun P' H' fps' v fr r' s' sr _ => ?_⟩
    cases sr with
    | @own ad vs _ pa ha dv =>
      refine AfterL.of q P' H' ad vs s'.pp r'.sub (fun a o ha => s'.keep a o ha (no_in a)) (fun a o ha => (s'.fresh a o ha).imp id (fun z => z.elim .inl (fun w => absurd w (no_in a)))) ?_ pa ha dv
      rcases s'.foot ad (.inr (List.mem_singleton.mpr rfl)) with z | z
      · exact absurd z (no_in ad)
      · exact z
  · cases hg
theorem vl_call {K : PySem.W.Frag} {g : Fn} {E0 : XK} {n : Nat} (hn : ∀ as r, g as = some r → as.length = n) : VLA K (fun vs H Q => spF K n g (vs ++ []) H Q E0) (callV g) := by
  intro P H xs ds z Q su dx hg q
  have e0 : xs ++ [] = xs := List.append_nil xs
  show spF K n g (xs ++ []) H Q E0
  rw [e0]
  unfold callV at hg
  split at hg
  · rename_i ys outs e1
    cases hg
    have := hn _ _ e1
    rw [List.length_map] at this
    refine ⟨by rw [dx.length]; exact this, P, _, _, _, outs, rel_data su dx, e1, fun P' H' fps' v fr r' s' sr _ => ?_⟩
    cases sr with
    | @own ad vs _ pa ha dv =>
      refine q P' H' ad vs s'.pp r'.sub (fun a o ha => s'.keep a o ha (no_in a)) (fun a o ha => (s'.fresh a o ha).imp id (fun z => z.elim .inl (fun w => absurd w (no_in a)))) ?_ pa ha dv
      rcases s'.foot ad (.inr (List.mem_singleton.mpr rfl)) with z | z
      · exact absurd z (no_in ad)
      · exact z
  · cases hg
theorem run_len {n N : Nat} {body : SS} {as : List Sl} {r : Sl × List Sl} (h : runF n N body as = some r) : as.length = n := by
  unfold runF at h
  split at h
  · assumption
  · cases h
variable {k j : Nat} {x : Str} {e a b : Expr} {es : List Expr} {g : Fn}
theorem px_call (c : Cl X.prog X.w X.K X.mg X.base k x n g) (hn : ∀ as r, g as = some r → as.length = n) (hr : Room j X.A) (hk : k ≤ j) (hg : Gl X x) (ha : PXA X m (e :: es) fs) (hdb : (x == ("__debug__" : Str)) = false := by decide)
    (he : starEach (e :: es) X.env = (false, eval e X.env) :: starEach es X.env := by rfl) (hpl : (backTo pos (starEach es X.env)).any (·.1) = false := by rfl) : PX X m true (.Call (.Name x px) (e :: es) [] pos) (mny fs (callD g)) := by
  obtain ⟨f, fd, ps, F, h1, h2, h3⟩ := c.ex
  exact px_args (r := fun vs H Q => spF X.K n g (vs ++ []) H Q E0) (pe_call F (hr.mono hk) hg h1 h2 h3 .nil pass0 ha hdb he hpl) (va_call hn)
theorem pl_call (c : Cl X.prog X.w X.K X.mg X.base k x n g) (hn : ∀ as r, g as = some r → as.length = n) (hr : Room j X.A) (hk : k ≤ j) (hg : Gl X x) (ha : PXA X m (e :: es) fs) (hdb : (x == ("__debug__" : Str)) = false := by decide)
    (he : starEach (e :: es) X.env = (false, eval e X.env) :: starEach es X.env := by rfl) (hpl : (backTo pos (starEach es X.env)).any (·.1) = false := by rfl) : PL X m (.Call (.Name x px) (e :: es) [] pos) (mny fs (callV g)) := by
  obtain ⟨f, fd, ps, F, h1, h2, h3⟩ := c.ex
  exact pl_args (r := fun vs H Q => spF X.K n g (vs ++ []) H Q E0) (pe_call F (hr.mono hk) hg h1 h2 h3 .nil pass0 ha hdb he hpl) (vl_call hn)
theorem px_call0 (c : Cl X.prog X.w X.K X.mg X.base k x n g) (hn : ∀ as r, g as = some r → as.length = n) (hr : Room j X.A) (hk : k ≤ j) (hg : Gl X x) (hdb : (x == ("__debug__" : Str)) = false := by decide) : PX X false true (.Call (.Name x px) [] [] pos) (mny sNil (callD g)) := by
  obtain ⟨f, fd, ps, F, h1, h2, h3⟩ := c.ex
  refine px_args (m := false) (r := fun vs H Q => spF X.K n g (vs ++ []) H Q E0) (pe_imp (pe_call0 F (hr.mono hk) hg h1 h2 h3 .nil pass0 hdb) fun σ H Q hq => ?_) (va_call hn)
  obtain ⟨vs0, P, E, fps, ds, E', rel, hh, q⟩ := hq
  obtain ⟨rfl, rfl⟩ := ret_some hh
  exact q P H fps [] rel (.refl _ _ _) (fun _ => Same.refl H) .nil
/-- the first argument is an owned list by its name, which the callee may change -/
def callM (i : Nat) (g : Fn) (fs : SE (List PyData)) : SE Sl := fun E => match own? i E with
  | some _ => match fs E with
    | some (ds, E1) => match own? i E1 with
      | some xs => match g (.own xs :: ds.map .dat) with
        | some (r, .own ys :: _) => some (r, E1.set i (.own ys))
        | _ => none
      | none => none
    | none => none
  | none => none
def asD (f : SE Sl) : SE PyData := fun E => match f E with
  | some (.dat d, E') => some (d, E')
  | some (.own xs, E') => some (.list xs, E')
  | _ => none
def asL (f : SE Sl) : SE (List PyData) := fun E => match f E with
  | some (.own xs, E') => some (xs, E')
  | _ => none
theorem callM_some {i : Nat} {E E' : En} {r : Sl} (h : callM i g fs E = some (r, E')) : ∃ xs0 ds E1 xs ys os, own? i E = some xs0 ∧ fs E = some (ds, E1) ∧ own? i E1 = some xs ∧ g (.own xs :: ds.map .dat) = some (r, .own ys :: os) ∧ E' = E1.set i (.own ys) := by
  unfold callM at h
  split at h
  · rename_i xs0 e0
    split at h
    · rename_i ds E1 e1
      split at h
      · rename_i xs e2
        split at h
        · rename_i r' ys os e3
          cases h
          exact ⟨xs0, ds, E1, xs, ys, os, e0, e1, e2, e3, rfl⟩
        · cases h
      · cases h
    · cases h
  · cases h
/-- behind the arguments: the callee's slots, and what is left behind it -/
theorem callM_core {K : PySem.W.Frag} {vs0 : List V} {P H P1 H1 : Hp} {E1 : En} {σ : L2.St} {fps fps1 : Nat → List Addr} {i : Nat} {xs ys : List PyData} {ds : List PyData} {ws : List V} {ad : Addr} {r : Sl} {os : List Sl} {Q : VK} {E0 : XK}
    (r1 : Rel K vs0 P1 E1 σ H1 fps1) (s1 : Step (In fps) P H (In fps1) P1 H1) (eo : own? i E1 = some xs) (es : σ[i]? = some (some (.ref ad))) (dw : DqAll K P1 ws ds) (hn : ∀ as r, g as = some r → as.length = n) (hg : g (.own xs :: ds.map .dat) = some (r, .own ys :: os))
    (q : ∀ (P' H' : Hp) (fps' : Nat → List Addr) (v : V) (fr : List Addr), Rel K vs0 P' (E1.set i (.own ys)) σ H' fps' → Step (In fps) P H (fun a => In fps' a ∨ a ∈ fr) P' H' → SlR K P' H' r (some v) fr → (∀ a ∈ fr, ¬ In fps' a) → (∀ a ∈ fr, H a = none) → Q v H') :
    spF K n g ((.ref ad :: ws) ++ []) H1 Q E0 := by
  rw [List.append_nil]
  have hl := hn _ _ hg
  rw [List.length_cons, List.length_map] at hl
  obtain ⟨ad2, vs, es2, ef, pa, ha, dx⟩ := r1.ownAt eo
  rw [es] at es2
  cases es2
  have hi : i < E1.length := (List.getElem?_eq_some_iff.mp (own?_some eo)).1
  have rd := rel_data r1.sub dw
  have rc : Rel K (.ref ad :: ws) P1 (.own xs :: ds.map .dat) ((V.ref ad :: ws).map some) H1 (fun j => if j = 0 then [ad] else []) := by
    refine ⟨r1.sub, by simp [dw.length], fun j s hs => ?_, fun j hj => ?_, fun j k a hj hk => ?_, fun j zs v hv hs ho => by rw [List.getElem?_map, hv]; rfl⟩
    · cases j with
      | zero =>
        cases hs
        exact ⟨some (.ref ad), rfl, .own pa ha dx⟩
      | succ j =>
        rw [List.getElem?_cons_succ] at hs
        obtain ⟨ov, h1, h2⟩ := rd.sl j s hs
        exact ⟨ov, by rw [List.map_cons, List.getElem?_cons_succ]; exact h1, by rw [if_neg (Nat.succ_ne_zero j)]; exact h2⟩
    · cases j with
      | zero => simp at hj
      | succ j => exact if_neg (Nat.succ_ne_zero j)
    · split at hj
      · split at hk
        · rename_i e1 e2
          exact e1.trans e2.symm
        · cases hk
      · cases hj
  refine ⟨by rw [List.length_cons, dw.length]; exact hl, P1, _, _, r, _, rc, hg, fun P' H' fpc v fr r' s' sr nf => ?_⟩
  -- the callee may change ad alone
  have inc : ∀ a, In (fun j => if j = 0 then [ad] else []) a → a = ad := fun a ⟨j, hj⟩ => by
    dsimp only at hj
    split at hj
    · exact List.mem_singleton.mp hj
    · cases hj
  have inC : In (fun j => if j = 0 then [ad] else []) ad := ⟨0, by simp⟩
  obtain ⟨ov, h1, h2⟩ := r'.sl 0 (.own ys) rfl
  rw [List.map_cons, List.getElem?_cons_zero] at h1
  cases h1
  generalize hfp : fpc 0 = fp0 at h2
  cases h2 with
  | @own _ vs' _ pa' ha' dy =>
    have inAd : In fps1 ad := ⟨i, by rw [ef]; exact List.mem_singleton.mpr rfl⟩
    have frO : ∀ a ∈ fr, H1 a = none := fun a hfr => by
      rcases s'.foot a (.inr hfr) with z | z
      · have : a = ad := inc a z
        subst this
        exact absurd ⟨0, by rw [hfp]; exact List.mem_singleton.mpr rfl⟩ (nf a hfr)
      · exact z
    have rE : Rel K vs0 P' (E1.set i (.own ys)) σ H' fps1 := by
      refine ⟨r'.sub, by rw [List.length_set]; exact r1.len, fun j s hs => ?_, fun j hj => by rw [List.length_set] at hj; exact r1.out j hj, r1.dj, fun j zs v' hv hs ho => ?_⟩
      · by_cases e : i = j
        · subst e
          rw [List.getElem?_set_self hi] at hs
          cases hs
          exact ⟨_, es, by rw [ef]; exact .own pa' ha' dy⟩
        · rw [List.getElem?_set_ne e] at hs
          obtain ⟨ov, g1, g2⟩ := r1.sl j s hs
          refine ⟨ov, g1, g2.mono s'.pp fun a hj => ?_⟩
          have hne : a ≠ ad := fun z => e (r1.dj i j ad (by rw [ef]; exact List.mem_singleton.mpr rfl) (z ▸ hj))
          obtain ⟨pn, o, ho⟩ := g2.foot hj
          have nin : ¬ In (fun j => if j = 0 then [ad] else []) a := fun z => hne (inc a z)
          refine ⟨(s'.keep a o ho nin).trans ho.symm, ?_⟩
          exact s'.noneD ho nin pn fun xs z => g2.footN hj ⟨xs, by rw [ho, z]⟩
      · by_cases e : i = j
        · subst e
          exact r1.par i _ v' hv (own?_some eo) rfl
        · rw [List.getElem?_set_ne e] at hs
          exact r1.par j zs v' hv hs ho
    have sE : Step (In fps1) P1 H1 (fun a => In fps1 a ∨ a ∈ fr) P' H' := ⟨s'.pp, fun a o h1 nin => s'.keep a o h1 fun z => nin (inc a z ▸ inAd), fun a o ha2 => (s'.fresh a o ha2).imp id (fun z => z.imp id fun w => inc a w ▸ inAd), fun a ha2 => ha2.elim .inl fun z => .inr (frO a z), s'.live⟩
    refine q P' H' fps1 v fr rE (s1.trans sE) sr (fun a hfr z => ?_) fun a hfr => ?_
    · obtain ⟨_, o, ho⟩ := r1.foot z
      rw [frO a hfr] at ho
      cases ho
    · exact s1.free (frO a hfr)
theorem px_callM {i : Nat} (c : Cl X.prog X.w X.K X.mg X.base k x n g) (hn : ∀ as r, g as = some r → as.length = n) (hr : Room j X.A) (hk : k ≤ j) (hg : Gl X x) (h0 : PE X e (tVar i)) (ha : PXA X m es fs) (hdb : (x == ("__debug__" : Str)) = false := by decide)
    (he : starEach (e :: es) X.env = (false, eval e X.env) :: starEach es X.env := by rfl) (hpl : (backTo pos (starEach es X.env)).any (·.1) = false := by rfl) : PX X true true (.Call (.Name x px) (e :: es) [] pos) (asD (callM i g fs)) := by
  obtain ⟨f, fd, ps, F, h1, h2, h3⟩ := c.ex
  refine pe_imp (pe_call F (hr.mono hk) hg h1 h2 h3 .nil pass0 (pa_cons h0 ha he) hdb he hpl) fun σ H Q => ?_
  rintro ⟨vs0, P, E, fps, d, E', rel, hh, q⟩
  unfold asD at hh
  split at hh
  · rename_i d' E2 e2
    cases hh
    obtain ⟨xs0, ds, E1, xs, ys, os, g0, g1, g2, g3, rfl⟩ := callM_some e2
    obtain ⟨ad, _, es, _, _, _, _⟩ := rel.ownAt g0
    refine ⟨_, es, vs0, P, E, fps, ds, E1, rel, g1, fun P1 H1 fps1 ws r1 s1 _ dw => ?_⟩
    refine callM_core r1 s1 g2 es dw hn g3 fun P' H' fps' v fr r' s' sr nf fo => ?_
    cases sr with
    | dat dv => exact q P' H' fps' v r' ⟨s'.pp, s'.keep, s'.fresh, fun a ha => s'.foot a (.inl ha), s'.live⟩ (fun z => nomatch z) dv
  · rename_i xs' E2 e2
    cases hh
    obtain ⟨xs0, ds, E1, xs, ys, os, g0, g1, g2, g3, rfl⟩ := callM_some e2
    obtain ⟨ad, _, es, _, _, _, _⟩ := rel.ownAt g0
    refine ⟨_, es, vs0, P, E, fps, ds, E1, rel, g1, fun P1 H1 fps1 ws r1 s1 _ dw => ?_⟩
    refine callM_core r1 s1 g2 es dw hn g3 fun P' H' fps' v fr r' s' sr nf fo => ?_
    cases sr with
    | @own al vs _ pa ha dv =>
      have hal := List.mem_singleton.mpr (rfl : al = al)
      have t1 : Same P' (upd P' al (.lst vs)) := Fw.same_upd pa
      refine q (upd P' al (.lst vs)) H' fps' (.ref al) ⟨fun x o hx => ?_, r'.len, fun i s hs => ?_, r'.out, r'.dj, r'.par⟩ ⟨s'.pp.trans t1, s'.keep, fun x o hx => ?_, fun a ha => s'.foot a (.inl ha), s'.live⟩ (fun z => nomatch z) (.lst upd_same (dv.mono t1))
      · by_cases e1 : x = al
        · subst e1
          rw [upd_same] at hx
          cases hx
          exact ha
        · rw [upd_ne e1] at hx
          exact r'.sub x o hx
      · obtain ⟨ov, k1, k2⟩ := r'.sl i s hs
        refine ⟨ov, k1, k2.mono t1 fun y hy => ⟨rfl, ?_⟩⟩
        have hne : y ≠ al := fun z => nf al hal (z ▸ ⟨i, hy⟩)
        rw [upd_ne hne]
        exact (k2.foot hy).1
      · by_cases e1 : x = al
        · subst e1
          exact .inr (.inl (.inl (fo x hal)))
        · rw [upd_ne e1] at hx
          exact s'.fresh x o hx
  · cases hh
theorem pl_callM {i : Nat} (c : Cl X.prog X.w X.K X.mg X.base k x n g) (hn : ∀ as r, g as = some r → as.length = n) (hr : Room j X.A) (hk : k ≤ j) (hg : Gl X x) (h0 : PE X e (tVar i)) (ha : PXA X m es fs) (hdb : (x == ("__debug__" : Str)) = false := by decide)
    (he : starEach (e :: es) X.env = (false, eval e X.env) :: starEach es X.env := by rfl) (hpl : (backTo pos (starEach es X.env)).any (·.1) = false := by rfl) : PL X true (.Call (.Name x px) (e :: es) [] pos) (asL (callM i g fs)) := by
  obtain ⟨f, fd, ps, F, h1, h2, h3⟩ := c.ex
  refine pe_imp (pe_call F (hr.mono hk) hg h1 h2 h3 .nil pass0 (pa_cons h0 ha he) hdb he hpl) fun σ H Q => ?_
  rintro ⟨vs0, P, E, fps, d, E', rel, hh, q⟩
  unfold asL at hh
  split at hh
  · rename_i xs' E2 e2
    cases hh
    obtain ⟨xs0, ds, E1, xs, ys, os, g0, g1, g2, g3, rfl⟩ := callM_some e2
    obtain ⟨ad, _, es, _, _, _, _⟩ := rel.ownAt g0
    refine ⟨_, es, vs0, P, E, fps, ds, E1, rel, g1, fun P1 H1 fps1 ws r1 s1 _ dw => ?_⟩
    refine callM_core r1 s1 g2 es dw hn g3 fun P' H' fps' v fr r' s' sr nf fo => ?_
    cases sr with
    | @own al vs _ pa ha dv =>
      have hal := List.mem_singleton.mpr (rfl : al = al)
      exact q P' H' fps' al vs r' ⟨s'.pp, s'.keep, s'.fresh, fun a ha => s'.foot a (.inl ha), s'.live⟩ (fun z => nomatch z) (fo al hal) pa (nf al hal) ha dv
  · cases hh
/-- f(script) that hands back a new list -/
def callS (i : Nat) (g : Fn) : SE (List PyData) := fun E => match E[i]? with
  | some (.scr ns) => match g [.scr ns] with
    | some (.own xs, _) => some (xs, E)
    | _ => none
  | _ => none
theorem pl_callS {i : Nat} (c : Cl X.prog X.w X.K X.mg X.base k x 1 g) (hr : Room j X.A) (hk : k ≤ j) (hg : Gl X x) (h0 : PE X e (tVar i)) (hdb : (x == ("__debug__" : Str)) = false := by decide)
    (he : starEach [e] X.env = (false, eval e X.env) :: starEach [] X.env := by rfl) (hpl : (backTo pos (starEach [] X.env)).any (·.1) = false := by rfl) : PL X false (.Call (.Name x px) [e] [] pos) (callS i g) := by
  obtain ⟨f, fd, ps, F, h1, h2, h3⟩ := c.ex
  refine pe_imp (pe_call F (hr.mono hk) hg h1 h2 h3 .nil pass0 (pa_cons h0 pa_nil he) hdb he hpl) fun σ H Q => ?_
  rintro ⟨vs0, P, E, fps, d, E', rel, hh, q⟩
  unfold callS at hh
  split at hh
  · rename_i ns e1
    split at hh
    · rename_i xs os e2
      cases hh
      obtain ⟨ov, e3, s⟩ := rel.sl i _ e1
      generalize hfp : fps i = fp at s
      cases s with
      | @scr ad _ hs =>
        refine ⟨_, e3, rfl, P, _, fun _ => [], _, os, ⟨rel.sub, rfl, fun i s hs' => ?_, fun _ _ => rfl, (fun _ _ _ h => nomatch h), fun i s v _ h ho => ?_⟩, e2, fun P' H' fps' v fr r' s' sr _ => ?_⟩
        · cases i with
          | zero => cases hs'; exact ⟨_, rfl, .scr hs⟩
          | succ i => simp at hs'
        · cases i with
          | zero => cases h; cases ho
          | succ i => simp at h
        · cases sr with
          | @own al vs _ pa ha dv =>
            have fr1 : Fresh NoF P H P' := fun a o ha => (s'.fresh a o ha).imp id (fun z => z.elim .inl (fun w => absurd w (no_in a)))
            have sm : Same H H' := fun a o ha => s'.keep a o ha (no_in a)
            have hfree : H al = none := by
              rcases s'.foot al (.inr (List.mem_singleton.mpr rfl)) with z | z
              · exact absurd z (no_in al)
              · exact z
            have r2 := rel.alloc s'.pp r'.sub sm fr1
            exact q P' H' fps al vs r2 (.alloc s'.pp sm fr1) (fun _ => sm) hfree pa (fun z => by
              obtain ⟨_, o, ho⟩ := rel.foot z
              rw [hfree] at ho
              cases ho) ha dv
    · cases hh
  · cases hh
end
end Fw
namespace Fw
open PySem PySem.Spec L2
open PyProof.Rows hiding St
section
variable {X : Cx} {n : Nat} {m m1 m2 m3 p p1 p2 p3 : Bool} {elt tg iter : Expr} {ifs : List Expr} {pos px apos spos : Pos} {fe : SE PyData} {fs : SE (List PyData)} {scope : Scope} {x : Str}
/-- a constant of the module -/
def Cn (K : PySem.W.Frag) (mg : Str → Option Value) (x : Str) (d : PyData) : Prop := ∃ v, (∃ u, mg x = some u ∧ RelV v u) ∧ Kn K v d
theorem px_gc {d : PyData} (hg : Gl X x) (h : Cn X.K X.mg x d) (hd : (x == ("__debug__" : Str)) = false := by decide) : PX X false true (.Name x pos) (ret d) := by
  obtain ⟨v, ⟨u, h1, h2⟩, h3⟩ := h
  exact px_kn (pe_glob hg h1 h2 hd) h3
theorem asgL_core {K : PySem.W.Frag} {i : Nat} {te : TE} {D : Ends} {σ : L2.St} {H : Hp} (hi' : n ≤ i) (im : ∀ σ H Q, tXL K m fs σ H Q → te σ H Q) (h : tS K n (asgL i fs) D σ H) : tAsg te (gName i) D σ H := by
  obtain ⟨vs0, P, E, fps, fl, E', hn, r, hf, q⟩ := h
  unfold asgL at hf
  split at hf
  · rename_i ds E1 e1
    cases hf
    refine im _ _ _ ⟨vs0, P, E, fps, ds, E1, r, e1, fun P1 H1 fps1 ad vs r1 s1 _ ha pa nf hv dv => ?_⟩
    have r2 := r1.put (i := i) (s := .own ds) (ov := some (.ref ad)) (l := [ad]) (.own pa hv dv) (fun y hy j _ hj => by
      cases List.mem_singleton.mp hy
      exact nf ⟨j, hj⟩) (fun v hv' _ => by
        have := (List.getElem?_eq_some_iff.mp hv').1
        omega)
    refine q P1 H1 _ _ r2 ⟨s1.pp, s1.keep, s1.fresh, fun y hy => ?_, s1.live⟩
    split at hy
    · rcases in_clr hy with h2 | h2
      · cases List.mem_singleton.mp h2
        exact .inr ha
      · exact s1.foot y h2
    · exact s1.foot y hy
  · cases hf
theorem asg_core {K : PySem.W.Frag} {i : Nat} {te : TE} {fa : SE PyData} {D : Ends} {σ : L2.St} {H : Hp} (im : ∀ σ H Q, tX K m true fa σ H Q → te σ H Q) (h : tS K n (asg i fa) D σ H) : tAsg te (gName i) D σ H := by
  obtain ⟨vs0, P, E, fps, fl, E', hn, r, hf, q⟩ := h
  unfold asg at hf
  split at hf
  · rename_i d E1 e1
    cases hf
    refine im _ _ _ ⟨vs0, P, E, fps, d, E1, r, e1, fun P1 H1 fps1 v r1 s1 _ dv => ?_⟩
    obtain ⟨fps2, r2, s2⟩ := r1.putDat (i := i) dv
    exact q P1 H1 fps2 _ r2 (s1.trans s2)
  · cases hf
theorem px_core {K : PySem.W.Frag} {fs : SE (List PyData)} {te : TE} (im : ∀ σ H Q, tXL K m fs σ H Q → te σ H Q) : ∀ σ H Q, tX K m true (bnd fs fun ds => ret (.list ds)) σ H Q → te σ H Q := fun σ H Q => by
  rintro ⟨vs0, P, E, fps, d, E', r, hf, q⟩
  obtain ⟨ds, E1, h1, h2⟩ := bnd_some hf
  obtain ⟨rfl, rfl⟩ := ret_some h2
  refine im _ _ _ ⟨vs0, P, E, fps, ds, _, r, h1, fun P' H' fps' ad vs r' st sm ha pa nf hv dv => ?_⟩
  have s1 : Same P' (upd P' ad (.lst vs)) := Fw.same_upd pa
  refine q (upd P' ad (.lst vs)) H' fps' (.ref ad) ⟨fun x o hx => ?_, r'.len, fun i s hs => ?_, r'.out, r'.dj, r'.par⟩ ⟨st.pp.trans s1, st.keep, fun x o hx => ?_, st.foot, st.live⟩ sm (.lst upd_same (dv.mono s1))
  · by_cases e1 : x = ad
    · subst e1
      rw [upd_same] at hx
      cases hx
      exact hv
    · rw [upd_ne e1] at hx
      exact r'.sub x o hx
  · obtain ⟨ov, e1, q1⟩ := r'.sl i s hs
    refine ⟨ov, e1, q1.mono s1 fun y hy => ⟨rfl, ?_⟩⟩
    have hne : y ≠ ad := fun z => nf (z ▸ ⟨i, hy⟩)
    rw [upd_ne hne]
    exact (q1.foot hy).1
  · by_cases e1 : x = ad
    · subst e1
      exact .inr (.inl (.inl ha))
    · rw [upd_ne e1] at hx
      exact st.fresh x o hx
theorem pxs_lcL {i : Nat} {py : Pos} {own : List (Str × Nat)} {ts : List Nat} {bb : PyData → En → Option En} {t : SE Bool} (hi' : n ≤ i) (hc : X.calm = true) (hN : X.N.Nodup) (hy : X.N[i]? = some x) (hyl : X.env.scope.names.lookup x = some .local)
    (hsw : swapsWith (.ListComp elt [⟨tg, iter, ifs, 0⟩] scope pos) (some (.Name x py)) spos.line X.env = pure true)
    (ok : BlkOk X.N X.env.scope scope own) (hi : PXI X m tg iter fs)
    (hg : ∀ (s : Shared) (H : Hp) (C : Addr) (cl : List (Str × Addr)) (fp : List Addr), PXG (X.blk s H scope (compEnvC scope cl C X.env) fp) ts tg bb)
    (ht : ∀ (s : Shared) (H : Hp) (C : Addr) (cl : List (Str × Addr)) (fp : List Addr), PTs (X.blk s H scope (compEnvC scope cl C X.env) fp) ifs (tXT X.K m2 t))
    (he : ∀ (s : Shared) (H : Hp) (C : Addr) (cl : List (Str × Addr)) (fp : List Addr), PX (X.blk s H scope (compEnvC scope cl C X.env) fp) m1 true elt fe)
    (hts : ∀ k ∈ ts, k ∈ own.map (·.2)) (hs : ∀ x, foldedSetIterable iter X.env x = pure x := by intro _; rfl) :
    PXS1 X n (.Assign [.Name x py] (.ListComp elt [⟨tg, iter, ifs, 0⟩] scope pos) spos) (asgL i (lcS fs (own.map (·.2)) bb t fe)) :=
  ps_imp (ps_setLc (g := tXG X.K ts bb) (tt := tXT X.K m2 t) (te := tX X.K m1 true fe) hc hN hy hyl hsw hi ok hg ht he hs) fun D σ H h => asgL_core hi' (fun _ _ _ => lc_imp hts) h
theorem pxs_lcD {i : Nat} {py : Pos} {own : List (Str × Nat)} {ts : List Nat} {bb : PyData → En → Option En} {t : SE Bool} (hc : X.calm = true) (hN : X.N.Nodup) (hy : X.N[i]? = some x) (hyl : X.env.scope.names.lookup x = some .local)
    (hsw : swapsWith (.ListComp elt [⟨tg, iter, ifs, 0⟩] scope pos) (some (.Name x py)) spos.line X.env = pure true)
    (ok : BlkOk X.N X.env.scope scope own) (hi : PXI X m tg iter fs)
    (hg : ∀ (s : Shared) (H : Hp) (C : Addr) (cl : List (Str × Addr)) (fp : List Addr), PXG (X.blk s H scope (compEnvC scope cl C X.env) fp) ts tg bb)
    (ht : ∀ (s : Shared) (H : Hp) (C : Addr) (cl : List (Str × Addr)) (fp : List Addr), PTs (X.blk s H scope (compEnvC scope cl C X.env) fp) ifs (tXT X.K m2 t))
    (he : ∀ (s : Shared) (H : Hp) (C : Addr) (cl : List (Str × Addr)) (fp : List Addr), PX (X.blk s H scope (compEnvC scope cl C X.env) fp) m1 true elt fe)
    (hts : ∀ k ∈ ts, k ∈ own.map (·.2)) (hs : ∀ x, foldedSetIterable iter X.env x = pure x := by intro _; rfl) :
    PXS1 X n (.Assign [.Name x py] (.ListComp elt [⟨tg, iter, ifs, 0⟩] scope pos) spos) (asg i (bnd (lcS fs (own.map (·.2)) bb t fe) fun ds => ret (.list ds))) :=
  ps_imp (ps_setLc (g := tXG X.K ts bb) (tt := tXT X.K m2 t) (te := tX X.K m1 true fe) hc hN hy hyl hsw hi ok hg ht he hs) fun D σ H h => asg_core (px_core fun _ _ _ => lc_imp hts) h
end

structure Fx (K : PySem.W.Frag) (mg : Str → Option Value) (x : Str) (st : Stmt) (ps : List Str) : Prop where
  ex : ∃ (f : Addr) (fd : FuncData), Fun K x x st f fd ∧ mg x = some (.ref f) ∧ Binds K fd ps []
theorem Fx.cl {P : Program} {w : World} {K : PySem.W.Frag} {mg : Str → Option Value} {base : Heap} {x : Str} {st : Stmt} {ps : List Str} {k n : Nat} {g : Fn} (h : Fx K mg x st ps)
    (ok : ∀ (f : Addr) (fd : FuncData), Fun K x x st f fd → FnOk P w K mg base CX0 k f fd ps (spF K n g)) : Cl P w K mg base k x n g := by
  obtain ⟨f, fd, F, h1, h2⟩ := h.ex
  exact ⟨f, fd, ps, ok f fd F, h1, F.kp, h2⟩
theorem Fx.of {K : PySem.W.Frag} {mg : Str → Option Value} {h : Heap} {x : Str} {st : Stmt} {ps : List Str} {f : Addr} {oc : Value} {od an : Option Addr} {osl : Array (Option Value)} {kV doc pm cdv ct : Value} (X : K.In h) (G : h.Ns mainGlobals mg) (a : PySem.W.nsIn K mainGlobals x = some (some (.ref f)))
    (l : K.lookup f = some ⟨oc, od, .func (PySem.W.fnOf x x (defArgs st) (defBody st) (defScope st) .none kV doc pm an cdv ct), osl⟩) (c : PySem.W.codeIn K cdv x = true) (k : PySem.W.keepIn K (.ref f) = true)
    (hb : ∀ (kV doc pm : Value) (an : Option Addr) (cdv ct : Value) (us : List Value), us.length = ps.length → bindArgs (PySem.W.fnOf x x (defArgs st) (defBody st) (defScope st) .none kV doc pm an cdv ct) ⟨us, []⟩ = pure (ps.zip us)) : Fx K mg x st ps :=
  ⟨f, _, fun_mk l c k, PySem.W.mg_of X G a, (fun_mk l c k).binds hb⟩
/-- the law's def at its own address -/
theorem law_of {P : Program} {w : World} {K : PySem.W.Frag} {mg : Str → Option Value} {h : Heap} {st : Stmt} {fa f : Addr} {L : Nat} {g : Fn} {oc : Value} {od an : Option Addr} {osl : Array (Option Value)} {kV doc pm cdv ct : Value} (X : K.In h) (G : h.Ns mainGlobals mg) (hfa : mg "law" = some (.ref fa)) (a : PySem.W.nsIn K mainGlobals "law" = some (some (.ref f)))
    (l : K.lookup f = some ⟨oc, od, .func (PySem.W.fnOf "law" "law" (defArgs st) (defBody st) (defScope st) .none kV doc pm an cdv ct), osl⟩) (c : PySem.W.codeIn K cdv "law" = true) (k : PySem.W.keepIn K (.ref f) = true)
    (hb : ∀ (s : Shared) (v : Value), BindsTo s (PySem.W.fnOf "law" "law" (defArgs st) (defBody st) (defScope st) .none kV doc pm an cdv ct) ⟨[v], []⟩ [("script", v)])
    (ok : ∀ (base : Heap) (f : Addr) (fd : FuncData), Fun K "law" "law" st f fd → FnOk P w K mg base CX0 L f fd ["script"] (spF K 1 g)) :
    ∃ fd : FuncData, (∀ (s : Shared) (v : Value), BindsTo s fd ⟨[v], []⟩ [("script", v)]) ∧ ∀ base : Heap, K.In base → base.Ns mainGlobals mg → FnOk P w K mg base CX0 L fa fd ["script"] (spF K 1 g) := by
  have e := hfa.symm.trans (PySem.W.mg_of X G a)
  cases e
  exact ⟨_, hb, fun base _ _ => ok base _ _ (fun_mk l c k)⟩
/-- from the mathematics to the promise at the script -/
theorem sp_law {K : PySem.W.Frag} {H : Hp} {a : Addr} {ns : List Int} {g : Fn} {E : XK} (hS : SqL K H a (ns.map V.int)) (hg : ∃ outs, g [.scr ns] = some (.dat (.bool true), outs)) : spF K 1 g [.ref a] H (fun v _ => v = V.bl true) E := by
  obtain ⟨outs, hg⟩ := hg
  refine ⟨rfl, H, [.scr ns], fun _ => [], _, outs, ⟨Same.refl H, rfl, fun i s hs => ?_, fun _ _ => rfl, (fun _ _ _ h => nomatch h), fun i s v _ h ho => ?_⟩, hg, fun P' H' fps' v fr r' s' sr _ => ?_⟩
  · cases i with
    | zero => cases hs; exact ⟨_, rfl, .scr hS⟩
    | succ i => simp at hs
  · cases i with
    | zero => cases h; cases ho
    | succ i => simp at h
  · cases sr with
    | dat d => exact dq_bl d
theorem Cn.int {K : PySem.W.Frag} {mg : Str → Option Value} {h : Heap} {x : Str} {i : Int} {t : Tok} (X : K.In h) (G : h.Ns mainGlobals mg) (a : PySem.W.nsIn K mainGlobals x = some (some (.int i t))) : Cn K mg x (.int i) := ⟨.int i, ⟨_, PySem.W.mg_of X G a, ⟨t, rfl⟩⟩, fun _ => .int i⟩
theorem Cn.str {K : PySem.W.Frag} {mg : Str → Option Value} {h : Heap} {x : Str} {i : Str} {t : Tok} (X : K.In h) (G : h.Ns mainGlobals mg) (a : PySem.W.nsIn K mainGlobals x = some (some (.str i t))) : Cn K mg x (.str i) := ⟨.str i, ⟨_, PySem.W.mg_of X G a, ⟨t, rfl⟩⟩, fun _ => .str i⟩
/-- what a written value stands for, flat -/
def flatOf : Value → Option (V × PyData)
  | .int i _ => some (.int i, .int i)
  | .str x _ => some (.str x, .str x)
  | .bool b => some (.bl b, .bool b)
  | .none => some (.non, .none)
  | _ => none
def flatsOf : List Value → Option (List V × List PyData)
  | [] => some ([], [])
  | u :: us => match flatOf u, flatsOf us with
    | some (v, d), some (vs, ds) => some (v :: vs, d :: ds)
    | _, _ => none
theorem flat_rel {u : Value} {v : V} {d : PyData} (h : flatOf u = some (v, d)) : RelV v u ∧ ∀ K P, Dq K P v d := by
  unfold flatOf at h
  split at h <;> cases h
  · exact ⟨⟨_, rfl⟩, fun _ _ => .int _⟩
  · exact ⟨⟨_, rfl⟩, fun _ _ => .str _⟩
  · exact ⟨rfl, fun _ _ => .bl _⟩
  · exact ⟨rfl, fun _ _ => .non⟩
theorem flats_rel : ∀ {us : List Value} {vs : List V} {ds : List PyData}, flatsOf us = some (vs, ds) → Vals vs us ∧ ∀ K P, DqAll K P vs ds
  | [], _, _, h => by cases h; exact ⟨.nil, fun _ _ => .nil⟩
  | u :: us, _, _, h => by
    unfold flatsOf at h
    split at h
    · rename_i v d vs ds h1 h2
      cases h
      obtain ⟨a1, a2⟩ := flat_rel h1
      obtain ⟨b1, b2⟩ := flats_rel h2
      exact ⟨.cons a1 b1, fun K P => .cons (a2 K P) (b2 K P)⟩
    · cases h
theorem Cn.tup {K : PySem.W.Frag} {mg : Str → Option Value} {h : Heap} {x : Str} {c : Addr} {dd : Option Addr} {its : Array Value} {n : Nat} {sl : Array (Option Value)} {vs : List V} {ds : List PyData} (X : K.In h) (G : h.Ns mainGlobals mg) (a : PySem.W.nsIn K mainGlobals x = some (some (.ref c)))
    (l : K.lookup c = some ⟨.type "tuple", dd, .seq its n, sl⟩) (e : flatsOf its.toList = some (vs, ds)) (hz : its.size ≤ sizeLine) (hk : okC ds = true := by rfl) : Cn K mg x (.tuple ds) := by
  obtain ⟨h1, h2⟩ := flats_rel e
  exact ⟨.ref c, ⟨_, PySem.W.mg_of X G a, rfl⟩, fun P => .tup (.inr ⟨hk, _, its, n, l, rfl, rfl, hz, h1⟩) (h2 K P)⟩
end Fw
namespace Fw
open PySem PySem.Spec L2
open PyProof.Rows hiding St
theorem boot_len : bootBuiltins "len" = some (.builtin "len") := by decide +kernel
theorem boot_abs : bootBuiltins "abs" = some (.builtin "abs") := by decide +kernel
theorem boot_ord : bootBuiltins "ord" = some (.builtin "ord") := by decide +kernel
theorem boot_sum : bootBuiltins "sum" = some (.builtin "sum") := by decide +kernel
theorem boot_all : bootBuiltins "all" = some (.builtin "all") := by decide +kernel
theorem boot_any : bootBuiltins "any" = some (.builtin "any") := by decide +kernel
theorem boot_min : bootBuiltins "min" = some (.builtin "min") := by decide +kernel
theorem boot_max : bootBuiltins "max" = some (.builtin "max") := by decide +kernel
theorem boot_divmod : bootBuiltins "divmod" = some (.builtin "divmod") := by decide +kernel
theorem boot_int : bootBuiltins "int" = some (.type "int") := by decide +kernel
theorem boot_str : bootBuiltins "str" = some (.type "str") := by decide +kernel
theorem boot_bool : bootBuiltins "bool" = some (.type "bool") := by decide +kernel
theorem boot_tuple : bootBuiltins "tuple" = some (.type "tuple") := by decide +kernel
theorem boot_list : bootBuiltins "list" = some (.type "list") := by decide +kernel
end Fw
namespace Fw
open PySem PySem.Spec L2
open PyProof.Rows hiding St
open Builtin Float
def specText (base grp : Nat) (up : Bool) (f : Builtin.Float.FormatSpec) (a : Int) : Str :=
  intField' f (decide (a < 0)) [] ((Nat.toDigits base a.natAbs).map fun c => (if up then c.toUpper else c).toNat) [] grp
theorem ff_hex {prog : Program} {w : World} {A : Around} {E : Value → Shared → Prop} {s : Shared} {a : Int} {t : Tok} {spec : Str} {f : Builtin.Float.FormatSpec} {Q : Value → Shared → Prop}
    (hp : parseFormatSpec spec.cps.toList "int" 62 = .ok f) (hne : (spec.length == 0) = false)
    (hasc : ((spec.cps.toList.drop 1).any (· ≥ 128) || (spec.cps.getD 0 0 ≥ 128 && !([60, 62, 61, 94] : List Nat).contains (spec.cps.getD 1 0))) = false)
    (hty : f.type.getD (if spec.cps.back? == some 0 then 0 else 100) = 88) (hpr : f.precision = none) (hz : f.noNeg0 = false) (hal : f.alt = false) (hgr : f.grouping = none) (hsg : f.sign = none) (hw : f.width.getD 0 ≤ 100000)
    (hlen : (specText 16 4 true f a).length ≤ sizeLine) (hsz : spec.length ≤ sizeLine)
    (h : Q (.str (specText 16 4 true f a) (s.toks + 1)) { s with toks := s.toks + 1 + 1 }) :
    wpAny (model prog w) A (formatField (.int a t) spec) Q E s := by
  show wpAny _ _ (holding [.int a t] (pyFormat (.int a t) spec)) Q E s
  refine wpAny_holding ?_
  unfold pyFormat
  refine wpAny_bind (wpAny_mkStr ?_ hsz)
  refine wpAny_bind (m := callSpecial? (.int a t) (Str.ofString "__format__") [.str spec s.toks]) (wpAny_callSpecial?_slot (name := Str.ofString "__format__") (typeIs_int _ a t) PySem.F.slot_int_format ?_)
  refine wpAny_call (codeAny_call_builtin PySem.F.slot_int_format.plain PySem.F.entry_int_format (PySem.F.slot_int_format.check _ _ _ _ _ _ _ _ (typeIs_int _ a t) (PySem.F.args_int_format_2 _ _) ?_))
  unfold Builtin.«int.__format__»
  simp only [selfAndOne, noKeywords, Builtin.Int.intOfSelf, asInt?, asStr?, List.isEmpty_nil, if_true, pure_bind, bind_pure, bind_assoc, hne, hasc, Bool.false_eq_true, if_false,
    show (Value.str spec s.toks == Value.none) = false from rfl]
  refine wpAny_bind (wpAny_typeNameOf (T := "str") (typeIs_str _ _ _) (by decide) fun _ => ?_)
  refine wpAny_bind (wpAny_typeNameOfCut_int ?_)
  simp only [hp, hty]
  rw [if_pos (by decide)]
  show wpAny _ _ (if _ then _ else _) _ _ _
  rw [if_neg (by simp [hpr])]
  show wpAny _ _ (if _ then _ else _) _ _ _
  rw [if_neg (by simp [hz])]
  show wpAny _ _ (if _ then _ else _) _ _ _
  rw [if_neg (by decide)]
  show wpAny _ _ (if _ then _ else _) _ _ _
  have hw' : ¬ (f.width.getD 0 > 100000) := by omega
  rw [if_neg (by simpa using hw')]
  show wpAny _ _ (if _ then _ else _) _ _ _
  rw [if_neg (by simpa using hw')]
  show wpAny _ _ (retStr _) _ _ _
  unfold retStr
  refine wpAny_bind (wpAny_mkStr (wpAny_pure ?_) ?hs2)
  case hs2 =>
    simp only [hal, Bool.false_eq_true, if_false, show ((16 : Nat) == 10) = false by decide, show ((88 : Nat) == 88) = true by decide, if_true]
    conv => lhs; arg 1; whnf
    simp only [specText, intField', hgr, hsg, hal, Bool.false_eq_true, if_false, if_true] at hlen ⊢
    exact hlen
  dsimp only
  refine wpAny_bind (wpAny_isInstance (typeIs_str _ _ _) isSubtype_str_str (wpAny_pure ?_))
  simp only [hal, Bool.false_eq_true, if_false, show ((16 : Nat) == 10) = false by decide, show ((88 : Nat) == 88) = true by decide, if_true]
  conv => arg 1; arg 1; whnf
  simp only [specText, intField', hgr, hsg, hal, Bool.false_eq_true, if_false, if_true] at h ⊢
  exact h
theorem ff_hexl {prog : Program} {w : World} {A : Around} {E : Value → Shared → Prop} {s : Shared} {a : Int} {t : Tok} {spec : Str} {f : Builtin.Float.FormatSpec} {Q : Value → Shared → Prop}
    (hp : parseFormatSpec spec.cps.toList "int" 62 = .ok f) (hne : (spec.length == 0) = false)
    (hasc : ((spec.cps.toList.drop 1).any (· ≥ 128) || (spec.cps.getD 0 0 ≥ 128 && !([60, 62, 61, 94] : List Nat).contains (spec.cps.getD 1 0))) = false)
    (hty : f.type.getD (if spec.cps.back? == some 0 then 0 else 100) = 120) (hpr : f.precision = none) (hz : f.noNeg0 = false) (hal : f.alt = false) (hgr : f.grouping = none) (hsg : f.sign = none) (hw : f.width.getD 0 ≤ 100000)
    (hlen : (specText 16 4 false f a).length ≤ sizeLine) (hsz : spec.length ≤ sizeLine)
    (h : Q (.str (specText 16 4 false f a) (s.toks + 1)) { s with toks := s.toks + 1 + 1 }) :
    wpAny (model prog w) A (formatField (.int a t) spec) Q E s := by
  show wpAny _ _ (holding [.int a t] (pyFormat (.int a t) spec)) Q E s
  refine wpAny_holding ?_
  unfold pyFormat
  refine wpAny_bind (wpAny_mkStr ?_ hsz)
  refine wpAny_bind (m := callSpecial? (.int a t) (Str.ofString "__format__") [.str spec s.toks]) (wpAny_callSpecial?_slot (name := Str.ofString "__format__") (typeIs_int _ a t) PySem.F.slot_int_format ?_)
  refine wpAny_call (codeAny_call_builtin PySem.F.slot_int_format.plain PySem.F.entry_int_format (PySem.F.slot_int_format.check _ _ _ _ _ _ _ _ (typeIs_int _ a t) (PySem.F.args_int_format_2 _ _) ?_))
  unfold Builtin.«int.__format__»
  simp only [selfAndOne, noKeywords, Builtin.Int.intOfSelf, asInt?, asStr?, List.isEmpty_nil, if_true, pure_bind, bind_pure, bind_assoc, hne, hasc, Bool.false_eq_true, if_false,
    show (Value.str spec s.toks == Value.none) = false from rfl]
  refine wpAny_bind (wpAny_typeNameOf (T := "str") (typeIs_str _ _ _) (by decide) fun _ => ?_)
  refine wpAny_bind (wpAny_typeNameOfCut_int ?_)
  simp only [hp, hty]
  rw [if_pos (by decide)]
  show wpAny _ _ (if _ then _ else _) _ _ _
  rw [if_neg (by simp [hpr])]
  show wpAny _ _ (if _ then _ else _) _ _ _
  rw [if_neg (by simp [hz])]
  show wpAny _ _ (if _ then _ else _) _ _ _
  rw [if_neg (by decide)]
  show wpAny _ _ (if _ then _ else _) _ _ _
  have hw' : ¬ (f.width.getD 0 > 100000) := by omega
  rw [if_neg (by simpa using hw')]
  show wpAny _ _ (if _ then _ else _) _ _ _
  rw [if_neg (by simpa using hw')]
  show wpAny _ _ (retStr _) _ _ _
  unfold retStr
  refine wpAny_bind (wpAny_mkStr (wpAny_pure ?_) ?hs2)
  case hs2 =>
    simp only [hal, Bool.false_eq_true, if_false, show ((16 : Nat) == 10) = false by decide, show ((120 : Nat) == 88) = false by decide, if_true]
    conv => lhs; arg 1; whnf
    simp only [specText, intField', hgr, hsg, hal, Bool.false_eq_true, if_false, if_true] at hlen ⊢
    exact hlen
  dsimp only
  refine wpAny_bind (wpAny_isInstance (typeIs_str _ _ _) isSubtype_str_str (wpAny_pure ?_))
  simp only [hal, Bool.false_eq_true, if_false, show ((16 : Nat) == 10) = false by decide, show ((120 : Nat) == 88) = false by decide, if_true]
  conv => arg 1; arg 1; whnf
  simp only [specText, intField', hgr, hsg, hal, Bool.false_eq_true, if_false, if_true] at h ⊢
  exact h
theorem ff_dec {prog : Program} {w : World} {A : Around} {E : Value → Shared → Prop} {s : Shared} {a : Int} {t : Tok} {spec : Str} {f : Builtin.Float.FormatSpec} {Q : Value → Shared → Prop}
    (hp : parseFormatSpec spec.cps.toList "int" 62 = .ok f) (hne : (spec.length == 0) = false)
    (hasc : ((spec.cps.toList.drop 1).any (· ≥ 128) || (spec.cps.getD 0 0 ≥ 128 && !([60, 62, 61, 94] : List Nat).contains (spec.cps.getD 1 0))) = false)
    (hty : f.type.getD (if spec.cps.back? == some 0 then 0 else 100) = 100) (hpr : f.precision = none) (hz : f.noNeg0 = false) (hal : f.alt = false) (hgr : f.grouping = none) (hsg : f.sign = none) (hw : f.width.getD 0 ≤ 100000)
    (hd : a.natAbs.log2 < 1920) (hlen : (specText 10 3 false f a).length ≤ sizeLine) (hsz : spec.length ≤ sizeLine)
    (h : Q (.str (specText 10 3 false f a) (s.toks + 1)) { s with toks := s.toks + 1 + 1 }) :
    wpAny (model prog w) A (formatField (.int a t) spec) Q E s := by
  show wpAny _ _ (holding [.int a t] (pyFormat (.int a t) spec)) Q E s
  refine wpAny_holding ?_
  unfold pyFormat
  refine wpAny_bind (wpAny_mkStr ?_ hsz)
  refine wpAny_bind (m := callSpecial? (.int a t) (Str.ofString "__format__") [.str spec s.toks]) (wpAny_callSpecial?_slot (name := Str.ofString "__format__") (typeIs_int _ a t) PySem.F.slot_int_format ?_)
  refine wpAny_call (codeAny_call_builtin PySem.F.slot_int_format.plain PySem.F.entry_int_format (PySem.F.slot_int_format.check _ _ _ _ _ _ _ _ (typeIs_int _ a t) (PySem.F.args_int_format_2 _ _) ?_))
  unfold Builtin.«int.__format__»
  simp only [selfAndOne, noKeywords, Builtin.Int.intOfSelf, asInt?, asStr?, List.isEmpty_nil, if_true, pure_bind, bind_pure, bind_assoc, hne, hasc, Bool.false_eq_true, if_false,
    show (Value.str spec s.toks == Value.none) = false from rfl]
  refine wpAny_bind (wpAny_typeNameOf (T := "str") (typeIs_str _ _ _) (by decide) fun _ => ?_)
  refine wpAny_bind (wpAny_typeNameOfCut_int ?_)
  simp only [hp, hty]
  rw [if_pos (by decide)]
  show wpAny _ _ (if _ then _ else _) _ _ _
  rw [if_neg (by simp [hpr])]
  show wpAny _ _ (if _ then _ else _) _ _ _
  rw [if_neg (by simp [hz])]
  show wpAny _ _ (if _ then _ else _) _ _ _
  rw [if_neg (by decide)]
  have hw' : ¬ (f.width.getD 0 > 100000) := by omega
  show wpAny _ _ (do let r ← Builtin.overDigitLimit? a; _) _ _ _
  rw [PySem.overDigitLimit_small hd]
  refine wpAny_bind (wpAny_pure ?_)
  show wpAny _ _ (if _ then _ else _) _ _ _
  rw [if_neg (by simpa using hw')]
  show wpAny _ _ (retStr _) _ _ _
  unfold retStr
  refine wpAny_bind (wpAny_mkStr (wpAny_pure ?_) ?hs2)
  case hs2 =>
    simp only [hal, Bool.false_eq_true, if_false, show ((10 : Nat) == 10) = true by decide, show ((100 : Nat) == 88) = false by decide, if_true]
    conv => lhs; arg 1; whnf
    simp only [specText, intField', hgr, hsg, hal, Bool.false_eq_true, if_false, if_true] at hlen ⊢
    exact hlen
  dsimp only
  refine wpAny_bind (wpAny_isInstance (typeIs_str _ _ _) isSubtype_str_str (wpAny_pure ?_))
  simp only [hal, Bool.false_eq_true, if_false, show ((10 : Nat) == 10) = true by decide, show ((100 : Nat) == 88) = false by decide, if_true]
  conv => arg 1; arg 1; whnf
  simp only [specText, intField', hgr, hsg, hal, Bool.false_eq_true, if_false, if_true] at h ⊢
  exact h

def specOk (sp : Str) (f : Builtin.Float.FormatSpec) : Bool :=
  !(sp.length == 0) && !((sp.cps.toList.drop 1).any (· ≥ 128) || (sp.cps.getD 0 0 ≥ 128 && !([60, 62, 61, 94] : List Nat).contains (sp.cps.getD 1 0))) &&
  f.precision.isNone && !f.noNeg0 && !f.alt && f.grouping.isNone && f.sign.isNone && decide (f.width.getD 0 ≤ 100000) && decide (sp.length ≤ sizeLine)
def specTy (sp : Str) (f : Builtin.Float.FormatSpec) : Nat := f.type.getD (if sp.cps.back? == some 0 then 0 else 100)
def specOf (sp : Str) (f : Builtin.Float.FormatSpec) (i : Int) : Option Str :=
  if specTy sp f = 88 then some (specText 16 4 true f i) else if specTy sp f = 120 then some (specText 16 4 false f i) else if specTy sp f = 100 ∧ i.natAbs.log2 < 1920 then some (specText 10 3 false f i) else none
/-- f"{x:sp}", x an int -/
def gSpec (sp : Str) : PyData → Option PyData
  | .int i => match parseFormatSpec sp.cps.toList "int" 62 with
    | .ok f => if specOk sp f = true then match specOf sp f i with
      | some t => if t.length ≤ sizeLine then some (.str t) else none
      | none => none
      else none
    | .error _ => none
  | _ => none
section
variable {X : Cx} {m m2 p p2 : Bool} {a spec : Expr} {pos : Pos} {fa : SE PyData} {sp : Str}
def rSpec (sp : Str) : V → Hp → VK → Prop := fun x H Q => ∃ (i : Int) (t : Str), x = .int i ∧ gSpec sp (.int i) = some (.str t) ∧ Q (.str t) H
theorem pe_spec {te ts : TE} (he : PE X a te) (hs : PE X spec ts) : PE X (.FormattedValue a (-1) (some spec) pos) (fun σ H Q => te σ H fun x H1 => ts σ H1 fun y H2 => y = .str sp ∧ rSpec sp x H2 Q) := by
  refine ⟨fun pins s σ H Q I h => ?_⟩
  refine wpAny_FormattedValue_spec (thn (he.run pins s σ H _ I h) fun v s1 hv => ?_)
  obtain ⟨x, H1, I1, r1, q⟩ := hv
  refine thn (hs.run pins s1 σ H1 _ I1 q) fun v2 s2 hv2 => ?_
  obtain ⟨y, H2, I2, r2, rfl, i, t, rfl, hg, q⟩ := hv2
  obtain ⟨k1, rfl⟩ := r1
  obtain ⟨k2, rfl⟩ := r2
  refine ⟨sp, k2, rfl, ?_⟩
  unfold gSpec at hg
  cases hp : parseFormatSpec sp.cps.toList "int" 62 with
  | error _ => simp only [hp] at hg; cases hg
  | ok f =>
    simp only [hp] at hg
    by_cases hok : specOk sp f = true
    · rw [if_pos hok] at hg
      unfold specOk at hok
      simp only [Bool.and_eq_true, Bool.not_eq_true', decide_eq_true_eq] at hok
      obtain ⟨⟨⟨⟨⟨⟨⟨⟨hne, hasc⟩, hpr⟩, hz⟩, hal⟩, hgr⟩, hsg⟩, hw⟩, hsz⟩ := hok
      replace hpr := Option.isNone_iff_eq_none.mp hpr
      replace hgr := Option.isNone_iff_eq_none.mp hgr
      replace hsg := Option.isNone_iff_eq_none.mp hsg
      cases ho : specOf sp f i with
      | none => rw [ho] at hg; cases hg
      | some t2 =>
        simp only [ho] at hg
        by_cases hl : t2.length ≤ sizeLine
        · rw [if_pos hl] at hg
          cases hg
          unfold specOf at ho
          by_cases h1 : specTy sp f = 88
          · rw [if_pos h1] at ho
            cases ho
            exact ff_hex hp hne hasc h1 hpr hz hal hgr hsg hw hl hsz ⟨.str _, H2, I2.tok _, ⟨_, rfl⟩, q⟩
          · rw [if_neg h1] at ho
            by_cases h2 : specTy sp f = 120
            · rw [if_pos h2] at ho
              cases ho
              exact ff_hexl hp hne hasc h2 hpr hz hal hgr hsg hw hl hsz ⟨.str _, H2, I2.tok _, ⟨_, rfl⟩, q⟩
            · rw [if_neg h2] at ho
              by_cases h3 : specTy sp f = 100 ∧ i.natAbs.log2 < 1920
              · rw [if_pos h3] at ho
                cases ho
                exact ff_dec hp hne hasc h3.1 hpr hz hal hgr hsg hw h3.2 hl hsz ⟨.str _, H2, I2.tok _, ⟨_, rfl⟩, q⟩
              · rw [if_neg h3] at ho
                cases ho
        · rw [if_neg hl] at hg
          cases hg
    · rw [if_neg hok] at hg
      cases hg
theorem gSpec_str {d z : PyData} (h : gSpec sp d = some z) : ∃ i t, d = .int i ∧ z = .str t := by
  cases d with
  | int i =>
    unfold gSpec at h
    cases hp : parseFormatSpec sp.cps.toList "int" 62 with
    | error _ => simp only [hp] at h; cases h
    | ok f =>
      simp only [hp] at h
      by_cases hok : specOk sp f = true
      · rw [if_pos hok] at h
        cases ho : specOf sp f i with
        | none => rw [ho] at h; cases h
        | some t2 =>
          simp only [ho] at h
          by_cases hl : t2.length ≤ sizeLine
          · rw [if_pos hl] at h
            cases h
            exact ⟨_, _, rfl, rfl⟩
          · rw [if_neg hl] at h
            cases h
      · rw [if_neg hok] at h
        cases h
  | _ => unfold gSpec at h; cases h
theorem px_spec (ha : PX X m p a fa) (hs : PX X m2 p2 spec (ret (.str sp))) : PX X (m || m2) true (.FormattedValue a (-1) (some spec) pos) (una fa (gSpec sp)) := pe_imp (pe_spec (sp := sp) ha hs) fun σ H Q => by
  rintro ⟨vs0, P, E, fps, d, E', rel, hh, q⟩
  obtain ⟨d1, E1, h1, hh⟩ := bnd_some hh
  obtain ⟨h3, rfl⟩ := lft_some hh
  refine ⟨vs0, P, E, fps, d1, _, rel, h1, fun P1 H1 fps1 x r1 s1 m1' dx => ?_⟩
  refine ⟨vs0, P1, E', fps1, .str sp, E', r1, rfl, fun P2 H2 fps2 y r2 s2 m2' dy => ⟨by cases p2 <;> exact dq_str dy, ?_⟩⟩
  obtain ⟨i, t, rfl, rfl⟩ := gSpec_str h3
  have ex : x = .int i := by cases p <;> exact dq_int dx
  refine ⟨i, t, ex, h3, q P2 H2 fps2 (.str t) r2 (s1.trans s2) (fun hm => ?_) (.str t)⟩
  rw [Bool.or_eq_false_iff] at hm
  exact (m1' hm.1).trans (m2' hm.2)
end
end Fw
namespace Fw
open PySem PySem.Spec L2
open PyProof.Rows hiding St
theorem DqAll.dropLast {K : PySem.W.Frag} {H : Hp} {vs : List V} {ds : List PyData} (h : DqAll K H vs ds) : DqAll K H vs.dropLast ds.dropLast := by
  rw [List.dropLast_eq_take, List.dropLast_eq_take, h.length]
  exact h.take _
section
variable {X : Cx} {n : Nat} {m m1 m2 m3 p p1 p2 p3 : Bool} {a b : Expr} {pos px apos : Pos}
/-- l.pop() as a statement -/
def popO (i : Nat) : SS := fun E => match own? i E with
  | some xs => if xs.length = 0 then none else some (.nx, E.set i (.own xs.dropLast))
  | none => none
theorem ok_popO {i : Nat} {E : En} {Q : Fl → En → Prop} {xs : List PyData} (h : own? i E = some xs) (h0 : 0 < xs.length) (q : Q .nx (E.set i (.own xs.dropLast))) : ∃ a E1, popO i E = some (a, E1) ∧ Q a E1 := by
  unfold popO
  rw [h]
  exact ⟨_, _, if_neg (by omega), q⟩
theorem pxs_popO {i : Nat} (ho : PE X a (tVar i)) (hs : swapsWith (.Call (.Attribute a "pop" apos) [] [] px) none pos.line X.env = pure false := by rfl)
    (hb : attributeBase a "pop" X.env (eval a X.env) = eval a X.env := by rfl) (hline : (apos.endLine == px.line) = true := by rfl) :
    PXS1 X n (.Expr (.Call (.Attribute a "pop" apos) [] [] px) pos) (popO i) := ps_imp (ps_expr (pe_bm0 PySem.F.plainAttrs_list PySem.F.slot_list_pop PySem.F.type_list_pop mt_pop ho hb hline) hs) fun D σ H => by
  rintro ⟨vs0, P, E, fps, fl, E', hn, r, hf, q⟩
  unfold popO at hf
  cases e0 : own? i E with
  | none => rw [e0] at hf; cases hf
  | some xs =>
    rw [e0] at hf
    by_cases h0 : xs.length = 0
    · simp only [h0, if_true] at hf
      cases hf
    · simp only [h0, if_false] at hf
      cases hf
      obtain ⟨ad, vs, es, ef, pa, ha, dx⟩ := r.ownAt e0
      have hl := dx.length
      have hne : vs.length - 1 < vs.length := by omega
      obtain ⟨r3, s3⟩ := r.write e0 es dx.dropLast
      exact ⟨.ref ad, es, .inl ⟨rfl, vs, SqL.of ha⟩, ad, vs, vs[vs.length - 1], rfl, rfl, ha, List.getElem?_eq_getElem hne, q P _ fps σ r3 s3⟩
def gDivmod : List PyData → Option PyData
  | [.int i, .int j] => if 0 < j ∧ j < 1073741824 then some (.tuple [.int (i / j), .int (i % j)]) else none
  | _ => none
theorem va_divmod {K : PySem.W.Frag} : VAA K (fun xs H Q => ∃ i j, xs = [.int i, .int j] ∧ CDiv i j ∧ ∀ p, H p = none → Q (.ref p) (upd H p (.tup [.int (i / j), .int (i % j)]))) gDivmod := by
  intro P H xs ds z Q su dx hg q
  unfold gDivmod at hg
  split at hg
  · rename_i i j
    by_cases hc : 0 < j ∧ j < 1073741824
    · rw [if_pos hc] at hg
      cases hg
      cases dx with
      | cons h1 r1 =>
        cases r1 with
        | cons h2 r2 =>
          cases r2
          rw [dq_int h1, dq_int h2]
          exact ⟨_, _, rfl, hc, fun p hp => q.new su hp (.tup (SqC.of upd_same) (.cons (.int _) (.cons (.int _) .nil)))⟩
    · rw [if_neg hc] at hg
      cases hg
  · cases hg
theorem gDivmod_ii {i j : Int} : gDivmod [.int i, .int j] = if 0 < j ∧ j < 1073741824 then some (.tuple [.int (i / j), .int (i % j)]) else none := rfl
end
end Fw
namespace Fw
open PySem PySem.Spec L2
open PyProof.Rows hiding St
section
variable {prog : Program} {w : World} {A : Around} {E : Value → Shared → Prop} {s : Shared}
/-- the next item of a tuple's iterator, as an inner call asks for it -/
theorem draw_tup_item {it t : Addr} {i : Nat} {items : Array Value} {x : Value} {Q : Value → Shared → Prop} (hit : s.heap.IsTupleIter it t i) (ht : s.heap.IsTuple t items) (hx : items[i]? = some x)
    (q : ∀ h', h'.IsTupleIter it t (i + 1) → Heap.SameBut it s.heap h' → Q x { s with heap := h' }) : wpAny (model prog w) A (Builtin.SmallTypes.nextOf (.ref it)) Q E s := by
  obtain ⟨o, ho, hc, hd⟩ := id hit
  obtain ⟨ot, hot, _, nt, hdt⟩ := ht
  unfold Builtin.SmallTypes.nextOf
  refine wpAny_bind (wpAny_callSpecial?_slot (name := Str.ofString "__next__") hit.typeIs F.slot_tuple_iterator_next (wpAny_call_entry F.slot_tuple_iterator_next hit.typeIs F.entry_tuple_iterator_next ?_ (F.args_tuple_iterator_next_1 _)))
  show wpAny _ _ (field (.ref it) 0 >>= _) _ _ s
  refine wpAny_bind (wpAny_field ho hd (x := .ref t) rfl ?_)
  show wpAny _ _ (if (Value.ref t == Value.none) = true then _ else _) _ _ s
  rw [if_neg (show ¬ ((Value.ref t == Value.none) = true) from Bool.false_ne_true)]
  show wpAny _ _ (field (.ref it) 1 >>= _) _ _ s
  refine wpAny_bind (wpAny_field ho hd (x := .int i 0) rfl ?_)
  show wpAny _ _ (seqItems? (.ref t) >>= _) _ _ s
  refine wpAny_bind (wpAny_seqItems hot hdt ?_)
  simp only [Int.toNat_natCast, hx]
  refine wpAny_bind (wpAny_setField ho hd (by simp) (wpAny_pure ⟨x, rfl, wpAny_pure (q _ ?_ (Heap.SameBut.update ..))⟩))
  refine ⟨_, Heap.get?_update_self _ ho (Obj.isFreed_of_fields (Obj.data_mapFields hd _)), (Obj.cls_mapFields ..).trans hc, ?_⟩
  rw [Obj.data_mapFields hd]
  simp [rawInt]
theorem draw_tup_end {it t : Addr} {i : Nat} {items : Array Value} {Q : Value → Shared → Prop} (hh : A.handled = none) (hit : s.heap.IsTupleIter it t i) (ht : s.heap.IsTuple t items) (hx : items[i]? = none)
    (q : ∀ h' e, Heap.ExtBut it s.heap h' → (∃ o, h'.get? e = some o ∧ o.cls = .type "StopIteration") → E (.ref e) { s with heap := h' }) : wpAny (model prog w) A (Builtin.SmallTypes.nextOf (.ref it)) Q E s := by
  obtain ⟨o, ho, hc, hd⟩ := id hit
  obtain ⟨ot, hot, _, nt, hdt⟩ := ht
  unfold Builtin.SmallTypes.nextOf
  refine wpAny_bind (wpAny_callSpecial?_slot (name := Str.ofString "__next__") hit.typeIs F.slot_tuple_iterator_next (wpAny_call_entry F.slot_tuple_iterator_next hit.typeIs F.entry_tuple_iterator_next ?_ (F.args_tuple_iterator_next_1 _)))
  show wpAny _ _ (field (.ref it) 0 >>= _) _ _ s
  refine wpAny_bind (wpAny_field ho hd (x := .ref t) rfl ?_)
  show wpAny _ _ (if (Value.ref t == Value.none) = true then _ else _) _ _ s
  rw [if_neg (show ¬ ((Value.ref t == Value.none) = true) from Bool.false_ne_true)]
  show wpAny _ _ (field (.ref it) 1 >>= _) _ _ s
  refine wpAny_bind (wpAny_field ho hd (x := .int i 0) rfl ?_)
  show wpAny _ _ (seqItems? (.ref t) >>= _) _ _ s
  refine wpAny_bind (wpAny_seqItems hot hdt ?_)
  simp only [Int.toNat_natCast, hx]
  refine wpAny_bind (wpAny_rule (wpAny_bind (wpAny_setField ho hd (by simp) ?_)))
  show wpAny _ _ (newExc (.type "StopIteration") [] >>= _) _ _ _
  refine wpAny_bind ?_
  simp only [newExc, newTuple]
  refine wpAny_bind (wpAny_newObj_type ?_ (by size_fits))
  refine wpAny_bind (m := firstArgMember _ _) (wpAny_of_eq (a := Value.none) (by first | rfl | (simp only [firstArgMember]; rfl)) ?_)
  refine wpAny_newObj_type ?_ (by size_fits)
  simp only [raiseNew]
  refine wpAny_bind (wpAny_handled ?_)
  first | rw [show A.in1.handled = none from hh] | rw [hh]
  refine wpAny_bind (wpAny_pure (wpAny_throw ?_))
  exact q _ _ (((Heap.SameBut.update ..).extBut.push _).push _) ⟨_, Heap.get?_push_size _ rfl, rfl⟩
theorem draws_tup (hh : A.handled = none) (it t : Addr) (hne : t ≠ it) (items : Array Value) : Draws prog w A it [it, t] items.size (fun i v => items[i]? = some v) (fun i h => h.IsTupleIter it t i ∧ h.IsTuple t items) where
  live := fun _ _ st => let ⟨o, ho, _⟩ := st.1; ⟨o, ho⟩
  frame := fun _ _ _ st hk => ⟨st.1.at fun o e => hk it (by simp) o e, let ⟨o, ho, r⟩ := st.2; ⟨o, hk t (by simp) o ho, r⟩⟩
  item := fun i s Q E hi st hQ => by
    refine draw_tup_item st.1 st.2 (x := items[i]) (by simp [hi]) fun h' hit' hs' => ?_
    exact hQ _ h' s.toks (by simp [hi]) ⟨hit', st.2.extBut hs'.extBut hne⟩ hs'
  done := fun s Q E st hE => draw_tup_end hh st.1 st.2 (by simp) hE
theorem meets_enumT (t : Addr) (items : Array Value) (n : Nat) (dct : Option Addr) (sl : Array (Option Value)) :
    Meets (Builtin.«enumerate.__new__» ⟨[.type "enumerate", .ref t], []⟩) (fun _ R s => s.heap.get? t = some { cls := .type "tuple", dict := dct, data := .seq items n, slots := sl } ∧
      R (.ok (.ret (.ref (s.heap.push { cls := .type "tuple_iterator", data := .fields #[.ref t, .int 0 0] }).objs.size)))
        { s with heap := (s.heap.push { cls := .type "tuple_iterator", data := .fields #[.ref t, .int 0 0] }).push { cls := .type "enumerate", data := .fields #[.none, .bool false, .ref s.heap.objs.size, rawInt 0, .none, .none] } }) :=
  .of_wp fun prog w A R s h => by
    obtain ⟨hp, g, d, tk, os⟩ := s
    obtain ⟨hl, h⟩ := h
    have hsub := sub_enumerate
    have hT : Heap.IsTuple (Shared.heap ⟨hp, g, d, tk, os⟩) t items := ⟨_, hl, rfl, n, rfl⟩
    wp_walk using AutoSeq1.wpAny_loadPart' hl
    refine wpAny_stack_any fun st => wpAny_pure ?_
    split
    · rename_i c _ _ _ _ _
      cases (c == Value.type "enumerate")
      · wp_walk using AutoSeq1.wpAny_loadPart' hl, wpAny_pyIter_tuple hT
        exact ⟨_, rfl, h⟩
      · wp_walk using AutoSeq1.wpAny_loadPart' hl, wpAny_pyIter_tuple hT
        exact ⟨_, rfl, h⟩
    · wp_walk using AutoSeq1.wpAny_loadPart' hl, wpAny_pyIter_tuple hT
      exact ⟨_, rfl, h⟩
theorem call_enumT {t : Addr} {items : Array Value} {Q : Value → Shared → Prop} (hT : s.heap.IsTuple t items)
    (h : ∀ h', IsEnum h' (s.heap.objs.size + 1) s.heap.objs.size 0 .none → h'.IsTupleIter s.heap.objs.size t 0 → h'.objs.size = s.heap.objs.size + 2 → (∀ b o, s.heap.get? b = some o → h'.get? b = some o) → Q (.ref (s.heap.objs.size + 1)) { s with heap := h' }) :
    wpAny (model prog w) A (call (.type "enumerate") [.ref t]) Q E s := by
  obtain ⟨⟨c, dct, dt, sl⟩, hl, hc, n, hd⟩ := hT
  replace hc : c = .type "tuple" := hc
  replace hd : dt = .seq items n := hd
  subst hc hd
  refine callType_new F.called_enumerate (by decide) (F.typeCall_enumerate_1 _) (F.newCall_enumerate_1 _) (fun obj => F.args_object_init_2 obj _) F.entry_enumerate_new (meets_enumT t items n dct sl) ⟨hl, ?_⟩
  have hz : (s.heap.push { cls := .type "tuple_iterator", data := .fields #[.ref t, .int 0 0] }).objs.size = s.heap.objs.size + 1 := Heap.size_push ..
  show _ ∧ _
  rw [hz]
  have he : IsEnum ((s.heap.push { cls := .type "tuple_iterator", data := .fields #[.ref t, .int 0 0] }).push { cls := .type "enumerate", data := .fields #[.none, .bool false, .ref s.heap.objs.size, rawInt 0, .none, .none] }) (s.heap.objs.size + 1) s.heap.objs.size 0 .none := by
    have := Heap.get?_push_size (s.heap.push { cls := .type "tuple_iterator", data := .fields #[.ref t, .int 0 0] }) (o := { cls := .type "enumerate", data := .fields #[.none, .bool false, .ref s.heap.objs.size, rawInt 0, .none, .none] }) rfl
    rw [hz] at this
    exact this
  refine ⟨⟨_, he, rfl⟩, h _ he ⟨_, Heap.get?_push_of_some _ (Heap.get?_push_size _ rfl), rfl, rfl⟩ (by rw [Heap.size_push, hz]) fun b o x => Heap.get?_push_of_some _ (Heap.get?_push_of_some _ x)⟩
end

/-- a tuple's items as they stand at each turn, each in a new pair behind its number -/
def Itet (K : PySem.W.Frag) (a : Addr) : It :=
  ⟨fun i H => ∃ (xs : List V) (x : V), SqT K H a xs ∧ xs[i]? = some x, fun i H v H' => ∃ T x, v = .ref T ∧ H T = none ∧ H' = upd H T (.tup [.int (i : Nat), x]) ∧ ∀ xs, SqT K H a xs → xs[i]? = some x, fun i H => ∃ xs : List V, SqT K H a xs ∧ xs.length = i⟩
theorem turn_enumT {P : Program} {w : World} {K : PySem.W.Frag} {elts : List Expr} {kk : Nat} {tpos : Pos} (a e it : Addr) (ha : a ≠ it) (hae : a ≠ e) :
    Turn P w K (.Tuple elts kk tpos) (Itet K a) [e, it] e (fun i h => (∃ old, IsEnum h e it ((i : Nat) : Int) old) ∧ h.IsTupleIter it a i ∧ e ≠ it) where
  mem := by simp
  obj := fun i h st b hb => by
    obtain ⟨⟨old, he⟩, ⟨o, ho, hc, hd⟩, _⟩ := st
    have hb' : b = e ∨ b = it := by simpa using hb
    rcases hb' with rfl | rfl
    · exact ⟨_, he, fun v z => nomatch z⟩
    · exact ⟨o, ho, fun v z => by rw [hd] at z; cases z⟩
  keep := fun i h h' st k => by
    obtain ⟨⟨old, he⟩, hi, hne⟩ := st
    exact ⟨⟨old, k e (by simp) _ he⟩, hi.at fun o z => k it (by simp) o z, hne⟩
  item := by
    intro X hP hw hK hc i pins s σ H E I hf st hg
    subst hP hw hK
    obtain ⟨⟨old, he⟩, hit, hne⟩ := st
    obtain ⟨xs, x, hq, hx⟩ := hg
    obtain ⟨its, rv, p, hz⟩ := I.tuple hq
    obtain ⟨u, hu, ru⟩ := rv.get hx
    have hi : i < its.toArray.size := by
      have := (List.getElem?_eq_some_iff.mp hu).1
      simpa using this
    have hel : e < s.heap.objs.size := Heap.lt_size he
    have hil : it < s.heap.objs.size := by
      obtain ⟨_, z, _⟩ := hit
      exact Heap.lt_size z
    have D := draws_tup (prog := X.prog) (w := X.w) (A := X.A.in1) (I.ok.hd hc) it a ha its.toArray
    refine wpAny_pyNext_enum_itemD D he ⟨hit, p⟩ hi hne (by simp [hne, Ne.symm hae]) fun y h' tk hP ho hs' hT hsz hk => ?_
    obtain ⟨hit', _⟩ := hs'
    have ey : y = u := by
      have h1 : its[i]? = some y := by simpa using hP
      rw [hu] at h1
      exact (Option.some.inj h1).symm
    subst ey
    refine ⟨_, rfl, wpAny_letOwnedTupleGo_enum (s := { s with heap := h', toks := tk + 1 }) ho fun h'' he' sb => ?_⟩
    have hT2 : h''.get? s.heap.objs.size = some { cls := .type "tuple", data := .seq #[.int i tk, y] } := (sb.2 _ (Nat.ne_of_gt hel)).trans hT
    have new : ObjOk X.prog X.w (upd H s.heap.objs.size (.tup [.int (i : Nat), x])) h'' s.heap.objs.size (.tup [.int (i : Nat), x]) :=
      ⟨by show 2 ≤ sizeLine; decide, [.int i tk, y], .cons ⟨_, rfl⟩ (.cons ru .nil), ⟨_, hT2, rfl, _, rfl⟩⟩
    have I1 : Inv X pins σ (upd H s.heap.objs.size (.tup [.int (i : Nat), x])) { s with heap := h'', toks := tk + 1 } :=
      I.turnedNew (ch := [e, it]) (fun b ob hb z => (sb.2 b (fun zz => hb (by simp [zz]))).trans (hk b ob (fun zz => hb (by simp [zz])) (fun zz => hb (by simp [zz])) z)) hf (Nat.le_refl _) new
    refine ⟨.ref s.heap.objs.size, _, I1, rfl, ⟨_, x, rfl, I.hok.fresh (Nat.le_refl _), rfl, fun ys hy => by rw [I.tuple_inj hy hq]; exact hx⟩, ⟨⟨y, ?_⟩, hit'.at fun o z => (sb.2 it (Ne.symm hne)).trans z, hne⟩, fun b hb => ?_⟩
    · have e1 : ((i + 1 : Nat) : Int) = (i : Int) + 1 := by omega
      rw [e1]
      exact he'
    · have hb2 : b = e ∨ b = it := by simpa using hb
      have hb' : b < s.heap.objs.size := by
        rcases hb2 with z | z
        · rw [z]; exact hel
        · rw [z]; exact hil
      rw [upd_ne (Nat.ne_of_lt hb')]
      exact (hf b hb).1
  done := by
    intro X hP hw hK hc i pins s σ H E I hf st hg
    subst hP hw hK
    obtain ⟨⟨old, he⟩, hit, hne⟩ := st
    obtain ⟨xs, hq, hx⟩ := hg
    obtain ⟨its, rv, p, hz⟩ := I.tuple hq
    obtain ⟨f0, f1, f2, f3, f4, f5⟩ := hf it (by simp)
    have hl := rv.length
    have D := draws_tup (prog := X.prog) (w := X.w) (A := X.A.in1) (I.ok.hd hc) it a ha its.toArray
    have hn : its.toArray.size = i := by rw [List.size_toArray]; omega
    exact wpAny_pyNext_enum_endD D he (by rw [hn]; exact ⟨hit, p⟩) fun h' eb => ⟨rfl, I.turned (t' := s.toks) (fun b o hb z => eb b o hb z) f0 f1 f3 f4 f5⟩
  self := fun A i s Q E st h => by
    obtain ⟨⟨_, he⟩, _⟩ := st
    exact wpAny_pyIter_enum he h
/-- a text's signs, each in a new pair behind its number -/
def Ites (x : Str) : It :=
  ⟨fun i _ => i < x.cps.size, fun i H v H' => ∃ T c, v = .ref T ∧ H T = none ∧ H' = upd H T (.tup [.int (i : Nat), .str ⟨#[c]⟩]) ∧ x.cps[i]? = some c, fun i _ => x.cps.size = i⟩
theorem turn_enumS {P : Program} {w : World} {K : PySem.W.Frag} {elts : List Expr} {kk : Nat} {tpos : Pos} (x : Str) (t : Tok) (ty : String) (hty : ty = "str_ascii_iterator" ∨ ty = "str_iterator") (e it : Addr) :
    Turn P w K (.Tuple elts kk tpos) (Ites x) [e, it] e (fun i h => (∃ old, IsEnum h e it ((i : Nat) : Int) old) ∧ h.IsStrIter it ty x t i ∧ e ≠ it) where
  mem := by simp
  obj := fun i h st b hb => by
    obtain ⟨⟨old, he⟩, ⟨o, ho, hc, hd⟩, _⟩ := st
    have hb' : b = e ∨ b = it := by simpa using hb
    rcases hb' with rfl | rfl
    · exact ⟨_, he, fun v z => nomatch z⟩
    · exact ⟨o, ho, fun v z => by rw [hd] at z; cases z⟩
  keep := fun i h h' st k => by
    obtain ⟨⟨old, he⟩, ⟨o, ho, r⟩, hne⟩ := st
    exact ⟨⟨old, k e (by simp) _ he⟩, ⟨o, k it (by simp) o ho, r⟩, hne⟩
  item := by
    intro X hP hw hK hc i pins s σ H E I hf st hg
    subst hP hw hK
    obtain ⟨⟨old, he⟩, hit, hne⟩ := st
    have hel : e < s.heap.objs.size := Heap.lt_size he
    have hil : it < s.heap.objs.size := by
      obtain ⟨_, z, _⟩ := hit
      exact Heap.lt_size z
    have D : Draws X.prog X.w X.A.in1 it [it] x.cps.size (fun i v => ∃ c u, x.cps[i]? = some c ∧ v = .str ⟨#[c]⟩ u) (fun i h => h.IsStrIter it ty x t i) := by
      rcases hty with rfl | rfl
      · exact Draws.strAscii (A := X.A.in1) (I.ok.hd hc) it x t
      · exact Draws.strWide (A := X.A.in1) (I.ok.hd hc) it x t
    refine wpAny_pyNext_enum_itemD D he hit hg hne (by simp [hne]) fun y h' tk hP ho hs' hT hsz hk => ?_
    obtain ⟨c, u, hcx, rfl⟩ := hP
    obtain ⟨oi, hoi, ri⟩ := id hs'
    refine ⟨_, rfl, wpAny_letOwnedTupleGo_enum (s := { s with heap := h', toks := tk + 1 }) ho fun h'' he' sb => ?_⟩
    have hT2 : h''.get? s.heap.objs.size = some { cls := .type "tuple", data := .seq #[.int i tk, .str ⟨#[c]⟩ u] } := (sb.2 _ (Nat.ne_of_gt hel)).trans hT
    have new : ObjOk X.prog X.w (upd H s.heap.objs.size (.tup [.int (i : Nat), .str ⟨#[c]⟩])) h'' s.heap.objs.size (.tup [.int (i : Nat), .str ⟨#[c]⟩]) :=
      ⟨by show 2 ≤ sizeLine; decide, [.int i tk, .str ⟨#[c]⟩ u], .cons ⟨_, rfl⟩ (.cons ⟨_, rfl⟩ .nil), ⟨_, hT2, rfl, _, rfl⟩⟩
    have I1 : Inv X pins σ (upd H s.heap.objs.size (.tup [.int (i : Nat), .str ⟨#[c]⟩])) { s with heap := h'', toks := tk + 1 } :=
      I.turnedNew (ch := [e, it]) (fun b ob hb z => (sb.2 b (fun zz => hb (by simp [zz]))).trans (hk b ob (fun zz => hb (by simp [zz])) (fun zz => hb (by simp [zz])) z)) hf (Nat.le_refl _) new
    refine ⟨.ref s.heap.objs.size, _, I1, rfl, ⟨_, c, rfl, I.hok.fresh (Nat.le_refl _), rfl, hcx⟩, ⟨⟨.str ⟨#[c]⟩ u, ?_⟩, ⟨oi, (sb.2 it (Ne.symm hne)).trans hoi, ri⟩, hne⟩, fun b hb => ?_⟩
    · have e1 : ((i + 1 : Nat) : Int) = (i : Int) + 1 := by omega
      rw [e1]
      exact he'
    · have hb2 : b = e ∨ b = it := by simpa using hb
      have hb' : b < s.heap.objs.size := by
        rcases hb2 with z | z
        · rw [z]; exact hel
        · rw [z]; exact hil
      rw [upd_ne (Nat.ne_of_lt hb')]
      exact (hf b hb).1
  done := by
    intro X hP hw hK hc i pins s σ H E I hf st hg
    subst hP hw hK
    obtain ⟨⟨old, he⟩, hit, hne⟩ := st
    obtain ⟨f0, f1, f2, f3, f4, f5⟩ := hf it (by simp)
    have D : Draws X.prog X.w X.A.in1 it [it] x.cps.size (fun i v => ∃ c u, x.cps[i]? = some c ∧ v = .str ⟨#[c]⟩ u) (fun i h => h.IsStrIter it ty x t i) := by
      rcases hty with rfl | rfl
      · exact Draws.strAscii (A := X.A.in1) (I.ok.hd hc) it x t
      · exact Draws.strWide (A := X.A.in1) (I.ok.hd hc) it x t
    have hg : x.cps.size = i := hg
    exact wpAny_pyNext_enum_endD D he (by rw [hg]; exact hit) fun h' eb => ⟨rfl, I.turned (t' := s.toks) (fun b o hb z => eb b o hb z) f0 f1 f3 f4 f5⟩
  self := fun A i s Q E st h => by
    obtain ⟨⟨_, he⟩, _⟩ := st
    exact wpAny_pyIter_enum he h
/-- enumerate over a tuple or a text -/
def iEnumX (K : PySem.W.Frag) (ta : TA) : TI := fun σ H R => ta σ H fun vs H1 => (∃ a xs, vs = [.ref a] ∧ SqT K H1 a xs ∧ R (Itet K a) H1) ∨ ∃ x, vs = [.str x] ∧ R (Ites x) H1
theorem pi_enumX {X : Cx} {e : Expr} {ta : TA} {p pos tpos : Pos} {elts : List Expr} {kk : Nat} (hg : Gl X "enumerate") (hm : X.mg "enumerate" = none) (ha : PA X [e] ta) (hs : starEach [e] X.env = [(false, eval e X.env)] := by rfl) :
    PI X (.Tuple elts kk tpos) (.Call (.Name "enumerate" p) [e] [] pos) (iEnumX X.K ta) := by
  refine ⟨fun pins s σ H R I h => ?_⟩
  refine Call_ (ld_blt I hg hm boot_enumerate (PyProof.Rows.callWith_type1 (thn (ha.run pos pins s σ H _ I h) fun us s1 ⟨vs, H1, I1, r1, q1⟩ => ?_) hs rfl))
  rcases q1 with ⟨a, xs, ex, hq, q⟩ | ⟨x, ex, q⟩
  · subst ex
    cases r1 with
    | cons r rr =>
      cases rr
      cases r
      obtain ⟨its, rv, p', hz⟩ := I1.tuple hq
      have hlt : a < s1.heap.objs.size := by
        obtain ⟨o, ho, _⟩ := p'
        exact Heap.lt_size ho
      refine call_enumT p' fun h' he hit hsz hk => wpAny_pyIter_enum he ?_
      have I2 : Inv X pins σ H1 { s1 with heap := h' } := I1.kept (t' := s1.toks) hk
      refine ⟨s1.heap.objs.size + 1, [s1.heap.objs.size + 1, s1.heap.objs.size], _, _, H1, rfl, I2, turn_enumT a (s1.heap.objs.size + 1) s1.heap.objs.size (Nat.ne_of_lt hlt) (Nat.ne_of_lt (Nat.lt_succ_of_lt hlt)), ⟨⟨.none, he⟩, hit, Nat.succ_ne_self _⟩, fun b hb => ?_, q⟩
      have hb2 : b = s1.heap.objs.size + 1 ∨ b = s1.heap.objs.size := by simpa using hb
      have hle : s1.heap.objs.size ≤ b := by
        rcases hb2 with z | z
        · rw [z]; exact Nat.le_add_right _ _
        · rw [z]; exact Nat.le_refl _
      exact I1.fpOk hle (I1.hok.fresh hle)
  · subst ex
    cases r1 with
    | cons r rr =>
      cases rr
      obtain ⟨t, rfl⟩ := r
      refine call_enumerate_str fun h' he hit hsz hk => wpAny_pyIter_enum he ?_
      have I2 : Inv X pins σ H1 { s1 with heap := h' } := I1.kept (t' := s1.toks) hk
      refine ⟨s1.heap.objs.size + 1, [s1.heap.objs.size + 1, s1.heap.objs.size], _, _, H1, rfl, I2, turn_enumS x t (strIterType x) (by unfold strIterType; split <;> simp) (s1.heap.objs.size + 1) s1.heap.objs.size, ⟨⟨.none, he⟩, hit, Nat.succ_ne_self _⟩, fun b hb => ?_, q⟩
      have hb2 : b = s1.heap.objs.size + 1 ∨ b = s1.heap.objs.size := by simpa using hb
      have hle : s1.heap.objs.size ≤ b := by
        rcases hb2 with z | z
        · rw [z]; exact Nat.le_add_right _ _
        · rw [z]; exact Nat.le_refl _
      exact I1.fpOk hle (I1.hok.fresh hle)
/-- enumerate's pairs -/
def pairs : Nat → List PyData → List PyData
  | _, [] => []
  | k, d :: ds => .tuple [.int (k : Nat), d] :: pairs (k + 1) ds
theorem pairs_get : ∀ (ds : List PyData) (k i : Nat), (pairs k ds)[i]? = (ds[i]?).map fun d => .tuple [.int ((k + i : Nat)), d]
  | [], k, i => rfl
  | d :: ds, k, 0 => rfl
  | d :: ds, k, i + 1 => by
    rw [pairs, List.getElem?_cons_succ, pairs_get ds (k + 1) i, List.getElem?_cons_succ, show k + 1 + i = k + (i + 1) by omega]
theorem pairs_len : ∀ (ds : List PyData) (k : Nat), (pairs k ds).length = ds.length
  | [], _ => rfl
  | _ :: ds, k => by rw [pairs, List.length_cons, List.length_cons, pairs_len ds (k + 1)]
theorem snap_enumT {K : PySem.W.Frag} {a : Addr} {vs : List V} {ds : List PyData} : Snap K (Itet K a) (fun P => SqT K P a vs ∧ DqAll K P vs ds) (pairs 0 ds) where
  mono := fun P P' s h => ⟨seqT s h.1, h.2.mono s⟩
  go := fun i P H hi h s => by
    rw [pairs_len] at hi
    exact ⟨vs, vs[i]'(by rw [h.2.length]; exact hi), seqT s h.1, by simp⟩
  yld := fun i P H y H' d h s hd hy => by
    obtain ⟨T, x, rfl, hT, rfl, hx⟩ := hy
    rw [pairs_get] at hd
    cases e : ds[i]? with
    | none => rw [e] at hd; cases hd
    | some d0 =>
      rw [e] at hd
      cases hd
      obtain ⟨v, h1, h2⟩ := h.2.get e
      have h3 := hx vs (seqT s h.1)
      rw [h1] at h3
      rw [Option.some.inj h3] at h2
      have pT := sub_none s hT
      refine ⟨upd P T (.tup [.int (i : Nat), x]), Fw.same_upd pT, fun b o hb => ?_, Fw.same_upd hT, fun b o hb => ?_, ?_⟩
      · by_cases hbT : b = T
        · subst hbT
          rw [upd_same] at hb ⊢
          exact hb
        · rw [upd_ne hbT] at hb ⊢
          exact s _ _ hb
      · by_cases hbT : b = T
        · subst hbT
          exact .inr (.inl (.inl hT))
        · rw [upd_ne hbT] at hb
          exact .inl ⟨_, hb⟩
      · rw [Nat.zero_add]
        exact .tup (SqC.of upd_same) (.cons (.int _) (.cons (h2.mono (Fw.same_upd pT)) .nil))
  stop := fun P H h s => ⟨vs, seqT s h.1, by rw [h.2.length, pairs_len]⟩
theorem snap_enumS {K : PySem.W.Frag} {z : Str} : Snap K (Ites z) (fun _ => True) (pairs 0 (signs z)) where
  mono := fun _ _ _ _ => trivial
  go := fun i P H hi _ _ => by
    rw [pairs_len] at hi
    show i < z.cps.size
    simpa [signs] using hi
  yld := fun i P H y H' d _ s hd hy => by
    obtain ⟨T, c, rfl, hT, rfl, hx⟩ := hy
    rw [pairs_get] at hd
    unfold signs at hd
    rw [List.getElem?_map, Array.getElem?_toList, hx] at hd
    cases hd
    have pT := sub_none s hT
    refine ⟨upd P T (.tup [.int (i : Nat), .str ⟨#[c]⟩]), Fw.same_upd pT, fun b o hb => ?_, Fw.same_upd hT, fun b o hb => ?_, ?_⟩
    · by_cases hbT : b = T
      · subst hbT
        rw [upd_same] at hb ⊢
        exact hb
      · rw [upd_ne hbT] at hb ⊢
        exact s _ _ hb
    · by_cases hbT : b = T
      · subst hbT
        exact .inr (.inl (.inl hT))
      · rw [upd_ne hbT] at hb
        exact .inl ⟨_, hb⟩
    · rw [Nat.zero_add]
      exact .tup (SqC.of upd_same) (.cons (.int _) (.cons (.str _) .nil))
  stop := fun P H _ _ => by
    show z.cps.size = _
    rw [pairs_len]
    simp [signs]
/-- enumerate(data) -/
def sEnum (fa : SE PyData) : SE (List PyData) := bnd fa fun d => match d with
  | .tuple ys => ret (pairs 0 ys)
  | .str z => ret (pairs 0 (signs z))
  | _ => fun _ => none
section
variable {X : Cx} {m p : Bool} {a : Expr} {px pos tpos : Pos} {fa : SE PyData} {elts : List Expr} {kk : Nat}
theorem pxi_enum (hg : Gl X "enumerate") (hm : X.mg "enumerate" = none) (h : PX X m true a fa) (hs : starEach [a] X.env = [(false, eval a X.env)] := by rfl) : PXI X m (.Tuple elts kk tpos) (.Call (.Name "enumerate" px) [a] [] pos) (sEnum fa) :=
  pi_imp (pi_enumX hg hm (pa_cons h pa_nil hs) hs) fun σ H R => by
  rintro ⟨vs0, P, E, fps, ds, E', rel, hh, q⟩
  obtain ⟨d, E1, h1, hh⟩ := bnd_some hh
  split at hh
  · rename_i ys
    obtain ⟨rfl, rfl⟩ := ret_some hh
    refine ⟨vs0, P, E, fps, _, _, rel, h1, fun P1 H1 fps1 v r1 s1 m1' dv => ?_⟩
    cases dv with
    | @tup ad vs _ hx hv => exact .inl ⟨ad, vs, rfl, seqC r1.sub hx, q P1 H1 fps1 _ _ r1 s1 m1' snap_enumT ⟨hx.sq, hv⟩⟩
  · rename_i z
    obtain ⟨rfl, rfl⟩ := ret_some hh
    refine ⟨vs0, P, E, fps, _, _, rel, h1, fun P1 H1 fps1 v r1 s1 m1' dv => ?_⟩
    exact .inr ⟨z, by rw [dq_str dv], q P1 H1 fps1 _ _ r1 s1 m1' snap_enumS trivial⟩
  · cases hh
end
end Fw
namespace Fw
open PySem PySem.Spec L2

/-- m answers, and what it answers fulfils Q -/
def Ok {α : Type} (m : Option (α × En)) (Q : α → En → Prop) : Prop := ∃ a E, m = some (a, E) ∧ Q a E
def OkV {α : Type} (m : Option α) (Q : α → Prop) : Prop := ∃ a, m = some a ∧ Q a
theorem Ok.imp {α : Type} {m : Option (α × En)} {Q R : α → En → Prop} (h : Ok m Q) (i : ∀ a E, Q a E → R a E) : Ok m R := by
  obtain ⟨a, E, h1, h2⟩ := h
  exact ⟨a, E, h1, i a E h2⟩
theorem ok_congr {α : Type} {m m' : Option (α × En)} {Q : α → En → Prop} (h : m = m') : Ok m Q = Ok m' Q := by rw [h]
theorem okV_congr {α : Type} {m m' : Option α} {Q : α → Prop} (h : m = m') : OkV m Q = OkV m' Q := by rw [h]
theorem ok_some {α : Type} {a : α} {E : En} {Q : α → En → Prop} : Ok (some (a, E)) Q = Q a E := by
  apply propext
  constructor
  · rintro ⟨_, _, h, q⟩
    cases h
    exact q
  · exact fun h => ⟨a, E, rfl, h⟩
theorem ok_none {α : Type} {Q : α → En → Prop} : Ok (none : Option (α × En)) Q = False := by
  apply propext
  constructor
  · rintro ⟨_, _, h, q⟩
    cases h
  · exact False.elim
theorem okV_some {α : Type} {a : α} {Q : α → Prop} : OkV (some a) Q = Q a := by
  apply propext
  constructor
  · rintro ⟨_, h, q⟩
    cases h
    exact q
  · exact fun h => ⟨a, rfl, h⟩
theorem okV_none {α : Type} {Q : α → Prop} : OkV (none : Option α) Q = False := by
  apply propext
  constructor
  · rintro ⟨_, h, q⟩
    cases h
  · exact False.elim
theorem okV_if {α : Type} {c : Prop} [Decidable c] {a : Option α} {Q : α → Prop} : OkV (if c then a else none) Q = (c ∧ OkV a Q) := by
  by_cases h : c
  · rw [if_pos h]
    exact propext ⟨fun x => ⟨h, x⟩, fun x => x.2⟩
  · rw [if_neg h, okV_none]
    exact propext ⟨False.elim, fun x => h x.1⟩
theorem ok_if {α : Type} {c : Prop} [Decidable c] {a b : Option (α × En)} {Q : α → En → Prop} : Ok (if c then a else b) Q = if c then Ok a Q else Ok b Q := by
  by_cases h : c
  · rw [if_pos h, if_pos h]
  · rw [if_neg h, if_neg h]
theorem ok_ret {α : Type} {a : α} {E : En} {Q : α → En → Prop} : Ok (ret a E) Q = Q a E := ok_some
theorem ok_bnd {α β : Type} {f : SE α} {k : α → SE β} {E : En} {Q : β → En → Prop} : Ok (bnd f k E) Q = Ok (f E) fun a E1 => Ok (k a E1) Q := by
  unfold bnd
  cases h : f E with
  | none => rw [ok_none, ok_none]
  | some r => rw [ok_some]
theorem ok_lft {α : Type} {o : Option α} {E : En} {Q : α → En → Prop} : Ok (lft o E) Q = OkV o fun a => Q a E := by
  unfold lft
  cases o with
  | none => exact ok_none.trans okV_none.symm
  | some a => rw [okV_some]; exact ok_some
theorem ok_bin {fa fb : SE PyData} {g : PyData → PyData → Option PyData} {E : En} {Q : PyData → En → Prop} : Ok (bin fa fb g E) Q = Ok (fa E) fun d E1 => Ok (fb E1) fun e E2 => OkV (g d e) fun a => Q a E2 := by
  unfold bin
  simp only [ok_bnd, ok_lft]
theorem ok_una {fa : SE PyData} {g : PyData → Option PyData} {E : En} {Q : PyData → En → Prop} : Ok (una fa g E) Q = Ok (fa E) fun d E1 => OkV (g d) fun a => Q a E1 := by
  unfold una
  simp only [ok_bnd, ok_lft]
theorem ok_binL {fa fb : SE PyData} {g : PyData → PyData → Option (List PyData)} {E : En} {Q : List PyData → En → Prop} : Ok (binL fa fb g E) Q = Ok (fa E) fun d E1 => Ok (fb E1) fun e E2 => OkV (g d e) fun a => Q a E2 := by
  unfold binL
  simp only [ok_bnd, ok_lft]
theorem ok_unaL {fa : SE PyData} {g : PyData → Option (List PyData)} {E : En} {Q : List PyData → En → Prop} : Ok (unaL fa g E) Q = Ok (fa E) fun d E1 => OkV (g d) fun a => Q a E1 := by
  unfold unaL
  simp only [ok_bnd, ok_lft]
theorem ok_mny {α β : Type} {fs : SE α} {g : α → Option β} {E : En} {Q : β → En → Prop} : Ok (mny fs g E) Q = Ok (fs E) fun d E1 => OkV (g d) fun a => Q a E1 := by
  unfold mny
  simp only [ok_bnd, ok_lft]
theorem ok_rdD {i : Nat} {E : En} {Q : PyData → En → Prop} : Ok (rdD i E) Q = match E[i]? with
    | some (.dat d) => Q d E
    | _ => False := by
  unfold rdD
  cases E[i]? with
  | none => exact ok_none
  | some s => cases s <;> first | exact ok_some | exact ok_none
theorem ok_rdO {i : Nat} {E : En} {Q : PyData → En → Prop} : Ok (rdO i E) Q = match E[i]? with
    | some (.own d) => Q (.list d) E
    | _ => False := by
  unfold rdO
  cases E[i]? with
  | none => exact ok_none
  | some s => cases s <;> first | exact ok_some | exact ok_none
theorem ok_rdA {i : Nat} {E : En} {Q : PyData → En → Prop} : Ok (rdA i E) Q = match E[i]? with
    | some (.dat d) => Q d E
    | some (.own d) => Q (.list d) (E.set i (.dat (.list d)))
    | _ => False := by
  unfold rdA
  cases E[i]? with
  | none => exact ok_none
  | some s => cases s <;> first | exact ok_some | exact ok_none
theorem ok_toB {f : SE PyData} {E : En} {Q : Bool → En → Prop} : Ok (toB f E) Q = Ok (f E) fun d E1 => match d with
    | .bool b => Q b E1
    | _ => False := by
  unfold toB
  rw [ok_bnd]
  congr 1
  funext d E1
  cases d <;> first | exact ok_some | exact ok_none
theorem ok_sAnd {a b : SE Bool} {E : En} {Q : Bool → En → Prop} : Ok (sAnd a b E) Q = Ok (a E) fun x E1 => if x then Ok (b E1) Q else Q false E1 := by
  unfold sAnd
  rw [ok_bnd]
  congr 1
  funext x E1
  cases x
  · exact ok_some
  · rfl
theorem ok_sOr {a b : SE Bool} {E : En} {Q : Bool → En → Prop} : Ok (sOr a b E) Q = Ok (a E) fun x E1 => if x then Q true E1 else Ok (b E1) Q := by
  unfold sOr
  rw [ok_bnd]
  congr 1
  funext x E1
  cases x
  · rfl
  · exact ok_some
theorem ok_sNot {a : SE Bool} {E : En} {Q : Bool → En → Prop} : Ok (sNot a E) Q = Ok (a E) fun x E1 => Q (!x) E1 := by
  unfold sNot
  rw [ok_bnd]
  congr 1
  funext x E1
  exact ok_some
theorem ok_vAnd {a b : SE PyData} {E : En} {Q : PyData → En → Prop} : Ok (vAnd a b E) Q = Ok (toB a E) fun x E1 => if x then Ok (b E1) Q else Q (.bool false) E1 := by
  unfold vAnd
  rw [ok_bnd]
  congr 1
  funext x E1
  cases x
  · exact ok_some
  · rfl
theorem ok_vOr {a b : SE PyData} {E : En} {Q : PyData → En → Prop} : Ok (vOr a b E) Q = Ok (toB a E) fun x E1 => if x then Q (.bool true) E1 else Ok (b E1) Q := by
  unfold vOr
  rw [ok_bnd]
  congr 1
  funext x E1
  cases x
  · rfl
  · exact ok_some
theorem ok_sIf {t : SE Bool} {a b : SE PyData} {E : En} {Q : PyData → En → Prop} : Ok (sIf t a b E) Q = Ok (t E) fun x E1 => if x then Ok (a E1) Q else Ok (b E1) Q := by
  unfold sIf
  rw [ok_bnd]
  congr 1
  funext x E1
  cases x <;> rfl
theorem ok_chn {a b c : SE PyData} {g1 g2 : PyData → PyData → Option PyData} {E : En} {Q : PyData → En → Prop} : Ok (chn a b c g1 g2 E) Q = Ok (a E) fun d E1 => Ok (b E1) fun e E2 => OkV (g1 d e) fun k => match k with
    | .bool true => Ok (c E2) fun w E3 => OkV (g2 e w) fun z => Q z E3
    | .bool false => Q (.bool false) E2
    | _ => False := by
  unfold chn
  rw [ok_bnd]
  congr 1
  funext d E1
  rw [ok_bnd]
  congr 1
  funext e E2
  rw [ok_bnd, ok_toB, ok_lft]
  congr 1
  funext k
  cases k with
  | bool x =>
    cases x
    · exact ok_some
    · show Ok (bnd c _ E2) Q = _
      rw [ok_bnd]
      congr 1
      funext w E3
      exact ok_lft
  | _ => rfl
theorem ok_sNil {E : En} {Q : List PyData → En → Prop} : Ok (sNil E) Q = Q [] E := ok_some
theorem ok_sCons {a : SE PyData} {fs : SE (List PyData)} {E : En} {Q : List PyData → En → Prop} : Ok (sCons a fs E) Q = Ok (a E) fun d E1 => Ok (fs E1) fun ds E2 => Q (d :: ds) E2 := by
  unfold sCons
  simp only [ok_bnd, ok_ret]
theorem ok_dTup {fs : SE (List PyData)} {E : En} {Q : PyData → En → Prop} : Ok (dTup fs E) Q = Ok (fs E) fun ds E1 => ds.length ≤ sizeLine ∧ Q (.tuple ds) E1 := by
  unfold dTup
  rw [ok_bnd]
  congr 1
  funext ds E1
  by_cases h : ds.length ≤ sizeLine
  · rw [if_pos h, ok_ret]
    exact propext ⟨fun x => ⟨h, x⟩, fun x => x.2⟩
  · rw [if_neg h, ok_none]
    exact propext ⟨False.elim, fun x => h x.1⟩
theorem ok_dLst {fs : SE (List PyData)} {E : En} {Q : List PyData → En → Prop} : Ok (dLst fs E) Q = Ok (fs E) fun ds E1 => ds.length ≤ sizeLine ∧ Q ds E1 := by
  unfold dLst
  rw [ok_bnd]
  congr 1
  funext ds E1
  by_cases h : ds.length ≤ sizeLine
  · rw [if_pos h, ok_ret]
    exact propext ⟨fun x => ⟨h, x⟩, fun x => x.2⟩
  · rw [if_neg h, ok_none]
    exact propext ⟨False.elim, fun x => h x.1⟩
theorem ok_m0S {a : SE PyData} {g : Str → Option PyData} {E : En} {Q : PyData → En → Prop} : Ok (m0S a g E) Q = Ok (a E) fun d E1 => match d with
    | .str s => OkV (g s) fun z => Q z E1
    | _ => False := by
  unfold m0S
  rw [ok_bnd]
  congr 1
  funext d E1
  cases d <;> first | exact ok_lft | exact ok_none
theorem ok_m1S {a b : SE PyData} {g : Str → PyData → Option PyData} {E : En} {Q : PyData → En → Prop} : Ok (m1S a b g E) Q = Ok (a E) fun d E1 => match d with
    | .str s => Ok (b E1) fun e E2 => OkV (g s e) fun z => Q z E2
    | _ => False := by
  unfold m1S
  rw [ok_bnd]
  congr 1
  funext d E1
  cases d <;> first
    | exact ok_none
    | (show Ok (bnd b _ E1) Q = _
       rw [ok_bnd]
       congr 1
       funext w E3
       exact ok_lft)
theorem ok_m1L {a b : SE PyData} {g : Str → PyData → Option (List PyData)} {E : En} {Q : List PyData → En → Prop} : Ok (m1L a b g E) Q = Ok (a E) fun d E1 => match d with
    | .str s => Ok (b E1) fun e E2 => OkV (g s e) fun z => Q z E2
    | _ => False := by
  unfold m1L
  rw [ok_bnd]
  congr 1
  funext d E1
  cases d <;> first
    | exact ok_none
    | (show Ok (bnd b _ E1) Q = _
       rw [ok_bnd]
       congr 1
       funext w E3
       exact ok_lft)
theorem ok_ixO {i : Nat} {fb : SE PyData} {E : En} {Q : PyData → En → Prop} : Ok (ixO i fb E) Q = ((own? i E).isSome = true ∧ Ok (fb E) fun e E1 => OkV (own? i E1) fun xs => OkV (gIx (.list xs) e) fun z => Q z E1) := by
  unfold ixO
  cases h : own? i E with
  | none =>
    rw [ok_none]
    exact propext ⟨False.elim, fun x => nomatch x.1⟩
  | some xs =>
    show Ok (bnd fb _ E) Q = _
    rw [ok_bnd]
    refine propext ⟨fun x => ⟨rfl, x.imp fun a E1 y => ?_⟩, fun x => x.2.imp fun a E1 y => ?_⟩
    · cases e : own? i E1 with
      | none => rw [e] at y; exact absurd y (by rw [ok_none]; exact id)
      | some b =>
        rw [e] at y
        exact ⟨b, rfl, (Eq.mp ok_lft y)⟩
    · obtain ⟨b, e, y⟩ := y
      rw [e]
      exact Eq.mpr ok_lft y
theorem ok_sPart {f : SE PyData} {E : En} {Q : Option Int → En → Prop} : Ok (sPart f E) Q = Ok (f E) fun d E1 => match d with
    | .int i => Q (some i) E1
    | _ => False := by
  unfold sPart
  rw [ok_bnd]
  congr 1
  funext d E1
  cases d <;> first | exact ok_some | exact ok_none
theorem ok_sSl {f : SE PyData} {fl fh : SE (Option Int)} {E : En} {Q : PyData → En → Prop} : Ok (sSl f fl fh E) Q = Ok (f E) fun d E1 => Ok (fl E1) fun lo E2 => Ok (fh E2) fun hi E3 => OkV (gSl d lo hi) fun z => Q z E3 := by
  unfold sSl
  simp only [ok_bnd, ok_lft]
theorem ok_tupO {i : Nat} {E : En} {Q : PyData → En → Prop} : Ok (tupO i E) Q = OkV (own? i E) fun xs => Q (.tuple xs) E := by
  unfold tupO
  cases own? i E with
  | none => exact ok_none.trans okV_none.symm
  | some xs => rw [okV_some]; exact ok_some
theorem ok_sItems {a : SE PyData} {E : En} {Q : List PyData → En → Prop} : Ok (sItems a E) Q = Ok (a E) fun d E1 => OkV (itemsOf d) fun ds => Q ds E1 := by
  unfold sItems
  simp only [ok_bnd, ok_lft]
theorem ok_sScr {i : Nat} {E : En} {Q : List PyData → En → Prop} : Ok (sScr i E) Q = match E[i]? with
    | some (.scr ns) => Q (ns.map .int) E
    | _ => False := by
  unfold sScr
  cases E[i]? with
  | none => exact ok_none
  | some s => cases s <;> first | exact ok_some | exact ok_none
theorem ok_sEnum {a : SE PyData} {E : En} {Q : List PyData → En → Prop} : Ok (sEnum a E) Q = Ok (a E) fun d E1 => match d with
    | .tuple ys => Q (pairs 0 ys) E1
    | .str z => Q (pairs 0 (signs z)) E1
    | _ => False := by
  unfold sEnum
  rw [ok_bnd]
  congr 1
  funext d E1
  cases d <;> first | exact ok_some | exact ok_none
theorem ok_sRng1 {a : SE PyData} {E : En} {Q : List PyData → En → Prop} : Ok (sRng1 a E) Q = Ok (a E) fun d E1 => match d with
    | .int j => (-(2 ^ 62) ≤ j ∧ j < 2 ^ 62) ∧ Q (rngL 0 j.toNat) E1
    | _ => False := by
  unfold sRng1
  rw [ok_bnd]
  congr 1
  funext d E1
  cases d with
  | int j =>
    show Ok ((if -(2 ^ 62) ≤ j ∧ j < 2 ^ 62 then ret (rngL 0 j.toNat) else fun _ => none) E1) Q = ((-(2 ^ 62) ≤ j ∧ j < 2 ^ 62) ∧ Q (rngL 0 j.toNat) E1)
    by_cases h : -(2 ^ 62) ≤ j ∧ j < 2 ^ 62
    · rw [if_pos h, ok_ret]
      exact propext ⟨fun x => ⟨h, x⟩, fun x => x.2⟩
    · rw [if_neg h, ok_none]
      exact propext ⟨False.elim, fun x => h x.1⟩
  | _ => exact ok_none
theorem ok_sRng2 {a b : SE PyData} {E : En} {Q : List PyData → En → Prop} : Ok (sRng2 a b E) Q = Ok (a E) fun d E1 => Ok (b E1) fun e E2 => match d, e with
    | .int i, .int j => (-(2 ^ 62) ≤ i ∧ i < 2 ^ 62 ∧ -(2 ^ 62) ≤ j ∧ j < 2 ^ 62) ∧ Q (rngL i (j - i).toNat) E2
    | _, _ => False := by
  unfold sRng2
  rw [ok_bnd]
  congr 1
  funext d E1
  rw [ok_bnd]
  congr 1
  funext e E2
  cases d with
  | int i =>
    cases e with
    | int j =>
      show Ok ((if -(2 ^ 62) ≤ i ∧ i < 2 ^ 62 ∧ -(2 ^ 62) ≤ j ∧ j < 2 ^ 62 then ret (rngL i (j - i).toNat) else fun _ => none) E2) Q = ((-(2 ^ 62) ≤ i ∧ i < 2 ^ 62 ∧ -(2 ^ 62) ≤ j ∧ j < 2 ^ 62) ∧ Q (rngL i (j - i).toNat) E2)
      by_cases h : -(2 ^ 62) ≤ i ∧ i < 2 ^ 62 ∧ -(2 ^ 62) ≤ j ∧ j < 2 ^ 62
      · rw [if_pos h, ok_ret]
        exact propext ⟨fun x => ⟨h, x⟩, fun x => x.2⟩
      · rw [if_neg h, ok_none]
        exact propext ⟨False.elim, fun x => h x.1⟩
    | _ => exact ok_none
  | _ => cases e <;> exact ok_none

theorem ok_seqS {f g : SS} {E : En} {Q : Fl → En → Prop} : Ok (seqS f g E) Q = Ok (f E) fun fl E1 => match fl with
    | .nx => Ok (g E1) Q
    | r => Q r E1 := by
  unfold seqS
  cases h : f E with
  | none => exact ok_none.trans ok_none.symm
  | some r =>
    obtain ⟨fl, E1⟩ := r
    rw [ok_some]
    cases fl <;> first | rfl | exact ok_some
theorem ok_nxt {E : En} {Q : Fl → En → Prop} : Ok (nxt E) Q = Q .nx E := ok_some
theorem ok_brkS {E : En} {Q : Fl → En → Prop} : Ok (brkS E) Q = Q .bk E := ok_some
theorem ok_cntS {E : En} {Q : Fl → En → Prop} : Ok (cntS E) Q = Q .ct E := ok_some
theorem ok_retN {E : En} {Q : Fl → En → Prop} : Ok (retN E) Q = Q (.rt (.dat .none)) E := ok_some
theorem ok_m {α β : Type} {m : Option (α × En)} {k : α → En → Option (β × En)} {Q : β → En → Prop} : Ok (match m with
    | some (a, E1) => k a E1
    | none => none) Q = Ok m fun a E1 => Ok (k a E1) Q := by
  cases m with
  | none => rw [ok_none, ok_none]
  | some r => rw [ok_some]
theorem ok_drpS {a : SE PyData} {E : En} {Q : Fl → En → Prop} : Ok (drpS a E) Q = Ok (a E) fun _ E1 => Q .nx E1 := by
  unfold drpS
  cases a E with
  | none => exact ok_none.trans ok_none.symm
  | some r =>
    obtain ⟨d, E1⟩ := r
    simp only [ok_some]
theorem ok_asg {i : Nat} {a : SE PyData} {E : En} {Q : Fl → En → Prop} : Ok (asg i a E) Q = Ok (a E) fun d E1 => Q .nx (E1.set i (.dat d)) := by
  unfold asg
  cases a E with
  | none => exact ok_none.trans ok_none.symm
  | some r =>
    obtain ⟨d, E1⟩ := r
    simp only [ok_some]
theorem ok_asgL {i : Nat} {a : SE (List PyData)} {E : En} {Q : Fl → En → Prop} : Ok (asgL i a E) Q = Ok (a E) fun d E1 => Q .nx (E1.set i (.own d)) := by
  unfold asgL
  cases a E with
  | none => exact ok_none.trans ok_none.symm
  | some r =>
    obtain ⟨d, E1⟩ := r
    simp only [ok_some]
theorem ok_asgG {b : PyData → En → Option En} {a : SE PyData} {E : En} {Q : Fl → En → Prop} : Ok (asgG b a E) Q = Ok (a E) fun d E1 => OkV (b d E1) fun E2 => Q .nx E2 := by
  unfold asgG
  cases h : a E with
  | none => rw [ok_none, ok_none]
  | some r =>
    obtain ⟨d, E1⟩ := r
    rw [ok_some]
    show Ok (match b d E1 with | some E2 => some (.nx, E2) | none => none) Q = _
    cases b d E1 with
    | none => exact ok_none.trans okV_none.symm
    | some E2 => rw [okV_some, ok_some]
theorem ok_augS {i : Nat} {fn : Int → Int → Int} {a : SE PyData} {E : En} {Q : Fl → En → Prop} : Ok (augS i fn a E) Q = match E[i]? with
    | some (.dat (.int k)) => Ok (a E) fun d E1 => match d with
      | .int j => Q .nx (E1.set i (.dat (.int (fn k j))))
      | _ => False
    | _ => False := by
  unfold augS
  cases E[i]? with
  | none => exact ok_none
  | some s =>
    cases s with
    | dat d =>
      cases d with
      | int k =>
        simp only
        cases a E with
        | none => exact ok_none.trans ok_none.symm
        | some r =>
          obtain ⟨d, E1⟩ := r
          rw [ok_some]
          cases d <;> first | exact ok_some | exact ok_none
      | _ => exact ok_none
    | _ => exact ok_none
theorem ok_ifS {t : SE Bool} {g h : SS} {E : En} {Q : Fl → En → Prop} : Ok (ifS t g h E) Q = Ok (t E) fun x E1 => if x then Ok (g E1) Q else Ok (h E1) Q := by
  unfold ifS
  cases t E with
  | none => rw [ok_none, ok_none]
  | some r =>
    obtain ⟨x, E1⟩ := r
    rw [ok_some]
    cases x <;> rfl
theorem ok_retD {a : SE PyData} {E : En} {Q : Fl → En → Prop} : Ok (retD a E) Q = Ok (a E) fun d E1 => Q (.rt (.dat d)) E1 := by
  unfold retD
  cases a E with
  | none => exact ok_none.trans ok_none.symm
  | some r =>
    obtain ⟨d, E1⟩ := r
    simp only [ok_some]
theorem ok_retL {a : SE (List PyData)} {E : En} {Q : Fl → En → Prop} : Ok (retL a E) Q = Ok (a E) fun d E1 => Q (.rt (.own d)) E1 := by
  unfold retL
  cases a E with
  | none => exact ok_none.trans ok_none.symm
  | some r =>
    obtain ⟨d, E1⟩ := r
    simp only [ok_some]
theorem ok_retO {i : Nat} {E : En} {Q : Fl → En → Prop} : Ok (retO i E) Q = OkV (own? i E) fun xs => Q (.rt (.own xs)) (E.set i .un) := by
  unfold retO
  cases own? i E with
  | none => exact ok_none.trans okV_none.symm
  | some r => simp only [ok_some, okV_some]
theorem ok_appO {i : Nat} {a : SE PyData} {E : En} {Q : Fl → En → Prop} : Ok (appO i a E) Q = ((own? i E).isSome = true ∧ Ok (a E) fun d E1 => OkV (own? i E1) fun xs => xs.length < sizeLine ∧ Q .nx (E1.set i (.own (xs ++ [d])))) := by
  unfold appO
  cases h : own? i E with
  | none =>
    rw [ok_none]
    exact propext ⟨False.elim, fun x => nomatch x.1⟩
  | some xs0 =>
    have hs : (some xs0).isSome = true := rfl
    have e0 : ∀ P : Prop, ((some xs0).isSome = true ∧ P) = P := fun P => propext ⟨fun x => x.2, fun x => ⟨rfl, x⟩⟩
    rw [e0]
    cases h : a E with
    | none => exact ok_none.trans ok_none.symm
    | some r =>
      obtain ⟨d, E1⟩ := r
      rw [ok_some]
      cases h1 : own? i E1 with
      | none => simp only [h1]; exact ok_none.trans okV_none.symm
      | some xs =>
        simp only [h1]
        rw [okV_some]
        by_cases hl : xs.length < sizeLine
        · rw [if_pos hl, ok_some]
          exact propext ⟨fun x => ⟨hl, x⟩, fun x => x.2⟩
        · rw [if_neg hl, ok_none]
          exact propext ⟨False.elim, fun x => hl x.1⟩
theorem ok_setO {i : Nat} {a fi : SE PyData} {E : En} {Q : Fl → En → Prop} : Ok (setO i a fi E) Q = Ok (a E) fun d E1 => (own? i E1).isSome = true ∧ Ok (fi E1) fun k E2 => match k with
    | .int k => OkV (own? i E2) fun xs => OkV (ixN xs.length k) fun j => Q .nx (E2.set i (.own (xs.set j d)))
    | _ => False := by
  unfold setO
  cases h : a E with
  | none => exact ok_none.trans ok_none.symm
  | some r =>
    obtain ⟨d, E1⟩ := r
    simp only [ok_some]
    cases h : own? i E1 with
    | none =>
      simp only [ok_none]
      exact propext ⟨False.elim, fun x => nomatch x.1⟩
    | some xs0 =>
      simp only
      have e0 : ∀ P : Prop, ((some xs0).isSome = true ∧ P) = P := fun P => propext ⟨fun x => x.2, fun x => ⟨rfl, x⟩⟩
      rw [e0]
      cases h : fi E1 with
      | none => exact ok_none.trans ok_none.symm
      | some r =>
        obtain ⟨k, E2⟩ := r
        simp only [ok_some]
        cases k with
        | int k =>
          simp only
          cases own? i E2 with
          | none => exact ok_none.trans okV_none.symm
          | some xs =>
            simp only [okV_some]
            cases ixN xs.length k with
            | none => exact ok_none.trans okV_none.symm
            | some j => simp only [ok_some, okV_some]
        | _ => exact ok_none
theorem ok_extO {i : Nat} {a : SE PyData} {E : En} {Q : Fl → En → Prop} : Ok (extO i a E) Q = ((own? i E).isSome = true ∧ Ok (a E) fun d E1 => OkV (own? i E1) fun xs => OkV (gList d) fun ys => xs.length + ys.length ≤ sizeLine ∧ Q .nx (E1.set i (.own (xs ++ ys)))) := by
  unfold extO
  cases h : own? i E with
  | none =>
    rw [ok_none]
    exact propext ⟨False.elim, fun x => nomatch x.1⟩
  | some xs0 =>
    have e0 : ∀ P : Prop, ((some xs0).isSome = true ∧ P) = P := fun P => propext ⟨fun x => x.2, fun x => ⟨rfl, x⟩⟩
    rw [e0]
    cases h : a E with
    | none => exact ok_none.trans ok_none.symm
    | some r =>
      obtain ⟨d, E1⟩ := r
      rw [ok_some]
      cases h1 : own? i E1 with
      | none =>
        rw [okV_none]
        show Ok (match own? i E1, gList d with | some xs, some ys => _ | _, _ => none) Q = _
        rw [h1]
        exact ok_none
      | some xs =>
        rw [okV_some]
        show Ok (match own? i E1, gList d with | some xs, some ys => _ | _, _ => none) Q = _
        rw [h1]
        cases h2 : gList d with
        | none => exact ok_none.trans okV_none.symm
        | some ys =>
          rw [okV_some]
          show Ok (if xs.length + ys.length ≤ sizeLine then some (Fl.nx, E1.set i (.own (xs ++ ys))) else none) Q = _
          by_cases hl : xs.length + ys.length ≤ sizeLine
          · rw [if_pos hl, ok_some]
            exact propext ⟨fun x => ⟨hl, x⟩, fun x => x.2⟩
          · rw [if_neg hl, ok_none]
            exact propext ⟨False.elim, fun x => hl x.1⟩
theorem ok_popS {i : Nat} {E : En} {Q : Fl → En → Prop} : Ok (popO i E) Q = OkV (own? i E) fun xs => xs.length ≠ 0 ∧ Q .nx (E.set i (.own xs.dropLast)) := by
  unfold popO
  cases own? i E with
  | none => exact ok_none.trans okV_none.symm
  | some xs =>
    simp only [okV_some]
    by_cases h : xs.length = 0
    · rw [if_pos h, ok_none]
      exact propext ⟨False.elim, fun x => x.1 h⟩
    · rw [if_neg h, ok_some]
      exact propext ⟨fun x => ⟨h, x⟩, fun x => x.2⟩
theorem ok_forS {it : SE (List PyData)} {bb : PyData → En → Option En} {g : SS} {E : En} {Q : Fl → En → Prop} : Ok (forS it bb g E) Q = Ok (it E) fun ds E1 => Ok (forL bb g ds E1) Q := by
  unfold forS
  cases it E with
  | none => exact ok_none.trans ok_none.symm
  | some r =>
    obtain ⟨d, E1⟩ := r
    simp only [ok_some]
theorem ok_forL_nil {bb : PyData → En → Option En} {g : SS} {E : En} {Q : Fl → En → Prop} : Ok (forL bb g [] E) Q = Q .nx E := ok_some
theorem ok_forL_cons {bb : PyData → En → Option En} {g : SS} {d : PyData} {ds : List PyData} {E : En} {Q : Fl → En → Prop} : Ok (forL bb g (d :: ds) E) Q = OkV (bb d E) fun E1 => Ok (g E1) fun fl E2 => match fl with
    | .nx => Ok (forL bb g ds E2) Q
    | .ct => Ok (forL bb g ds E2) Q
    | .bk => Q .nx E2
    | .rt s => Q (.rt s) E2 := by
  show Ok (match bb d E with | some E1 => _ | none => none) Q = _
  cases h : bb d E with
  | none => exact ok_none.trans okV_none.symm
  | some E1 =>
    rw [okV_some]
    show Ok (match g E1 with | some (.nx, E2) => forL bb g ds E2 | some (.ct, E2) => forL bb g ds E2 | some (.bk, E2) => some (.nx, E2) | r => r) Q = _
    cases h : g E1 with
    | none => exact ok_none.trans ok_none.symm
    | some r =>
      obtain ⟨fl, E2⟩ := r
      rw [ok_some]
      cases fl <;> first | rfl | exact ok_some
theorem ok_lcS {fs : SE (List PyData)} {vs : List Nat} {bb : PyData → En → Option En} {t : SE Bool} {fe : SE PyData} {E : En} {Q : List PyData → En → Prop} : Ok (lcS fs vs bb t fe E) Q = Ok (fs E) fun ds E1 => ds.length < sizeLine ∧ Ok (lcL vs bb t fe ds E1) Q := by
  unfold lcS
  cases h : fs E with
  | none => exact ok_none.trans ok_none.symm
  | some r =>
    obtain ⟨ds, E1⟩ := r
    rw [ok_some]
    show Ok (if ds.length < sizeLine then lcL vs bb t fe ds E1 else none) Q = _
    by_cases hl : ds.length < sizeLine
    · rw [if_pos hl]
      exact propext ⟨fun x => ⟨hl, x⟩, fun x => x.2⟩
    · rw [if_neg hl, ok_none]
      exact propext ⟨False.elim, fun x => hl x.1⟩
theorem ok_yesS {E : En} {Q : Bool → En → Prop} : Ok (yesS E) Q = Q true E := ok_some
theorem ok_lcL_nil {vs : List Nat} {bb : PyData → En → Option En} {t : SE Bool} {fe : SE PyData} {E : En} {Q : List PyData → En → Prop} : Ok (lcL vs bb t fe [] E) Q = Q [] E := ok_some
theorem ok_lcL_cons {vs : List Nat} {bb : PyData → En → Option En} {t : SE Bool} {fe : SE PyData} {d : PyData} {ds : List PyData} {E : En} {Q : List PyData → En → Prop} : Ok (lcL vs bb t fe (d :: ds) E) Q = OkV (wipE vs E) fun E0 => OkV (bb d E0) fun E1 => Ok (t E1) fun x E2 =>
    if x then Ok (fe E2) fun y E3 => Ok (lcL vs bb t fe ds (bakE vs E E3)) fun ys E4 => Q (y :: ys) E4 else Ok (lcL vs bb t fe ds (bakE vs E E2)) Q := by
  show Ok (match wipE vs E with | some E0 => _ | none => none) Q = _
  cases h : wipE vs E with
  | none => exact ok_none.trans okV_none.symm
  | some E0 =>
    rw [okV_some]
    show Ok (match bb d E0 with | some E1 => _ | none => none) Q = _
    cases h : bb d E0 with
    | none => exact ok_none.trans okV_none.symm
    | some E1 =>
      rw [okV_some]
      show Ok (match t E1 with | some (true, E2) => _ | some (false, E2) => _ | none => none) Q = _
      cases h : t E1 with
      | none => exact ok_none.trans ok_none.symm
      | some r =>
        obtain ⟨x, E2⟩ := r
        rw [ok_some]
        cases x with
        | false => rfl
        | true =>
          cases h : fe E2 with
          | none => simp only [h]; exact ok_none.trans ok_none.symm
          | some r =>
            obtain ⟨y, E3⟩ := r
            simp only [h, ok_some, if_pos]
            cases lcL vs bb t fe ds (bakE vs E E3) with
            | none => exact ok_none.trans ok_none.symm
            | some r =>
              obtain ⟨ys, E4⟩ := r
              simp only [ok_some]
theorem okV_callD {g : Fn} {ds : List PyData} {Q : PyData → Prop} : OkV (callD g ds) Q = Ok (g (ds.map .dat)) fun s _ => match s with
    | .dat d => Q d
    | .own xs => Q (.list xs)
    | _ => False := by
  unfold callD
  cases g (ds.map .dat) with
  | none => exact okV_none.trans ok_none.symm
  | some r =>
    obtain ⟨s, E⟩ := r
    rw [ok_some]
    cases s <;> first | exact okV_some | exact okV_none
theorem okV_callV {g : Fn} {ds : List PyData} {Q : List PyData → Prop} : OkV (callV g ds) Q = Ok (g (ds.map .dat)) fun s _ => match s with
    | .own xs => Q xs
    | _ => False := by
  unfold callV
  cases g (ds.map .dat) with
  | none => exact okV_none.trans ok_none.symm
  | some r =>
    obtain ⟨s, E⟩ := r
    rw [ok_some]
    cases s <;> first | exact okV_some | exact okV_none
theorem ok_callM {i : Nat} {g : Fn} {fs : SE (List PyData)} {E : En} {Q : Sl → En → Prop} : Ok (callM i g fs E) Q = ((own? i E).isSome = true ∧ Ok (fs E) fun ds E1 => OkV (own? i E1) fun xs => Ok (g (.own xs :: ds.map .dat)) fun r outs => match outs with
    | .own ys :: _ => Q r (E1.set i (.own ys))
    | _ => False) := by
  unfold callM
  cases h : own? i E with
  | none =>
    rw [ok_none]
    exact propext ⟨False.elim, fun x => nomatch x.1⟩
  | some xs0 =>
    have e0 : ∀ P : Prop, ((some xs0).isSome = true ∧ P) = P := fun P => propext ⟨fun x => x.2, fun x => ⟨rfl, x⟩⟩
    rw [e0]
    cases h : fs E with
    | none => exact ok_none.trans ok_none.symm
    | some r =>
      obtain ⟨ds, E1⟩ := r
      rw [ok_some]
      cases h1 : own? i E1 with
      | none => simp only [h1]; exact ok_none.trans okV_none.symm
      | some xs =>
        simp only [h1, okV_some]
        cases h : g (.own xs :: ds.map .dat) with
        | none => exact ok_none.trans ok_none.symm
        | some r =>
          obtain ⟨r, outs⟩ := r
          simp only [ok_some]
          cases outs with
          | nil => exact ok_none
          | cons o os => cases o <;> first | exact ok_some | exact ok_none
theorem ok_asD {f : SE Sl} {E : En} {Q : PyData → En → Prop} : Ok (asD f E) Q = Ok (f E) fun s E1 => match s with
    | .dat d => Q d E1
    | .own xs => Q (.list xs) E1
    | _ => False := by
  unfold asD
  cases f E with
  | none => exact ok_none.trans ok_none.symm
  | some r =>
    obtain ⟨s, E⟩ := r
    rw [ok_some]
    cases s <;> first | exact ok_some | exact ok_none
theorem ok_asL {f : SE Sl} {E : En} {Q : List PyData → En → Prop} : Ok (asL f E) Q = Ok (f E) fun s E1 => match s with
    | .own xs => Q xs E1
    | _ => False := by
  unfold asL
  cases f E with
  | none => exact ok_none.trans ok_none.symm
  | some r =>
    obtain ⟨s, E⟩ := r
    rw [ok_some]
    cases s <;> first | exact ok_some | exact ok_none
theorem ok_callS {i : Nat} {g : Fn} {E : En} {Q : List PyData → En → Prop} : Ok (callS i g E) Q = match E[i]? with
    | some (.scr ns) => Ok (g [.scr ns]) fun s _ => match s with
      | .own xs => Q xs E
      | _ => False
    | _ => False := by
  unfold callS
  cases E[i]? with
  | none => exact ok_none
  | some s =>
    cases s with
    | scr ns =>
      simp only
      cases g [.scr ns] with
      | none => exact ok_none.trans ok_none.symm
      | some r =>
        obtain ⟨s, E⟩ := r
        rw [ok_some]
        cases s <;> first | exact ok_some | exact ok_none
    | _ => exact ok_none
theorem ok_runF {n N : Nat} {body : SS} {as : List Sl} {Q : Sl → En → Prop} : Ok (runF n N body as) Q = (as.length = n ∧ Ok (body (as ++ List.replicate (N - n) .un)) fun fl E => match fl with
    | .rt s => OkV (collect as E) fun outs => Q s outs
    | .nx => OkV (collect as E) fun outs => Q (.dat .none) outs
    | _ => False) := by
  unfold runF
  by_cases hl : as.length = n
  · rw [if_pos hl]
    have e0 : ∀ P : Prop, (as.length = n ∧ P) = P := fun P => propext ⟨fun x => x.2, fun x => ⟨hl, x⟩⟩
    rw [e0]
    cases h : body (as ++ List.replicate (N - n) .un) with
    | none => exact ok_none.trans ok_none.symm
    | some r =>
      obtain ⟨fl, E⟩ := r
      rw [ok_some]
      cases fl with
      | rt s =>
        cases h : collect as E with
        | none => simp only [h]; exact ok_none.trans okV_none.symm
        | some o => simp only [h, ok_some, okV_some]
      | nx =>
        cases h : collect as E with
        | none => simp only [h]; exact ok_none.trans okV_none.symm
        | some o => simp only [h, ok_some, okV_some]
      | _ => exact ok_none
  · rw [if_neg hl, ok_none]
    exact propext ⟨False.elim, fun x => hl x.1⟩
end Fw
namespace Fw
open PySem PySem.Spec L2
theorem gAdd_ii {i j : Int} : gAdd (.int i) (.int j) = some (.int (i + j)) := rfl
theorem gAdd_ss {i j : Str} : gAdd (.str i) (.str j) = if i.length + j.length ≤ sizeLine then some (.str (i ++ j)) else none := rfl
theorem gAdd_tt {i j : List PyData} : gAdd (.tuple i) (.tuple j) = if i.length + j.length ≤ sizeLine then some (.tuple (i ++ j)) else none := rfl
theorem gSub_ii {i j : Int} : gSub (.int i) (.int j) = some (.int (i - j)) := rfl
theorem gMul_ii {i j : Int} : gMul (.int i) (.int j) = if cMul i j = true then some (.int (i * j)) else none := rfl
theorem cMul_r {i j : Int} (h1 : -(2 ^ 64) < j) (h2 : j < 2 ^ 64) : cMul i j = true := by
  unfold cMul
  rw [Bool.or_eq_true]
  exact .inr (decide_eq_true ⟨h1, h2⟩)
theorem cMul_l {i j : Int} (h1 : -(2 ^ 64) < i) (h2 : i < 2 ^ 64) : cMul i j = true := by
  unfold cMul
  rw [Bool.or_eq_true]
  exact .inl (decide_eq_true ⟨h1, h2⟩)
theorem gDiv_ii {i j : Int} : gDiv (.int i) (.int j) = if 0 < j ∧ j < 18446744073709551616 then some (.int (i / j)) else none := by
  show (if decide (0 < j ∧ j < 18446744073709551616) = true then _ else _) = _
  simp only [decide_eq_true_eq]
theorem gMod_ii {i j : Int} : gMod (.int i) (.int j) = if 0 < j then some (.int (i % j)) else none := by
  show (if decide (0 < j) = true then _ else _) = _
  simp only [decide_eq_true_eq]
theorem gNeg_i {i : Int} : gNeg (.int i) = some (.int (-i)) := rfl
theorem gLt_ii {i j : Int} : gLt (.int i) (.int j) = some (.bool (decide (i < j))) := rfl
theorem gGt_ii {i j : Int} : gGt (.int i) (.int j) = some (.bool (decide (j < i))) := rfl
theorem gGe_ii {i j : Int} : gGe (.int i) (.int j) = some (.bool (decide (j ≤ i))) := rfl
theorem gLe_ii {i j : Int} : gLe (.int i) (.int j) = some (.bool (decide (i ≤ j))) := rfl
theorem eqv_ii {i j : Int} : PyData.eqv (.int i) (.int j) = decide (i = j) := by
  unfold PyData.eqv
  rfl
theorem eqv_ss {i j : Str} : PyData.eqv (.str i) (.str j) = decide (i = j) := by
  unfold PyData.eqv
  rfl
theorem eqv_bb {i j : Bool} : PyData.eqv (.bool i) (.bool j) = (i == j) := by
  unfold PyData.eqv
  rfl
theorem eqv_nn : PyData.eqv .none .none = true := by unfold PyData.eqv; rfl
theorem eqv_ni {i : Int} : PyData.eqv .none (.int i) = false := by unfold PyData.eqv; rfl
theorem eqv_in {i : Int} : PyData.eqv (.int i) .none = false := by unfold PyData.eqv; rfl
theorem eqv_ns {i : Str} : PyData.eqv .none (.str i) = false := by unfold PyData.eqv; rfl
theorem eqv_sn {i : Str} : PyData.eqv (.str i) .none = false := by unfold PyData.eqv; rfl
theorem eqv_nb {i : Bool} : PyData.eqv .none (.bool i) = false := by unfold PyData.eqv; rfl
theorem eqv_bn {i : Bool} : PyData.eqv (.bool i) .none = false := by unfold PyData.eqv; rfl
theorem eqv_is {i : Int} {s : Str} : PyData.eqv (.int i) (.str s) = false := by unfold PyData.eqv; rfl
theorem eqv_si {i : Int} {s : Str} : PyData.eqv (.str s) (.int i) = false := by unfold PyData.eqv; rfl
theorem eqv_nt {xs : List PyData} : PyData.eqv .none (.tuple xs) = false := by unfold PyData.eqv; rfl
theorem eqv_tn {xs : List PyData} : PyData.eqv (.tuple xs) .none = false := by unfold PyData.eqv; rfl
theorem eqv_nl {xs : List PyData} : PyData.eqv .none (.list xs) = false := by unfold PyData.eqv; rfl
theorem eqv_ln {xs : List PyData} : PyData.eqv (.list xs) .none = false := by unfold PyData.eqv; rfl
theorem eqv_tt {xs ys : List PyData} : PyData.eqv (.tuple xs) (.tuple ys) = PyData.eqvAll xs ys := by rw [PyData.eqv]
theorem eqv_ll {xs ys : List PyData} : PyData.eqv (.list xs) (.list ys) = PyData.eqvAll xs ys := by rw [PyData.eqv]
theorem eqvA_nn : PyData.eqvAll [] [] = true := by rw [PyData.eqvAll]
theorem eqvA_cc {x y : PyData} {xs ys : List PyData} : PyData.eqvAll (x :: xs) (y :: ys) = (PyData.eqv x y && PyData.eqvAll xs ys) := by rw [PyData.eqvAll]
theorem eqvA_nc {y : PyData} {ys : List PyData} : PyData.eqvAll [] (y :: ys) = false := by rw [PyData.eqvAll]
theorem eqvA_cn {y : PyData} {ys : List PyData} : PyData.eqvAll (y :: ys) [] = false := by rw [PyData.eqvAll]
theorem gEq_ii {i j : Int} : gEq (.int i) (.int j) = some (.bool (decide (i = j))) := by rw [← eqv_ii]; rfl
theorem gEq_ss {i j : Str} : gEq (.str i) (.str j) = some (.bool (decide (i = j))) := by rw [← eqv_ss]; rfl
theorem gEq_bb {i j : Bool} : gEq (.bool i) (.bool j) = some (.bool (i == j)) := by rw [← eqv_bb]; rfl
theorem gEq_nn : gEq .none .none = some (.bool true) := by rw [← eqv_nn]; rfl
theorem gEq_in {i : Int} : gEq (.int i) .none = some (.bool false) := by rw [← eqv_in]; rfl
theorem gEq_ni {i : Int} : gEq .none (.int i) = some (.bool false) := by rw [← eqv_ni]; rfl
theorem gEq_sn {i : Str} : gEq (.str i) .none = some (.bool false) := by rw [← eqv_sn]; rfl
theorem gEq_ns {i : Str} : gEq .none (.str i) = some (.bool false) := by rw [← eqv_ns]; rfl
theorem gEq_si {i : Str} {j : Int} : gEq (.str i) (.int j) = some (.bool false) := by rw [← @eqv_si j i]; rfl
theorem gEq_is {i : Str} {j : Int} : gEq (.int j) (.str i) = some (.bool false) := by rw [← @eqv_is j i]; rfl
theorem gEq_tt {xs ys : List PyData} : gEq (.tuple xs) (.tuple ys) = if (SeqAt.shaped (.tuple xs) && SeqAt.shaped (.tuple ys)) = true then some (.bool (PyData.eqvAll xs ys)) else none := by rw [← eqv_tt]; rfl
theorem gEq_ll {xs ys : List PyData} : gEq (.list xs) (.list ys) = if (SeqAt.shaped (.list xs) && SeqAt.shaped (.list ys)) = true then some (.bool (PyData.eqvAll xs ys)) else none := by rw [← eqv_ll]; rfl
theorem gNe_ii {i j : Int} : gNe (.int i) (.int j) = some (.bool (!decide (i = j))) := by rw [← eqv_ii]; rfl
theorem gNe_ss {i j : Str} : gNe (.str i) (.str j) = some (.bool (!decide (i = j))) := by rw [← eqv_ss]; rfl
theorem gNe_bb {i j : Bool} : gNe (.bool i) (.bool j) = some (.bool (!(i == j))) := by rw [← eqv_bb]; rfl
theorem gNe_nn : gNe .none .none = some (.bool false) := by
  show some (PyData.bool (!PyData.eqv .none .none)) = _
  rw [eqv_nn]; rfl
theorem gNe_tt {xs ys : List PyData} : gNe (.tuple xs) (.tuple ys) = if (SeqAt.shaped (.tuple xs) && SeqAt.shaped (.tuple ys)) = true then some (.bool (!PyData.eqvAll xs ys)) else none := by rw [← eqv_tt]; rfl
theorem gNe_ll {xs ys : List PyData} : gNe (.list xs) (.list ys) = if (SeqAt.shaped (.list xs) && SeqAt.shaped (.list ys)) = true then some (.bool (!PyData.eqvAll xs ys)) else none := by rw [← eqv_ll]; rfl
theorem gNot_b {b : Bool} : gNot (.bool b) = some (.bool (!b)) := rfl
theorem gIsN_n : gIsN .none = some (.bool true) := rfl
theorem gIsN_i {i : Int} : gIsN (.int i) = some (.bool false) := rfl
theorem gIsN_b {i : Bool} : gIsN (.bool i) = some (.bool false) := rfl
theorem gIsN_s {i : Str} : gIsN (.str i) = some (.bool false) := rfl
theorem gIsN_t {i : List PyData} : gIsN (.tuple i) = some (.bool false) := rfl
theorem gIsN_l {i : List PyData} : gIsN (.list i) = some (.bool false) := rfl
theorem gNotN_n : gNotN .none = some (.bool false) := rfl
theorem gNotN_i {i : Int} : gNotN (.int i) = some (.bool true) := rfl
theorem gNotN_b {i : Bool} : gNotN (.bool i) = some (.bool true) := rfl
theorem gNotN_s {i : Str} : gNotN (.str i) = some (.bool true) := rfl
theorem gNotN_t {i : List PyData} : gNotN (.tuple i) = some (.bool true) := rfl
theorem gNotN_l {i : List PyData} : gNotN (.list i) = some (.bool true) := rfl
theorem gIx_l {ys : List PyData} {i : Int} : gIx (.list ys) (.int i) = atI ys i := rfl
theorem gIx_t {ys : List PyData} {i : Int} : gIx (.tuple ys) (.int i) = atI ys i := rfl
theorem gIx_s {z : Str} {i : Int} : gIx (.str z) (.int i) = if z.length ≤ sizeLine then (atI z.cps.toList i).map fun c => .str ⟨#[c]⟩ else none := rfl
theorem ixN_nat {n k : Nat} : ixN n (k : Int) = if k < n then some k else none := by
  unfold ixN
  rw [if_pos (by omega)]
  by_cases h : k < n
  · rw [if_pos (by omega), if_pos h]; simp
  · rw [if_neg (by omega), if_neg h]
theorem ixN_lit {n k : Nat} : ixN n (no_index (OfNat.ofNat k : Int)) = if k < n then some k else none := ixN_nat
theorem atI_nat {α : Type} {ys : List α} {n : Nat} : atI ys (n : Int) = ys[n]? := by
  unfold atI
  rw [ixN_nat]
  by_cases h : n < ys.length
  · rw [if_pos h]; rfl
  · rw [if_neg h]; simp; omega
theorem atI_lit {α : Type} {ys : List α} {n : Nat} : atI ys (no_index (OfNat.ofNat n : Int)) = ys[n]? := atI_nat
theorem atI_m1 {α : Type} {ys : List α} : atI ys (-1) = ys.getLast? := by
  unfold atI ixN
  rw [if_neg (by omega), List.getLast?_eq_getElem?]
  by_cases h : ys = []
  · subst h; rfl
  · have : 0 < ys.length := List.length_pos_iff.mpr h
    rw [if_pos (by omega)]
    show ys[((-1 : Int) + ys.length).toNat]? = _
    congr 1
    omega
theorem gLen_s {z : Str} : gLen (.str z) = if z.length ≤ sizeLine then some (.int z.length) else none := rfl
theorem gLen_l {z : List PyData} : gLen (.list z) = some (.int z.length) := rfl
theorem gLen_t {z : List PyData} : gLen (.tuple z) = some (.int z.length) := rfl
theorem gAbs_i {i : Int} : gAbs (.int i) = some (.int (if i < 0 then -i else i)) := rfl
theorem gInt_i {i : Int} : gInt (.int i) = some (.int i) := rfl
theorem gInt_b {i : Bool} : gInt (.bool i) = some (.int (if i then 1 else 0)) := rfl
theorem gInt_s {z : Str} : gInt (.str z) = if z.length ≤ 640 then (PySem.intText? z).map .int else none := rfl
theorem gOrd_s {z : Str} : gOrd (.str z) = if z.length = 1 then some (.int (z.cps.getD 0 0 : Nat)) else none := rfl
theorem gOrd_sign {c : Nat} : gOrd (.str ⟨#[c]⟩) = some (.int c) := rfl
theorem gStr_i {i : Int} : gStr (.int i) = if i.natAbs.log2 < 1920 then some (.str (toString i)) else none := rfl
theorem gStr_s {z : Str} : gStr (.str z) = some (.str z) := rfl
theorem gTuple_l {ys : List PyData} : gTuple (.list ys) = some (.tuple ys) := rfl
theorem gTuple_t {ys : List PyData} : gTuple (.tuple ys) = some (.tuple ys) := rfl
theorem gStrip_s {s t : Str} : gStrip s (.str t) = if s.length ≤ sizeLine then some (.str (Txt.stripChars s t)) else none := rfl
theorem gLstrip_s {s t : Str} : gLstrip s (.str t) = if s.length ≤ sizeLine then some (.str (Txt.lstripChars s t)) else none := rfl
theorem gSplit_s {s t : Str} : gSplit s (.str t) = if (t.length == 0) = false ∧ s.length + 2 ≤ sizeLine then some ((Txt.split s t).map .str) else none := rfl
theorem gPartition_s {s t : Str} : gPartition s (.str t) = if (t.length == 0) = false ∧ s.length ≤ sizeLine then some (.tuple [.str (Txt.partition s t).1, .str (Txt.partition s t).2.1, .str (Txt.partition s t).2.2]) else none := rfl
theorem strsOf_map (zs : List Str) : strsOf (zs.map .str) = some zs := by
  induction zs with
  | nil => rfl
  | cons z zs ih =>
    rw [List.map_cons, strsOf, ih]
    rfl
theorem gJoin_m {s : Str} {zs : List Str} : gJoin s (.list (zs.map .str)) = if (zs.map (·.length)).sum + zs.length * s.length ≤ 16777216 then some (.str (Txt.join s zs)) else none := by
  show (match strsOf (zs.map .str) with | some zs => _ | none => none) = _
  rw [strsOf_map]
theorem gCat_ll {xs ys : List PyData} : gCat (.list xs) (.list ys) = if xs.length + ys.length ≤ sizeLine then some (xs ++ ys) else none := rfl
theorem gSl_s {z : Str} {lo hi : Option Int} : gSl (.str z) lo hi = if z.length ≤ sizeLine then some (.str (cutS z lo hi)) else none := rfl
theorem gSl_t {z : List PyData} {lo hi : Option Int} : gSl (.tuple z) lo hi = some (.tuple (cutL z lo hi)) := rfl
theorem gSl_l {z : List PyData} {lo hi : Option Int} : gSl (.list z) lo hi = some (.list (cutL z lo hi)) := rfl
theorem itemsOf_l {z : List PyData} : itemsOf (.list z) = some z := rfl
theorem itemsOf_t {z : List PyData} : itemsOf (.tuple z) = some z := rfl
theorem itemsOf_s {z : Str} : itemsOf (.str z) = some (signs z) := rfl
theorem flat_map_str {zs : List Str} : (zs.map PyData.str).all flatD = true := by simp [flatD, Function.comp_def]
theorem flat_map_int {zs : List Int} : (zs.map PyData.int).all flatD = true := by simp [flatD, Function.comp_def]
theorem gIn_lf {d : PyData} {ys : List PyData} (h1 : flatD d = true) (h2 : ys.all flatD = true) : gIn d (.list ys) = some (.bool (ys.any fun y => PyData.eqv y d)) := by
  unfold gIn gInB
  cases d <;> first | (simp only [h1, h2, Bool.and_self, if_true]; rfl) | cases h1
theorem gIn_tf {d : PyData} {ys : List PyData} (h1 : flatD d = true) (h2 : ys.all flatD = true) : gIn d (.tuple ys) = some (.bool (ys.any fun y => PyData.eqv y d)) := by
  unfold gIn gInB
  cases d <;> first | (simp only [h1, h2, Bool.and_self, if_true]; rfl) | cases h1
theorem gNin_lf {d : PyData} {ys : List PyData} (h1 : flatD d = true) (h2 : ys.all flatD = true) : gNin d (.list ys) = some (.bool (!ys.any fun y => PyData.eqv y d)) := by
  unfold gNin gInB
  cases d <;> first | (simp only [h1, h2, Bool.and_self, if_true]; rfl) | cases h1
theorem gNin_tf {d : PyData} {ys : List PyData} (h1 : flatD d = true) (h2 : ys.all flatD = true) : gNin d (.tuple ys) = some (.bool (!ys.any fun y => PyData.eqv y d)) := by
  unfold gNin gInB
  cases d <;> first | (simp only [h1, h2, Bool.and_self, if_true]; rfl) | cases h1
theorem gIn_ld {d : PyData} {ys : List PyData} (h1 : flatD d = false) (h2 : SeqAt.shaped d = true) (h3 : SeqAt.shaped (.list ys) = true) : gIn d (.list ys) = some (.bool (ys.any fun y => PyData.eqv y d)) := by
  unfold gIn gInB
  cases d <;> simp only [h1, h2, h3, Bool.and_self, if_true, Bool.false_and, if_false, Bool.false_eq_true] <;> rfl
theorem gNin_ld {d : PyData} {ys : List PyData} (h1 : flatD d = false) (h2 : SeqAt.shaped d = true) (h3 : SeqAt.shaped (.list ys) = true) : gNin d (.list ys) = some (.bool (!ys.any fun y => PyData.eqv y d)) := by
  unfold gNin gInB
  cases d <;> simp only [h1, h2, h3, Bool.and_self, if_true, Bool.false_and, if_false, Bool.false_eq_true] <;> rfl
theorem gIn_td {d : PyData} {ys : List PyData} (h1 : flatD d = false) (h2 : SeqAt.shaped d = true) (h3 : SeqAt.shaped (.tuple ys) = true) : gIn d (.tuple ys) = some (.bool (ys.any fun y => PyData.eqv y d)) := by
  unfold gIn gInB
  cases d <;> simp only [h1, h2, h3, Bool.and_self, if_true, Bool.false_and, if_false, Bool.false_eq_true] <;> rfl
theorem cast_lit {n : Nat} : ((no_index (OfNat.ofNat n) : Nat) : Int) = OfNat.ofNat n := rfl
theorem ofString_inj {a b : String} : (Str.ofString a = Str.ofString b) = (a = b) := by
  apply propext
  constructor
  · intro h
    rw [Str.ofString_eq_toList, Str.ofString_eq_toList] at h
    have h2 : a.toList.map Char.toNat = b.toList.map Char.toNat := by
      have := congrArg Str.cps h
      simpa using this
    have h3 : a.toList = b.toList := by
      refine (List.map_inj_right ?_).mp h2
      intro x y e
      exact Char.toNat_inj.mp e
    exact String.toList_inj.mp h3
  · rintro rfl
    rfl
end Fw
namespace Fw
open PySem PySem.Spec L2
def YD_take : SS := (seqS (ifS (toB (bin (ixO 0 (ret (.int 2))) (ret (.int 0)) gEq)) (seqS (setO 0 (bin (ixO 0 (ret (.int 1))) (ret (.int 1)) gAdd) (ret (.int 1)))
  (seqS (ifS (toB (bin (ixO 0 (ret (.int 1))) (una (ixO 0 (ret (.int 0))) gLen) gLt)) (setO 0 (bin (ixO 0 (ret (.int 0))) (ixO 0 (ret (.int 1))) gIx) (ret (.int 2))) nxt)
  (ifS (toB (bin (ixO 0 (ret (.int 2))) (ret (.int 0)) gEq)) (seqS (setO 0 (bin (una (bin (bin (ixO 0 (ret (.int 3))) (ret (.int 48271)) gMul) (ret (.int 11)) gAdd) gInt) (ret (.int 2147483647)) gMod) (ret (.int 3)))
  (setO 0 (ixO 0 (ret (.int 3))) (ret (.int 2)))) nxt))) nxt)
  (seqS (asg 2 (bin (una (ixO 0 (ret (.int 2))) gInt) (rdD 1) gMod))
  (seqS (setO 0 (bin (ixO 0 (ret (.int 2))) (rdD 1) gDiv) (ret (.int 2)))
  (retD (rdD 2)))))
def S_take : Fn := runF 2 3 YD_take
theorem ix4_0 {a b c d : PyData} : gIx (.list [a, b, c, d]) (.int 0) = some a := rfl
theorem ix4_1 {a b c d : PyData} : gIx (.list [a, b, c, d]) (.int 1) = some b := rfl
theorem ix4_2 {a b c d : PyData} : gIx (.list [a, b, c, d]) (.int 2) = some c := rfl
theorem ix4_3 {a b c d : PyData} : gIx (.list [a, b, c, d]) (.int 3) = some d := rfl
theorem ixN_0 {n : Nat} : ixN (n + 1) 0 = some 0 := by unfold ixN; rw [if_pos (by omega), if_pos (by omega)]; rfl
theorem ixN4_1 : ixN 4 1 = some 1 := rfl
theorem ixN4_2 : ixN 4 2 = some 2 := rfl
theorem ixN4_3 : ixN 4 3 = some 3 := rfl
def drw (cs : List Int) (i c s : Int) : List PyData := [.list (cs.map .int), .int i, .int c, .int s]
def DrawOk (d : List PyData) : Prop := ∃ (cs : List Int) (i c s : Int), d = drw cs i c s ∧ (∀ x ∈ cs, 0 ≤ x) ∧ -1 ≤ i ∧ 0 ≤ c
theorem atI_ints {cs : List Int} {i : Int} (h0 : 0 ≤ i) (h1 : i < cs.length) : ∃ x ∈ cs, atI (cs.map PyData.int) i = some (.int x) := by
  have hn : i.toNat < cs.length := by omega
  refine ⟨cs[i.toNat], List.getElem_mem hn, ?_⟩
  unfold atI ixN
  rw [List.length_map, if_pos h0, if_pos h1]
  simp [hn]
def YD_tail : SS := (seqS (asg 2 (bin (una (ixO 0 (ret (.int 2))) gInt) (rdD 1) gMod))
  (seqS (setO 0 (bin (ixO 0 (ret (.int 2))) (rdD 1) gDiv) (ret (.int 2)))
  (retD (rdD 2))))
theorem take_tail {cs : List Int} {i c s m : Int} {Q : Fl → En → Prop} (hm : 0 < m) (hm2 : m < 18446744073709551616) (q : Q (.rt (.dat (.int (c % m)))) [.own (drw cs i (c / m) s), .dat (.int m), .dat (.int (c % m))]) :
    Ok (YD_tail [.own (drw cs i c s), .dat (.int m), .un]) Q := by
  unfold drw at q ⊢
  simp only [YD_tail, ok_some, ok_none, okV_some, okV_none, ↓okV_if, ↓ok_if, ↓ok_ret, ↓ok_bnd, ↓ok_lft, ↓ok_bin, ↓ok_una, ↓ok_binL, ↓ok_unaL, ↓ok_mny, ↓ok_rdD, ↓ok_rdO, ↓ok_rdA, ↓ok_toB, ↓ok_sAnd, ↓ok_sOr, ↓ok_sNot, ↓ok_vAnd, ↓ok_vOr, ↓ok_sIf, ↓ok_chn, ↓ok_sNil, ↓ok_sCons, ↓ok_dTup, ↓ok_dLst, ↓ok_m0S, ↓ok_m1S, ↓ok_m1L, ↓ok_ixO, ↓ok_sPart, ↓ok_sSl, ↓ok_tupO, ↓ok_sItems, ↓ok_sScr, ↓ok_sEnum, ↓ok_sRng1, ↓ok_sRng2, ↓ok_seqS, ↓ok_nxt, ↓ok_brkS, ↓ok_cntS, ↓ok_retN, ↓ok_drpS, ↓ok_asg, ↓ok_asgL, ↓ok_asgG, ↓ok_augS, ↓ok_ifS, ↓ok_retD, ↓ok_retL, ↓ok_retO, ↓ok_appO, ↓ok_setO, ↓ok_extO, ↓ok_popS, ↓ok_forS, ↓ok_forL_nil, ↓ok_lcS, ↓ok_lcL_nil, ↓okV_callD, ↓okV_callV, ↓ok_callM, ↓ok_asD, ↓ok_asL, ↓ok_callS, ↓ok_runF, own?, toN, toT, toNs, wipE, bakE, Fw.collect, ok_yesS, List.getElem?_cons_zero, List.getElem?_cons_succ, List.set_cons_zero, List.set_cons_succ, List.map_cons, List.map_nil, List.length_cons, List.length_nil, List.cons_append, List.nil_append, List.replicate_succ, List.replicate_zero, Nat.reduceAdd, Nat.reduceSub, Nat.reduceLeDiff, Nat.reduceLT, Nat.reduceEqDiff, Int.reduceLT, Int.reduceLE, Int.reduceNeg, Int.reducePow, Int.reduceEq, Option.isSome_some, Option.map_some, Option.map_none, true_and, and_true, if_true, if_false, ite_true, ite_false, Bool.false_eq_true, reduceIte, reduceCtorEq, ix4_0, ix4_1, ix4_2, ix4_3, gInt, gMod, gDiv, gI, ixN4_2]
  simp only [hm, hm2, and_self, decide_true, if_true, okV_some, true_and]
  exact q

theorem take_body {d : List PyData} (hd : DrawOk d) {m : Int} {Q : Fl → En → Prop} (hm : 0 < m) (hm2 : m < 18446744073709551616) (q : ∀ r d', 0 ≤ r → r < m → DrawOk d' → Q (.rt (.dat (.int r))) [.own d', .dat (.int m), .dat (.int r)]) :
    Ok (YD_take [.own d, .dat (.int m), .un]) Q := by
  obtain ⟨cs, i, c, s, rfl, hcs, hi, hc⟩ := hd
  have tl : ∀ i' c' s', -1 ≤ i' → 0 ≤ c' → Ok (YD_tail [.own (drw cs i' c' s'), .dat (.int m), .un]) Q := fun i' c' s' h1 h2 =>
    take_tail hm hm2 (q _ _ (Int.emod_nonneg _ (by omega)) (Int.emod_lt_of_pos _ hm) ⟨cs, i', c' / m, s', rfl, hcs, h1, Int.ediv_nonneg h2 (by omega)⟩)
  show Ok (seqS _ YD_tail _) Q
  rw [ok_seqS]
  by_cases h0 : c = 0
  · subst h0
    unfold drw at tl ⊢
    simp only [ok_some, ok_none, okV_some, okV_none, ↓okV_if, ↓ok_if, ↓ok_ret, ↓ok_bnd, ↓ok_lft, ↓ok_bin, ↓ok_una, ↓ok_binL, ↓ok_unaL, ↓ok_mny, ↓ok_rdD, ↓ok_rdO, ↓ok_rdA, ↓ok_toB, ↓ok_sAnd, ↓ok_sOr, ↓ok_sNot, ↓ok_vAnd, ↓ok_vOr, ↓ok_sIf, ↓ok_chn, ↓ok_sNil, ↓ok_sCons, ↓ok_dTup, ↓ok_dLst, ↓ok_m0S, ↓ok_m1S, ↓ok_m1L, ↓ok_ixO, ↓ok_sPart, ↓ok_sSl, ↓ok_tupO, ↓ok_sItems, ↓ok_sScr, ↓ok_sEnum, ↓ok_sRng1, ↓ok_sRng2, ↓ok_seqS, ↓ok_nxt, ↓ok_brkS, ↓ok_cntS, ↓ok_retN, ↓ok_drpS, ↓ok_asg, ↓ok_asgL, ↓ok_asgG, ↓ok_augS, ↓ok_ifS, ↓ok_retD, ↓ok_retL, ↓ok_retO, ↓ok_appO, ↓ok_setO, ↓ok_extO, ↓ok_popS, ↓ok_forS, ↓ok_forL_nil, ↓ok_lcS, ↓ok_lcL_nil, ↓okV_callD, ↓okV_callV, ↓ok_callM, ↓ok_asD, ↓ok_asL, ↓ok_callS, ↓ok_runF, own?, toN, toT, toNs, wipE, bakE, Fw.collect, ok_yesS, List.getElem?_cons_zero, List.getElem?_cons_succ, List.set_cons_zero, List.set_cons_succ, List.map_cons, List.map_nil, List.length_cons, List.length_nil, List.cons_append, List.nil_append, List.replicate_succ, List.replicate_zero, Nat.reduceAdd, Nat.reduceSub, Nat.reduceLeDiff, Nat.reduceLT, Nat.reduceEqDiff, Int.reduceLT, Int.reduceLE, Int.reduceNeg, Int.reducePow, Int.reduceEq, Option.isSome_some, Option.map_some, Option.map_none, true_and, and_true, if_true, if_false, ite_true, ite_false, Bool.false_eq_true, reduceIte, reduceCtorEq, gAdd_ii, gAdd_ss, gAdd_tt, gSub_ii, gMul_ii, gDiv_ii, gMod_ii, gNeg_i, gLt_ii, gGt_ii, gGe_ii, gLe_ii, eqv_ii, eqv_ss, eqv_bb, eqv_nn, eqv_ni, eqv_in, eqv_ns, eqv_sn, eqv_nb, eqv_bn, eqv_is, eqv_si, eqv_nt, eqv_tn, eqv_nl, eqv_ln, eqv_tt, eqv_ll, eqvA_nn, eqvA_cc, eqvA_nc, eqvA_cn, gEq_ii, gEq_ss, gEq_bb, gEq_nn, gEq_in, gEq_ni, gEq_sn, gEq_ns, gEq_si, gEq_is, gNe_ii, gNe_ss, gNe_bb, gNe_nn, gNot_b, gIsN_n, gIsN_i, gIsN_b, gIsN_s, gIsN_t, gIsN_l, gNotN_n, gNotN_i, gNotN_b, gNotN_s, gNotN_t, gNotN_l, gIx_l, gIx_t, gIx_s, gLen_s, gLen_l, gLen_t, gAbs_i, gInt_i, gInt_b, gInt_s, gOrd_sign, gDivmod_ii, gStr_i, gStr_s, gTuple_l, gTuple_t, gStrip_s, gLstrip_s, gSplit_s, gPartition_s, gJoin_m, gCat_ll, gSl_s, gSl_t, gSl_l, itemsOf_l, itemsOf_t, itemsOf_s, ofString_inj, cMul_r, cMul_l, ixN_lit, atI_lit, atI_m1, cast_lit, String.reduceEq, decide_true, decide_false, Int.reduceSub, Int.reduceAdd, Int.reduceMul, Int.reduceToNat, decide_true, List.length_map]
    by_cases hl : i + 1 < (cs.length : Int)
    · obtain ⟨x, hx, e⟩ := atI_ints (cs := cs) (i := i + 1) (by omega) hl
      have hx0 := hcs x hx
      simp only [hl, decide_true, ok_some, ok_none, okV_some, okV_none, ↓okV_if, ↓ok_if, ↓ok_ret, ↓ok_bnd, ↓ok_lft, ↓ok_bin, ↓ok_una, ↓ok_binL, ↓ok_unaL, ↓ok_mny, ↓ok_rdD, ↓ok_rdO, ↓ok_rdA, ↓ok_toB, ↓ok_sAnd, ↓ok_sOr, ↓ok_sNot, ↓ok_vAnd, ↓ok_vOr, ↓ok_sIf, ↓ok_chn, ↓ok_sNil, ↓ok_sCons, ↓ok_dTup, ↓ok_dLst, ↓ok_m0S, ↓ok_m1S, ↓ok_m1L, ↓ok_ixO, ↓ok_sPart, ↓ok_sSl, ↓ok_tupO, ↓ok_sItems, ↓ok_sScr, ↓ok_sEnum, ↓ok_sRng1, ↓ok_sRng2, ↓ok_seqS, ↓ok_nxt, ↓ok_brkS, ↓ok_cntS, ↓ok_retN, ↓ok_drpS, ↓ok_asg, ↓ok_asgL, ↓ok_asgG, ↓ok_augS, ↓ok_ifS, ↓ok_retD, ↓ok_retL, ↓ok_retO, ↓ok_appO, ↓ok_setO, ↓ok_extO, ↓ok_popS, ↓ok_forS, ↓ok_forL_nil, ↓ok_lcS, ↓ok_lcL_nil, ↓okV_callD, ↓okV_callV, ↓ok_callM, ↓ok_asD, ↓ok_asL, ↓ok_callS, ↓ok_runF, own?, toN, toT, toNs, wipE, bakE, Fw.collect, ok_yesS, List.getElem?_cons_zero, List.getElem?_cons_succ, List.set_cons_zero, List.set_cons_succ, List.map_cons, List.map_nil, List.length_cons, List.length_nil, List.cons_append, List.nil_append, List.replicate_succ, List.replicate_zero, Nat.reduceAdd, Nat.reduceSub, Nat.reduceLeDiff, Nat.reduceLT, Nat.reduceEqDiff, Int.reduceLT, Int.reduceLE, Int.reduceNeg, Int.reducePow, Int.reduceEq, Option.isSome_some, Option.map_some, Option.map_none, true_and, and_true, if_true, if_false, ite_true, ite_false, Bool.false_eq_true, reduceIte, reduceCtorEq, gAdd_ii, gAdd_ss, gAdd_tt, gSub_ii, gMul_ii, gDiv_ii, gMod_ii, gNeg_i, gLt_ii, gGt_ii, gGe_ii, gLe_ii, eqv_ii, eqv_ss, eqv_bb, eqv_nn, eqv_ni, eqv_in, eqv_ns, eqv_sn, eqv_nb, eqv_bn, eqv_is, eqv_si, eqv_nt, eqv_tn, eqv_nl, eqv_ln, eqv_tt, eqv_ll, eqvA_nn, eqvA_cc, eqvA_nc, eqvA_cn, gEq_ii, gEq_ss, gEq_bb, gEq_nn, gEq_in, gEq_ni, gEq_sn, gEq_ns, gEq_si, gEq_is, gNe_ii, gNe_ss, gNe_bb, gNe_nn, gNot_b, gIsN_n, gIsN_i, gIsN_b, gIsN_s, gIsN_t, gIsN_l, gNotN_n, gNotN_i, gNotN_b, gNotN_s, gNotN_t, gNotN_l, gIx_l, gIx_t, gIx_s, gLen_s, gLen_l, gLen_t, gAbs_i, gInt_i, gInt_b, gInt_s, gOrd_sign, gDivmod_ii, gStr_i, gStr_s, gTuple_l, gTuple_t, gStrip_s, gLstrip_s, gSplit_s, gPartition_s, gJoin_m, gCat_ll, gSl_s, gSl_t, gSl_l, itemsOf_l, itemsOf_t, itemsOf_s, ofString_inj, cMul_r, cMul_l, ixN_lit, atI_lit, atI_m1, cast_lit, String.reduceEq, decide_true, decide_false, Int.reduceSub, Int.reduceAdd, Int.reduceMul, Int.reduceToNat, e]
      by_cases h1 : x = 0
      · subst h1
        simp only [decide_true, ok_some, ok_none, okV_some, okV_none, ↓okV_if, ↓ok_if, ↓ok_ret, ↓ok_bnd, ↓ok_lft, ↓ok_bin, ↓ok_una, ↓ok_binL, ↓ok_unaL, ↓ok_mny, ↓ok_rdD, ↓ok_rdO, ↓ok_rdA, ↓ok_toB, ↓ok_sAnd, ↓ok_sOr, ↓ok_sNot, ↓ok_vAnd, ↓ok_vOr, ↓ok_sIf, ↓ok_chn, ↓ok_sNil, ↓ok_sCons, ↓ok_dTup, ↓ok_dLst, ↓ok_m0S, ↓ok_m1S, ↓ok_m1L, ↓ok_ixO, ↓ok_sPart, ↓ok_sSl, ↓ok_tupO, ↓ok_sItems, ↓ok_sScr, ↓ok_sEnum, ↓ok_sRng1, ↓ok_sRng2, ↓ok_seqS, ↓ok_nxt, ↓ok_brkS, ↓ok_cntS, ↓ok_retN, ↓ok_drpS, ↓ok_asg, ↓ok_asgL, ↓ok_asgG, ↓ok_augS, ↓ok_ifS, ↓ok_retD, ↓ok_retL, ↓ok_retO, ↓ok_appO, ↓ok_setO, ↓ok_extO, ↓ok_popS, ↓ok_forS, ↓ok_forL_nil, ↓ok_lcS, ↓ok_lcL_nil, ↓okV_callD, ↓okV_callV, ↓ok_callM, ↓ok_asD, ↓ok_asL, ↓ok_callS, ↓ok_runF, own?, toN, toT, toNs, wipE, bakE, Fw.collect, ok_yesS, List.getElem?_cons_zero, List.getElem?_cons_succ, List.set_cons_zero, List.set_cons_succ, List.map_cons, List.map_nil, List.length_cons, List.length_nil, List.cons_append, List.nil_append, List.replicate_succ, List.replicate_zero, Nat.reduceAdd, Nat.reduceSub, Nat.reduceLeDiff, Nat.reduceLT, Nat.reduceEqDiff, Int.reduceLT, Int.reduceLE, Int.reduceNeg, Int.reducePow, Int.reduceEq, Option.isSome_some, Option.map_some, Option.map_none, true_and, and_true, if_true, if_false, ite_true, ite_false, Bool.false_eq_true, reduceIte, reduceCtorEq, gAdd_ii, gAdd_ss, gAdd_tt, gSub_ii, gMul_ii, gDiv_ii, gMod_ii, gNeg_i, gLt_ii, gGt_ii, gGe_ii, gLe_ii, eqv_ii, eqv_ss, eqv_bb, eqv_nn, eqv_ni, eqv_in, eqv_ns, eqv_sn, eqv_nb, eqv_bn, eqv_is, eqv_si, eqv_nt, eqv_tn, eqv_nl, eqv_ln, eqv_tt, eqv_ll, eqvA_nn, eqvA_cc, eqvA_nc, eqvA_cn, gEq_ii, gEq_ss, gEq_bb, gEq_nn, gEq_in, gEq_ni, gEq_sn, gEq_ns, gEq_si, gEq_is, gNe_ii, gNe_ss, gNe_bb, gNe_nn, gNot_b, gIsN_n, gIsN_i, gIsN_b, gIsN_s, gIsN_t, gIsN_l, gNotN_n, gNotN_i, gNotN_b, gNotN_s, gNotN_t, gNotN_l, gIx_l, gIx_t, gIx_s, gLen_s, gLen_l, gLen_t, gAbs_i, gInt_i, gInt_b, gInt_s, gOrd_sign, gDivmod_ii, gStr_i, gStr_s, gTuple_l, gTuple_t, gStrip_s, gLstrip_s, gSplit_s, gPartition_s, gJoin_m, gCat_ll, gSl_s, gSl_t, gSl_l, itemsOf_l, itemsOf_t, itemsOf_s, ofString_inj, cMul_r, cMul_l, ixN_lit, atI_lit, atI_m1, cast_lit, String.reduceEq, decide_true, decide_false, Int.reduceSub, Int.reduceAdd, Int.reduceMul, Int.reduceToNat]
        exact tl _ _ _ (by omega) (Int.emod_nonneg _ (by omega))
      · simp only [h1, decide_false, ok_some, ok_none, okV_some, okV_none, ↓okV_if, ↓ok_if, ↓ok_ret, ↓ok_bnd, ↓ok_lft, ↓ok_bin, ↓ok_una, ↓ok_binL, ↓ok_unaL, ↓ok_mny, ↓ok_rdD, ↓ok_rdO, ↓ok_rdA, ↓ok_toB, ↓ok_sAnd, ↓ok_sOr, ↓ok_sNot, ↓ok_vAnd, ↓ok_vOr, ↓ok_sIf, ↓ok_chn, ↓ok_sNil, ↓ok_sCons, ↓ok_dTup, ↓ok_dLst, ↓ok_m0S, ↓ok_m1S, ↓ok_m1L, ↓ok_ixO, ↓ok_sPart, ↓ok_sSl, ↓ok_tupO, ↓ok_sItems, ↓ok_sScr, ↓ok_sEnum, ↓ok_sRng1, ↓ok_sRng2, ↓ok_seqS, ↓ok_nxt, ↓ok_brkS, ↓ok_cntS, ↓ok_retN, ↓ok_drpS, ↓ok_asg, ↓ok_asgL, ↓ok_asgG, ↓ok_augS, ↓ok_ifS, ↓ok_retD, ↓ok_retL, ↓ok_retO, ↓ok_appO, ↓ok_setO, ↓ok_extO, ↓ok_popS, ↓ok_forS, ↓ok_forL_nil, ↓ok_lcS, ↓ok_lcL_nil, ↓okV_callD, ↓okV_callV, ↓ok_callM, ↓ok_asD, ↓ok_asL, ↓ok_callS, ↓ok_runF, own?, toN, toT, toNs, wipE, bakE, Fw.collect, ok_yesS, List.getElem?_cons_zero, List.getElem?_cons_succ, List.set_cons_zero, List.set_cons_succ, List.map_cons, List.map_nil, List.length_cons, List.length_nil, List.cons_append, List.nil_append, List.replicate_succ, List.replicate_zero, Nat.reduceAdd, Nat.reduceSub, Nat.reduceLeDiff, Nat.reduceLT, Nat.reduceEqDiff, Int.reduceLT, Int.reduceLE, Int.reduceNeg, Int.reducePow, Int.reduceEq, Option.isSome_some, Option.map_some, Option.map_none, true_and, and_true, if_true, if_false, ite_true, ite_false, Bool.false_eq_true, reduceIte, reduceCtorEq, gAdd_ii, gAdd_ss, gAdd_tt, gSub_ii, gMul_ii, gDiv_ii, gMod_ii, gNeg_i, gLt_ii, gGt_ii, gGe_ii, gLe_ii, eqv_ii, eqv_ss, eqv_bb, eqv_nn, eqv_ni, eqv_in, eqv_ns, eqv_sn, eqv_nb, eqv_bn, eqv_is, eqv_si, eqv_nt, eqv_tn, eqv_nl, eqv_ln, eqv_tt, eqv_ll, eqvA_nn, eqvA_cc, eqvA_nc, eqvA_cn, gEq_ii, gEq_ss, gEq_bb, gEq_nn, gEq_in, gEq_ni, gEq_sn, gEq_ns, gEq_si, gEq_is, gNe_ii, gNe_ss, gNe_bb, gNe_nn, gNot_b, gIsN_n, gIsN_i, gIsN_b, gIsN_s, gIsN_t, gIsN_l, gNotN_n, gNotN_i, gNotN_b, gNotN_s, gNotN_t, gNotN_l, gIx_l, gIx_t, gIx_s, gLen_s, gLen_l, gLen_t, gAbs_i, gInt_i, gInt_b, gInt_s, gOrd_sign, gDivmod_ii, gStr_i, gStr_s, gTuple_l, gTuple_t, gStrip_s, gLstrip_s, gSplit_s, gPartition_s, gJoin_m, gCat_ll, gSl_s, gSl_t, gSl_l, itemsOf_l, itemsOf_t, itemsOf_s, ofString_inj, cMul_r, cMul_l, ixN_lit, atI_lit, atI_m1, cast_lit, String.reduceEq, decide_true, decide_false, Int.reduceSub, Int.reduceAdd, Int.reduceMul, Int.reduceToNat]
        exact tl _ _ _ (by omega) hx0
    · simp only [hl, decide_false, decide_true, ok_some, ok_none, okV_some, okV_none, ↓okV_if, ↓ok_if, ↓ok_ret, ↓ok_bnd, ↓ok_lft, ↓ok_bin, ↓ok_una, ↓ok_binL, ↓ok_unaL, ↓ok_mny, ↓ok_rdD, ↓ok_rdO, ↓ok_rdA, ↓ok_toB, ↓ok_sAnd, ↓ok_sOr, ↓ok_sNot, ↓ok_vAnd, ↓ok_vOr, ↓ok_sIf, ↓ok_chn, ↓ok_sNil, ↓ok_sCons, ↓ok_dTup, ↓ok_dLst, ↓ok_m0S, ↓ok_m1S, ↓ok_m1L, ↓ok_ixO, ↓ok_sPart, ↓ok_sSl, ↓ok_tupO, ↓ok_sItems, ↓ok_sScr, ↓ok_sEnum, ↓ok_sRng1, ↓ok_sRng2, ↓ok_seqS, ↓ok_nxt, ↓ok_brkS, ↓ok_cntS, ↓ok_retN, ↓ok_drpS, ↓ok_asg, ↓ok_asgL, ↓ok_asgG, ↓ok_augS, ↓ok_ifS, ↓ok_retD, ↓ok_retL, ↓ok_retO, ↓ok_appO, ↓ok_setO, ↓ok_extO, ↓ok_popS, ↓ok_forS, ↓ok_forL_nil, ↓ok_lcS, ↓ok_lcL_nil, ↓okV_callD, ↓okV_callV, ↓ok_callM, ↓ok_asD, ↓ok_asL, ↓ok_callS, ↓ok_runF, own?, toN, toT, toNs, wipE, bakE, Fw.collect, ok_yesS, List.getElem?_cons_zero, List.getElem?_cons_succ, List.set_cons_zero, List.set_cons_succ, List.map_cons, List.map_nil, List.length_cons, List.length_nil, List.cons_append, List.nil_append, List.replicate_succ, List.replicate_zero, Nat.reduceAdd, Nat.reduceSub, Nat.reduceLeDiff, Nat.reduceLT, Nat.reduceEqDiff, Int.reduceLT, Int.reduceLE, Int.reduceNeg, Int.reducePow, Int.reduceEq, Option.isSome_some, Option.map_some, Option.map_none, true_and, and_true, if_true, if_false, ite_true, ite_false, Bool.false_eq_true, reduceIte, reduceCtorEq, gAdd_ii, gAdd_ss, gAdd_tt, gSub_ii, gMul_ii, gDiv_ii, gMod_ii, gNeg_i, gLt_ii, gGt_ii, gGe_ii, gLe_ii, eqv_ii, eqv_ss, eqv_bb, eqv_nn, eqv_ni, eqv_in, eqv_ns, eqv_sn, eqv_nb, eqv_bn, eqv_is, eqv_si, eqv_nt, eqv_tn, eqv_nl, eqv_ln, eqv_tt, eqv_ll, eqvA_nn, eqvA_cc, eqvA_nc, eqvA_cn, gEq_ii, gEq_ss, gEq_bb, gEq_nn, gEq_in, gEq_ni, gEq_sn, gEq_ns, gEq_si, gEq_is, gNe_ii, gNe_ss, gNe_bb, gNe_nn, gNot_b, gIsN_n, gIsN_i, gIsN_b, gIsN_s, gIsN_t, gIsN_l, gNotN_n, gNotN_i, gNotN_b, gNotN_s, gNotN_t, gNotN_l, gIx_l, gIx_t, gIx_s, gLen_s, gLen_l, gLen_t, gAbs_i, gInt_i, gInt_b, gInt_s, gOrd_sign, gDivmod_ii, gStr_i, gStr_s, gTuple_l, gTuple_t, gStrip_s, gLstrip_s, gSplit_s, gPartition_s, gJoin_m, gCat_ll, gSl_s, gSl_t, gSl_l, itemsOf_l, itemsOf_t, itemsOf_s, ofString_inj, cMul_r, cMul_l, ixN_lit, atI_lit, atI_m1, cast_lit, String.reduceEq, decide_true, decide_false, Int.reduceSub, Int.reduceAdd, Int.reduceMul, Int.reduceToNat]
      exact tl _ _ _ (by omega) (Int.emod_nonneg _ (by omega))
  · unfold drw at tl ⊢
    simp only [h0, decide_false, ok_some, ok_none, okV_some, okV_none, ↓okV_if, ↓ok_if, ↓ok_ret, ↓ok_bnd, ↓ok_lft, ↓ok_bin, ↓ok_una, ↓ok_binL, ↓ok_unaL, ↓ok_mny, ↓ok_rdD, ↓ok_rdO, ↓ok_rdA, ↓ok_toB, ↓ok_sAnd, ↓ok_sOr, ↓ok_sNot, ↓ok_vAnd, ↓ok_vOr, ↓ok_sIf, ↓ok_chn, ↓ok_sNil, ↓ok_sCons, ↓ok_dTup, ↓ok_dLst, ↓ok_m0S, ↓ok_m1S, ↓ok_m1L, ↓ok_ixO, ↓ok_sPart, ↓ok_sSl, ↓ok_tupO, ↓ok_sItems, ↓ok_sScr, ↓ok_sEnum, ↓ok_sRng1, ↓ok_sRng2, ↓ok_seqS, ↓ok_nxt, ↓ok_brkS, ↓ok_cntS, ↓ok_retN, ↓ok_drpS, ↓ok_asg, ↓ok_asgL, ↓ok_asgG, ↓ok_augS, ↓ok_ifS, ↓ok_retD, ↓ok_retL, ↓ok_retO, ↓ok_appO, ↓ok_setO, ↓ok_extO, ↓ok_popS, ↓ok_forS, ↓ok_forL_nil, ↓ok_lcS, ↓ok_lcL_nil, ↓okV_callD, ↓okV_callV, ↓ok_callM, ↓ok_asD, ↓ok_asL, ↓ok_callS, ↓ok_runF, own?, toN, toT, toNs, wipE, bakE, Fw.collect, ok_yesS, List.getElem?_cons_zero, List.getElem?_cons_succ, List.set_cons_zero, List.set_cons_succ, List.map_cons, List.map_nil, List.length_cons, List.length_nil, List.cons_append, List.nil_append, List.replicate_succ, List.replicate_zero, Nat.reduceAdd, Nat.reduceSub, Nat.reduceLeDiff, Nat.reduceLT, Nat.reduceEqDiff, Int.reduceLT, Int.reduceLE, Int.reduceNeg, Int.reducePow, Int.reduceEq, Option.isSome_some, Option.map_some, Option.map_none, true_and, and_true, if_true, if_false, ite_true, ite_false, Bool.false_eq_true, reduceIte, reduceCtorEq, gAdd_ii, gAdd_ss, gAdd_tt, gSub_ii, gMul_ii, gDiv_ii, gMod_ii, gNeg_i, gLt_ii, gGt_ii, gGe_ii, gLe_ii, eqv_ii, eqv_ss, eqv_bb, eqv_nn, eqv_ni, eqv_in, eqv_ns, eqv_sn, eqv_nb, eqv_bn, eqv_is, eqv_si, eqv_nt, eqv_tn, eqv_nl, eqv_ln, eqv_tt, eqv_ll, eqvA_nn, eqvA_cc, eqvA_nc, eqvA_cn, gEq_ii, gEq_ss, gEq_bb, gEq_nn, gEq_in, gEq_ni, gEq_sn, gEq_ns, gEq_si, gEq_is, gNe_ii, gNe_ss, gNe_bb, gNe_nn, gNot_b, gIsN_n, gIsN_i, gIsN_b, gIsN_s, gIsN_t, gIsN_l, gNotN_n, gNotN_i, gNotN_b, gNotN_s, gNotN_t, gNotN_l, gIx_l, gIx_t, gIx_s, gLen_s, gLen_l, gLen_t, gAbs_i, gInt_i, gInt_b, gInt_s, gOrd_sign, gDivmod_ii, gStr_i, gStr_s, gTuple_l, gTuple_t, gStrip_s, gLstrip_s, gSplit_s, gPartition_s, gJoin_m, gCat_ll, gSl_s, gSl_t, gSl_l, itemsOf_l, itemsOf_t, itemsOf_s, ofString_inj, cMul_r, cMul_l, ixN_lit, atI_lit, atI_m1, cast_lit, String.reduceEq, decide_true, decide_false, Int.reduceSub, Int.reduceAdd, Int.reduceMul, Int.reduceToNat]
    exact tl i c s hi hc
theorem take_ok {d : List PyData} (hd : DrawOk d) {m : Int} {Q : Sl → En → Prop} (hm : 0 < m) (hm2 : m < 18446744073709551616) (q : ∀ r d', 0 ≤ r → r < m → DrawOk d' → Q (.dat (.int r)) [.own d', .un]) :
    Ok (S_take [.own d, .dat (.int m)]) Q := by
  unfold S_take
  rw [ok_runF]
  refine ⟨rfl, take_body hd hm hm2 fun r d' h1 h2 h3 => ?_⟩
  simp only [own?, toN, toT, toNs, wipE, bakE, Fw.collect, ok_yesS, List.getElem?_cons_zero, List.getElem?_cons_succ, List.set_cons_zero, List.set_cons_succ, List.map_cons, List.map_nil, List.length_cons, List.length_nil, List.cons_append, List.nil_append, List.replicate_succ, List.replicate_zero, Nat.reduceAdd, Nat.reduceSub, Nat.reduceLeDiff, Nat.reduceLT, Nat.reduceEqDiff, Int.reduceLT, Int.reduceLE, Int.reduceNeg, Int.reducePow, Int.reduceEq, Option.isSome_some, Option.map_some, Option.map_none, true_and, and_true, if_true, if_false, ite_true, ite_false, Bool.false_eq_true, reduceIte, reduceCtorEq, ok_some, ok_none, okV_some, okV_none, ↓okV_if, ↓ok_if, ↓ok_ret, ↓ok_bnd, ↓ok_lft, ↓ok_bin, ↓ok_una, ↓ok_binL, ↓ok_unaL, ↓ok_mny, ↓ok_rdD, ↓ok_rdO, ↓ok_rdA, ↓ok_toB, ↓ok_sAnd, ↓ok_sOr, ↓ok_sNot, ↓ok_vAnd, ↓ok_vOr, ↓ok_sIf, ↓ok_chn, ↓ok_sNil, ↓ok_sCons, ↓ok_dTup, ↓ok_dLst, ↓ok_m0S, ↓ok_m1S, ↓ok_m1L, ↓ok_ixO, ↓ok_sPart, ↓ok_sSl, ↓ok_tupO, ↓ok_sItems, ↓ok_sScr, ↓ok_sEnum, ↓ok_sRng1, ↓ok_sRng2, ↓ok_seqS, ↓ok_nxt, ↓ok_brkS, ↓ok_cntS, ↓ok_retN, ↓ok_drpS, ↓ok_asg, ↓ok_asgL, ↓ok_asgG, ↓ok_augS, ↓ok_ifS, ↓ok_retD, ↓ok_retL, ↓ok_retO, ↓ok_appO, ↓ok_setO, ↓ok_extO, ↓ok_popS, ↓ok_forS, ↓ok_forL_nil, ↓ok_lcS, ↓ok_lcL_nil, ↓okV_callD, ↓okV_callV, ↓ok_callM, ↓ok_asD, ↓ok_asL, ↓ok_callS, ↓ok_runF, collect]
  exact q r d' h1 h2 h3
def LD_draw : SS := (asg 1 (bin (una (bin (bin (bin (rdD 1) (ret (.int 48271)) gMul) (bin (una (una (rdD 2) gInt) gAbs) (ret (.int 65521)) gMod) gAdd) (ret (.int 1)) gAdd) gInt) (ret (.int 2147483647)) gMod))
def CD_draw : SE PyData := (una (una (rdD 2) gInt) gAbs)
def YD_draw : SS := (seqS (asg 1 (ret (.int 7)))
  (seqS (forS (sScr 0) (toN 2) LD_draw)
  (retL (dLst (sCons (bnd (lcS (sScr 0) [2] (toN 2) yesS CD_draw) fun ds => ret (.list ds)) (sCons (una (ret (.int 1)) gNeg) (sCons (ret (.int 0)) (sCons (rdD 1) sNil))))))))
def S_draw : Fn := runF 1 3 YD_draw
theorem draw_for {Q : Fl → En → Prop} {all : List Int} : ∀ {ns : List Int} {s : Int} {x : Sl}, x.ow = false → (∀ s x, x.ow = false → Q .nx [.scr all, .dat (.int s), x]) → Ok (forL (toN 2) LD_draw (ns.map .int) [.scr all, .dat (.int s), x]) Q
  | [], s, x, hx, q => by
    rw [List.map_nil, ok_forL_nil]
    exact q _ _ hx
  | n :: ns, s, x, hx, q => by
    rw [List.map_cons, ok_forL_cons]
    simp only [LD_draw, ok_some, ok_none, okV_some, okV_none, ↓okV_if, ↓ok_if, ↓ok_ret, ↓ok_bnd, ↓ok_lft, ↓ok_bin, ↓ok_una, ↓ok_binL, ↓ok_unaL, ↓ok_mny, ↓ok_rdD, ↓ok_rdO, ↓ok_rdA, ↓ok_toB, ↓ok_sAnd, ↓ok_sOr, ↓ok_sNot, ↓ok_vAnd, ↓ok_vOr, ↓ok_sIf, ↓ok_chn, ↓ok_sNil, ↓ok_sCons, ↓ok_dTup, ↓ok_dLst, ↓ok_m0S, ↓ok_m1S, ↓ok_m1L, ↓ok_ixO, ↓ok_sPart, ↓ok_sSl, ↓ok_tupO, ↓ok_sItems, ↓ok_sScr, ↓ok_sEnum, ↓ok_sRng1, ↓ok_sRng2, ↓ok_seqS, ↓ok_nxt, ↓ok_brkS, ↓ok_cntS, ↓ok_retN, ↓ok_drpS, ↓ok_asg, ↓ok_asgL, ↓ok_asgG, ↓ok_augS, ↓ok_ifS, ↓ok_retD, ↓ok_retL, ↓ok_retO, ↓ok_appO, ↓ok_setO, ↓ok_extO, ↓ok_popS, ↓ok_forS, ↓ok_forL_nil, ↓ok_lcS, ↓ok_lcL_nil, ↓okV_callD, ↓okV_callV, ↓ok_callM, ↓ok_asD, ↓ok_asL, ↓ok_callS, ↓ok_runF, own?, toN, toT, toNs, wipE, bakE, Fw.collect, ok_yesS, List.getElem?_cons_zero, List.getElem?_cons_succ, List.set_cons_zero, List.set_cons_succ, List.map_cons, List.map_nil, List.length_cons, List.length_nil, List.cons_append, List.nil_append, List.replicate_succ, List.replicate_zero, Nat.reduceAdd, Nat.reduceSub, Nat.reduceLeDiff, Nat.reduceLT, Nat.reduceEqDiff, Int.reduceLT, Int.reduceLE, Int.reduceNeg, Int.reducePow, Int.reduceEq, Option.isSome_some, Option.map_some, Option.map_none, true_and, and_true, if_true, if_false, ite_true, ite_false, Bool.false_eq_true, reduceIte, reduceCtorEq, gAdd_ii, gAdd_ss, gAdd_tt, gSub_ii, gMul_ii, gDiv_ii, gMod_ii, gNeg_i, gLt_ii, gGt_ii, gGe_ii, gLe_ii, eqv_ii, eqv_ss, eqv_bb, eqv_nn, eqv_ni, eqv_in, eqv_ns, eqv_sn, eqv_nb, eqv_bn, eqv_is, eqv_si, eqv_nt, eqv_tn, eqv_nl, eqv_ln, eqv_tt, eqv_ll, eqvA_nn, eqvA_cc, eqvA_nc, eqvA_cn, gEq_ii, gEq_ss, gEq_bb, gEq_nn, gEq_in, gEq_ni, gEq_sn, gEq_ns, gEq_si, gEq_is, gNe_ii, gNe_ss, gNe_bb, gNe_nn, gNot_b, gIsN_n, gIsN_i, gIsN_b, gIsN_s, gIsN_t, gIsN_l, gNotN_n, gNotN_i, gNotN_b, gNotN_s, gNotN_t, gNotN_l, gIx_l, gIx_t, gIx_s, gLen_s, gLen_l, gLen_t, gAbs_i, gInt_i, gInt_b, gInt_s, gOrd_sign, gDivmod_ii, gStr_i, gStr_s, gTuple_l, gTuple_t, gStrip_s, gLstrip_s, gSplit_s, gPartition_s, gJoin_m, gCat_ll, gSl_s, gSl_t, gSl_l, itemsOf_l, itemsOf_t, itemsOf_s, ofString_inj, cMul_r, cMul_l, ixN_lit, atI_lit, atI_m1, cast_lit, String.reduceEq, decide_true, decide_false, Int.reduceSub, Int.reduceAdd, Int.reduceMul, Int.reduceToNat]
    exact draw_for rfl q
theorem draw_comp {Q : List PyData → En → Prop} {all : List Int} {s : Int} {x : Sl} (hx : x.ow = false) : ∀ {ns : List Int}, Q (ns.map fun n => .int (if n < 0 then -n else n)) [.scr all, .dat (.int s), x] → Ok (lcL [2] (toN 2) yesS CD_draw (ns.map .int) [.scr all, .dat (.int s), x]) Q
  | [], q => by
    rw [List.map_nil, ok_lcL_nil]
    exact q
  | n :: ns, q => by
    have hw : wipE [2] [Sl.scr all, Sl.dat (.int s), x] = some [Sl.scr all, Sl.dat (.int s), .un] := by
      cases x <;> first | rfl | (cases hx; done)
    rw [List.map_cons, ok_lcL_cons, hw, okV_some]
    simp only [CD_draw, ok_some, ok_none, okV_some, okV_none, ↓okV_if, ↓ok_if, ↓ok_ret, ↓ok_bnd, ↓ok_lft, ↓ok_bin, ↓ok_una, ↓ok_binL, ↓ok_unaL, ↓ok_mny, ↓ok_rdD, ↓ok_rdO, ↓ok_rdA, ↓ok_toB, ↓ok_sAnd, ↓ok_sOr, ↓ok_sNot, ↓ok_vAnd, ↓ok_vOr, ↓ok_sIf, ↓ok_chn, ↓ok_sNil, ↓ok_sCons, ↓ok_dTup, ↓ok_dLst, ↓ok_m0S, ↓ok_m1S, ↓ok_m1L, ↓ok_ixO, ↓ok_sPart, ↓ok_sSl, ↓ok_tupO, ↓ok_sItems, ↓ok_sScr, ↓ok_sEnum, ↓ok_sRng1, ↓ok_sRng2, ↓ok_seqS, ↓ok_nxt, ↓ok_brkS, ↓ok_cntS, ↓ok_retN, ↓ok_drpS, ↓ok_asg, ↓ok_asgL, ↓ok_asgG, ↓ok_augS, ↓ok_ifS, ↓ok_retD, ↓ok_retL, ↓ok_retO, ↓ok_appO, ↓ok_setO, ↓ok_extO, ↓ok_popS, ↓ok_forS, ↓ok_forL_nil, ↓ok_lcS, ↓ok_lcL_nil, ↓okV_callD, ↓okV_callV, ↓ok_callM, ↓ok_asD, ↓ok_asL, ↓ok_callS, ↓ok_runF, own?, toN, toT, toNs, wipE, bakE, Fw.collect, ok_yesS, List.getElem?_cons_zero, List.getElem?_cons_succ, List.set_cons_zero, List.set_cons_succ, List.map_cons, List.map_nil, List.length_cons, List.length_nil, List.cons_append, List.nil_append, List.replicate_succ, List.replicate_zero, Nat.reduceAdd, Nat.reduceSub, Nat.reduceLeDiff, Nat.reduceLT, Nat.reduceEqDiff, Int.reduceLT, Int.reduceLE, Int.reduceNeg, Int.reducePow, Int.reduceEq, Option.isSome_some, Option.map_some, Option.map_none, true_and, and_true, if_true, if_false, ite_true, ite_false, Bool.false_eq_true, reduceIte, reduceCtorEq, gAdd_ii, gAdd_ss, gAdd_tt, gSub_ii, gMul_ii, gDiv_ii, gMod_ii, gNeg_i, gLt_ii, gGt_ii, gGe_ii, gLe_ii, eqv_ii, eqv_ss, eqv_bb, eqv_nn, eqv_ni, eqv_in, eqv_ns, eqv_sn, eqv_nb, eqv_bn, eqv_is, eqv_si, eqv_nt, eqv_tn, eqv_nl, eqv_ln, eqv_tt, eqv_ll, eqvA_nn, eqvA_cc, eqvA_nc, eqvA_cn, gEq_ii, gEq_ss, gEq_bb, gEq_nn, gEq_in, gEq_ni, gEq_sn, gEq_ns, gEq_si, gEq_is, gNe_ii, gNe_ss, gNe_bb, gNe_nn, gNot_b, gIsN_n, gIsN_i, gIsN_b, gIsN_s, gIsN_t, gIsN_l, gNotN_n, gNotN_i, gNotN_b, gNotN_s, gNotN_t, gNotN_l, gIx_l, gIx_t, gIx_s, gLen_s, gLen_l, gLen_t, gAbs_i, gInt_i, gInt_b, gInt_s, gOrd_sign, gDivmod_ii, gStr_i, gStr_s, gTuple_l, gTuple_t, gStrip_s, gLstrip_s, gSplit_s, gPartition_s, gJoin_m, gCat_ll, gSl_s, gSl_t, gSl_l, itemsOf_l, itemsOf_t, itemsOf_s, ofString_inj, cMul_r, cMul_l, ixN_lit, atI_lit, atI_m1, cast_lit, String.reduceEq, decide_true, decide_false, Int.reduceSub, Int.reduceAdd, Int.reduceMul, Int.reduceToNat, bakE]
    exact draw_comp hx q
theorem draw_ok {ns : List Int} (hn : ns.length ≤ 63) {Q : Sl → En → Prop} (q : ∀ d, DrawOk d → Q (.own d) [.un]) : Ok (S_draw [.scr ns]) Q := by
  unfold S_draw
  rw [ok_runF]
  refine ⟨rfl, ?_⟩
  simp only [YD_draw, ok_some, ok_none, okV_some, okV_none, ↓okV_if, ↓ok_if, ↓ok_ret, ↓ok_bnd, ↓ok_lft, ↓ok_bin, ↓ok_una, ↓ok_binL, ↓ok_unaL, ↓ok_mny, ↓ok_rdD, ↓ok_rdO, ↓ok_rdA, ↓ok_toB, ↓ok_sAnd, ↓ok_sOr, ↓ok_sNot, ↓ok_vAnd, ↓ok_vOr, ↓ok_sIf, ↓ok_chn, ↓ok_sNil, ↓ok_sCons, ↓ok_dTup, ↓ok_dLst, ↓ok_m0S, ↓ok_m1S, ↓ok_m1L, ↓ok_ixO, ↓ok_sPart, ↓ok_sSl, ↓ok_tupO, ↓ok_sItems, ↓ok_sScr, ↓ok_sEnum, ↓ok_sRng1, ↓ok_sRng2, ↓ok_seqS, ↓ok_nxt, ↓ok_brkS, ↓ok_cntS, ↓ok_retN, ↓ok_drpS, ↓ok_asg, ↓ok_asgL, ↓ok_asgG, ↓ok_augS, ↓ok_ifS, ↓ok_retD, ↓ok_retL, ↓ok_retO, ↓ok_appO, ↓ok_setO, ↓ok_extO, ↓ok_popS, ↓ok_forS, ↓ok_forL_nil, ↓ok_lcS, ↓ok_lcL_nil, ↓okV_callD, ↓okV_callV, ↓ok_callM, ↓ok_asD, ↓ok_asL, ↓ok_callS, ↓ok_runF, own?, toN, toT, toNs, wipE, bakE, Fw.collect, ok_yesS, List.getElem?_cons_zero, List.getElem?_cons_succ, List.set_cons_zero, List.set_cons_succ, List.map_cons, List.map_nil, List.length_cons, List.length_nil, List.cons_append, List.nil_append, List.replicate_succ, List.replicate_zero, Nat.reduceAdd, Nat.reduceSub, Nat.reduceLeDiff, Nat.reduceLT, Nat.reduceEqDiff, Int.reduceLT, Int.reduceLE, Int.reduceNeg, Int.reducePow, Int.reduceEq, Option.isSome_some, Option.map_some, Option.map_none, true_and, and_true, if_true, if_false, ite_true, ite_false, Bool.false_eq_true, reduceIte, reduceCtorEq, gAdd_ii, gAdd_ss, gAdd_tt, gSub_ii, gMul_ii, gDiv_ii, gMod_ii, gNeg_i, gLt_ii, gGt_ii, gGe_ii, gLe_ii, eqv_ii, eqv_ss, eqv_bb, eqv_nn, eqv_ni, eqv_in, eqv_ns, eqv_sn, eqv_nb, eqv_bn, eqv_is, eqv_si, eqv_nt, eqv_tn, eqv_nl, eqv_ln, eqv_tt, eqv_ll, eqvA_nn, eqvA_cc, eqvA_nc, eqvA_cn, gEq_ii, gEq_ss, gEq_bb, gEq_nn, gEq_in, gEq_ni, gEq_sn, gEq_ns, gEq_si, gEq_is, gNe_ii, gNe_ss, gNe_bb, gNe_nn, gNot_b, gIsN_n, gIsN_i, gIsN_b, gIsN_s, gIsN_t, gIsN_l, gNotN_n, gNotN_i, gNotN_b, gNotN_s, gNotN_t, gNotN_l, gIx_l, gIx_t, gIx_s, gLen_s, gLen_l, gLen_t, gAbs_i, gInt_i, gInt_b, gInt_s, gOrd_sign, gDivmod_ii, gStr_i, gStr_s, gTuple_l, gTuple_t, gStrip_s, gLstrip_s, gSplit_s, gPartition_s, gJoin_m, gCat_ll, gSl_s, gSl_t, gSl_l, itemsOf_l, itemsOf_t, itemsOf_s, ofString_inj, cMul_r, cMul_l, ixN_lit, atI_lit, atI_m1, cast_lit, String.reduceEq, decide_true, decide_false, Int.reduceSub, Int.reduceAdd, Int.reduceMul, Int.reduceToNat]
  refine draw_for rfl fun s x hx => ?_
  simp only [ok_some, ok_none, okV_some, okV_none, ↓okV_if, ↓ok_if, ↓ok_ret, ↓ok_bnd, ↓ok_lft, ↓ok_bin, ↓ok_una, ↓ok_binL, ↓ok_unaL, ↓ok_mny, ↓ok_rdD, ↓ok_rdO, ↓ok_rdA, ↓ok_toB, ↓ok_sAnd, ↓ok_sOr, ↓ok_sNot, ↓ok_vAnd, ↓ok_vOr, ↓ok_sIf, ↓ok_chn, ↓ok_sNil, ↓ok_sCons, ↓ok_dTup, ↓ok_dLst, ↓ok_m0S, ↓ok_m1S, ↓ok_m1L, ↓ok_ixO, ↓ok_sPart, ↓ok_sSl, ↓ok_tupO, ↓ok_sItems, ↓ok_sScr, ↓ok_sEnum, ↓ok_sRng1, ↓ok_sRng2, ↓ok_seqS, ↓ok_nxt, ↓ok_brkS, ↓ok_cntS, ↓ok_retN, ↓ok_drpS, ↓ok_asg, ↓ok_asgL, ↓ok_asgG, ↓ok_augS, ↓ok_ifS, ↓ok_retD, ↓ok_retL, ↓ok_retO, ↓ok_appO, ↓ok_setO, ↓ok_extO, ↓ok_popS, ↓ok_forS, ↓ok_forL_nil, ↓ok_lcS, ↓ok_lcL_nil, ↓okV_callD, ↓okV_callV, ↓ok_callM, ↓ok_asD, ↓ok_asL, ↓ok_callS, ↓ok_runF, own?, toN, toT, toNs, wipE, bakE, Fw.collect, ok_yesS, List.getElem?_cons_zero, List.getElem?_cons_succ, List.set_cons_zero, List.set_cons_succ, List.map_cons, List.map_nil, List.length_cons, List.length_nil, List.cons_append, List.nil_append, List.replicate_succ, List.replicate_zero, Nat.reduceAdd, Nat.reduceSub, Nat.reduceLeDiff, Nat.reduceLT, Nat.reduceEqDiff, Int.reduceLT, Int.reduceLE, Int.reduceNeg, Int.reducePow, Int.reduceEq, Option.isSome_some, Option.map_some, Option.map_none, true_and, and_true, if_true, if_false, ite_true, ite_false, Bool.false_eq_true, reduceIte, reduceCtorEq, gAdd_ii, gAdd_ss, gAdd_tt, gSub_ii, gMul_ii, gDiv_ii, gMod_ii, gNeg_i, gLt_ii, gGt_ii, gGe_ii, gLe_ii, eqv_ii, eqv_ss, eqv_bb, eqv_nn, eqv_ni, eqv_in, eqv_ns, eqv_sn, eqv_nb, eqv_bn, eqv_is, eqv_si, eqv_nt, eqv_tn, eqv_nl, eqv_ln, eqv_tt, eqv_ll, eqvA_nn, eqvA_cc, eqvA_nc, eqvA_cn, gEq_ii, gEq_ss, gEq_bb, gEq_nn, gEq_in, gEq_ni, gEq_sn, gEq_ns, gEq_si, gEq_is, gNe_ii, gNe_ss, gNe_bb, gNe_nn, gNot_b, gIsN_n, gIsN_i, gIsN_b, gIsN_s, gIsN_t, gIsN_l, gNotN_n, gNotN_i, gNotN_b, gNotN_s, gNotN_t, gNotN_l, gIx_l, gIx_t, gIx_s, gLen_s, gLen_l, gLen_t, gAbs_i, gInt_i, gInt_b, gInt_s, gOrd_sign, gDivmod_ii, gStr_i, gStr_s, gTuple_l, gTuple_t, gStrip_s, gLstrip_s, gSplit_s, gPartition_s, gJoin_m, gCat_ll, gSl_s, gSl_t, gSl_l, itemsOf_l, itemsOf_t, itemsOf_s, ofString_inj, cMul_r, cMul_l, ixN_lit, atI_lit, atI_m1, cast_lit, String.reduceEq, decide_true, decide_false, Int.reduceSub, Int.reduceAdd, Int.reduceMul, Int.reduceToNat]
  have hz := sizeLine_eq
  refine ⟨by rw [List.length_map]; omega, draw_comp hx ?_⟩
  simp only [ok_some, ok_none, okV_some, okV_none, ↓okV_if, ↓ok_if, ↓ok_ret, ↓ok_bnd, ↓ok_lft, ↓ok_bin, ↓ok_una, ↓ok_binL, ↓ok_unaL, ↓ok_mny, ↓ok_rdD, ↓ok_rdO, ↓ok_rdA, ↓ok_toB, ↓ok_sAnd, ↓ok_sOr, ↓ok_sNot, ↓ok_vAnd, ↓ok_vOr, ↓ok_sIf, ↓ok_chn, ↓ok_sNil, ↓ok_sCons, ↓ok_dTup, ↓ok_dLst, ↓ok_m0S, ↓ok_m1S, ↓ok_m1L, ↓ok_ixO, ↓ok_sPart, ↓ok_sSl, ↓ok_tupO, ↓ok_sItems, ↓ok_sScr, ↓ok_sEnum, ↓ok_sRng1, ↓ok_sRng2, ↓ok_seqS, ↓ok_nxt, ↓ok_brkS, ↓ok_cntS, ↓ok_retN, ↓ok_drpS, ↓ok_asg, ↓ok_asgL, ↓ok_asgG, ↓ok_augS, ↓ok_ifS, ↓ok_retD, ↓ok_retL, ↓ok_retO, ↓ok_appO, ↓ok_setO, ↓ok_extO, ↓ok_popS, ↓ok_forS, ↓ok_forL_nil, ↓ok_lcS, ↓ok_lcL_nil, ↓okV_callD, ↓okV_callV, ↓ok_callM, ↓ok_asD, ↓ok_asL, ↓ok_callS, ↓ok_runF, own?, toN, toT, toNs, wipE, bakE, Fw.collect, ok_yesS, List.getElem?_cons_zero, List.getElem?_cons_succ, List.set_cons_zero, List.set_cons_succ, List.map_cons, List.map_nil, List.length_cons, List.length_nil, List.cons_append, List.nil_append, List.replicate_succ, List.replicate_zero, Nat.reduceAdd, Nat.reduceSub, Nat.reduceLeDiff, Nat.reduceLT, Nat.reduceEqDiff, Int.reduceLT, Int.reduceLE, Int.reduceNeg, Int.reducePow, Int.reduceEq, Option.isSome_some, Option.map_some, Option.map_none, true_and, and_true, if_true, if_false, ite_true, ite_false, Bool.false_eq_true, reduceIte, reduceCtorEq, gAdd_ii, gAdd_ss, gAdd_tt, gSub_ii, gMul_ii, gDiv_ii, gMod_ii, gNeg_i, gLt_ii, gGt_ii, gGe_ii, gLe_ii, eqv_ii, eqv_ss, eqv_bb, eqv_nn, eqv_ni, eqv_in, eqv_ns, eqv_sn, eqv_nb, eqv_bn, eqv_is, eqv_si, eqv_nt, eqv_tn, eqv_nl, eqv_ln, eqv_tt, eqv_ll, eqvA_nn, eqvA_cc, eqvA_nc, eqvA_cn, gEq_ii, gEq_ss, gEq_bb, gEq_nn, gEq_in, gEq_ni, gEq_sn, gEq_ns, gEq_si, gEq_is, gNe_ii, gNe_ss, gNe_bb, gNe_nn, gNot_b, gIsN_n, gIsN_i, gIsN_b, gIsN_s, gIsN_t, gIsN_l, gNotN_n, gNotN_i, gNotN_b, gNotN_s, gNotN_t, gNotN_l, gIx_l, gIx_t, gIx_s, gLen_s, gLen_l, gLen_t, gAbs_i, gInt_i, gInt_b, gInt_s, gOrd_sign, gDivmod_ii, gStr_i, gStr_s, gTuple_l, gTuple_t, gStrip_s, gLstrip_s, gSplit_s, gPartition_s, gJoin_m, gCat_ll, gSl_s, gSl_t, gSl_l, itemsOf_l, itemsOf_t, itemsOf_s, ofString_inj, cMul_r, cMul_l, ixN_lit, atI_lit, atI_m1, cast_lit, String.reduceEq, decide_true, decide_false, Int.reduceSub, Int.reduceAdd, Int.reduceMul, Int.reduceToNat]
  refine ⟨by omega, q _ ⟨ns.map fun n => if n < 0 then -n else n, -1, 0, s, ?_, fun x hx => ?_, by omega, by omega⟩⟩
  · unfold drw
    rw [List.map_map]
    rfl
  · obtain ⟨n, _, rfl⟩ := List.mem_map.mp hx
    split <;> omega
end Fw
namespace Fw
open PySem PySem.Spec L2
theorem Ok.of {α : Type} {m : Option (α × En)} {Q : α → En → Prop} {a : α} {E : En} (h : m = some (a, E)) (q : Q a E) : Ok m Q := ⟨a, E, h, q⟩
theorem OkV.imp {α : Type} {m : Option α} {Q R : α → Prop} (h : OkV m Q) (i : ∀ a, Q a → R a) : OkV m R := by
  obtain ⟨a, h1, h2⟩ := h
  exact ⟨a, h1, i a h2⟩
/-- one turn of a comprehension -/
def turn (vs : List Nat) (bb : PyData → En → Option En) (t : SE Bool) (fe : SE PyData) (E : En) (d : PyData) (Q : Option PyData → En → Prop) : Prop :=
  OkV (wipE vs E) fun E0 => OkV (bb d E0) fun E1 => Ok (t E1) fun b E2 => if b then Ok (fe E2) fun y E3 => Q (some y) (bakE vs E E3) else Q none (bakE vs E E2)
theorem lcL_turn {vs : List Nat} {bb : PyData → En → Option En} {t : SE Bool} {fe : SE PyData} {E : En} {d : PyData} {ds : List PyData} {Q : List PyData → En → Prop} {R : Option PyData → En → Prop} (h : turn vs bb t fe E d R)
    (q1 : ∀ y E', R (some y) E' → Ok (lcL vs bb t fe ds E') fun ys E4 => Q (y :: ys) E4) (q2 : ∀ E', R none E' → Ok (lcL vs bb t fe ds E') Q) : Ok (lcL vs bb t fe (d :: ds) E) Q := by
  rw [ok_lcL_cons]
  refine OkV.imp h fun E0 h => h.imp fun E1 h => h.imp fun b E2 h => ?_
  cases b with
  | true =>
    rw [if_pos rfl] at h ⊢
    exact h.imp fun y E3 h3 => q1 y _ h3
  | false =>
    rw [if_neg Bool.false_ne_true] at h ⊢
    exact q2 _ h
theorem lcL_inv {vs : List Nat} {bb : PyData → En → Option En} {t : SE Bool} {fe : SE PyData} (I : En → Prop) (P : PyData → Prop) : ∀ (ds : List PyData) (E : En) (Q : List PyData → En → Prop), I E →
    (∀ d ∈ ds, ∀ E, I E → turn vs bb t fe E d fun o E' => I E' ∧ ∀ y, o = some y → P y) → (∀ ys E', ys.length ≤ ds.length → (∀ y ∈ ys, P y) → I E' → Q ys E') → Ok (lcL vs bb t fe ds E) Q
  | [], E, Q, i, _, q => by
    rw [ok_lcL_nil]
    exact q [] E (Nat.le_refl _) (fun _ h => nomatch h) i
  | d :: ds, E, Q, i, h, q => by
    refine lcL_turn (h d (List.mem_cons_self ..) E i) (fun y E' r => ?_) (fun E' r => ?_)
    · refine lcL_inv I P ds E' _ r.1 (fun z hz => h z (List.mem_cons_of_mem _ hz)) fun ys E4 hl hp i4 => ?_
      refine q (y :: ys) E4 (by simp only [List.length_cons]; omega) (fun z hz => ?_) i4
      rcases List.mem_cons.mp hz with rfl | hz
      · exact r.2 _ rfl
      · exact hp z hz
    · exact lcL_inv I P ds E' _ r.1 (fun z hz => h z (List.mem_cons_of_mem _ hz)) fun ys E4 hl hp i4 => q ys E4 (by simp only [List.length_cons]; omega) hp i4
/-- a comprehension without a test: an item for each -/
theorem lcL_all {vs : List Nat} {bb : PyData → En → Option En} {t : SE Bool} {fe : SE PyData} (I : En → Prop) (P : PyData → Prop) : ∀ (ds : List PyData) (E : En) (Q : List PyData → En → Prop), I E →
    (∀ d ∈ ds, ∀ E, I E → turn vs bb t fe E d fun o E' => I E' ∧ ∃ y, o = some y ∧ P y) → (∀ ys E', ys.length = ds.length → (∀ y ∈ ys, P y) → I E' → Q ys E') → Ok (lcL vs bb t fe ds E) Q
  | [], E, Q, i, _, q => by
    rw [ok_lcL_nil]
    exact q [] E rfl (fun _ h => nomatch h) i
  | d :: ds, E, Q, i, h, q => by
    refine lcL_turn (h d (List.mem_cons_self ..) E i) (fun y E' r => ?_) (fun E' r => ?_)
    · obtain ⟨i', y', e, py⟩ := r
      cases e
      refine lcL_all I P ds E' _ i' (fun z hz => h z (List.mem_cons_of_mem _ hz)) fun ys E4 hl hp i4 => ?_
      refine q (y :: ys) E4 (by simp only [List.length_cons]; omega) (fun z hz => ?_) i4
      rcases List.mem_cons.mp hz with rfl | hz
      · exact py
      · exact hp z hz
    · obtain ⟨_, _, e, _⟩ := r
      cases e
/-- a comprehension that leaves the slots as they are -/
theorem lcL_map {α : Type} {vs : List Nat} {bb : PyData → En → Option En} {t : SE Bool} {fe : SE PyData} {E : En} (item val : α → PyData) (p : α → Bool) : ∀ (xs : List α) (Q : List PyData → En → Prop),
    (∀ x ∈ xs, turn vs bb t fe E (item x) fun o E' => E' = E ∧ o = if p x then some (val x) else none) → Q ((xs.filter p).map val) E → Ok (lcL vs bb t fe (xs.map item) E) Q
  | [], Q, _, q => by
    rw [List.map_nil, ok_lcL_nil]
    exact q
  | x :: xs, Q, h, q => by
    rw [List.map_cons]
    refine lcL_turn (h x (List.mem_cons_self ..)) (fun y E' r => ?_) (fun E' r => ?_)
    · obtain ⟨rfl, r⟩ := r
      refine lcL_map item val p xs _ (fun z hz => h z (List.mem_cons_of_mem _ hz)) ?_
      by_cases hp : p x = true
      · rw [if_pos hp] at r
        cases r
        rw [List.filter_cons_of_pos hp] at q
        exact q
      · rw [if_neg hp] at r
        cases r
    · obtain ⟨rfl, r⟩ := r
      refine lcL_map item val p xs _ (fun z hz => h z (List.mem_cons_of_mem _ hz)) ?_
      by_cases hp : p x = true
      · rw [if_pos hp] at r
        cases r
      · rw [List.filter_cons_of_neg hp] at q
        exact q
/-- what holds behind a turn of a loop -/
def stp (I : En → Prop) (Q : Fl → En → Prop) (fl : Fl) (E : En) : Prop := match fl with
  | .nx => I E
  | .ct => I E
  | .bk => Q .nx E
  | .rt s => Q (.rt s) E
theorem stp_nx {I : En → Prop} {Q : Fl → En → Prop} {E : En} : stp I Q .nx E = I E := rfl
theorem stp_ct {I : En → Prop} {Q : Fl → En → Prop} {E : En} : stp I Q .ct E = I E := rfl
theorem stp_bk {I : En → Prop} {Q : Fl → En → Prop} {E : En} : stp I Q .bk E = Q .nx E := rfl
theorem stp_rt {I : En → Prop} {Q : Fl → En → Prop} {E : En} {s : Sl} : stp I Q (.rt s) E = Q (.rt s) E := rfl
/-- a loop -/
theorem forL_inv {bb : PyData → En → Option En} {g : SS} (I : Nat → En → Prop) : ∀ (ds : List PyData) (k : Nat) (E : En) (Q : Fl → En → Prop), I k E →
    (∀ i d, ds[i]? = some d → ∀ E, I (k + i) E → OkV (bb d E) fun E1 => Ok (g E1) (stp (I (k + i + 1)) Q)) → (∀ E', I (k + ds.length) E' → Q .nx E') → Ok (forL bb g ds E) Q
  | [], k, E, Q, i, _, q => by
    rw [ok_forL_nil]
    exact q E i
  | d :: ds, k, E, Q, i, h, q => by
    rw [ok_forL_cons]
    have hr : ∀ E2, I (k + 1) E2 → Ok (forL bb g ds E2) Q := fun E2 i2 => by
      refine forL_inv I ds (k + 1) E2 Q i2 (fun j z hz E3 i3 => ?_) (fun E' i' => q E' ?_)
      · have := h (j + 1) z hz E3 (by rw [show k + (j + 1) = k + 1 + j by omega]; exact i3)
        rw [show k + (j + 1) + 1 = k + 1 + j + 1 by omega] at this
        exact this
      · rw [List.length_cons, show k + (ds.length + 1) = k + 1 + ds.length by omega]
        exact i'
    refine (h 0 d rfl E i).imp fun E1 h => h.imp fun fl E2 h => ?_
    cases fl with
    | nx => exact hr E2 h
    | ct => exact hr E2 h
    | bk => exact h
    | rt s => exact h
/-- a loop whose invariant doesn't count -/
theorem forL_inv' {bb : PyData → En → Option En} {g : SS} (I : En → Prop) (ds : List PyData) (E : En) (Q : Fl → En → Prop) (i : I E)
    (h : ∀ d ∈ ds, ∀ E, I E → OkV (bb d E) fun E1 => Ok (g E1) (stp I Q)) (q : ∀ E', I E' → Q .nx E') : Ok (forL bb g ds E) Q :=
  forL_inv (fun _ => I) ds 0 E Q i (fun j d hd E i => h d (List.mem_of_getElem? hd) E i) q
/-- a while loop: the number gets less in each turn -/
theorem whN_inv {t : SE Bool} {g : SS} (I : Nat → En → Prop) {Q : Fl → En → Prop} (h : ∀ k E, I k E → Ok (t E) fun b E1 => if b then Ok (g E1) (stp (fun E2 => ∃ j, j < k ∧ I j E2) Q) else Q .nx E1) :
    ∀ (n k : Nat) (E : En), I k E → k < n → Ok (whN t g n E) Q
  | 0, k, E, _, hk => absurd hk (Nat.not_lt_zero _)
  | n + 1, k, E, i, hk => by
    obtain ⟨b, E1, e1, h1⟩ := h k E i
    cases b with
    | false =>
      rw [if_neg Bool.false_ne_true] at h1
      exact ⟨.nx, E1, by unfold whN; rw [e1], h1⟩
    | true =>
      rw [if_pos rfl] at h1
      obtain ⟨fl, E2, e2, h2⟩ := h1
      cases fl with
      | nx =>
        obtain ⟨j, hj, ij⟩ := h2
        obtain ⟨fl, E3, e3, q⟩ := whN_inv I h n j E2 ij (by omega)
        exact ⟨fl, E3, by unfold whN; rw [e1]; simp only [e2]; exact e3, q⟩
      | ct =>
        obtain ⟨j, hj, ij⟩ := h2
        obtain ⟨fl, E3, e3, q⟩ := whN_inv I h n j E2 ij (by omega)
        exact ⟨fl, E3, by unfold whN; rw [e1]; simp only [e2]; exact e3, q⟩
      | bk => exact ⟨.nx, E2, by unfold whN; rw [e1]; simp only [e2], h2⟩
      | rt s => exact ⟨.rt s, E2, by unfold whN; rw [e1]; simp only [e2], h2⟩
theorem whS_inv {t : SE Bool} {g : SS} (I : Nat → En → Prop) {Q : Fl → En → Prop} (k : Nat) (E : En) (i : I k E) (hk : k < 1099511627776)
    (h : ∀ k E, I k E → Ok (t E) fun b E1 => if b then Ok (g E1) (stp (fun E2 => ∃ j, j < k ∧ I j E2) Q) else Q .nx E1) : Ok (whS t g E) Q := whN_inv I h fuelC k E i hk
theorem forL_any {α : Type} {bb : PyData → En → Option En} {g : SS} (item : α → PyData) (p : α → Bool) (I : En → Prop) (R : Sl) : ∀ (xs : List α) (E : En) (Q : Fl → En → Prop), I E →
    (∀ x ∈ xs, ∀ E, I E → OkV (bb (item x) E) fun E1 => Ok (g E1) fun fl E2 => I E2 ∧ fl = if p x then .rt R else .nx) → (∀ E', I E' → Q (if xs.any p then .rt R else .nx) E') → Ok (forL bb g (xs.map item) E) Q
  | [], E, Q, i, _, q => by
    rw [List.map_nil, ok_forL_nil]
    exact q E i
  | x :: xs, E, Q, i, h, q => by
    rw [List.map_cons, ok_forL_cons]
    refine (h x (List.mem_cons_self ..) E i).imp fun E1 h1 => h1.imp fun fl E2 h2 => ?_
    obtain ⟨i2, rfl⟩ := h2
    cases hp : p x with
    | true =>
      simp only [if_true]
      have := q E2 i2
      rw [List.any_cons, hp, Bool.true_or] at this
      exact this
    | false =>
      simp only [Bool.false_eq_true, if_false]
      refine forL_any item p I R xs E2 Q i2 (fun z hz => h z (List.mem_cons_of_mem _ hz)) fun E' i' => ?_
      have := q E' i'
      rw [List.any_cons, hp, Bool.false_or] at this
      exact this
theorem flat_map_strf {α : Type} {xs : List α} {f : α → Str} : (xs.map fun x => PyData.str (f x)).all flatD = true := by simp [flatD, Function.comp_def]
theorem len_sub (x : Str) (i j : Nat) : (Builtin.Str.strSub x i j).length ≤ x.length := by
  unfold Builtin.Str.strSub Str.length
  rw [Array.size_extract]
  omega
theorem len_stripBy (g : Nat → Bool) (l r : Bool) (x : Str) : (Txt.stripBy g l r x).length ≤ x.length := by
  unfold Txt.stripBy
  split
  · exact Nat.le_refl _
  · exact len_sub _ _ _
theorem len_strip (x y : Str) : (Txt.stripChars x y).length ≤ x.length := len_stripBy _ _ _ _
theorem len_lstrip (x y : Str) : (Txt.lstripChars x y).length ≤ x.length := len_stripBy _ _ _ _
theorem len_split (x y : Str) : ∀ p ∈ Txt.split x y, p.length ≤ x.length := by
  intro p hp
  unfold Txt.split at hp
  split at hp
  · rw [List.mem_singleton.mp hp]; exact Nat.le_refl _
  · split at hp
    · rw [List.mem_singleton.mp hp]; exact Nat.le_refl _
    · unfold Builtin.Str.partsBetween at hp
      obtain ⟨q, _, rfl⟩ := List.mem_map.mp hp
      exact len_sub _ _ _
theorem count_split (x y : Str) : (Txt.split x y).length ≤ x.length + 2 := by
  unfold Txt.split
  split
  · simp
  · split
    · simp
    · rw [length_partsBetween]
      have := StrLaws.occ_length_le_len x y 0 x.length (x.length + 1)
      omega
theorem len_join {zs : List Str} {s : Str} : (Txt.join s zs).length = (zs.map (·.length)).sum + (zs.length - 1) * s.length := size_glued s zs
theorem sum_one {zs : List Str} (h : ∀ z ∈ zs, z.length = 1) : (zs.map (·.length)).sum = zs.length := by
  induction zs with
  | nil => rfl
  | cons z zs ih =>
    rw [List.map_cons, List.sum_cons, ih fun w hw => h w (List.mem_cons_of_mem _ hw), h z (List.mem_cons_self ..), List.length_cons]
    omega
def Sign (d : PyData) : Prop := ∃ c : Nat, d = .str ⟨#[c]⟩
theorem signs_map {ys : List PyData} (h : ∀ y ∈ ys, Sign y) : ∃ zs : List Str, ys = zs.map .str ∧ zs.length = ys.length ∧ ∀ z ∈ zs, z.length = 1 := by
  induction ys with
  | nil => exact ⟨[], rfl, rfl, fun _ h => nomatch h⟩
  | cons y ys ih =>
    obtain ⟨zs, e, hl, h1⟩ := ih fun w hw => h w (List.mem_cons_of_mem _ hw)
    obtain ⟨c, rfl⟩ := h y (List.mem_cons_self ..)
    refine ⟨⟨#[c]⟩ :: zs, by rw [e]; rfl, by simp [hl], fun z hz => ?_⟩
    rcases List.mem_cons.mp hz with rfl | hz
    · rfl
    · exact h1 z hz
theorem strOk_lit (s : String) : PyData.strOk (Str.ofString s) = true := by
  rw [Str.ofString_eq_toList]
  unfold PyData.strOk
  simp only [List.size_toArray, List.all_toArray', List.all_map, List.all_eq_true, Function.comp_def, decide_eq_true_eq]
  intro c _
  have h : c.toNat.isValidChar := c.valid
  unfold Nat.isValidChar at h
  omega
theorem one_sign {s : Str} {n : Nat} (hs : s.length = n) (hn : n ≤ sizeLine) {r : Int} (h0 : 0 ≤ r) (h1 : r < n) : ∃ c : Nat, c ∈ s.cps.toList ∧ gIx (.str s) (.int r) = some (.str ⟨#[c]⟩) := by
  have hr : r.toNat < s.cps.toList.length := by
    have : s.cps.toList.length = s.length := by simp [Str.length]
    omega
  obtain ⟨k, rfl⟩ := Int.eq_ofNat_of_zero_le h0
  have hk : k < s.cps.toList.length := by simpa using hr
  refine ⟨s.cps.toList[k], List.getElem_mem hk, ?_⟩
  rw [gIx_s, if_pos (by omega), Fw.atI_nat, List.getElem?_eq_getElem hk]
  rfl
theorem atI_mem {α : Type} {ys : List α} {r : Int} (h0 : 0 ≤ r) (h1 : r < ys.length) : ∃ y ∈ ys, atI ys r = some y := by
  obtain ⟨k, rfl⟩ := Int.eq_ofNat_of_zero_le h0
  have hk : k < ys.length := by omega
  exact ⟨ys[k], List.getElem_mem hk, by rw [Fw.atI_nat, List.getElem?_eq_getElem hk]⟩
theorem cutL_map {α β : Type} (f : α → β) (xs : List α) (lo hi : Option Int) : cutL (xs.map f) lo hi = (cutL xs lo hi).map f := by
  simp only [cutL, List.length_map, List.map_take, List.map_drop]
theorem cutL_mem {α : Type} {xs : List α} {lo hi : Option Int} {x : α} (h : x ∈ cutL xs lo hi) : x ∈ xs := List.mem_of_mem_drop (List.mem_of_mem_take h)
theorem cutL_len {α : Type} (xs : List α) (lo hi : Option Int) : (cutL xs lo hi).length ≤ xs.length := by
  unfold cutL
  rw [List.length_take, List.length_drop]
  omega
theorem any_map {α : Type} (xs : List α) (f : α → PyData) (p : PyData → Bool) : (xs.map f).any p = xs.any fun x => p (f x) := by
  rw [List.any_map]; rfl
abbrev ii (xs : List Int) : List PyData := xs.map .int
theorem canAll_ints (xs : List Int) : PyData.canLayAll0 (ii xs) = true := by
  induction xs with
  | nil => rfl
  | cons x xs ih =>
    show PyData.canLayAll0 (.int x :: ii xs) = true
    rw [PyData.canLayAll0, ih, PyData.canLay0]
    rfl
theorem depthAll_ints (xs : List Int) : PyData.depthAll (ii xs) = 0 := by
  induction xs with
  | nil => simp [PyData.depthAll]
  | cons x xs ih =>
    show PyData.depthAll (.int x :: ii xs) = 0
    rw [PyData.depthAll, ih]
    simp [PyData.depth]
theorem shaped_ints (xs : List Int) : SeqAt.shaped (.tuple (ii xs)) = true := by
  simp [SeqAt.shaped, PyData.canLay0, PyData.depth, canAll_ints, depthAll_ints]
theorem shaped_lints (xs : List Int) : SeqAt.shaped (.list (ii xs)) = true := by
  simp [SeqAt.shaped, PyData.canLay0, PyData.depth, canAll_ints, depthAll_ints]
theorem eqvAll_ints (xs ys : List Int) : PyData.eqvAll (ii xs) (ii ys) = decide (xs = ys) := by
  induction xs generalizing ys with
  | nil =>
    cases ys with
    | nil => simp [eqvA_nn]
    | cons y ys => simp [eqvA_nc]
  | cons x xs ih =>
    cases ys with
    | nil => simp [eqvA_cn]
    | cons y ys =>
      show PyData.eqvAll (.int x :: ii xs) (.int y :: ii ys) = _
      rw [eqvA_cc, ih, eqv_ii]
      simp [Bool.decide_and]
theorem gEq_ints (xs ys : List Int) : gEq (.tuple (ii xs)) (.tuple (ii ys)) = some (.bool (decide (xs = ys))) := by
  rw [gEq_tt, if_pos (by rw [shaped_ints, shaped_ints]; rfl), eqvAll_ints]
theorem gNe_ints (xs ys : List Int) : gNe (.tuple (ii xs)) (.tuple (ii ys)) = some (.bool (!decide (xs = ys))) := by
  rw [gNe_tt, if_pos (by rw [shaped_ints, shaped_ints]; rfl), eqvAll_ints]
theorem gIn_ints (x : Int) (ys : List Int) : gIn (.int x) (.tuple (ii ys)) = some (.bool (decide (x ∈ ys))) := by
  rw [gIn_tf rfl flat_map_int, any_map]
  simp only [eqv_ii]
  congr 2
  rw [Bool.eq_iff_iff]
  simp
theorem gIn_lints (x : Int) (ys : List Int) : gIn (.int x) (.list (ii ys)) = some (.bool (decide (x ∈ ys))) := by
  rw [gIn_lf rfl flat_map_int, any_map]
  simp only [eqv_ii]
  congr 2
  rw [Bool.eq_iff_iff]
  simp
theorem atI_ii {xs : List Int} {k : Nat} (h : k < xs.length) : atI (ii xs) (k : Int) = some (.int xs[k]) := by
  rw [Fw.atI_nat, List.getElem?_map, List.getElem?_eq_getElem h]
  rfl
theorem isi_tuple {xs : List PyData} : gIsi "tuple" (.tuple xs) = some (.bool true) := rfl
theorem sIx_nat {n d k : Nat} : HT.sIx n d (some (k : Int)) = min k n := by
  unfold HT.sIx
  show (if (k : Int) < 0 then _ else _) = _
  rw [if_neg (by omega)]
  simp
end Fw
namespace Fw
open PySem PySem.Spec L2
open PyProof.Rows hiding St
/-- an expression, where a token is out -/
def PXt (X : Cx) (m p : Bool) (e : Expr) (f : SE PyData) : Prop := PET X e (tX X.K m p f)
section
variable {X : Cx} {m m1 m2 p p1 p2 : Bool} {a b e : Expr} {j k : Nat} {pos p0 apos c0 c1 : Pos} {fa fb f : SE PyData} {y z c : Str}
theorem PX.t (h : PX X m p e f) : PXt X m p e f := CwR.PET.of h
theorem pet_imp {t u : TE} (h : PET X e t) (i : ∀ σ H Q, u σ H Q → t σ H Q) : PET X e u := fun pins s σ H Q h0 I q => h pins s σ H Q h0 I (i σ H Q q)
def rplS (fa : SE PyData) (y z : Str) : SE PyData := bnd fa fun d => match d with
  | .str x => if x.length + (x.length + 1) * z.length ≤ 16777216 then ret (.str (Txt.replace x y z)) else fun _ => none
  | _ => fun _ => none
theorem rpl_core {K : PySem.W.Frag} {σ : L2.St} {H : Hp} {Q : VK} (h : tX K m true (rplS fa y z) σ H Q) : CwR.tReplC (tX K m p fa) y z σ H Q := by
  obtain ⟨vs0, P, E, fps, d, E', rel, hh, q⟩ := h
  obtain ⟨d1, E1, h1, hh⟩ := bnd_some hh
  split at hh
  · rename_i x
    split at hh
    · rename_i hl
      obtain ⟨rfl, rfl⟩ := ret_some hh
      refine ⟨vs0, P, E, fps, _, _, rel, h1, fun P1 H1 fps1 v r1 s1 m1' dv => ⟨x, ?_, hl, q P1 H1 fps1 _ r1 s1 m1' (.str _)⟩⟩
      cases p <;> exact dq_str dv
    · cases hh
  · cases hh
theorem pxt_repl (ho : PXt X m p a fa) (hyz : (y == z) = false := by decide)
    (hst : starEach [.Constant (.str y) j c0, .Constant (.str z) k c1] X.env = [(false, eval (.Constant (.str y) j c0) X.env), (false, eval (.Constant (.str z) k c1) X.env)] := by rfl)
    (hbase : attributeBase a "replace" X.env (eval a X.env) = eval a X.env := by rfl) (hline : (apos.endLine == pos.line) = true := by rfl) :
    PXt X m true (.Call (.Attribute a "replace" apos) [.Constant (.str y) j c0, .Constant (.str z) k c1] [] pos) (rplS fa y z) :=
  pet_imp (CwR.pet_replT ho hyz hst hbase hline) fun σ H Q h => rpl_core h
theorem px_addT (hb : PXt X m2 true b fb) : PX X m2 true (.BinOp (.Constant (.str c) j p0) .Add b pos) (bin (ret (.str c)) fb gAdd) := by
  refine px_op2 (m1 := false) (m2 := m2) (p1 := true) (p2 := true) (r := rAddA X.K) ⟨fun pins s σ H Q I h => ?_⟩ vo_add (.inl rfl)
  obtain ⟨vs0, P, E, fps, d, E', rel, hh, q⟩ := h
  obtain ⟨rfl, rfl⟩ := ret_some hh
  refine wpAny_BinOp (Calls.Constant_str ?_)
  have h1 := q P H fps (.str c) rel (.refl _ _ _) (fun _ => Same.refl H) (.str c)
  exact thn (hb pins { s with toks := s.toks + 1 } σ H _ (by show 1 ≤ s.toks + 1; omega) (I.tok _) h1) fun u s2 ⟨y, H2, I2, r2, q2⟩ => op_addA pins s2 σ H2 (.str c) y _ u Q I2 ⟨_, rfl⟩ r2 q2
theorem ok_rplS {E : En} {Q : PyData → En → Prop} : Ok (rplS fa y z E) Q = Ok (fa E) fun d E1 => match d with
    | .str x => x.length + (x.length + 1) * z.length ≤ 16777216 ∧ Q (.str (Txt.replace x y z)) E1
    | _ => False := by
  unfold rplS
  rw [ok_bnd]
  congr 1
  funext d E1
  cases d with
  | str x =>
    simp only
    by_cases hl : x.length + (x.length + 1) * z.length ≤ 16777216
    · rw [if_pos hl, ok_ret]
      exact propext ⟨fun q => ⟨hl, q⟩, fun q => q.2⟩
    · rw [if_neg hl, ok_none]
      exact propext ⟨False.elim, fun q => hl q.1⟩
  | _ => exact ok_none
theorem rplS_ok {E E1 : En} {x : Str} {Q : PyData → En → Prop} (h : fa E = some (.str x, E1)) (hl : x.length + (x.length + 1) * z.length ≤ 16777216) (q : Q (.str (Txt.replace x y z)) E1) : ∃ a E2, rplS fa y z E = some (a, E2) ∧ Q a E2 := by
  refine ⟨_, E1, ?_, q⟩
  unfold rplS bnd
  rw [h]
  simp only [hl, if_true]
  rfl
end
end Fw
namespace Fw
open PySem PySem.Spec L2
def T (l : List Nat) : Str := ⟨l.toArray⟩
section
variable {a b l w : List Nat} {c : Nat} {i j : Int}
theorem T_toList : (T l).cps.toList = l := rfl
theorem T_of (s : Str) : s = T s.cps.toList := by cases s; rfl
theorem T_len : (T l).length = l.length := by simp [T, Str.length]
theorem T_app : T a ++ T b = T (a ++ b) := by
  show (⟨a.toArray ++ b.toArray⟩ : Str) = ⟨(a ++ b).toArray⟩
  simp
theorem T_inj : (T a = T b) = (a = b) := by
  apply propext
  refine ⟨fun h => ?_, fun h => by rw [h]⟩
  have := congrArg (fun s : Str => s.cps.toList) h
  exact this
theorem T_sign : (⟨#[c]⟩ : Str) = T [c] := rfl
theorem T_empty : Str.empty = T [] := rfl
theorem T_cut {lo hi : Option Int} : cutS (T l) lo hi = T (cutL l lo hi) := by
  unfold cutS cutL T
  simp [Str.length]
theorem T_signs : signs (T l) = l.map fun c => .str (T [c]) := rfl
theorem T_lit (s : String) : Str.ofString s = T (s.toList.map Char.toNat) := by
  rw [Str.ofString_eq_toList]
  rfl
def trimR (w l : List Nat) : List Nat := (l.reverse.dropWhile fun c => decide (c ∈ w)).reverse
def trimL (w l : List Nat) : List Nat := trimR w (l.dropWhile fun c => decide (c ∈ w))
theorem drop_tw (p : Nat → Bool) (l : List Nat) : l.drop (l.takeWhile p).length = l.dropWhile p := by
  induction l with
  | nil => rfl
  | cons x l ih =>
    rw [List.takeWhile_cons, List.dropWhile_cons]
    split
    · rw [List.length_cons, List.drop_succ_cons, ih]
    · rfl
theorem T_strip : Txt.stripChars (T l) (T w) = T (trimL w l) := by
  have e0 : ∀ c, (T w).cps.contains c = decide (c ∈ w) := fun c => by simp [T]
  have e1 : (T w).cps.contains = fun c => decide (c ∈ w) := funext e0
  unfold Txt.stripChars
  rw [e1, PyProof.Rows.stripBy_eq, PyProof.Rows.strSub_mk]
  unfold PySem.stripLo PySem.stripHi
  simp only [if_true, T_toList, T_len]
  rw [drop_tw]
  show T _ = _
  unfold trimL trimR
  congr 1
  generalize hp : (fun c => decide (c ∈ w)) = p
  have h1 : (l.takeWhile p).length + (l.dropWhile p).length = l.length := by
    have := congrArg List.length (List.takeWhile_append_dropWhile (p := p) (l := l))
    rwa [List.length_append] at this
  generalize l.dropWhile p = d at h1 ⊢
  have h2 : (d.reverse.takeWhile p).length + (d.reverse.dropWhile p).length = d.length := by
    have := congrArg List.length (List.takeWhile_append_dropWhile (p := p) (l := d.reverse))
    rwa [List.length_append, List.length_reverse] at this
  have h3 : d = (d.reverse.dropWhile p).reverse ++ (d.reverse.takeWhile p).reverse := by
    rw [← List.reverse_append, List.takeWhile_append_dropWhile, List.reverse_reverse]
  have h4 : l.length - (d.reverse.takeWhile p).length - (l.takeWhile p).length = (d.reverse.dropWhile p).reverse.length := by
    rw [List.length_reverse]; omega
  rw [h4]
  conv => lhs; arg 2; rw [h3]
  rw [List.take_left]
theorem gIn_T : gIn (.str (T [c])) (.str (T l)) = some (.bool (decide (c ∈ l))) := rfl
theorem gNin_T : gNin (.str (T [c])) (.str (T l)) = some (.bool (!decide (c ∈ l))) := rfl
theorem eq_T (s : Str) : ∃ l, s = T l := ⟨_, T_of s⟩
theorem T_join {ls : List (List Nat)} (s : List Nat) : Txt.join (T s) (ls.map T) = T (s.intercalate ls) := by
  rw [T_of (Txt.join _ _), T_inj]
  cases ls with
  | nil => rfl
  | cons p r =>
    show (Builtin.Str.glued (T s) (T p :: r.map T)).cps.toList = _
    rw [PySem.StrLaws.glued_list]
    have h : ∀ r : List (List Nat), PySem.StrLaws.glueL (T s).cps.toList (r.map T) = (r.map fun x => s ++ x).flatten := by
      intro r
      induction r with
      | nil => rfl
      | cons x r ih =>
        show (T s).cps.toList ++ ((T x).cps.toList ++ PySem.StrLaws.glueL _ _) = _
        rw [ih]
        simp [T_toList]
    show p ++ PySem.StrLaws.glueL _ _ = _
    rw [h]
    clear h
    induction r generalizing p with
    | nil => simp [List.intercalate]
    | cons x r ih =>
      have := ih x
      simp only [List.intercalate, List.intersperse_cons₂, List.flatten_cons, List.map_cons] at this ⊢
      rw [← this]
      simp
end
end Fw
namespace Fw
open PySem PySem.Spec L2
open PyProof.Rows hiding St
section
variable {X : Cx} {a : Expr} {px pos : Pos}
/-- tuple(name), whether the list is owned or not -/
def tupA (i : Nat) : SE PyData := fun E => match E[i]? with
  | some (.own xs) => some (.tuple xs, E)
  | some (.dat d) => (gTuple d).map fun z => (z, E)
  | _ => none
theorem px_tupA {i : Nat} (hg : Gl X "tuple") (hm : X.mg "tuple" = none) (ha : PE X a (tVar i)) (he : starEach [a] X.env = (false, eval a X.env) :: starEach [] X.env := by rfl) : PX X false true (.Call (.Name "tuple" px) [a] [] pos) (tupA i) :=
  pe_imp (pe_callTy (T := "tuple") call_tuple_of hg hm (by decide +kernel) (pa_cons ha pa_nil he) (by decide) (by decide) he rfl) fun σ H Q => by
  rintro ⟨vs0, P, E, fps, d, E', rel, hh, q⟩
  unfold tupA at hh
  split at hh
  · rename_i xs e0
    cases hh
    have e1 : own? i E = some xs := by unfold own?; rw [e0]
    obtain ⟨ad, vs, es, -, -, hv, dv⟩ := rel.ownAt e1
    refine ⟨_, es, ad, vs, rfl, .inl ⟨SqL.of hv, fun p0 hp => ?_⟩⟩
    have s1 : Same P (upd P p0 (.tup vs)) := Fw.same_upd (sub_none rel.sub hp)
    exact q (upd P p0 (.tup vs)) (upd H p0 (.tup vs)) fps (.ref p0) (rel.alloc s1 (same_upd2 rel.sub hp) (Fw.same_upd hp) (fresh_upd hp)) (.alloc s1 (Fw.same_upd hp) (fresh_upd hp)) (fun _ => Fw.same_upd hp) (.tup (SqC.of upd_same) (dv.mono s1))
  · rename_i d1 e0
    cases hz : gTuple d1 with
    | none => rw [hz] at hh; cases hh
    | some z =>
      rw [hz] at hh
      cases hh
      obtain ⟨ov, e2, s⟩ := rel.sl i _ e0
      generalize hfp : fps i = fp at s
      cases s with
      | dat dv => exact ⟨_, e2, vu_tuple P H _ d1 _ Q rel.sub dv hz fun P' H' w pp su hh fr dw => q P' H' fps w (rel.alloc pp su hh fr) (.alloc pp hh fr) (fun _ => hh) dw⟩
  · cases hh
theorem ok_tupA {i : Nat} {E : En} {Q : PyData → En → Prop} : Ok (tupA i E) Q = match E[i]? with
    | some (.own xs) => Q (.tuple xs) E
    | some (.dat d) => OkV (gTuple d) fun z => Q z E
    | _ => False := by
  unfold tupA
  cases E[i]? with
  | none => exact ok_none
  | some s =>
    cases s with
    | own xs => exact ok_some
    | dat d =>
      show Ok ((gTuple d).map fun z => (z, E)) Q = OkV (gTuple d) fun z => Q z E
      cases gTuple d with
      | none => exact ok_none.trans okV_none.symm
      | some z => rw [okV_some]; exact ok_some
    | _ => exact ok_none
end
end Fw
namespace FwP
open PySem Builtin Builtin.Str Builtin.Int
theorem gv_ljust2 (x : Str) (i : Int) (c : Nat) (t u v : Tok) (hr : (decide (i < -(2 ^ 63 : Int)) || decide (i ≥ 2 ^ 63)) = false) (hl : tooLong i.toNat = false) :
    Gives (Builtin.«str.ljust» ⟨[.str x t, .int i u, .str ⟨#[c]⟩ v], []⟩) (if i ≤ x.length then .val (.str x t) else .str (Builtin.Str.padded x 0 (i.toNat - x.length) c)) := by
  show Gives (do
    let width ← asSsize s!"str.{"ljust"}" (.int i u)
    let fill ← Builtin.Str.fillChar "ljust" (some (.str ⟨#[c]⟩ v))
    if width ≤ x.length then (do rule s!"str.{"ljust"}.long-enough"; ret (.str x t)) else
    if tooLong width.toNat = true then unsupported s!"str.{"ljust"}:memory" else retStr (Builtin.Str.padded x 0 (width.toNat - x.length) fill)) _
  rw [asSsize_int _ _ _ hr]
  show Gives (if i ≤ x.length then (do rule s!"str.{"ljust"}.long-enough"; ret (.str x t)) else
    if tooLong i.toNat = true then unsupported s!"str.{"ljust"}:memory" else retStr (Builtin.Str.padded x 0 (i.toNat - x.length) c)) _
  rw [hl]
  by_cases h : i ≤ (x.length : Int)
  · rw [if_pos h, if_pos h]; exact .rule (.of_eq rfl)
  · rw [if_neg h, if_neg h]; exact .of_eq rfl
end FwP
namespace Fw
open PySem PySem.Spec L2
open PyProof.Rows hiding St
section
variable {X : Cx} {m m1 m2 p p1 p2 : Bool} {a b e o : Expr} {es : List Expr} {pos apos : Pos} {f fa fb fo : SE PyData} {fs : SE (List PyData)}
def strM (fo : SE PyData) (fs : SE (List PyData)) (g : Str → List PyData → Option PyData) : SE PyData := bnd fo fun d => match d with
  | .str s => bnd fs fun ds => lft (g s ds)
  | _ => fun _ => none
theorem ok_strM {g : Str → List PyData → Option PyData} {E : En} {Q : PyData → En → Prop} : Ok (strM fo fs g E) Q = Ok (fo E) fun d E1 => match d with
    | .str s => Ok (fs E1) fun ds E2 => OkV (g s ds) fun z => Q z E2
    | _ => False := by
  unfold strM
  rw [ok_bnd]
  congr 1
  funext d E1
  cases d with
  | str s => simp only [ok_bnd, ok_lft]
  | _ => exact ok_none
theorem px_strM {name : Str} {id : String} {r : V → List V → Hp → VK → Prop} {g : Str → List PyData → Option PyData} (slot : Slot "str" name id) (hty : typeOf (.builtin id) = pure (.type "method_descriptor")) (hm : MtR X id r)
    (v : ∀ (P H : Hp) (s : Str) (ys : List V) (ds : List PyData) (z : PyData) (Q : VK), Same P H → DqAll X.K P ys ds → g s ds = some z → After X.K P H z Q → r (.str s) ys H Q) (ho : PX X m1 p o fo) (ha : PXA X m2 (e :: es) fs)
    (hbase : attributeBase o name X.env (eval o X.env) = eval o X.env := by rfl)
    (hfew : ((backTo pos (starEach (e :: es) X.env)).all (fun x => !x.1) && (backToKw pos (keywordEach [] X.env)).all (fun x => x.1.isSome)
      && decide ((e :: es).length + ([] : List Keyword).length + (if ([] : List Keyword).isEmpty then 0 else 1) < 30)) = true := by rfl)
    (hline : (apos.endLine == pos.line) = true := by rfl) (hs : starEach (e :: es) X.env = (false, eval e X.env) :: starEach es X.env := by rfl) (hplain : (backTo pos (starEach es X.env)).any (·.1) = false := by rfl) :
    PX X (m1 || m2) true (.Call (.Attribute o name apos) (e :: es) [] pos) (strM fo fs g) :=
  pe_imp (pe_bm PySem.F.plainAttrs_str slot hty hm ho ha hbase hfew hline hs hplain) fun σ H Q => by
  rintro ⟨vs0, P, E, fps, d, E', rel, hh, q⟩
  obtain ⟨d1, E1, h1, hh⟩ := bnd_some hh
  split at hh
  · rename_i s
    obtain ⟨ds, E2, h2, hh⟩ := bnd_some hh
    obtain ⟨h3, rfl⟩ := lft_some hh
    refine ⟨vs0, P, E, fps, _, E1, rel, h1, fun P1 H1 fps1 x r1 s1 m1' dx => ?_⟩
    have ex : x = .str s := by cases p <;> exact dq_str dx
    subst ex
    refine ⟨rfl, vs0, P1, E1, fps1, ds, _, r1, h2, fun P2 H2 fps2 ys r2 s2 m2' dy => ?_⟩
    refine v P2 H2 s ys ds d Q r2.sub dy h3 fun P3 H3 w pp su hh fr dw => ?_
    refine q P3 H3 fps2 w (r2.alloc pp su hh fr) ((s1.trans s2).trans (.alloc pp hh fr)) (fun hm => ?_) dw
    rw [Bool.or_eq_false_iff] at hm
    exact ((m1' hm.1).trans (m2' hm.2)).trans hh
  · cases hh
def padTo (s : Str) (i : Int) (c : Nat) : Str := if i ≤ s.length then s else Builtin.Str.padded s 0 (i.toNat - s.length) c
theorem mt_ljustC : MtR X "str.ljust" (fun x xs H Q => ∃ (a : Str) (i : Int) (c : Nat), x = .str a ∧ xs = [.int i, .str ⟨#[c]⟩] ∧ PadOk i = true ∧ Q (.str (padTo a i c)) H) := by
  intro pins s σ H x xs v us Q I rx rs h
  obtain ⟨a, i, c, rfl, rfl, hp, q⟩ := h
  obtain ⟨t, rfl⟩ := rx
  cases rs with
  | cons r1 rs =>
    cases rs with
    | cons r2 rs =>
      cases rs
      obtain ⟨u, rfl⟩ := r1
      obtain ⟨w, rfl⟩ := r2
      exact call_gives PySem.F.slot_str_ljust (typeIs_str _ _ _) PySem.F.entry_str_ljust (PySem.F.args_str_ljust_3 _ _ _) (FwP.gv_ljust2 a i c t u w (PadOk.parts hp).1 (PadOk.parts hp).2) (post_val_or_made (fits_padR c (PadOk.parts hp).2) fun t' k => ⟨.str (padTo a i c), H, I.tok k, ⟨t', rfl⟩, q⟩)
def gLjust (s : Str) : List PyData → Option PyData
  | [.int i, .str f] => match f.cps.toList with
    | [c] => if PadOk i = true then some (.str (padTo s i c)) else none
    | _ => none
  | _ => none
theorem sgn_of {f : Str} {c : Nat} (h : f.cps.toList = [c]) : f = ⟨#[c]⟩ := by
  cases f with
  | mk cps => exact congrArg Str.mk (Array.toList_inj.mp h)
theorem px_ljust (ho : PX X m1 p o fo) (ha : PXA X m2 (e :: es) fs)
    (hbase : attributeBase o "ljust" X.env (eval o X.env) = eval o X.env := by rfl)
    (hfew : ((backTo pos (starEach (e :: es) X.env)).all (fun x => !x.1) && (backToKw pos (keywordEach [] X.env)).all (fun x => x.1.isSome)
      && decide ((e :: es).length + ([] : List Keyword).length + (if ([] : List Keyword).isEmpty then 0 else 1) < 30)) = true := by rfl)
    (hline : (apos.endLine == pos.line) = true := by rfl) (hs : starEach (e :: es) X.env = (false, eval e X.env) :: starEach es X.env := by rfl) (hplain : (backTo pos (starEach es X.env)).any (·.1) = false := by rfl) :
    PX X (m1 || m2) true (.Call (.Attribute o "ljust" apos) (e :: es) [] pos) (strM fo fs gLjust) :=
  px_strM PySem.F.slot_str_ljust PySem.F.type_str_ljust mt_ljustC (by
    intro P H s ys ds z Q su dy hg q
    unfold gLjust at hg
    split at hg
    · split at hg
      · rename_i c hf
        split at hg
        · rename_i hp
          cases hg
          cases dy with
          | cons h1 r1 =>
            cases r1 with
            | cons h2 r2 =>
              cases r2
              rw [dq_int h1, dq_str h2, sgn_of hf]
              exact ⟨s, _, c, rfl, rfl, hp, q.at su (.str _)⟩
        · cases hg
      · cases hg
    · cases hg) ho ha hbase hfew hline hs hplain
theorem gLjust_T {l : List Nat} {i : Int} {c : Nat} : gLjust (T l) [.int i, .str (T [c])] = if PadOk i = true then some (.str (T (l ++ List.replicate (i.toNat - l.length) c))) else none := by
  show (if PadOk i = true then some (PyData.str (padTo (T l) i c)) else none) = _
  have : padTo (T l) i c = T (l ++ List.replicate (i.toNat - l.length) c) := by
    unfold padTo
    rw [T_len]
    split
    · rename_i h
      have : i.toNat - l.length = 0 := by omega
      rw [this]; simp
    · rw [T_of (Builtin.Str.padded _ _ _ _), T_inj]
      simp [Builtin.Str.padded, T]
  rw [this]
def gFind (s : Str) : List PyData → Option PyData
  | [.str f] => some (.int (Txt.find s f))
  | _ => none
def gStarts (s : Str) : List PyData → Option PyData
  | [.str f] => some (.bool (Txt.startswith s f))
  | _ => none
section
variable (ho : PX X m1 p o fo) (ha : PXA X m2 (e :: es) fs)
    (hfew : ((backTo pos (starEach (e :: es) X.env)).all (fun x => !x.1) && (backToKw pos (keywordEach [] X.env)).all (fun x => x.1.isSome)
      && decide ((e :: es).length + ([] : List Keyword).length + (if ([] : List Keyword).isEmpty then 0 else 1) < 30)) = true := by rfl)
    (hline : (apos.endLine == pos.line) = true := by rfl) (hs : starEach (e :: es) X.env = (false, eval e X.env) :: starEach es X.env := by rfl) (hplain : (backTo pos (starEach es X.env)).any (·.1) = false := by rfl)
include ho ha hfew hline hs hplain
theorem px_find (hbase : attributeBase o "find" X.env (eval o X.env) = eval o X.env := by rfl) : PX X (m1 || m2) true (.Call (.Attribute o "find" apos) (e :: es) [] pos) (strM fo fs gFind) :=
  px_strM PySem.F.slot_str_find PySem.F.type_str_find mt_find (by
    intro P H s ys ds z Q su dy hg q
    unfold gFind at hg
    split at hg
    · cases hg
      cases dy with
      | cons h1 r1 =>
        cases r1
        rw [dq_str h1]
        exact ⟨s, _, rfl, rfl, q.at su (.int _)⟩
    · cases hg) ho ha hbase hfew hline hs hplain
theorem px_starts (hbase : attributeBase o "startswith" X.env (eval o X.env) = eval o X.env := by rfl) : PX X (m1 || m2) true (.Call (.Attribute o "startswith" apos) (e :: es) [] pos) (strM fo fs gStarts) :=
  px_strM PySem.F.slot_str_startswith PySem.F.type_str_startswith mt_startswith (by
    intro P H s ys ds z Q su dy hg q
    unfold gStarts at hg
    split at hg
    · cases hg
      cases dy with
      | cons h1 r1 =>
        cases r1
        rw [dq_str h1]
        exact ⟨s, _, rfl, rfl, q.at su (.bl _)⟩
    · cases hg) ho ha hbase hfew hline hs hplain
end
def cPow (i j : Int) : Bool := decide (0 ≤ j ∧ j ≤ 1000000 ∧ i.natAbs < 2 ^ 64)
def gPow := gI cPow fun i j => .int (i ^ j.toNat)
theorem px_pow (ha : PX X m1 true a fa) (hb : PX X m2 true b fb) : PX X (m1 || m2) true (.BinOp a .Pow b pos) (bin fa fb gPow) := px_op2 (pe_op op_pow ha hb) (vo_I (C := CPow) (fun i j h => show 0 ≤ j ∧ j ≤ 1000000 ∧ i.natAbs < 2 ^ 64 from of_decide_eq_true h) fun _ _ _ => .int _) (.inl rfl)
def cShl (i j : Int) : Bool := decide (0 ≤ j ∧ (Builtin.Int.intBits i : Int) + j ≤ 2 ^ 27)
def gShl := gI cShl fun i j => .int (i * 2 ^ j.toNat)
theorem px_shl (ha : PX X m1 true a fa) (hb : PX X m2 true b fb) : PX X (m1 || m2) true (.BinOp a .LShift b pos) (bin fa fb gShl) := px_op2 (pe_op op_shlW ha hb) (vo_I (C := CShl) (fun i j h => show 0 ≤ j ∧ (Builtin.Int.intBits i : Int) + j ≤ 2 ^ 27 from of_decide_eq_true h) fun _ _ _ => .int _) (.inl rfl)
def gShr := gI (fun _ j => decide (0 ≤ j)) fun i j => .int (i / 2 ^ j.toNat)
theorem px_shr (ha : PX X m1 true a fa) (hb : PX X m2 true b fb) : PX X (m1 || m2) true (.BinOp a .RShift b pos) (bin fa fb gShr) := px_op2 (pe_op op_shr ha hb) (vo_I (C := fun _ j => 0 ≤ j) (fun i j h => of_decide_eq_true h) fun _ _ _ => .int _) (.inl rfl)
def gBand := gI (fun _ _ => true) fun i j => .int (Builtin.bitAnd i j)
def gBor := gI (fun _ _ => true) fun i j => .int (Builtin.bitOr i j)
theorem px_band (ha : PX X m1 true a fa) (hb : PX X m2 true b fb) : PX X (m1 || m2) true (.BinOp a .BitAnd b pos) (bin fa fb gBand) := px_op2 (pe_op op_and ha hb) (vo_I0 fun _ _ _ => .int _) (.inl rfl)
theorem px_bor (ha : PX X m1 true a fa) (hb : PX X m2 true b fb) : PX X (m1 || m2) true (.BinOp a .BitOr b pos) (bin fa fb gBor) := px_op2 (pe_op op_or ha hb) (vo_I0 fun _ _ _ => .int _) (.inl rfl)
end
end Fw
namespace Fw
open PySem PySem.Spec L2
open PyProof.Rows hiding St
section
variable {X : Cx} {m m1 m2 p p1 p2 : Bool} {a b e o : Expr} {es : List Expr} {pos px apos : Pos} {f fa fb fo : SE PyData} {fs : SE (List PyData)} {x : Str}
theorem mt_tidx : MtR X "tuple.index" (fun x xs H Q => ∃ (q0 : Addr) (ys : List V) (z y : V) (j : Nat), x = .ref q0 ∧ xs = [z] ∧ SqT X.K H q0 ys ∧ ys.all flatV = true ∧ flatV z = true ∧ ys[j]? = some y ∧ eqV y z = true ∧
    (∀ (k : Nat) (w : V), k < j → ys[k]? = some w → eqV w z = false) ∧ Q (.int (j : Nat)) H) := by
  intro pins s σ H x xs v us Q I rx rs h
  obtain ⟨q0, ys, z, y, j, rfl, rfl, hq, hf, hz, hy, hyz, hno, q⟩ := h
  cases rx
  cases rs with
  | cons rz rs =>
    rename_i uz uzs
    cases rs
    obtain ⟨its, r, ⟨⟨c1, d1, dt, s1⟩, hob, hcl, n, hdt⟩, hlen⟩ := I.tuple hq
    replace hcl : c1 = .type "tuple" := hcl
    replace hdt : dt = .seq its.toArray n := hdt
    subst hcl hdt
    have hsz : its.toArray.size = ys.length := by
      rw [List.size_toArray]
      exact r.length.symm
    have item : ∀ (k : Nat) (hk : k < its.toArray.size) (w : V), ys[k]? = some w → eqU z its.toArray[k] = eqV w z := fun k hk w hw => by
      obtain ⟨u, hu, ru⟩ := r.get hw
      have e1 := (List.getElem?_eq_some_iff.mp hu).2
      have e2 : its.toArray[k] = u := by rw [← e1]; simp
      rw [e2]
      exact eqU_of ru (List.all_eq_true.mp hf w (List.mem_of_getElem? hw))
    have hjy := (List.getElem?_eq_some_iff.mp hy).1
    have hj : j < its.toArray.size := by omega
    refine call_meets PySem.F.slot_tuple_index ⟨_, hob, rfl⟩ PySem.F.entry_tuple_index (PySem.F.args_tuple_index_2 _ _) (TI.tuple_indexAt q0 its.toArray n d1 s1 uz (eqU z) j hj ?_ ?_) ?_
    · rw [item j hj y hy]
      exact hyz
    · intro k hk hkj
      have hk2 : k < ys.length := by omega
      rw [item k hk ys[k] (List.getElem?_eq_getElem hk2)]
      exact hno k _ hkj (List.getElem?_eq_getElem hk2)
    · exact ⟨hob, fun w hw => mem_eqAt rz hz r hf w (by simpa using hw), ⟨.int (j : Nat), H, I.tok _, ⟨_, rfl⟩, q⟩⟩
/-- a constant tuple whose object is known -/
def CnT (K : PySem.W.Frag) (mg : Str → Option Value) (x : Str) (ds : List PyData) : Prop := ∃ q0 : Addr, (∃ u, mg x = some u ∧ RelV (.ref q0) u) ∧ Kn K (.ref q0) (.tuple ds) ∧ ∃ o, K.lookup q0 = some o ∧ o.cls = .type "tuple" ∧ o.dict = none
theorem CnT.of {K : PySem.W.Frag} {mg : Str → Option Value} {h : Heap} {x : Str} {c : Addr} {its : Array Value} {n : Nat} {sl : Array (Option Value)} {vs : List V} {ds : List PyData} (X : K.In h) (G : h.Ns mainGlobals mg) (a : PySem.W.nsIn K mainGlobals x = some (some (.ref c)))
    (l : K.lookup c = some ⟨.type "tuple", none, .seq its n, sl⟩) (e : flatsOf its.toList = some (vs, ds)) (hz : its.size ≤ sizeLine) (hk : okC ds = true := by rfl) : CnT K mg x ds := by
  obtain ⟨h1, h2⟩ := flats_rel e
  exact ⟨c, ⟨_, PySem.W.mg_of X G a, rfl⟩, fun P => .tup (.inr ⟨hk, _, its, n, l, rfl, rfl, hz, h1⟩) (h2 K P), _, l, rfl, rfl⟩
theorem relRef (a : Addr) : RelV (.ref a) (.ref a) := rfl
theorem Kn.flat {K : PySem.W.Frag} {c : Addr} {dd : Option Addr} {its : Array Value} {n : Nat} {sl : Array (Option Value)} {vs : List V} {ds : List PyData} (l : K.lookup c = some ⟨.type "tuple", dd, .seq its n, sl⟩) (e : flatsOf its.toList = some (vs, ds)) (hz : its.size ≤ sizeLine) (hk : okC ds = true := by rfl) : Kn K (.ref c) (.tuple ds) := by
  obtain ⟨h1, h2⟩ := flats_rel e
  exact fun P => .tup (.inr ⟨hk, _, its, n, l, rfl, rfl, hz, h1⟩) (h2 K P)
theorem Kn.node {K : PySem.W.Frag} {c : Addr} {dd : Option Addr} {its : Array Value} {n : Nat} {sl : Array (Option Value)} {vs : List V} {ds : List PyData} (l : K.lookup c = some ⟨.type "tuple", dd, .seq its n, sl⟩) (r : Vals vs its.toList) (hz : its.size ≤ sizeLine) (k : ∀ P, DqAll K P vs ds) (hk : okC ds = true := by rfl) : Kn K (.ref c) (.tuple ds) :=
  fun P => .tup (.inr ⟨hk, _, its, n, l, rfl, rfl, hz, r⟩) (k P)
theorem Cn.of {K : PySem.W.Frag} {mg : Str → Option Value} {h : Heap} {x : Str} {c : Addr} {d : PyData} (X : K.In h) (G : h.Ns mainGlobals mg) (a : PySem.W.nsIn K mainGlobals x = some (some (.ref c))) (k : Kn K (.ref c) d) : Cn K mg x d := ⟨.ref c, ⟨_, PySem.W.mg_of X G a, rfl⟩, k⟩
def gTidx (ds : List PyData) (e : PyData) : Option PyData := if flatD e && ds.all flatD then (ds.findIdx? fun y => PyData.eqv y e).map fun (j : Nat) => .int (j : Nat) else none
theorem idx_of {α : Type} {ds : List α} {q : α → Bool} {j : Nat} (h : ds.findIdx? q = some j) : ∃ z, ds[j]? = some z ∧ q z = true ∧ ∀ (k : Nat) (w : α), k < j → ds[k]? = some w → q w = false := by
  rw [List.findIdx?_eq_some_iff_getElem] at h
  obtain ⟨hj, h1, h2⟩ := h
  refine ⟨ds[j], List.getElem?_eq_getElem hj, h1, fun k w hk hw => ?_⟩
  have := h2 k hk
  obtain ⟨hk2, e⟩ := List.getElem?_eq_some_iff.mp hw
  rw [← e]
  simpa using this
theorem px_tidx {ds : List PyData} (hgl : Gl X x) (hc : CnT X.K X.mg x ds) (hb : PX X m true b fb) (hd : (x == ("__debug__" : Str)) = false := by decide)
    (hbase : attributeBase (.Name x px) "index" X.env (eval (.Name x px) X.env) = eval (.Name x px) X.env := by rfl)
    (hfew : ((backTo pos (starEach [b] X.env)).all (fun x => !x.1) && (backToKw pos (keywordEach [] X.env)).all (fun x => x.1.isSome)
      && decide ([b].length + ([] : List Keyword).length + (if ([] : List Keyword).isEmpty then 0 else 1) < 30)) = true := by rfl)
    (hline : (apos.endLine == pos.line) = true := by rfl) (hs : starEach [b] X.env = (false, eval b X.env) :: starEach [] X.env := by rfl) (hplain : (backTo pos (starEach [] X.env)).any (·.1) = false := by rfl) :
    PX X m true (.Call (.Attribute (.Name x px) "index" apos) [b] [] pos) (una fb (gTidx ds)) := by
  obtain ⟨q0, ⟨u, hu, ru⟩, hk, o0, hl, hcl, hdn⟩ := hc
  refine pe_imp (pe_bm PySem.F.plainAttrs_tuple PySem.F.slot_tuple_index PySem.F.type_tuple_index mt_tidx (pe_glob hgl hu ru hd) (pa_cons hb pa_nil hs) hbase hfew hline hs hplain) fun σ H Q => ?_
  rintro ⟨vs0, P, E, fps, d, E', rel, hh, q⟩
  obtain ⟨d1, E1, h1, hh⟩ := bnd_some hh
  obtain ⟨h2, rfl⟩ := lft_some hh
  refine ⟨.inr (.inl ⟨rfl, o0, hl, hcl, hdn⟩), vs0, P, E, fps, d1, _, rel, h1, fun P1 H1 fps1 y r1 s1 m1' dy => ?_⟩
  unfold gTidx at h2
  split at h2
  · rename_i hfl
    rw [Bool.and_eq_true] at hfl
    cases hj : ds.findIdx? (fun y => PyData.eqv y d1) with
    | none => rw [hj] at h2; cases h2
    | some j =>
      rw [hj] at h2
      cases h2
      obtain ⟨z, hz, hzj, hno⟩ := idx_of hj
      have dk := hk P1
      cases dk with
      | @tup _ vs _ hseq hv =>
        have hvf : vs.all flatV = true := by rw [all_flat hv]; exact hfl.2
        obtain ⟨w, hw, dw⟩ := hv.get hz
        have e1 : ∀ {w' : V} {z' : PyData}, Dq X.K P1 w' z' → flatD z' = true → eqV w' y = PyData.eqv z' d1 := fun a b => eqV_of a dy b hfl.1
        refine ⟨q0, vs, y, w, j, rfl, rfl, seqC r1.sub hseq, hvf, by rw [flat_of dy]; exact hfl.1, hw, ?_, fun k w' hk' hw' => ?_, ?_⟩
        · rw [e1 dw (List.all_eq_true.mp hfl.2 z (List.mem_of_getElem? hz))]
          exact hzj
        · obtain ⟨z', hz', dw'⟩ := hv.getV hw'
          rw [e1 dw' (List.all_eq_true.mp hfl.2 z' (List.mem_of_getElem? hz'))]
          exact hno k z' hk' hz'
        · exact q P1 H1 fps1 _ r1 s1 m1' (.int _)
  · cases h2
def gLidx (d e : PyData) : Option PyData := match d with
  | .list ys => if SeqAt.shaped (.list ys) && SeqAt.shaped e then (ys.findIdx? fun y => PyData.eqv y e).map fun (j : Nat) => .int (j : Nat) else none
  | _ => none
theorem px_lidx {k : Nat} (hr : Room k X.A) (ho : PX X m1 true o fo) (hb : PX X m2 true b fb)
    (hbase : attributeBase o "index" X.env (eval o X.env) = eval o X.env := by rfl)
    (hfew : ((backTo pos (starEach [b] X.env)).all (fun x => !x.1) && (backToKw pos (keywordEach [] X.env)).all (fun x => x.1.isSome)
      && decide ([b].length + ([] : List Keyword).length + (if ([] : List Keyword).isEmpty then 0 else 1) < 30)) = true := by rfl)
    (hline : (apos.endLine == pos.line) = true := by rfl) (hs : starEach [b] X.env = (false, eval b X.env) :: starEach [] X.env := by rfl) (hplain : (backTo pos (starEach [] X.env)).any (·.1) = false := by rfl) :
    PX X (m1 || m2) true (.Call (.Attribute o "index" apos) [b] [] pos) (bin fo fb gLidx) := by
  refine pe_imp (pe_bm PySem.F.plainAttrs_list PySem.F.slot_list_index PySem.F.type_list_index (mt_indexD (Room.u65 hr)) ho (pa_cons hb pa_nil hs) hbase hfew hline hs hplain) fun σ H Q => ?_
  rintro ⟨vs0, P, E, fps, d, E', rel, hh, q⟩
  obtain ⟨d1, E1, h1, hh⟩ := bnd_some hh
  obtain ⟨d2, E2, h2, hh⟩ := bnd_some hh
  obtain ⟨h3, rfl⟩ := lft_some hh
  unfold gLidx at h3
  split at h3
  · rename_i ys hh2
    split at h3
    · rename_i hsh
      rw [Bool.and_eq_true] at hsh
      cases hj : ys.findIdx? (fun y => PyData.eqv y d2) with
      | none => rw [hj] at h3; cases h3
      | some j =>
        rw [hj] at h3
        cases h3
        obtain ⟨z, hz, hzj, hno⟩ := idx_of hj
        refine ⟨vs0, P, E, fps, _, E1, rel, h1, fun P1 H1 fps1 x r1 s1 m1' dx => ?_⟩
        have dx' : Dq X.K P1 x (.list ys) := dx
        cases dx with
        | @lst ad vs _ hx hv =>
          refine ⟨.inl ⟨rfl, vs, SqL.of (r1.sub _ _ hx)⟩, vs0, P1, E1, fps1, d2, _, r1, h2, fun P2 H2 fps2 y r2 s2 m2' dy => ?_⟩
          refine ⟨ad, y, d2, ys, j, z, rfl, rfl, (Dq.mono (s2.pp.trans r2.sub) dx').dp, (Dq.mono r2.sub dy).dp, hsh.1, hsh.2, hz, hzj, hno, ?_⟩
          refine q P2 H2 fps2 _ r2 (s1.trans s2) (fun hm => ?_) (.int _)
          rw [Bool.or_eq_false_iff] at hm
          exact (m1' hm.1).trans (m2' hm.2)
    · cases h3
  · cases h3
def gRep : PyData → PyData → Option (List PyData)
  | .list xs, .int k => if 0 ≤ k ∧ k < 2 ^ 40 ∧ xs.length * k.toNat ≤ sizeLine then some (List.replicate k.toNat xs).flatten else none
  | _, _ => none
theorem DqAll.rep {K : PySem.W.Frag} {H : Hp} {vs : List V} {ds : List PyData} (h : DqAll K H vs ds) : ∀ n : Nat, DqAll K H (List.replicate n vs).flatten (List.replicate n ds).flatten
  | 0 => .nil
  | n + 1 => by
    rw [List.replicate_succ, List.replicate_succ, List.flatten_cons, List.flatten_cons]
    exact h.append (DqAll.rep h n)
theorem pl_rep (ha : PX X m1 true a fa) (hb : PX X m2 true b fb) : PL X (m1 || m2) (.BinOp a .Mult b pos) (binL fa fb gRep) := pl_op2 (pe_op op_rep ha hb) (by
  intro P H x y d e zs Q su dx dy hg q
  unfold gRep at hg
  split at hg
  · split at hg
    · rename_i xs k hl
      cases dx with
      | @lst l vs _ hx hv =>
        cases hg
        have l1 := hv.length
        rw [dq_int dy]
        exact ⟨_, k, vs, rfl, rfl, su _ _ hx, by omega, by omega, by rw [l1]; exact hl.2.2, fun p0 hp => q.new su hp (hv.rep _)⟩
    · cases hg
  · cases hg) (.inl rfl)
end
end Fw
namespace Fw
open PySem PySem.Spec L2
open PyProof.Rows hiding St
section
variable {X : Cx} {m m1 m2 m3 m4 p p1 p2 : Bool} {a b c d e : Expr} {pos : Pos} {fa fb fc fd : SE PyData}
theorem vo_lt {K : PySem.W.Frag} : VO K p1 p2 (rI0 fun i j => .bl (decide (i < j))) gLt := vo_I0 fun _ _ _ => .bl _
/-- x op y op z op u -/
def tChain3 (r1 r2 r3 : R2) (ta tb tc td : TE) : TE := fun σ H Q => ta σ H fun x H1 => tb σ H1 fun y H2 => r1 x y H2 fun z H3 => ∃ k, z = .bl k ∧
  (if k = true then tc σ H3 fun w H4 => r2 y w H4 fun z2 H5 => ∃ k2, z2 = .bl k2 ∧ (if k2 = true then td σ H5 fun u H6 => r3 w u H6 Q else Q (.bl false) H5) else Q (.bl false) H3)
theorem pe_chain3 {op op' op'' : CmpOp} {r1 r2 r3 : R2} {ta tb tc td : TE} (ho : OpR X (compareOp op) r1) (ho' : OpR X (compareOp op') r2) (ho'' : OpR X (compareOp op'') r3) (ha : PE X a ta) (hb : PE X b tb) (hc : PE X c tc) (hd : PE X d td)
    (hm : lastMarks [op, op', op''] [b, c, d] = false := by with_unfolding_all rfl) : PE X (.Compare a [op, op', op''] [b, c, d] pos) (tChain3 r1 r2 r3 ta tb tc td) := by
  refine ⟨fun pins s σ H Q I h => ?_⟩
  refine Compare_chain (thn (ha.run pins s σ H _ I h) fun v s1 ⟨x, H1, I1, q0, q1⟩ => chain_link (thn (hb.run pins s1 σ H1 _ I1 q1) fun u s2 ⟨y, H2, I2, q02, q2⟩ =>
    thn (ho pins s2 σ H2 x y v u _ I2 q0 q02 q2) fun d0 s3 ⟨z, H3, I3, q03, k, e, q3⟩ => ?_)) hm
  subst e
  cases q03
  refine wpAny_truthy_bool ?_
  cases k with
  | false => exact ite_ff ⟨.bl false, H3, I3, rfl, q3⟩
  | true =>
    refine ite_tt (chain_link (thn (hc.run pins s3 σ H3 _ I3 q3) fun w s4 ⟨z', H4, I4, q04, q4⟩ => thn (ho' pins s4 σ H4 y z' u w _ I4 q02 q04 q4) fun d5 s5 ⟨z2, H5, I5, q05, k2, e2, q5⟩ => ?_))
    subst e2
    cases q05
    refine wpAny_truthy_bool ?_
    cases k2 with
    | false => exact ite_ff ⟨.bl false, H5, I5, rfl, q5⟩
    | true => exact ite_tt (chain_last (thn (hd.run pins s5 σ H5 _ I5 q5) fun w' s6 ⟨z6, H6, I6, q06, q6⟩ => ho'' pins s6 σ H6 z' z6 w w' Q I6 q04 q06 q6))
def chn3 (fa fb fc fd : SE PyData) (g1 g2 g3 : PyData → PyData → Option PyData) : SE PyData := bnd fa fun d => bnd fb fun e => bnd (toB (lft (g1 d e))) fun k => if k then
  (bnd fc fun w => bnd (toB (lft (g2 e w))) fun k2 => if k2 then bnd fd fun u => lft (g3 w u) else ret (.bool false)) else ret (.bool false)
theorem chn3_core {K : PySem.W.Frag} {r1 r2 r3 : R2} {g1 g2 g3 : PyData → PyData → Option PyData} (v1 : VO K true true r1 g1) (v2 : VO K true true r2 g2) (v3 : VO K true true r3 g3) {σ : St} {H : Hp} {Q : VK}
    (h : tX K (m1 || (m2 || (m3 || m4))) true (chn3 fa fb fc fd g1 g2 g3) σ H Q) : tChain3 r1 r2 r3 (tX K m1 true fa) (tX K m2 true fb) (tX K m3 true fc) (tX K m4 true fd) σ H Q := by
  obtain ⟨vs0, P, E, fps, d, E', rel, hh, q⟩ := h
  obtain ⟨d1, E1, h1, hh⟩ := bnd_some hh
  obtain ⟨d2, E2, h2, hh⟩ := bnd_some hh
  obtain ⟨k, E3, h3, hh⟩ := bnd_some hh
  obtain ⟨h3', rfl⟩ := lft_some (toB_some h3)
  refine ⟨vs0, P, E, fps, d1, E1, rel, h1, fun P1 H1 fps1 x q1 s1 m1' dx => ⟨vs0, P1, E1, fps1, d2, _, q1, h2, fun P2 H2 fps2 y q2 s2 m2' dy => ?_⟩⟩
  refine v1 P2 H2 x y d1 d2 _ _ q2.sub (Dq.mono s2.pp dx) dy h3' fun P3 H3 z pp su hh3 fr dz => ⟨k, dq_bl dz, ?_⟩
  have q3 := q2.alloc pp su hh3 fr
  have s3 := (s1.trans s2).trans (Step.alloc (F := In fps2) pp hh3 fr)
  cases k with
  | false =>
    rw [if_neg Bool.false_ne_true] at hh
    obtain ⟨rfl, rfl⟩ := ret_some hh
    rw [if_neg Bool.false_ne_true]
    refine q P3 H3 fps2 _ q3 s3 (fun hm => ?_) (.bl false)
    rw [Bool.or_eq_false_iff, Bool.or_eq_false_iff] at hm
    exact ((m1' hm.1).trans (m2' hm.2.1)).trans hh3
  | true =>
    rw [if_pos rfl] at hh
    rw [if_pos rfl]
    obtain ⟨d4, E4, h4, hh⟩ := bnd_some hh
    obtain ⟨k2, E5, h5, hh⟩ := bnd_some hh
    obtain ⟨h5', rfl⟩ := lft_some (toB_some h5)
    refine ⟨vs0, P3, _, fps2, d4, _, q3, h4, fun P4 H4 fps4 w q4 s4 m4' dw => ?_⟩
    refine v2 P4 H4 y w d2 d4 _ _ q4.sub (Dq.mono (pp.trans s4.pp) dy) dw h5' fun P5 H5 u pp5 su5 hh5 fr5 du => ⟨k2, dq_bl du, ?_⟩
    have q5 := q4.alloc pp5 su5 hh5 fr5
    have s5 := (s3.trans s4).trans (Step.alloc (F := In fps4) pp5 hh5 fr5)
    cases k2 with
    | false =>
      rw [if_neg Bool.false_ne_true] at hh
      obtain ⟨rfl, rfl⟩ := ret_some hh
      rw [if_neg Bool.false_ne_true]
      refine q P5 H5 fps4 _ q5 s5 (fun hm => ?_) (.bl false)
      rw [Bool.or_eq_false_iff, Bool.or_eq_false_iff, Bool.or_eq_false_iff] at hm
      exact ((((m1' hm.1).trans (m2' hm.2.1)).trans hh3).trans (m4' hm.2.2.1)).trans hh5
    | true =>
      rw [if_pos rfl] at hh
      rw [if_pos rfl]
      obtain ⟨d6, E6, h6, hh⟩ := bnd_some hh
      obtain ⟨h7, rfl⟩ := lft_some hh
      refine ⟨vs0, P5, _, fps4, d6, _, q5, h6, fun P6 H6 fps6 w6 q6 s6 m6' dw6 => ?_⟩
      refine v3 P6 H6 w w6 d4 d6 d _ q6.sub (Dq.mono (pp5.trans s6.pp) dw) dw6 h7 fun P7 H7 u7 pp7 su7 hh7 fr7 du7 => ?_
      refine q P7 H7 fps6 u7 (q6.alloc pp7 su7 hh7 fr7) ((s5.trans s6).trans (.alloc pp7 hh7 fr7)) (fun hm => ?_) du7
      rw [Bool.or_eq_false_iff, Bool.or_eq_false_iff, Bool.or_eq_false_iff] at hm
      exact ((((((m1' hm.1).trans (m2' hm.2.1)).trans hh3).trans (m4' hm.2.2.1)).trans hh5).trans (m6' hm.2.2.2)).trans hh7
theorem px_ch2 {op op' : CmpOp} {r1 r2 : R2} {g1 g2 : PyData → PyData → Option PyData} (o1 : OpR X (compareOp op) r1) (v1 : VO X.K true true r1 g1) (o2 : OpR X (compareOp op') r2) (v2 : VO X.K true true r2 g2)
    (ha : PX X m1 true a fa) (hb : PX X m2 true b fb) (hc : PX X m3 true c fc) (hm : lastMarks [op, op'] [b, c] = false) : PX X (m1 || (m2 || m3)) true (.Compare a [op, op'] [b, c] pos) (chn fa fb fc g1 g2) := pe_imp (pe_chain o1 o2 ha hb hc hm) fun σ H Q h => chn_core v1 v2 h
theorem px_ch3 {op op' op'' : CmpOp} {r1 r2 r3 : R2} {g1 g2 g3 : PyData → PyData → Option PyData} (o1 : OpR X (compareOp op) r1) (v1 : VO X.K true true r1 g1) (o2 : OpR X (compareOp op') r2) (v2 : VO X.K true true r2 g2) (o3 : OpR X (compareOp op'') r3) (v3 : VO X.K true true r3 g3)
    (ha : PX X m1 true a fa) (hb : PX X m2 true b fb) (hc : PX X m3 true c fc) (hd : PX X m4 true d fd) (hm : lastMarks [op, op', op''] [b, c, d] = false) : PX X (m1 || (m2 || (m3 || m4))) true (.Compare a [op, op', op''] [b, c, d] pos) (chn3 fa fb fc fd g1 g2 g3) := pe_imp (pe_chain3 o1 o2 o3 ha hb hc hd hm) fun σ H Q h => chn3_core v1 v2 v3 h
theorem px_lelt (ha : PX X m1 true a fa) (hb : PX X m2 true b fb) (hc : PX X m3 true c fc) : PX X (m1 || (m2 || m3)) true (.Compare a [.LtE, .Lt] [b, c] pos) (chn fa fb fc gLe gLt) := px_ch2 op_leA vo_le op_lt vo_lt ha hb hc (nomark c)
theorem px_lelelt (ha : PX X m1 true a fa) (hb : PX X m2 true b fb) (hc : PX X m3 true c fc) (hd : PX X m4 true d fd) : PX X (m1 || (m2 || (m3 || m4))) true (.Compare a [.LtE, .LtE, .Lt] [b, c, d] pos) (chn3 fa fb fc fd gLe gLe gLt) := px_ch3 op_leA vo_le op_leA vo_le op_lt vo_lt ha hb hc hd (nomark d)
theorem ok_chn3 {g1 g2 g3 : PyData → PyData → Option PyData} {E : En} {Q : PyData → En → Prop} : Ok (chn3 fa fb fc fd g1 g2 g3 E) Q = Ok (fa E) fun d E1 => Ok (fb E1) fun e E2 => OkV (g1 d e) fun k => match k with
    | .bool true => Ok (fc E2) fun w E3 => OkV (g2 e w) fun k2 => match k2 with
      | .bool true => Ok (fd E3) fun u E4 => OkV (g3 w u) fun z => Q z E4
      | .bool false => Q (.bool false) E3
      | _ => False
    | .bool false => Q (.bool false) E2
    | _ => False := by
  unfold chn3
  rw [ok_bnd]
  congr 1
  funext d E1
  rw [ok_bnd]
  congr 1
  funext e E2
  rw [ok_bnd, ok_toB, ok_lft]
  congr 1
  funext k
  cases k with
  | bool x =>
    cases x
    · exact ok_some
    · show Ok (bnd fc _ E2) Q = _
      rw [ok_bnd]
      congr 1
      funext w E3
      rw [ok_bnd, ok_toB, ok_lft]
      congr 1
      funext k2
      cases k2 with
      | bool y =>
        cases y
        · exact ok_some
        · show Ok (bnd fd _ E3) Q = _
          rw [ok_bnd]
          congr 1
          funext u E4
          exact ok_lft
      | _ => rfl
  | _ => rfl
theorem pt_chain3 {op op' op'' : CmpOp} {r1 r2 r3 : R2} {ta tb tc td : TE} (ho : OpR X (compareOp op) r1) (ho' : OpR X (compareOp op') r2) (ho'' : OpR X (compareOp op'') r3) (ha : PE X a ta) (hb : PE X b tb) (hc : PE X c tc) (hd : PE X d td)
    (hm : lastMarks [op, op', op''] [b, c, d] = false := by with_unfolding_all rfl) : PT X (.Compare a [op, op', op''] [b, c, d] pos) (tTest (tChain3 r1 r2 r3 ta tb tc td)) := by
  refine ⟨fun pins s σ H Q I h => ?_⟩
  refine isTrue_chain (thn (ha.run pins s σ H _ I h) fun v s1 ⟨x, H1, I1, q0, q1⟩ => test_link (thn (hb.run pins s1 σ H1 _ I1 q1) fun u s2 ⟨y, H2, I2, q02, q2⟩ =>
    thn (ho pins s2 σ H2 x y v u _ I2 q0 q02 q2) fun d0 s3 ⟨z, H3, I3, q03, k, e, q3⟩ => ?_)) hm
  subst e
  cases q03
  refine wpAny_truthy_bool ?_
  cases k with
  | false =>
    obtain ⟨k', e', q'⟩ := q3
    cases e'
    exact ite_ff ⟨H3, I3, q'⟩
  | true =>
    refine ite_tt (test_link (thn (hc.run pins s3 σ H3 _ I3 q3) fun w s4 ⟨z', H4, I4, q04, q4⟩ => thn (ho' pins s4 σ H4 y z' u w _ I4 q02 q04 q4) fun d5 s5 ⟨z2, H5, I5, q05, k2, e2, q5⟩ => ?_))
    subst e2
    cases q05
    refine wpAny_truthy_bool ?_
    cases k2 with
    | false =>
      obtain ⟨k', e', q'⟩ := q5
      cases e'
      exact ite_ff ⟨H5, I5, q'⟩
    | true =>
      refine ite_tt (test_last (thn (hd.run pins s5 σ H5 _ I5 q5) fun w' s6 ⟨z6, H6, I6, q06, q6⟩ => thn (ho'' pins s6 σ H6 z' z6 w w' _ I6 q04 q06 q6) fun d' s7 ⟨z7, H7, I7, q7, k7, e7, q8⟩ => ?_))
      subst e7
      cases q7
      exact wpAny_truthy_bool ⟨H7, I7, q8⟩
theorem pt_lelt (ha : PX X m1 true a fa) (hb : PX X m2 true b fb) (hc : PX X m3 true c fc) : PXT X (m1 || (m2 || m3)) (.Compare a [.LtE, .Lt] [b, c] pos) (toB (chn fa fb fc gLe gLt)) := pt_imp (pt_chain op_leA op_lt ha hb hc (nomark c)) fun σ H Q => by
  rintro ⟨vs0, P, E, fps, d, E', rel, hh, q⟩
  refine chn_core vo_le vo_lt ⟨vs0, P, E, fps, .bool d, E', rel, toB_some hh, fun P' H' fps' v r' st sm dv => ⟨d, dq_bl dv, q P' H' fps' r' st sm⟩⟩
theorem pt_lelelt (ha : PX X m1 true a fa) (hb : PX X m2 true b fb) (hc : PX X m3 true c fc) (hd : PX X m4 true d fd) : PXT X (m1 || (m2 || (m3 || m4))) (.Compare a [.LtE, .LtE, .Lt] [b, c, d] pos) (toB (chn3 fa fb fc fd gLe gLe gLt)) := pt_imp (pt_chain3 op_leA op_leA op_lt ha hb hc hd (nomark d)) fun σ H Q => by
  rintro ⟨vs0, P, E, fps, d, E', rel, hh, q⟩
  refine chn3_core vo_le vo_le vo_lt ⟨vs0, P, E, fps, .bool d, E', rel, toB_some hh, fun P' H' fps' v r' st sm dv => ⟨d, dq_bl dv, q P' H' fps' r' st sm⟩⟩
def gGtS : PyData → PyData → Option PyData
  | .str x, .str y => some (.bool (decide (y.cps.toList < x.cps.toList)))
  | _, _ => none
def gLtS : PyData → PyData → Option PyData
  | .str x, .str y => some (.bool (decide (x.cps.toList < y.cps.toList)))
  | _, _ => none
def gGeS : PyData → PyData → Option PyData
  | .str x, .str y => some (.bool (!decide (x.cps.toList < y.cps.toList)))
  | _, _ => none
theorem vo_gts {K : PySem.W.Frag} : VO K p1 p2 (fun x y H Q => ∃ i j, x = V.str i ∧ y = V.str j ∧ Q (.bl (decide (j.cps.toList < i.cps.toList))) H) gGtS := by
  intro P H x y d e z Q su dx dy hg q
  unfold gGtS at hg
  split at hg
  · cases hg
    rw [dq_str dx, dq_str dy]
    exact ⟨_, _, rfl, rfl, q.at su (.bl _)⟩
  · cases hg
theorem vo_lts {K : PySem.W.Frag} : VO K p1 p2 (fun x y H Q => ∃ i j, x = V.str i ∧ y = V.str j ∧ Q (.bl (decide (i.cps.toList < j.cps.toList))) H) gLtS := by
  intro P H x y d e z Q su dx dy hg q
  unfold gLtS at hg
  split at hg
  · cases hg
    rw [dq_str dx, dq_str dy]
    exact ⟨_, _, rfl, rfl, q.at su (.bl _)⟩
  · cases hg
theorem vo_ges {K : PySem.W.Frag} : VO K p1 p2 (fun x y H Q => ∃ i j, x = V.str i ∧ y = V.str j ∧ Q (.bl (!decide (i.cps.toList < j.cps.toList))) H) gGeS := by
  intro P H x y d e z Q su dx dy hg q
  unfold gGeS at hg
  split at hg
  · cases hg
    rw [dq_str dx, dq_str dy]
    exact ⟨_, _, rfl, rfl, q.at su (.bl _)⟩
  · cases hg
theorem px_gts (ha : PX X m1 p1 a fa) (hb : PX X m2 p2 b fb) (hf : p1 = true ∨ m2 = false) : PX X (m1 || m2) true (.Compare a [.Gt] [b] pos) (bin fa fb gGtS) := px_op2 (pe_cmpR op_gt_str ha hb (nomark _)) vo_gts hf
theorem px_lts (ha : PX X m1 p1 a fa) (hb : PX X m2 p2 b fb) (hf : p1 = true ∨ m2 = false) : PX X (m1 || m2) true (.Compare a [.Lt] [b] pos) (bin fa fb gLtS) := px_op2 (pe_cmpR op_lt_str ha hb (nomark _)) vo_lts hf
theorem px_ges (ha : PX X m1 p1 a fa) (hb : PX X m2 p2 b fb) (hf : p1 = true ∨ m2 = false) : PX X (m1 || m2) true (.Compare a [.GtE] [b] pos) (bin fa fb gGeS) := px_op2 (pe_cmpR op_ge_str ha hb (nomark _)) vo_ges hf
theorem pt_gts' (ha : PX X m1 p1 a fa) (hb : PX X m2 p2 b fb) (hf : p1 = true ∨ m2 = false) : PXT X (m1 || m2) (.Compare a [.Gt] [b] pos) (toB (bin fa fb gGtS)) := pt_op2 (pt_cmpR op_gt_str ha hb (nomark _)) vo_gts hf
theorem pt_lts' (ha : PX X m1 p1 a fa) (hb : PX X m2 p2 b fb) (hf : p1 = true ∨ m2 = false) : PXT X (m1 || m2) (.Compare a [.Lt] [b] pos) (toB (bin fa fb gLtS)) := pt_op2 (pt_cmpR op_lt_str ha hb (nomark _)) vo_lts hf
theorem pt_ges' (ha : PX X m1 p1 a fa) (hb : PX X m2 p2 b fb) (hf : p1 = true ∨ m2 = false) : PXT X (m1 || m2) (.Compare a [.GtE] [b] pos) (toB (bin fa fb gGeS)) := pt_op2 (pt_cmpR op_ge_str ha hb (nomark _)) vo_ges hf
end
section
theorem ok_jns0 {acc : Str} {E : En} {Q : PyData → En → Prop} : Ok (jns [] acc E) Q = Q (.str acc) E := by
  unfold jns
  exact ok_ret
theorem ok_jns1 {f : SE PyData} {fs : List (SE PyData)} {acc : Str} {E : En} {Q : PyData → En → Prop} : Ok (jns (f :: fs) acc E) Q = Ok (f E) fun d E1 => match d with
    | .str y => (acc ++ y).length ≤ sizeLine ∧ Ok (jns fs (acc ++ y) E1) Q
    | _ => False := by
  rw [jns, ok_bnd]
  congr 1
  funext d E1
  cases d with
  | str y =>
    apply propext
    by_cases h : (acc ++ y).length ≤ sizeLine
    · simp only [if_pos h]
      exact ⟨fun q => ⟨h, q⟩, fun q => q.2⟩
    · simp only [if_neg h]
      exact ⟨fun q => (by obtain ⟨_, _, e, _⟩ := q; cases e), fun q => absurd q.1 h⟩
  | _ => exact ok_none
end
end Fw
namespace Fw
open PySem PySem.Spec L2
open PyProof.Rows hiding St
/-- the turns, by the place in the list as it stands -/
def forN (i : Nat) (bb : PyData → En → Option En) (g : SS) : Nat → Nat → SS
  | 0, _, _ => none
  | n + 1, j, E => match E[i]? with
    | some (.own ys) => match ys[j]? with
      | none => some (.nx, E)
      | some d => match bb d E with
        | some E1 => match g E1 with
          | some (.nx, E2) => forN i bb g n (j + 1) E2
          | some (.ct, E2) => forN i bb g n (j + 1) E2
          | some (.bk, E2) => some (.nx, E2)
          | r => r
        | none => none
    | _ => none
def forO (i : Nat) (bb : PyData → En → Option En) (g : SS) : SS := fun E => forN i bb g fuelC 0 E
section
variable {X : Cx} {n n' : Nat} {tg e : Expr} {sts : List Stmt} {pos : Pos} {g : SS}
/-- the values of the first slots that own -/
def ownV (n : Nat) (E : En) (σ : L2.St) : List V := (List.range n).map fun j => match E[j]? with
  | some (.own _) => (match σ[j]? with | some (some v) => v | _ => .non)
  | some (.tr _) => (match σ[j]? with | some (some v) => v | _ => .non)
  | _ => .non
theorem ownV_len {E : En} {σ : L2.St} : (ownV n E σ).length = n := by simp [ownV]
theorem ownV_get {E : En} {σ : L2.St} {j : Nat} (h : j < n) : (ownV n E σ)[j]? = some (match E[j]? with
  | some (.own _) => (match σ[j]? with | some (some v) => v | _ => .non)
  | some (.tr _) => (match σ[j]? with | some (some v) => v | _ => .non)
  | _ => .non) := by
  unfold ownV
  rw [List.getElem?_map, List.getElem?_range h]
  rfl
theorem Rel.toOwn {K : PySem.W.Frag} {vs0 : List V} {P H : Hp} {E : En} {σ : L2.St} {fps : Nat → List Addr} (r : Rel K vs0 P E σ H fps) (n : Nat) : Rel K (ownV n E σ) P E σ H fps where
  sub := r.sub
  len := r.len
  sl := r.sl
  out := r.out
  dj := r.dj
  par := fun j s0 v hv he ho => by
    have hj : j < n := by
      have := (List.getElem?_eq_some_iff.mp hv).1
      rwa [ownV_len] at this
    rw [ownV_get hj, he] at hv
    obtain ⟨ov, e2, s⟩ := r.sl j _ he
    generalize fps j = fp at s
    cases s with
    | own _ _ _ =>
      rw [e2] at hv
      simp only [Option.some.injEq] at hv
      rw [e2, ← hv]
    | tr _ =>
      rw [e2] at hv
      simp only [Option.some.injEq] at hv
      rw [e2, ← hv]
    | un => cases ho
    | dat _ => cases ho
    | scr _ => cases ho
    | fn _ => cases ho
theorem Rel.ofOwn {K : PySem.W.Frag} {vs0 : List V} {P H P2 H2 : Hp} {E E2 : En} {σ σ2 : L2.St} {fps fps2 : Nat → List Addr} (r : Rel K vs0 P E σ H fps) (hn : vs0.length ≤ n) (r2 : Rel K (ownV n E σ) P2 E2 σ2 H2 fps2) : Rel K vs0 P2 E2 σ2 H2 fps2 where
  sub := r2.sub
  len := r2.len
  sl := r2.sl
  out := r2.out
  dj := r2.dj
  par := fun j s0 v hv he ho => by
    have hj : j < n := Nat.lt_of_lt_of_le (List.getElem?_eq_some_iff.mp hv).1 hn
    have h1 := r2.par j s0 _ (ownV_get hj) he ho
    obtain ⟨ov, e2, s⟩ := r2.sl j _ he
    generalize fps2 j = fp at s
    cases s with
    | own _ _ _ =>
      rw [e2] at h1
      split at h1
      · rename_i ys e1
        have h3 := r.par j _ v hv e1 rfl
        rw [h3] at h1
        rw [e2, h1]
      · rename_i ys e1
        have h3 := r.par j _ v hv e1 rfl
        rw [h3] at h1
        rw [e2, h1]
      · cases h1
    | tr _ =>
      rw [e2] at h1
      split at h1
      · rename_i ys e1
        have h3 := r.par j _ v hv e1 rfl
        rw [h3] at h1
        rw [e2, h1]
      · rename_i ys e1
        have h3 := r.par j _ v hv e1 rfl
        rw [h3] at h1
        rw [e2, h1]
      · cases h1
    | un => cases ho
    | dat _ => cases ho
    | scr _ => cases ho
    | fn _ => cases ho
theorem pxs_forO {i : Nat} {ts : List Nat} {bb : PyData → En → Option En} (hin : i < n') (hnn : n ≤ n') (hp : PassesOwn (model X.prog X.w) X.A X.env X.xe) (hc : X.calm = true) (hv : PE X e (tVar i)) (hg : PXG X ts tg bb) (hb : PXS X n' sts g)
    (hs : ∀ x, foldedSetIterable e X.env x = pure x := by intro _; rfl) : PXS1 X n (.For tg e sts [] pos) (forO i bb g) := ps_imp (ps_for hp hc (pi_list hv) hg hb hs) fun D σ H => by
  rintro ⟨vs0, P, E, fps, fl, E', hn, r, hf, q⟩
  have back : ∀ {P2 H2 : Hp} {E2 : En} {σ2 : L2.St} {fps2 : Nat → List Addr}, Rel X.K (ownV n' E σ) P2 E2 σ2 H2 fps2 → Rel X.K vs0 P2 E2 σ2 H2 fps2 := fun r2 => r.ofOwn (by omega) r2
  have r0 := r.toOwn n'
  unfold forO at hf
  have hf0 := hf
  unfold fuelC forN at hf
  split at hf
  · rename_i ys0 e0
    clear hf
    obtain ⟨ov, e2, s⟩ := r.sl i _ e0
    generalize hfp : fps i = fp at s
    cases s with
    | @own ad vs _ hP hH hdq =>
      have hid : (ownV n' E σ)[i]? = some (.ref ad) := by rw [ownV_get hin, e0, e2]
      refine ⟨_, e2, ad, rfl, ⟨vs, SqL.of hH⟩, fun j k σ2 H2 => ∃ P2 E2 fps2, Rel X.K (ownV n' E σ) P2 E2 σ2 H2 fps2 ∧ Step (In fps) P H (In fps2) P2 H2 ∧ forN i bb g k j E2 = some (fl, E'), ⟨fuelC, P, E, fps, r0, .refl _ _ _, hf0⟩, ?_⟩
      rintro j k σ2 H2 ⟨P2, E2, fps2, r2, s2, h2⟩
      cases k with
      | zero => cases h2
      | succ k =>
        unfold forN at h2
        split at h2
        · rename_i ys ey
          obtain ⟨ov2, e3, s3⟩ := r2.sl i _ ey
          have hpar := r2.par i _ _ hid ey rfl
          generalize fps2 i = fp2 at s3
          cases s3 with
          | @own ad2 vs2 _ hP2 hH2 hdq2 =>
            rw [e3] at hpar
            cases hpar
            split at h2
            · rename_i eN
              cases h2
              refine .inl ⟨⟨vs2, SqL.of hH2, ?_⟩, q P2 H2 fps2 σ2 (back r2) s2⟩
              rw [hdq2.length]
              exact List.getElem?_eq_none_iff.mp eN
            · rename_i d eD
              obtain ⟨v, hv1, hv2⟩ := hdq2.get eD
              split at h2
              · rename_i E3 eB
                refine .inr ⟨⟨vs2, v, SqL.of hH2, hv1⟩, fun σ4 H4 => ∃ P4 E4 fps4, Rel X.K (ownV n' E σ) P4 E4 σ4 H4 fps4 ∧ Step (In fps) P H (In fps4) P4 H4 ∧ forN i bb g k (j + 1) E4 = some (fl, E'), ?_, fun y H3 hy => ?_⟩
                · rintro σ4 H4 ⟨P4, E4, fps4, r4, s4, h4⟩
                  exact ⟨k, Nat.lt_succ_self k, P4, E4, fps4, r4, s4, h4⟩
                · obtain ⟨rfl, hy⟩ := hy
                  have hyv := hy vs2 (SqL.of hH2)
                  rw [hv1] at hyv
                  cases hyv
                  refine ⟨_, P2, E2, fps2, d, E3, r2, hv2, eB, fun fps5 σ5 r5 s5 _ _ => ?_⟩
                  have s6 := s2.trans s5
                  split at h2
                  · rename_i E7 e7
                    exact ⟨_, P2, E3, fps5, .nx, E7, ownV_len, r5, e7, fun P7 H7 fps7 σ7 r7 s7 => ⟨P7, E7, fps7, r7, s6.trans s7, h2⟩⟩
                  · rename_i E7 e7
                    exact ⟨_, P2, E3, fps5, .ct, E7, ownV_len, r5, e7, fun P7 H7 fps7 σ7 r7 s7 => ⟨P7, E7, fps7, r7, s6.trans s7, h2⟩⟩
                  · rename_i E7 e7
                    cases h2
                    exact ⟨_, P2, E3, fps5, .bk, _, ownV_len, r5, e7, fun P7 H7 fps7 σ7 r7 s7 => q P7 H7 fps7 σ7 (back r7) (s6.trans s7)⟩
                  · rename_i n1 n2 n3
                    refine ⟨_, P2, E3, fps5, fl, E', ownV_len, r5, h2, ?_⟩
                    cases fl with
                    | nx => exact absurd h2 (n1 E')
                    | ct => exact absurd h2 (n2 E')
                    | bk => exact absurd h2 (n3 E')
                    | rt s => exact fun P' H' fps' σ' v fr r' st q1 q2 => q P' H' fps' σ' v fr (back r') (s6.trans st) q1 q2
              · cases h2
        · cases h2
  · cases hf
end
theorem forN_inv {i : Nat} {bb : PyData → En → Option En} {g : SS} (I : Nat → En → Prop) (ys : List PyData) {Q : Fl → En → Prop} (hown : ∀ k E, I k E → E[i]? = some (.own ys))
    (h : ∀ k d, ys[k]? = some d → ∀ E, I k E → OkV (bb d E) fun E1 => Ok (g E1) (stp (I (k + 1)) Q)) (q : ∀ E, I ys.length E → Q .nx E) : ∀ (n j : Nat) (E : En), ys.length - j < n → j ≤ ys.length → I j E → Ok (forN i bb g n j E) Q
  | 0, j, E, hn, _, _ => absurd hn (Nat.not_lt_zero _)
  | n + 1, j, E, hn, hj, hI => by
    have e0 := hown j E hI
    cases ej : ys[j]? with
    | none =>
      have : j = ys.length := by
        have := List.getElem?_eq_none_iff.mp ej
        omega
      subst this
      exact ⟨.nx, E, by unfold forN; rw [e0]; simp only [ej], q E hI⟩
    | some d =>
      have hlt := (List.getElem?_eq_some_iff.mp ej).1
      obtain ⟨E1, e1, fl, E2, e2, h2⟩ := h j d ej E hI
      cases fl with
      | nx =>
        obtain ⟨fl, E3, e3, h3⟩ := forN_inv I ys hown h q n (j + 1) E2 (by omega) (by omega) h2
        exact ⟨fl, E3, by unfold forN; rw [e0]; simp only [ej, e1, e2]; exact e3, h3⟩
      | ct =>
        obtain ⟨fl, E3, e3, h3⟩ := forN_inv I ys hown h q n (j + 1) E2 (by omega) (by omega) h2
        exact ⟨fl, E3, by unfold forN; rw [e0]; simp only [ej, e1, e2]; exact e3, h3⟩
      | bk => exact ⟨.nx, E2, by unfold forN; rw [e0]; simp only [ej, e1, e2], h2⟩
      | rt s => exact ⟨.rt s, E2, by unfold forN; rw [e0]; simp only [ej, e1, e2], h2⟩
theorem forO_inv {i : Nat} {bb : PyData → En → Option En} {g : SS} (I : Nat → En → Prop) (ys : List PyData) (E : En) {Q : Fl → En → Prop} (h0 : I 0 E) (hown : ∀ k E, I k E → E[i]? = some (.own ys)) (hl : ys.length < 1099511627776)
    (h : ∀ k d, ys[k]? = some d → ∀ E, I k E → OkV (bb d E) fun E1 => Ok (g E1) (stp (I (k + 1)) Q)) (q : ∀ E, I ys.length E → Q .nx E) : Ok (forO i bb g E) Q :=
  forN_inv I ys hown h q fuelC 0 E (by unfold fuelC; omega) (Nat.zero_le _) h0
end Fw
namespace Fw
open PySem PySem.Spec L2
open PyProof.Rows hiding St
/-- an expression behind which a token is out -/
def PXk (X : Cx) (m p : Bool) (e : Expr) (f : SE PyData) : Prop := ∀ (pins : List (Addr × Obj)) (s : Shared) (σ : L2.St) (H : Hp) (Q : VK), Inv X pins σ H s → tX X.K m p f σ H Q →
  wpAny (model X.prog X.w) X.A (eval e X.env) (fun v s1 => 1 ≤ s1.toks ∧ EP X pins σ Q v s1) X.xe s
section
variable {X : Cx} {m m1 m2 p p1 p2 : Bool} {a b e : Expr} {j k : Nat} {pos p0 pos1 : Pos} {fa fb f : SE PyData} {c : Str}
theorem op2_core {K : PySem.W.Frag} {r : R2} {g : PyData → PyData → Option PyData} {σ : L2.St} {H : Hp} {Q : VK} (v : VO K p1 p2 r g) (hf : p1 = true ∨ m2 = false) (h : tX K (m1 || m2) true (bin fa fb g) σ H Q) : tOp r (tX K m1 p1 fa) (tX K m2 p2 fb) σ H Q := by
  obtain ⟨vs0, P, E, fps, d, E', rel, hh, q⟩ := h
  obtain ⟨d1, E1, h1, hh⟩ := bnd_some hh
  obtain ⟨d2, E2, h2, hh⟩ := bnd_some hh
  obtain ⟨h3, rfl⟩ := lft_some hh
  refine ⟨vs0, P, E, fps, d1, E1, rel, h1, fun P1 H1 fps1 x r1 s1 m1' dx => ⟨vs0, P1, E1, fps1, d2, E', r1, h2, fun P2 H2 fps2 y r2 s2 m2' dy => ?_⟩⟩
  have dx2 : Dq K (pick p1 P2 H2) x d1 := by
    cases p1 with
    | true => exact Dq.mono s2.pp dx
    | false =>
      rcases hf with hf | hf
      · cases hf
      · exact Dq.mono (m2' hf) dx
  refine v P2 H2 x y d1 d2 d Q r2.sub dx2 dy h3 fun P3 H3 w pp su hh fr dw => ?_
  refine q P3 H3 fps2 w (r2.alloc pp su hh fr) ((s1.trans s2).trans (.alloc pp hh fr)) (fun hm => ?_) dw
  rw [Bool.or_eq_false_iff] at hm
  exact ((m1' hm.1).trans (m2' hm.2)).trans hh
theorem pxk_addC (ha : PX X m1 true a fa) : PXk X (m1 || false) true (.BinOp a .Add (.Constant (.str c) j p0) pos) (bin fa (ret (.str c)) gAdd) := by
  intro pins s σ H Q I h
  have h0 := op2_core (m1 := m1) (m2 := false) (p1 := true) (p2 := true) (r := rAddA X.K) vo_add (.inl rfl) h
  refine wpAny_BinOp (thn (ha.run pins s σ H _ I h0) fun v s1 ⟨x, H1, I1, r1, q1⟩ => ?_)
  obtain ⟨vs0, P, E, fps, d, E', rel, hh, q⟩ := q1
  obtain ⟨rfl, rfl⟩ := ret_some hh
  have h1 := q P H1 fps (.str c) rel (.refl _ _ _) (fun _ => Same.refl H1) (.str c)
  refine Calls.Constant_str ?_
  exact wpAny_mono (PySem.wpAny_toks_of (n := 1) (by show 1 ≤ s1.toks + 1; omega) (op_addA pins _ σ H1 x (.str c) v _ Q (I1.tok _) r1 ⟨_, rfl⟩ h1)) (fun _ _ z => z) (fun _ _ z => z.2)
theorem px_addTk (ha : PXk X m1 true a fa) (hb : PXt X m2 true b fb) : PX X (m1 || m2) true (.BinOp a .Add b pos) (bin fa fb gAdd) := by
  refine px_op2 (m1 := m1) (m2 := m2) (p1 := true) (p2 := true) (r := rAddA X.K) ⟨fun pins s σ H Q I h => ?_⟩ vo_add (.inl rfl)
  exact wpAny_BinOp (wpAny_mono (ha pins s σ H _ I h) (fun v s1 ⟨hk, x, H1, I1, r1, q1⟩ => thn (hb pins s1 σ H1 _ hk I1 q1) fun u s2 ⟨y, H2, I2, r2, q2⟩ => op_addA pins s2 σ H2 x y v u Q I2 r1 r2 q2) fun _ _ z => z)
end
end Fw
namespace Fw
open PySem PySem.Spec L2
open PyProof.Rows hiding St
section
variable {X : Cx} {m m1 m2 m3 p p1 p2 p3 : Bool} {a b c e o g1 g2 : Expr} {es : List Expr} {pos px apos : Pos} {f fa fb fc fo : SE PyData} {fs : SE (List PyData)} {k : Nat}
def toP (b1 b2 : PyData → En → Option En) : PyData → En → Option En := fun d E => match d with
  | .tuple ds => match ds with
    | [] => none
    | x :: ds => match ds with
      | [] => none
      | y :: ds => match ds with
        | [] => (b1 x E).bind (b2 y)
        | _ :: _ => none
  | _ => none
theorem toP_eq {b1 b2 : PyData → En → Option En} {x y : PyData} {E : En} : toP b1 b2 (.tuple [x, y]) E = (b1 x E).bind (b2 y) := rfl
theorem pxg_pair {ts1 ts2 : List Nat} {b1 b2 : PyData → En → Option En} {l : Nat} (hc : X.calm = true) (h1 : PXG X ts1 g1 b1) (h2 : PXG X ts2 g2 b2) (hl : l = 2)
    (hs1 : (assignEach [g1, g2] X.env).map (·.2) = assign g1 X.env :: (assignEach [g2] X.env).map (·.2) := by rfl) (hs2 : (assignEach [g2] X.env).map (·.2) = assign g2 X.env :: (assignEach [] X.env).map (·.2) := by rfl)
    (hn : (assignEach [g1, g2] X.env).length = l := by rfl) (hst : (assignEach [g1, g2] X.env).findIdx? (·.1) = none := by rfl) :
    PXG X (ts1 ++ ts2) (.Tuple [g1, g2] k pos) (toP b1 b2) := pg_imp (pg_tup hc (pgs_cons h1 (pgs_cons h2 pgs_nil hs2) hs1) hn hst) fun v σ H Q => by
  rintro ⟨vs0, P, E, fps, d, E', r, dv, hb, q⟩
  unfold toP at hb
  split at hb
  · split at hb
    · cases hb
    · split at hb
      · cases hb
      · split at hb
        · rename_i x ds y ds2
          cases e1 : b1 x E with
          | none => rw [e1] at hb; cases hb
          | some E1 =>
            rw [e1] at hb
            cases dv with
            | @tup ad vs dd ha hv =>
              cases hv with
              | cons dx hv =>
                cases hv with
                | cons dy hv =>
                  cases hv
                  refine ⟨ad, _, rfl, seqC r.sub ha, by rw [hl]; rfl, ?_⟩
                  refine ⟨_, _, rfl, vs0, P, E, fps, _, _, r, dx, e1, fun fps1 σ1 r1 s1 l1 k1 => ?_⟩
                  refine ⟨_, _, rfl, vs0, P, E1, fps1, _, _, r1, dy, hb, fun fps2 σ2 r2 s2 l2 k2 => ?_⟩
                  refine ⟨rfl, q fps2 σ2 r2 (s1.trans s2) (l2.trans l1) fun j hj => ?_⟩
                  rw [List.mem_append, not_or] at hj
                  rw [k2 j hj.2, k1 j hj.1]
        · cases hb
  · cases hb
def dnL (hi : Int) (n : Nat) : List PyData := (List.range n).map fun i => .int (hi + (i : Nat) * (-1))
theorem snap_dn {K : PySem.W.Frag} {hi : Int} {n : Nat} : Snap K (Itc hi (-1) n) (fun _ => True) (dnL hi n) where
  mono := fun _ _ _ _ => trivial
  go := fun i P H h _ _ => by
    show i < n
    simpa [dnL] using h
  yld := fun i P H y H' d _ s hd hy => by
    obtain ⟨rfl, rfl⟩ := hy
    refine ⟨P, Same.refl P, s, Same.refl _, .same, ?_⟩
    unfold dnL at hd
    rw [List.getElem?_map] at hd
    cases e : (List.range n)[i]? with
    | none => rw [e] at hd; cases hd
    | some k =>
      rw [e] at hd
      cases hd
      obtain ⟨h1, h2⟩ := List.getElem?_eq_some_iff.mp e
      rw [List.getElem_range] at h2
      subst h2
      exact .int _
  stop := fun P H _ _ => by
    show n ≤ _
    simp [dnL]
def sRngD (fa fb fc : SE PyData) : SE (List PyData) := bnd fa fun d => bnd fb fun e => bnd fc fun f => match d, e, f with
  | .int i, .int j, .int c => if (-(2 ^ 62) ≤ i ∧ i < 2 ^ 62 ∧ -(2 ^ 62) ≤ j ∧ j < 2 ^ 62) ∧ c = -1 then ret (dnL i (i - j).toNat) else fun _ => none
  | _, _, _ => fun _ => none
theorem ok_sRngD {E : En} {Q : List PyData → En → Prop} : Ok (sRngD fa fb fc E) Q = Ok (fa E) fun d E1 => Ok (fb E1) fun e E2 => Ok (fc E2) fun f E3 => match d, e, f with
    | .int i, .int j, .int c => ((-(2 ^ 62) ≤ i ∧ i < 2 ^ 62 ∧ -(2 ^ 62) ≤ j ∧ j < 2 ^ 62) ∧ c = -1) ∧ Q (dnL i (i - j).toNat) E3
    | _, _, _ => False := by
  unfold sRngD
  rw [ok_bnd]
  congr 1
  funext d E1
  rw [ok_bnd]
  congr 1
  funext e E2
  rw [ok_bnd]
  congr 1
  funext f E3
  split
  · split
    · rename_i h
      rw [ok_ret]
      simp only [h, true_and, and_self]
    · rename_i h
      rw [ok_none]
      simp only [h, false_and]
  · rename_i h
    rw [ok_none]
theorem pxi_rngD (hg : Gl X "range") (hm : X.mg "range" = none) (ha : PX X m1 p1 a fa) (hb : PX X m2 p2 b fb) (hc : PX X m3 p3 c fc) (hs : starEach [a, b, c] X.env = [(false, eval a X.env), (false, eval b X.env), (false, eval c X.env)] := by rfl)
    (hs2 : starEach [b, c] X.env = [(false, eval b X.env), (false, eval c X.env)] := by rfl) (hs3 : starEach [c] X.env = [(false, eval c X.env)] := by rfl) : PXI X (m1 || m2 || m3) tg (.Call (.Name "range" px) [a, b, c] [] pos) (sRngD fa fb fc) :=
  pi_imp (pi_range3 hg hm (pa_cons ha (pa_cons hb (pa_cons hc pa_nil hs3) (by rw [hs2, hs3])) (by rw [hs, hs2])) (by rw [hs, hs2]) (by rw [hs2]; rfl)) fun σ H R => by
  rintro ⟨vs0, P, E, fps, ds, E', rel, hh, q⟩
  obtain ⟨d, E1, h1, hh⟩ := bnd_some hh
  obtain ⟨d2, E2, h2, hh⟩ := bnd_some hh
  obtain ⟨d3, E3, h3, hh⟩ := bnd_some hh
  split at hh
  · split at hh
    · rename_i hj
      obtain ⟨⟨hi1, hi2, hj1, hj2⟩, rfl⟩ := hj
      obtain ⟨rfl, rfl⟩ := ret_some hh
      refine ⟨vs0, P, E, fps, _, _, rel, h1, fun P1 H1 fps1 v r1 s1 m1' dv => ⟨vs0, P1, _, fps1, _, _, r1, h2, fun P2 H2 fps2 w r2 s2 m2' dw => ⟨vs0, P2, _, fps2, _, _, r2, h3, fun P3 H3 fps3 u r3 s3 m3' du =>
        ⟨_, _, _, _, by rw [dq_int dv, dq_int dw, dq_int du], RgC.neg hi1 hi2 hj1 hj2, q P3 H3 fps3 _ _ r3 ((s1.trans s2).trans s3) (fun hm => ?_) snap_dn trivial⟩⟩⟩⟩
      rw [Bool.or_eq_false_iff, Bool.or_eq_false_iff] at hm
      exact ((m1' hm.1.1).trans (m2' hm.1.2)).trans (m3' hm.2)
    · cases hh
  · cases hh
theorem snap_enumL {K : PySem.W.Frag} {a : Addr} {vs : List V} {ds : List PyData} : Snap K (Ite K a) (fun P => P a = some (.lst vs) ∧ DqAll K P vs ds) (pairs 0 ds) where
  mono := fun P P' s h => ⟨s _ _ h.1, h.2.mono s⟩
  go := fun i P H hi h s => by
    rw [pairs_len] at hi
    exact ⟨vs, vs[i]'(by rw [h.2.length]; exact hi), SqL.of (s _ _ h.1), by simp⟩
  yld := fun i P H y H' d h s hd hy => by
    obtain ⟨T, x, rfl, hT, rfl, hx⟩ := hy
    rw [pairs_get] at hd
    cases e : ds[i]? with
    | none => rw [e] at hd; cases hd
    | some d0 =>
      rw [e] at hd
      cases hd
      obtain ⟨v, h1, h2⟩ := h.2.get e
      have h3 := hx vs (SqL.of (s _ _ h.1))
      rw [h1] at h3
      rw [Option.some.inj h3] at h2
      have pT := sub_none s hT
      refine ⟨upd P T (.tup [.int (i : Nat), x]), Fw.same_upd pT, fun b o hb => ?_, Fw.same_upd hT, fun b o hb => ?_, ?_⟩
      · by_cases hbT : b = T
        · subst hbT
          rw [upd_same] at hb ⊢
          exact hb
        · rw [upd_ne hbT] at hb ⊢
          exact s _ _ hb
      · by_cases hbT : b = T
        · subst hbT
          exact .inr (.inl (.inl hT))
        · rw [upd_ne hbT] at hb
          exact .inl ⟨_, hb⟩
      · rw [Nat.zero_add]
        exact .tup (SqC.of upd_same) (.cons (.int _) (.cons (h2.mono (Fw.same_upd pT)) .nil))
  stop := fun P H h s => ⟨vs, SqL.of (s _ _ h.1), by rw [h.2.length, pairs_len]; exact Nat.le_refl _⟩
def sEnumL (fa : SE PyData) : SE (List PyData) := bnd fa fun d => match d with
  | .list ys => ret (pairs 0 ys)
  | _ => fun _ => none
theorem ok_sEnumL {E : En} {Q : List PyData → En → Prop} : Ok (sEnumL fa E) Q = Ok (fa E) fun d E1 => match d with
    | .list ys => Q (pairs 0 ys) E1
    | _ => False := by
  unfold sEnumL
  rw [ok_bnd]
  congr 1
  funext d E1
  cases d with
  | list ys => simp only [ok_ret]
  | _ => exact ok_none
theorem pxi_enumL {elts : List Expr} {kk : Nat} {tpos : Pos} (hg : Gl X "enumerate") (hm : X.mg "enumerate" = none) (h : PX X m true a fa) (hs : starEach [a] X.env = [(false, eval a X.env)] := by rfl) : PXI X m (.Tuple elts kk tpos) (.Call (.Name "enumerate" px) [a] [] pos) (sEnumL fa) :=
  pi_imp (pi_enum hg hm (pa_cons h pa_nil hs) hs) fun σ H R => by
  rintro ⟨vs0, P, E, fps, ds, E', rel, hh, q⟩
  obtain ⟨d, E1, h1, hh⟩ := bnd_some hh
  split at hh
  · rename_i ys
    obtain ⟨rfl, rfl⟩ := ret_some hh
    refine ⟨vs0, P, E, fps, _, _, rel, h1, fun P1 H1 fps1 v r1 s1 m1' dv => ?_⟩
    cases dv with
    | @lst ad vs _ hx hv => exact ⟨ad, vs, rfl, SqL.of (r1.sub _ _ hx), q P1 H1 fps1 _ _ r1 s1 m1' snap_enumL ⟨hx, hv⟩⟩
  · cases hh
def gSidx (s : Str) : List PyData → Option PyData
  | [.str f] => match Builtin.Str.occurrences s f 0 s.length 1 with
    | i :: _ => some (.int (i : Nat))
    | [] => none
  | _ => none
theorem px_sindex (ho : PX X m1 p o fo) (ha : PXA X m2 (e :: es) fs)
    (hfew : ((backTo pos (starEach (e :: es) X.env)).all (fun x => !x.1) && (backToKw pos (keywordEach [] X.env)).all (fun x => x.1.isSome)
      && decide ((e :: es).length + ([] : List Keyword).length + (if ([] : List Keyword).isEmpty then 0 else 1) < 30)) = true := by rfl)
    (hline : (apos.endLine == pos.line) = true := by rfl) (hs : starEach (e :: es) X.env = (false, eval e X.env) :: starEach es X.env := by rfl) (hplain : (backTo pos (starEach es X.env)).any (·.1) = false := by rfl)
    (hbase : attributeBase o "index" X.env (eval o X.env) = eval o X.env := by rfl) : PX X (m1 || m2) true (.Call (.Attribute o "index" apos) (e :: es) [] pos) (strM fo fs gSidx) :=
  px_strM PySem.F.slot_str_index PySem.F.type_str_index mt_sindex (by
    intro P H s ys ds z Q su dy hg q
    unfold gSidx at hg
    split at hg
    · split at hg
      · rename_i f i rest ho
        cases hg
        cases dy with
        | cons h1 r1 =>
          cases r1
          rw [dq_str h1]
          exact ⟨s, _, i, rest, rfl, rfl, ho, q.at su (.int _)⟩
      · cases hg
    · cases hg) ho ha hbase hfew hline hs hplain
end
end Fw
namespace Fw
open PySem PySem.Spec L2
open PyProof.Rows hiding St
theorem perm_lift {α β : Type} (f : β → α) {ys xs : List α} (h : ys.Perm xs) : ∀ zs : List β, xs = zs.map f → ∃ ws : List β, ws.Perm zs ∧ ys = ws.map f := by
  induction h with
  | nil =>
    intro zs e
    cases zs with
    | nil => exact ⟨[], .nil, rfl⟩
    | cons => cases e
  | cons x _ ih =>
    intro zs e
    cases zs with
    | nil => cases e
    | cons z zs =>
      rw [List.map_cons, List.cons.injEq] at e
      obtain ⟨rfl, e⟩ := e
      obtain ⟨ws, h1, rfl⟩ := ih zs e
      exact ⟨z :: ws, h1.cons z, rfl⟩
  | swap x y l =>
    intro zs e
    match zs, e with
    | a :: b :: r, e =>
      rw [List.map_cons, List.map_cons, List.cons.injEq, List.cons.injEq] at e
      obtain ⟨rfl, rfl, rfl⟩ := e
      exact ⟨b :: a :: r, .swap .., rfl⟩
  | trans _ _ ih1 ih2 =>
    intro zs e
    obtain ⟨ws, h1, h2⟩ := ih2 zs e
    obtain ⟨us, h3, h4⟩ := ih1 ws h2
    exact ⟨us, h3.trans h1, h4⟩
abbrev Pr := Int × Int
def pairD (p : Pr) : PyData := .tuple [.int p.1, .int p.2]
def pairOf (d : PyData) : Option Pr := match d with
  | .tuple ds => match ds with
    | [] => none
    | x :: ds => match x with
      | .int i => match ds with
        | [] => none
        | y :: ds => match y with
          | .int j => match ds with
            | [] => if (0 ≤ i ∧ i < 1000000000000) ∧ (0 ≤ j ∧ j < 1000000000000) then some (i, j) else none
            | _ :: _ => none
          | _ => none
      | _ => none
  | _ => none
def prsOf : List PyData → Option (List Pr)
  | [] => some []
  | d :: ds => (pairOf d).bind fun p => (prsOf ds).map fun ps => p :: ps
def insP (p : Pr) : List Pr → List Pr
  | [] => [p]
  | q :: qs => if SrtO.lexB q p = true then q :: insP p qs else p :: q :: qs
def srtP (ps : List Pr) : List Pr := ps.foldr insP []
theorem insP_perm (p : Pr) : ∀ qs, (insP p qs).Perm (p :: qs)
  | [] => .refl _
  | q :: qs => by
    unfold insP
    split
    · exact ((insP_perm p qs).cons q).trans (.swap ..)
    · exact .refl _
theorem srtP_perm : ∀ ps, (srtP ps).Perm ps
  | [] => .nil
  | p :: ps => (insP_perm p _).trans ((srtP_perm ps).cons p)
def Le (p q : Pr) : Prop := SrtO.lexB q p = false
theorem le_iff {p q : Pr} : Le p q ↔ p.1 < q.1 ∨ (p.1 = q.1 ∧ p.2 ≤ q.2) := by
  unfold Le
  rw [SrtO.lexB_no]
  omega
theorem insP_srt (p : Pr) : ∀ qs : List Pr, qs.Pairwise Le → (insP p qs).Pairwise Le
  | [], _ => List.pairwise_singleton _ _
  | q :: qs, h => by
    obtain ⟨h1, h2⟩ := List.pairwise_cons.mp h
    unfold insP
    split
    · rename_i hl
      refine List.pairwise_cons.mpr ⟨fun x hx => ?_, insP_srt p qs h2⟩
      rcases List.mem_cons.mp ((insP_perm p qs).mem_iff.mp hx) with rfl | hx
      · have := SrtO.lexB_iff.mp hl
        rw [le_iff]
        omega
      · exact h1 x hx
    · rename_i hl
      have hl' : SrtO.lexB q p = false := by simpa using hl
      refine List.pairwise_cons.mpr ⟨fun x hx => ?_, h⟩
      rcases List.mem_cons.mp hx with rfl | hx
      · exact hl'
      · have h3 := le_iff.mp (h1 x hx)
        have h4 := le_iff.mp (show Le p q from hl')
        rw [le_iff]
        omega
theorem srtP_srt : ∀ ps, (srtP ps).Pairwise Le
  | [] => .nil
  | p :: ps => insP_srt p _ (srtP_srt ps)
theorem srt_uniq {qs ps : List Pr} (h : qs.Pairwise Le) (hp : qs.Perm ps) : qs = srtP ps := by
  refine List.Perm.eq_of_pairwise (fun x y _ _ h1 h2 => ?_) h (srtP_srt ps) (hp.trans (srtP_perm ps).symm)
  have a := le_iff.mp h1
  have b := le_iff.mp h2
  exact Prod.ext (by omega) (by omega)
theorem pairOf_eq {d : PyData} {p : Pr} (h : pairOf d = some p) : d = pairD p ∧ TS.Bd 1000000000000 [p.1, p.2] := by
  unfold pairOf at h
  split at h
  · split at h
    · cases h
    · split at h
      · split at h
        · cases h
        · split at h
          · split at h
            · split at h
              · rename_i hb
                cases h
                refine ⟨rfl, ?_⟩
                intro n hn
                simp only [List.mem_cons, List.not_mem_nil, or_false] at hn
                rcases hn with rfl | rfl
                · omega
                · omega
              · cases h
            · cases h
          · cases h
      · cases h
  · cases h
theorem prsOf_eq : ∀ {ds : List PyData} {ps : List Pr}, prsOf ds = some ps → ds = ps.map pairD ∧ ∀ p ∈ ps, TS.Bd 1000000000000 [p.1, p.2]
  | [], ps, h => by cases h; exact ⟨rfl, fun _ h => nomatch h⟩
  | d :: ds, ps, h => by
    unfold prsOf at h
    cases e : pairOf d with
    | none => rw [e] at h; cases h
    | some p =>
      rw [e, Option.bind_some] at h
      cases e2 : prsOf ds with
      | none => rw [e2] at h; cases h
      | some qs =>
        rw [e2] at h
        cases h
        obtain ⟨rfl, h1⟩ := pairOf_eq e
        obtain ⟨rfl, h2⟩ := prsOf_eq e2
        exact ⟨rfl, fun x hx => (List.mem_cons.mp hx).elim (fun z => z ▸ h1) (h2 x)⟩
def gSortP : PyData → Option (List PyData)
  | .list ds => if ds.length < 64 then (prsOf ds).map fun ps => (srtP ps).map pairD else none
  | _ => none
def TupC (K : PySem.W.Frag) (H : Hp) (x : V) (ns : List Int) : Prop := ∃ t, x = .ref t ∧ SqC K H t (ns.map V.int) (ns.map PyData.int)
theorem zip_of {K : PySem.W.Frag} {P : Hp} : ∀ {ps : List Pr} {vs : List V}, DqAll K P vs (ps.map pairD) → ∃ zs : List (V × Pr), vs = zs.map (·.1) ∧ ps = zs.map (·.2) ∧ ∀ z ∈ zs, TupC K P z.1 [z.2.1, z.2.2]
  | [], _, .nil => ⟨[], rfl, rfl, fun _ h => nomatch h⟩
  | p :: ps, _, .cons (v := v) dx dr => by
    obtain ⟨zs, e1, e2, h⟩ := zip_of dr
    have hv : TupC K P v [p.1, p.2] := by
      unfold pairD at dx
      cases dx with
      | tup hx hv =>
        cases hv with
        | cons d1 r1 =>
          cases r1 with
          | cons d2 r2 =>
            cases r2
            rw [dq_int d1, dq_int d2] at hx
            exact ⟨_, rfl, hx⟩
    exact ⟨(v, p) :: zs, by rw [e1]; rfl, by rw [e2]; rfl, fun z hz => (List.mem_cons.mp hz).elim (fun e => e ▸ hv) (h z)⟩
theorem dq_of {K : PySem.W.Frag} {P : Hp} : ∀ {zs : List (V × Pr)}, (∀ z ∈ zs, TupC K P z.1 [z.2.1, z.2.2]) → DqAll K P (zs.map (·.1)) ((zs.map (·.2)).map pairD)
  | [], _ => .nil
  | z :: zs, h => by
    obtain ⟨t, e, hs⟩ := h z (List.mem_cons_self ..)
    refine .cons ?_ (dq_of fun x hx => h x (List.mem_cons_of_mem _ hx))
    show Dq K P z.1 (.tuple [.int z.2.1, .int z.2.2])
    rw [e]
    exact .tup hs (.cons (.int _) (.cons (.int _) .nil))
section
variable {X : Cx} {m m1 m2 p p1 p2 : Bool} {a b : Expr} {pos px pos' px' : Pos} {fa fb : SE PyData}
theorem pl_sortP (hg : Gl X "sorted") (hm : X.mg "sorted" = none) (ha : PX X m true a fa) (he : starEach [a] X.env = (false, eval a X.env) :: starEach [] X.env := by rfl) : PL X m (.Call (.Name "sorted" px) [a] [] pos) (unaL fa gSortP) :=
  pl_op1 (r := fun y H Q => rSortU X.K 2 1000000000000 [y] H Q) (pe_callB (cr_sortT (by decide)) hg hm (by decide +kernel) (pa_cons ha pa_nil he) (by decide) (by decide) he rfl) (by
    intro P H y d zs Q su dy hg q
    unfold gSortP at hg
    split at hg
    · rename_i ds
      split at hg
      · rename_i hl
        cases e : prsOf ds with
        | none => rw [e] at hg; cases hg
        | some ps =>
          rw [e] at hg
          cases hg
          obtain ⟨rfl, hb⟩ := prsOf_eq e
          cases dy with
          | @lst l vs _ hx hv =>
            obtain ⟨zs, rfl, rfl, hz⟩ := zip_of hv
            rw [List.length_map, List.length_map] at hl
            have hz' : ∀ z ∈ zs, TupI X.K H z.1 [z.2.1, z.2.2] := fun z h => by
              obtain ⟨t, e, s⟩ := hz z h
              exact ⟨t, e, seqC su s⟩
            refine ⟨l, _, rfl, SqL.of (su _ _ hx), by rw [List.length_map]; exact hl, fun x hx => ?_, fun ys p0 hp hs hn => ?_⟩
            · obtain ⟨z, hz1, rfl⟩ := List.mem_map.mp hx
              exact ⟨_, hz' z hz1, rfl, hb _ (List.mem_map.mpr ⟨z, hz1, rfl⟩)⟩
            · obtain ⟨ws, h1, rfl⟩ := perm_lift (fun z : V × Pr => z.1) hp zs rfl
              have hw : ∀ z ∈ ws, z ∈ zs := fun z h => h1.mem_iff.mp h
              have hsr : (ws.map (·.2)).Pairwise Le := by
                refine List.pairwise_map.mpr ?_
                refine List.Pairwise.imp_of_mem (fun {u v} hu hv h => ?_) (List.pairwise_map.mp hs)
                have := code_lex (hb _ (List.mem_map.mpr ⟨u, hw u hu, rfl⟩)) (hb _ (List.mem_map.mpr ⟨v, hw v hv, rfl⟩)) (h _ _ (hz' u (hw u hu)) (hz' v (hw v hv)))
                rw [le_iff]
                omega
              have e2 := srt_uniq hsr (h1.map (·.2))
              replace q : AfterL X.K P H ((srtP (zs.map (·.2))).map pairD) Q := q
              rw [← e2] at q
              exact q.new su hn (dq_of fun z h => hz z (hw z h))
      · cases hg
    · cases hg)
def gRgL : PyData → PyData → Option (List PyData)
  | .int i, .int j => if (-(2 ^ 62) ≤ i ∧ i < 2 ^ 62 ∧ -(2 ^ 62) ≤ j ∧ j < 2 ^ 62) ∧ (j - i).toNat ≤ 2 ^ 24 then some (rngL i (j - i).toNat) else none
  | _, _ => none
theorem dq_rg {K : PySem.W.Frag} {P : Hp} (i : Int) : ∀ (l : List Nat), DqAll K P (l.map fun k => V.int (i + (k : Nat))) (l.map fun k => PyData.int (i + (k : Nat)))
  | [] => .nil
  | k :: l => .cons (.int _) (dq_rg i l)
theorem pl_rgL (hc : X.calm = true) (hg : Gl X "list") (hm : X.mg "list" = none) (hg2 : Gl X "range") (hm2 : X.mg "range" = none) (ha : PX X m1 true a fa) (hb : PX X m2 p2 b fb)
    (na : starEach [a, b] X.env = (false, eval a X.env) :: starEach [b] X.env := by rfl) (nb : starEach [b] X.env = (false, eval b X.env) :: starEach [] X.env := by rfl)
    (np : ((backTo pos' (starEach [b] X.env)).any fun x => x.1) = false := by rfl)
    (n1 : starEach [.Call (.Name "range" px') [a, b] [] pos'] X.env = (false, eval (.Call (.Name "range" px') [a, b] [] pos') X.env) :: starEach [] X.env := by rfl) :
    PL X (m1 || m2) (.Call (.Name "list" px) [.Call (.Name "range" px') [a, b] [] pos'] [] pos) (binL fa fb gRgL) :=
  pe_imp (pe_listRg hc hg hm (prg_2 hg2 hm2 ha hb na nb np) n1) fun σ H Q => by
  rintro ⟨vs0, P, E, fps, ds, E', rel, hh, q⟩
  unfold binL at hh
  obtain ⟨d1, E1, h1, hh⟩ := bnd_some hh
  obtain ⟨d2, E2, h2, hh⟩ := bnd_some hh
  obtain ⟨h3, rfl⟩ := lft_some hh
  refine ⟨vs0, P, E, fps, d1, _, rel, h1, fun P1 H1 fps1 v r1 s1 m1' dv => ⟨vs0, P1, _, fps1, d2, _, r1, h2, fun P2 H2 fps2 w r2 s2 m2' dw => ?_⟩⟩
  unfold gRgL at h3
  split at h3
  · split at h3
    · rename_i hb
      cases h3
      refine ⟨_, _, dq_int dv, dq_int dw, ⟨hb.1.1, hb.1.2.1, hb.1.2.2.1, hb.1.2.2.2, hb.2⟩, fun l hl => ?_⟩
      have q2 := tXL_end (K := X.K) r2 (s1.trans s2) (fun hm => by
        rw [Bool.or_eq_false_iff] at hm
        exact (m1' hm.1).trans (m2' hm.2)) q
      exact q2.new r2.sub hl (dq_rg _ _)
    · cases h3
  · cases h3
def mxL : Int → List Int → Int
  | m, [] => m
  | m, x :: xs => mxL (if x > m then x else m) xs
theorem mxL_mem : ∀ (xs : List Int) (m : Int), mxL m xs ∈ m :: xs
  | [], m => List.mem_cons_self ..
  | x :: xs, m => by
    have := mxL_mem xs (if x > m then x else m)
    rw [mxL]
    rcases List.mem_cons.mp this with h | h
    · rw [h]
      split <;> simp
    · exact List.mem_cons_of_mem _ (List.mem_cons_of_mem _ h)
theorem mxL_ge : ∀ (xs : List Int) (m y : Int), y ∈ m :: xs → y ≤ mxL m xs
  | [], m, y, h => by cases List.mem_singleton.mp h; exact Int.le_refl _
  | x :: xs, m, y, h => by
    rw [mxL]
    have h0 := mxL_ge xs (if x > m then x else m) _ (List.mem_cons_self ..)
    rcases List.mem_cons.mp h with rfl | h
    · split at h0 <;> rename_i hc <;> simp only [hc, if_true, if_false] <;> omega
    · rcases List.mem_cons.mp h with rfl | h
      · split at h0 <;> rename_i hc <;> simp only [hc, if_true, if_false] <;> omega
      · exact mxL_ge xs _ y (List.mem_cons_of_mem _ h)
def gMaxL : PyData → Option PyData
  | .list ys => match intsOf ys with
    | some (n :: ns) => some (.int (mxL n ns))
    | _ => none
  | _ => none
theorem vu_maxL {K : PySem.W.Frag} : VU K p (fun y H Q => rMax K [y] H Q) gMaxL := by
  intro P H y d z Q su dy hg q
  replace dy := Dq.pick su dy
  unfold gMaxL at hg
  split at hg
  · rename_i ys
    split at hg
    · rename_i n ns e1
      cases hg
      cases dy with
      | @lst l vs _ hx hv =>
        refine ⟨l, n :: ns, rfl, by rw [← ints_dq hv e1]; exact SqL.of hx, by simp, fun m hm hmx => ?_⟩
        · have h1 := mxL_ge ns n m hm
          have h2 := hmx _ (mxL_mem ns n)
          have : m = mxL n ns := by omega
          rw [this]
          exact q.at su (.int _)
    · cases hg
  · cases hg
end
end Fw
namespace Fw
open PySem PySem.Spec L2
open PyProof.Rows hiding St

abbrev Path := List (Str × Str)
def getF (x : Str) : List (Str × Tr) → Option Tr
  | [] => none
  | (y, t) :: r => if y = x then some t else getF x r
def setF (x : Str) (t : Tr) : List (Str × Tr) → List (Str × Tr)
  | [] => [(x, t)]
  | (y, u) :: r => if y = x then (y, t) :: r else (y, u) :: setF x t r
def getP : Path → Tr → Option Tr
  | [], t => some t
  | (C, x) :: p, .ins D fs => if D = C then (match getF x fs with | some t => getP p t | none => none) else none
  | (C, x) :: p, .dst fs => if "{}" = C then (match getF x fs with | some t => getP p t | none => none) else none
  | _ :: _, _ => none
def putP : Path → Tr → Tr → Tr
  | [], n, _ => n
  | (_, x) :: p, n, .ins D fs => match getF x fs with | some t => .ins D (setF x (putP p n t) fs) | none => .ins D fs
  | (_, x) :: p, n, .dst fs => match getF x fs with | some t => .dst (setF x (putP p n t) fs) | none => .dst fs
  | _ :: _, _, t => t
def walkH (H : Hp) : V → Path → Option V
  | v, [] => some v
  | .ref a, (_, x) :: p => match H a with
    | some (.ins _ _ l) => (match l.lookup x with | some v => walkH H v p | none => none)
    | some (.dK l) => (match valV l (Sum.inr x) with | some v => walkH H v p | none => none)
    | _ => none
  | _, _ :: _ => none

theorem dstL_val (x : Str) : ∀ l : List (Str × V), valV (dstL l) (Sum.inr x) = l.lookup x
  | [] => rfl
  | (y, u) :: r => by
    rw [List.lookup_cons]
    by_cases e : y = x
    · have : (x == y) = true := beq_iff_eq.mpr e.symm
      rw [this]
      exact valV_pos (p := ((Sum.inr y : Key), u)) (by rw [e])
    · have : (x == y) = false := beq_eq_false_iff_ne.mpr (Ne.symm e)
      rw [this]
      exact (valV_neg (p := ((Sum.inr y : Key), u)) (fun z => e (Sum.inr.inj z))).trans (dstL_val x r)
theorem putF_same {x : Str} {v : V} : ∀ {l : List (Str × V)}, l.lookup x = some v → putF x v l = l
  | [], h => by cases h
  | (y, u) :: r, h => by
    unfold putF
    rw [List.lookup_cons] at h
    by_cases e : y = x
    · rw [if_pos e]
      have : (x == y) = true := beq_iff_eq.mpr e.symm
      rw [this] at h
      cases h
      rfl
    · rw [if_neg e]
      have : (x == y) = false := beq_eq_false_iff_ne.mpr (Ne.symm e)
      rw [this] at h
      rw [putF_same h]
section
variable {K : PySem.W.Frag} {P P' H H' : Hp}
theorem TRs.length : ∀ {fs : List (Str × Tr)} {l : List (Str × V)} {fp : List Addr}, TRs K P H fs l fp → l.length = fs.length
  | _, _, _, .nil => rfl
  | _, _, _, .cons _ r _ => by rw [List.length_cons, List.length_cons, TRs.length r]
/-- an attribute: what stands there, and what a store does -/
theorem TRs.at_ {x : Str} : ∀ {fs : List (Str × Tr)} {l : List (Str × V)} {fp : List Addr}, TRs K P H fs l fp → ∃ fp1, (∀ a ∈ fp1, a ∈ fp) ∧ (∀ t, getF x fs = some t → ∃ v, l.lookup x = some v ∧ TR K P H t v fp1) ∧ (getF x fs = none → l.lookup x = none) ∧
    ∀ (P' H' : Hp) (t' : Tr) (v' : V) (fp1' : List Addr), Same P P' → TR K P' H' t' v' fp1' → (∀ a ∈ fp, a ∉ fp1 → H' a = H a ∧ P' a = none) → (∀ a ∈ fp1', a ∈ fp → a ∈ fp1) →
      ∃ fp', TRs K P' H' (setF x t' fs) (putF x v' l) fp' ∧ ∀ a, a ∈ fp' ↔ (a ∈ fp ∧ a ∉ fp1) ∨ a ∈ fp1'
  | _, _, _, .nil => ⟨[], (fun _ h => nomatch h), (fun _ h => nomatch h), fun _ => rfl, fun P' H' t' v' fp1' _ r _ _ => ⟨fp1' ++ [], .cons r .nil (fun _ _ h => nomatch h), fun a => by simp⟩⟩
  | _, _, _, .cons (x := y) (t := t) (v := v) (ts := ts) (l := l) (fp := fp) (fq := fq) r s d => by
    by_cases e : y = x
    · have hb : (x == y) = true := beq_iff_eq.mpr e.symm
      refine ⟨fp, fun a h => List.mem_append_left _ h, fun t0 h => ?_, fun h => ?_, fun P' H' t' v' fp1' pp r' k n => ?_⟩
      · unfold getF at h
        rw [if_pos e] at h
        cases h
        exact ⟨v, by rw [List.lookup_cons, hb], r⟩
      · unfold getF at h
        rw [if_pos e] at h
        cases h
      · unfold setF putF
        rw [if_pos e, if_pos e]
        refine ⟨fp1' ++ fq, .cons r' (s.mono pp fun a h => k a (List.mem_append_right _ h) fun h2 => d a h2 h) fun a h h2 => d a (n a h (List.mem_append_right _ h2)) h2, fun a => ?_⟩
        rw [List.mem_append, List.mem_append]
        constructor
        · rintro (h | h)
          · exact .inr h
          · exact .inl ⟨.inr h, fun h2 => d a h2 h⟩
        · rintro (⟨h | h, h2⟩ | h)
          · exact absurd h h2
          · exact .inr h
          · exact .inl h
    · have hb : (x == y) = false := beq_eq_false_iff_ne.mpr (Ne.symm e)
      obtain ⟨fp1, i1, i2, i3, i4⟩ := TRs.at_ (x := x) s
      refine ⟨fp1, fun a h => List.mem_append_right _ (i1 a h), fun t0 h => ?_, fun h => ?_, fun P' H' t' v' fp1' pp r' k n => ?_⟩
      · unfold getF at h
        rw [if_neg e] at h
        obtain ⟨v0, h1, h2⟩ := i2 t0 h
        exact ⟨v0, by rw [List.lookup_cons, hb]; exact h1, h2⟩
      · unfold getF at h
        rw [if_neg e] at h
        rw [List.lookup_cons, hb]
        exact i3 h
      · have df : ∀ a ∈ fp, a ∉ fp1 := fun a h h2 => d a h (i1 a h2)
        obtain ⟨fq', j1, j2⟩ := i4 P' H' t' v' fp1' pp r' (fun a h h2 => k a (List.mem_append_right _ h) h2) fun a h h2 => n a h (List.mem_append_right _ h2)
        unfold setF putF
        rw [if_neg e, if_neg e]
        refine ⟨fp ++ fq', .cons (r.mono pp fun a h => k a (List.mem_append_left _ h) (df a h)) j1 fun a h h2 => ?_, fun a => ?_⟩
        · rcases (j2 a).mp h2 with ⟨h3, _⟩ | h3
          · exact d a h h3
          · exact df a h (n a h3 (List.mem_append_left _ h))
        · rw [List.mem_append, List.mem_append, j2]
          constructor
          · rintro (h | ⟨h, h2⟩ | h)
            · exact .inl ⟨.inl h, df a h⟩
            · exact .inl ⟨.inr h, h2⟩
            · exact .inr h
          · rintro (⟨h | h, h2⟩ | h)
            · exact .inl h
            · exact .inr (.inl ⟨h, h2⟩)
            · exact .inr (.inr h)
/-- a node at a path, and what a change of it does -/
theorem TR.focus : ∀ {p : Path} {t n : Tr} {v : V} {fp : List Addr}, TR K P H t v fp → getP p t = some n → ∃ vn fpn, walkH H v p = some vn ∧ TR K P H n vn fpn ∧ (∀ a ∈ fpn, a ∈ fp) ∧
    ∀ (P' H' : Hp) (n' : Tr) (fpn' : List Addr), Same P P' → TR K P' H' n' vn fpn' → (∀ a ∈ fp, a ∉ fpn → H' a = H a ∧ P' a = none) → (∀ a ∈ fpn', a ∈ fp → a ∈ fpn) →
      ∃ fp', TR K P' H' (putP p n' t) v fp' ∧ ∀ a, a ∈ fp' ↔ (a ∈ fp ∧ a ∉ fpn) ∨ a ∈ fpn'
  | [], t, n, v, fp, r, h => by
    cases h
    exact ⟨v, fp, by cases v <;> rfl, r, fun _ h => h, fun P' H' n' fpn' _ r' _ _ => ⟨fpn', r', fun a => ⟨.inr, fun h => h.elim (fun z => absurd z.1 z.2) id⟩⟩⟩
  | (C, x) :: p, t, n, v, fp, r, h => by
    cases r with
    | dat _ => cases h
    | lst _ _ _ => cases h
    | dic _ _ _ => cases h
    | dit _ _ _ => cases h
    | row _ _ _ _ => cases h
    | din _ _ _ => cases h
    | hol => cases h
    | @dst a fs l fpi p1 q1 s n1 =>
      unfold getP at h
      split at h
      · split at h
        · rename_i t1 e1
          obtain ⟨fp1, i1, i2, _, i4⟩ := TRs.at_ (x := x) s
          obtain ⟨v1, h1, h2⟩ := i2 t1 e1
          obtain ⟨vn, fpn, w1, w2, w3, w4⟩ := TR.focus h2 h
          have w5 : ∀ b ∈ fpn, b ∈ fpi := fun b hb => i1 b (w3 b hb)
          refine ⟨vn, fpn, ?_, w2, fun b hb => List.mem_cons_of_mem _ (w5 b hb), fun P' H' n' fpn' pp r' k m => ?_⟩
          · unfold walkH
            rw [q1]
            dsimp only
            rw [dstL_val, h1]
            exact w1
          · have inF : ∀ b ∈ fpi, b ∈ a :: fpi := fun b hb => List.mem_cons_of_mem _ hb
            obtain ⟨fp1', g1, g2⟩ := w4 P' H' n' fpn' pp r' (fun b hb nb => k b (inF b (i1 b hb)) nb) fun b hb hb2 => m b hb (inF b (i1 b hb2))
            obtain ⟨fpi', j1, j2⟩ := i4 P' H' (putP p n' t1) v1 fp1' pp g1 (fun b hb nb => k b (inF b hb) fun z => nb (w3 b z)) (fun b hb hb2 => by
              rcases (g2 b).mp hb with z | z
              · exact z.1
              · exact w3 b (m b z (inF b hb2)))
            rw [putF_same h1] at j1
            have out : ∀ b, b ∈ a :: fpi → b ∉ fpi → b ∉ fpi' := fun b hb nb z => by
              rcases (j2 b).mp z with z | z
              · exact nb z.1
              · rcases (g2 b).mp z with z | z
                · exact nb (i1 b z.1)
                · exact nb (w5 b (m b z hb))
            have ka := k a List.mem_cons_self fun z => n1 (w5 a z)
            unfold putP
            rw [e1]
            dsimp only
            refine ⟨a :: fpi', .dst ka.2 (ka.1.trans q1) j1 (out a List.mem_cons_self n1), fun b => ?_⟩
            have ja : a ∉ fpn := fun z => n1 (w5 a z)
            simp only [List.mem_cons, j2, g2]
            constructor
            · rintro (rfl | ⟨h1, h2⟩ | ⟨h1, h2⟩ | h1)
              · exact .inl ⟨.inl rfl, ja⟩
              · exact .inl ⟨.inr h1, fun z => h2 (w3 b z)⟩
              · exact .inl ⟨.inr (i1 b h1), h2⟩
              · exact .inr h1
            · rintro (⟨rfl | h1, h2⟩ | h1)
              · exact .inl rfl
              · by_cases z : b ∈ fp1
                · exact .inr (.inr (.inl ⟨z, h2⟩))
                · exact .inr (.inl ⟨h1, z⟩)
              · exact .inr (.inr (.inr h1))
        · cases h
      · cases h
    | @ins D c a dx fs l fpi p1 p2 q1 q2 hc s n1 n2 n3 =>
      unfold getP at h
      split at h
      · split at h
        · rename_i t1 e1
          obtain ⟨fp1, i1, i2, _, i4⟩ := TRs.at_ (x := x) s
          obtain ⟨v1, h1, h2⟩ := i2 t1 e1
          obtain ⟨vn, fpn, w1, w2, w3, w4⟩ := TR.focus h2 h
          have w5 : ∀ b ∈ fpn, b ∈ fpi := fun b hb => i1 b (w3 b hb)
          refine ⟨vn, fpn, ?_, w2, fun b hb => List.mem_cons_of_mem _ (List.mem_cons_of_mem _ (w5 b hb)), fun P' H' n' fpn' pp r' k m => ?_⟩
          · unfold walkH
            rw [q1]
            dsimp only
            rw [h1]
            exact w1
          · have inF : ∀ b ∈ fpi, b ∈ a :: dx :: fpi := fun b hb => List.mem_cons_of_mem _ (List.mem_cons_of_mem _ hb)
            obtain ⟨fp1', g1, g2⟩ := w4 P' H' n' fpn' pp r' (fun b hb nb => k b (inF b (i1 b hb)) nb) fun b hb hb2 => m b hb (inF b (i1 b hb2))
            obtain ⟨fpi', j1, j2⟩ := i4 P' H' (putP p n' t1) v1 fp1' pp g1 (fun b hb nb => k b (inF b hb) fun z => nb (w3 b z)) (fun b hb hb2 => by
              rcases (g2 b).mp hb with z | z
              · exact z.1
              · exact w3 b (m b z (inF b hb2)))
            rw [putF_same h1] at j1
            have out : ∀ b, b ∈ a :: dx :: fpi → b ∉ fpi → b ∉ fpi' := fun b hb nb z => by
              rcases (j2 b).mp z with z | z
              · exact nb z.1
              · rcases (g2 b).mp z with z | z
                · exact nb (i1 b z.1)
                · exact nb (w5 b (m b z hb))
            have ka := k a List.mem_cons_self fun z => n1 (w5 a z)
            have kd := k dx (List.mem_cons_of_mem _ List.mem_cons_self) fun z => n2 (w5 dx z)
            unfold putP
            rw [e1]
            dsimp only
            refine ⟨a :: dx :: fpi', .ins ka.2 kd.2 (ka.1.trans q1) (kd.1.trans q2) hc j1 (out a List.mem_cons_self n1) (out dx (List.mem_cons_of_mem _ List.mem_cons_self) n2) n3, fun b => ?_⟩
            have ja : a ∉ fpn := fun z => n1 (w5 a z)
            have jd : dx ∉ fpn := fun z => n2 (w5 dx z)
            simp only [List.mem_cons, j2, g2]
            constructor
            · rintro (rfl | rfl | ⟨h1, h2⟩ | ⟨h1, h2⟩ | h1)
              · exact .inl ⟨.inl rfl, ja⟩
              · exact .inl ⟨.inr (.inl rfl), jd⟩
              · exact .inl ⟨.inr (.inr h1), fun z => h2 (w3 b z)⟩
              · exact .inl ⟨.inr (.inr (i1 b h1)), h2⟩
              · exact .inr h1
            · rintro (⟨rfl | rfl | h1, h2⟩ | h1)
              · exact .inl rfl
              · exact .inr (.inl rfl)
              · by_cases z : b ∈ fp1
                · exact .inr (.inr (.inr (.inl ⟨z, h2⟩)))
                · exact .inr (.inr (.inl ⟨h1, z⟩))
              · exact .inr (.inr (.inr (.inr h1)))
        · cases h
      · cases h

def nodeAt (i : Nat) (p : Path) (E : En) : Option Tr := match E[i]? with
  | some (.tr t) => getP p t
  | _ => none
def putAt (i : Nat) (p : Path) (n : Tr) (E : En) : En := match E[i]? with
  | some (.tr t) => E.set i (.tr (putP p n t))
  | _ => E
def walkS (σ : L2.St) (H : Hp) (i : Nat) (p : Path) : Option V := match σ[i]? with
  | some (some v) => walkH H v p
  | _ => none
variable {vs0 : List V} {E E' : En} {σ : L2.St} {fps fps' : Nat → List Addr}
theorem Rel.focus {i : Nat} {p : Path} {n : Tr} (r : Rel K vs0 P E σ H fps) (h : nodeAt i p E = some n) : ∃ vn fpn, walkS σ H i p = some vn ∧ TR K P H n vn fpn ∧ (∀ a ∈ fpn, In fps a) ∧
    ∀ (P' H' : Hp) (n' : Tr) (fpn' : List Addr), Same P P' → Same P' H' → TR K P' H' n' vn fpn' → (∀ a, In fps a → a ∉ fpn → H' a = H a ∧ P' a = none) → (∀ a ∈ fpn', In fps a → a ∈ fpn) →
      ∃ fps', Rel K vs0 P' (putAt i p n' E) σ H' fps' ∧ ∀ a, In fps' a ↔ (In fps a ∧ a ∉ fpn) ∨ a ∈ fpn' := by
  unfold nodeAt at h
  split at h
  · rename_i t e1
    obtain ⟨ov, e2, s⟩ := r.sl i _ e1
    generalize hfp : fps i = fp at s
    cases s with
    | @tr _ a _ s =>
      obtain ⟨vn, fpn, w1, w2, w3, w4⟩ := s.focus h
      have hi : i < E.length := (List.getElem?_eq_some_iff.mp e1).1
      have w5 : ∀ b ∈ fpn, b ∈ fps i := fun b hb => by rw [hfp]; exact w3 b hb
      have w6 : ∀ b ∈ fpn, ∀ j, b ∈ fps j → j = i := fun b hb j hj => r.dj j i b hj (w5 b hb)
      refine ⟨vn, fpn, by unfold walkS; rw [e2]; exact w1, w2, fun b hb => ⟨i, w5 b hb⟩, fun P' H' n' fpn' pp ps r' k m => ?_⟩
      obtain ⟨fp', g1, g2⟩ := w4 P' H' n' fpn' pp r' (fun b hb nb => k b ⟨i, by rw [hfp]; exact hb⟩ nb) fun b hb hb2 => m b hb ⟨i, by rw [hfp]; exact hb2⟩
      have new : ∀ b ∈ fp', ∀ j, j ≠ i → b ∉ fps j := fun b hb j hj hb2 => by
        rcases (g2 b).mp hb with z | z
        · exact hj (r.dj j i b hb2 (by rw [hfp]; exact z.1))
        · exact hj (w6 b (m b z ⟨j, hb2⟩) j hb2)
      refine ⟨clr fps i fp', ⟨ps, ?_, fun j s hs => ?_, fun j hj => ?_, fun j k2 b hj hk => ?_, fun j s v hv hs ho => ?_⟩, fun b => ?_⟩
      · unfold putAt
        rw [e1]
        dsimp only
        rw [List.length_set]
        exact r.len
      · unfold putAt at hs
        rw [e1] at hs
        dsimp only at hs
        by_cases e : i = j
        · subst e
          rw [List.getElem?_set_self hi] at hs
          cases hs
          exact ⟨_, e2, by unfold clr; rw [if_pos rfl]; exact .tr g1⟩
        · rw [List.getElem?_set_ne e] at hs
          obtain ⟨ov, h1, h2⟩ := r.sl j s hs
          refine ⟨ov, h1, ?_⟩
          unfold clr
          rw [if_neg (Ne.symm e)]
          exact h2.mono pp fun b hb => k b ⟨j, hb⟩ fun z => e (w6 b z j hb).symm
      · unfold putAt at hj
        rw [e1] at hj
        dsimp only at hj
        rw [List.length_set] at hj
        unfold clr
        rw [if_neg (by omega)]
        exact r.out j hj
      · unfold clr at hj hk
        by_cases e3 : j = i
        · by_cases e4 : k2 = i
          · exact e3.trans e4.symm
          · rw [if_pos e3] at hj
            rw [if_neg e4] at hk
            exact absurd hk (new b hj k2 e4)
        · by_cases e4 : k2 = i
          · rw [if_neg e3] at hj
            rw [if_pos e4] at hk
            exact absurd hj (new b hk j e3)
          · rw [if_neg e3] at hj
            rw [if_neg e4] at hk
            exact r.dj j k2 b hj hk
      · unfold putAt at hs
        rw [e1] at hs
        dsimp only at hs
        by_cases e : i = j
        · subst e
          exact r.par i _ v hv e1 rfl
        · rw [List.getElem?_set_ne e] at hs
          exact r.par j s v hv hs ho
      · constructor
        · rintro ⟨j, hj⟩
          unfold clr at hj
          split at hj
          · rcases (g2 b).mp hj with z | z
            · exact .inl ⟨⟨i, by rw [hfp]; exact z.1⟩, z.2⟩
            · exact .inr z
          · rename_i ej
            exact .inl ⟨⟨j, hj⟩, fun z => ej (w6 b z j hj)⟩
        · rintro (⟨⟨j, hj⟩, nb⟩ | hb)
          · by_cases e : j = i
            · subst e
              exact ⟨j, by unfold clr; rw [if_pos rfl]; exact (g2 b).mpr (.inl ⟨by rw [← hfp]; exact hj, nb⟩)⟩
            · exact ⟨j, by unfold clr; rw [if_neg e]; exact hj⟩
          · exact ⟨i, by unfold clr; rw [if_pos rfl]; exact (g2 b).mpr (.inr hb)⟩
  · cases h
end
end Fw
namespace Fw
open PySem PySem.Spec L2
open PyProof.Rows hiding St

inductive Arg where
  | pl (i : Nat) (p : Path)
  | ex (d : PyData)
def slOf : Tr → Option Sl
  | .lst xs => some (.own xs)
  | .dat _ => none
  | t => some (.tr t)
def unSl : Sl → Option Tr
  | .own ys => some (.lst ys)
  | .tr t => some t
  | _ => none
def argSl (E : En) : Arg → Option Sl
  | .ex d => some (.dat d)
  | .pl i p => match E[i]? with
    | some (.own xs) => (match p with | [] => some (.own xs) | _ :: _ => none)
    | some (.tr t) => (match getP p t with | some n => slOf n | none => none)
    | _ => none
def slsOf (E : En) : List Arg → Option (List Sl)
  | [] => some []
  | a :: as => match argSl E a with
    | some s => (match slsOf E as with | some ss => some (s :: ss) | none => none)
    | none => none
def newSl (E : En) (i : Nat) (p : Path) (o : Sl) : Option Sl := match unSl o with
  | some n => (match E[i]? with
    | some (.own _) => some o
    | some (.tr t) => some (.tr (putP p n t))
    | _ => none)
  | none => none
def putB : List Arg → List Sl → En → Option En
  | [], [], E => some E
  | .ex _ :: as, _ :: os, E => putB as os E
  | .pl i p :: as, o :: os, E => match newSl E i p o with
    | some s => putB as os (E.set i s)
    | none => none
  | _, _, _ => none
/-- no slot twice -/
def noTwice : List Arg → Bool
  | [] => true
  | .ex _ :: as => noTwice as
  | .pl i _ :: as => (as.all fun a => match a with | .pl j _ => decide (j ≠ i) | .ex _ => true) && noTwice as
def ArgV (K : PySem.W.Frag) (P : Hp) (σ : L2.St) (H : Hp) : Arg → V → Prop
  | .ex d, v => Dq K P v d
  | .pl i p, v => walkS σ H i p = some v
inductive ArgVs (K : PySem.W.Frag) (P : Hp) (σ : L2.St) (H : Hp) : List Arg → List V → Prop
  | nil : ArgVs K P σ H [] []
  | cons {a : Arg} {v : V} {as : List Arg} {vs : List V} : ArgV K P σ H a v → ArgVs K P σ H as vs → ArgVs K P σ H (a :: as) (v :: vs)
theorem ArgVs.length {K : PySem.W.Frag} {P : Hp} {σ : L2.St} {H : Hp} : ∀ {as : List Arg} {vs : List V}, ArgVs K P σ H as vs → as.length = vs.length
  | _, _, .nil => rfl
  | _, _, .cons _ r => congrArg (· + 1) r.length
theorem ArgVs.get {K : PySem.W.Frag} {P : Hp} {σ : L2.St} {H : Hp} : ∀ {as : List Arg} {vs : List V} {k : Nat} {a : Arg} {v : V}, ArgVs K P σ H as vs → as[k]? = some a → vs[k]? = some v → ArgV K P σ H a v
  | _, _, _, _, _, .nil, h, _ => by simp at h
  | _, _, 0, _, _, .cons r _, h, g => by simp at h g; subst h g; exact r
  | _, _, k + 1, _, _, .cons _ r, h, g => r.get (k := k) (by simpa using h) (by simpa using g)
theorem slsOf_length {E : En} : ∀ {as : List Arg} {ss : List Sl}, slsOf E as = some ss → ss.length = as.length
  | [], _, h => by cases h; rfl
  | a :: as, ss, h => by
    unfold slsOf at h
    split at h
    · split at h
      · rename_i e
        cases h
        rw [List.length_cons, List.length_cons, slsOf_length e]
      · cases h
    · cases h
theorem slsOf_get {E : En} : ∀ {as : List Arg} {ss : List Sl} {k : Nat} {a : Arg}, slsOf E as = some ss → as[k]? = some a → ∃ s, ss[k]? = some s ∧ argSl E a = some s
  | [], _, _, _, _, g => by simp at g
  | a :: as, ss, k, b, h, g => by
    unfold slsOf at h
    split at h
    · rename_i s e0
      split at h
      · rename_i e
        cases h
        cases k with
        | zero => simp at g; subst g; exact ⟨s, rfl, e0⟩
        | succ k =>
          obtain ⟨s2, h1, h2⟩ := slsOf_get (k := k) e (by simpa using g)
          exact ⟨s2, by simpa using h1, h2⟩
      · cases h
    · cases h
theorem newSl_ow {E : En} {i : Nat} {p : Path} {o s : Sl} (h : newSl E i p o = some s) : s.ow = true ∧ o.ow = true ∧ ∃ u, E[i]? = some u ∧ u.ow = true := by
  unfold newSl at h
  split at h
  · rename_i n e1
    have ho : o.ow = true := by cases o <;> first | rfl | (cases e1; done)
    split at h
    · rename_i e2
      cases h
      exact ⟨ho, ho, _, e2, rfl⟩
    · rename_i e2
      cases h
      exact ⟨rfl, ho, _, e2, rfl⟩
    · cases h
  · cases h
theorem noTwice_eq : ∀ {as : List Arg}, noTwice as = true → ∀ {k1 k2 i : Nat} {p1 p2 : Path}, as[k1]? = some (.pl i p1) → as[k2]? = some (.pl i p2) → k1 = k2
  | [], _, k1, _, _, _, _, h, _ => by simp at h
  | .ex d :: as, hn, 0, _, _, _, _, h, _ => by simp at h
  | .ex d :: as, hn, _ + 1, 0, _, _, _, _, h => by simp at h
  | .ex d :: as, hn, k1 + 1, k2 + 1, i, p1, p2, h, g => congrArg (· + 1) (noTwice_eq (as := as) hn (by simpa using h) (by simpa using g))
  | .pl j q :: as, hn, 0, 0, _, _, _, _, _ => rfl
  | .pl j q :: as, hn, 0, k2 + 1, i, p1, p2, h, g => by
    simp at h
    obtain ⟨rfl, rfl⟩ := h
    unfold noTwice at hn
    rw [Bool.and_eq_true, List.all_eq_true] at hn
    have := hn.1 (.pl j p2) (List.mem_iff_getElem?.mpr ⟨k2, by simpa using g⟩)
    simp at this
  | .pl j q :: as, hn, k1 + 1, 0, i, p1, p2, h, g => by
    simp at g
    obtain ⟨rfl, rfl⟩ := g
    unfold noTwice at hn
    rw [Bool.and_eq_true, List.all_eq_true] at hn
    have := hn.1 (.pl j p1) (List.mem_iff_getElem?.mpr ⟨k1, by simpa using h⟩)
    simp at this
  | .pl j q :: as, hn, k1 + 1, k2 + 1, i, p1, p2, h, g => by
    unfold noTwice at hn
    rw [Bool.and_eq_true] at hn
    exact congrArg (· + 1) (noTwice_eq hn.2 (by simpa using h) (by simpa using g))
theorem putB_get : ∀ {as : List Arg} {os : List Sl} {E E2 : En}, noTwice as = true → putB as os E = some E2 → E2.length = E.length ∧ as.length = os.length ∧ (∀ (j : Nat), (∀ (k : Nat) (p : Path), as[k]? ≠ some (Arg.pl j p)) → E2[j]? = E[j]?) ∧
    ∀ (k i : Nat) (p : Path), as[k]? = some (Arg.pl i p) → ∃ o s, os[k]? = some o ∧ newSl E i p o = some s ∧ E2[i]? = some s
  | [], [], E, E2, _, h => by cases h; exact ⟨rfl, rfl, fun _ _ => rfl, fun k i p g => by simp at g⟩
  | [], _ :: _, E, E2, _, h => by cases h
  | .ex _ :: _, [], E, E2, _, h => by cases h
  | .pl _ _ :: _, [], E, E2, _, h => by cases h
  | .ex d :: as, o :: os, E, E2, hn, h => by
    obtain ⟨h1, h2, h3, h4⟩ := putB_get (as := as) hn (show putB as os E = some E2 from h)
    refine ⟨h1, congrArg (· + 1) h2, fun j hj => h3 j fun k p g => hj (k + 1) p (by simpa using g), fun k i p g => ?_⟩
    cases k with
    | zero => simp at g
    | succ k => simpa using h4 k i p (by simpa using g)
  | .pl i0 p0 :: as, o :: os, E, E2, hn, h => by
    have hn0 := hn
    unfold noTwice at hn
    rw [Bool.and_eq_true, List.all_eq_true] at hn
    unfold putB at h
    split at h
    · rename_i s0 e0
      obtain ⟨_, _, u, hu, _⟩ := newSl_ow e0
      have hi0 : i0 < E.length := (List.getElem?_eq_some_iff.mp hu).1
      have ne : ∀ (k i : Nat) (p : Path), as[k]? = some (Arg.pl i p) → i ≠ i0 := fun k i p g => by
        have := hn.1 (.pl i p) (List.mem_iff_getElem?.mpr ⟨k, g⟩)
        simpa using this
      obtain ⟨h1, h2, h3, h4⟩ := putB_get (as := as) hn.2 h
      refine ⟨by rw [h1, List.length_set], congrArg (· + 1) h2, fun j hj => ?_, fun k i p g => ?_⟩
      · rw [h3 j fun k p g => hj (k + 1) p (by simpa using g)]
        have : j ≠ i0 := fun z => hj 0 p0 (by rw [z]; rfl)
        rw [List.getElem?_set_ne (Ne.symm this)]
      · cases k with
        | zero =>
          simp at g
          obtain ⟨rfl, rfl⟩ := g
          refine ⟨o, s0, rfl, e0, ?_⟩
          rw [h3 i0 fun k p g => ne k i0 p g rfl, List.getElem?_set_self hi0]
        | succ k =>
          have g' : as[k]? = some (.pl i p) := by simpa using g
          obtain ⟨o2, s2, q1, q2, q3⟩ := h4 k i p g'
          refine ⟨o2, s2, by simpa using q1, ?_, q3⟩
          unfold newSl at q2 ⊢
          rw [List.getElem?_set_ne (Ne.symm (ne k i p g'))] at q2
          exact q2
    · cases h

section
variable {K : PySem.W.Frag} {vs0 : List V} {P H P1 H1 : Hp} {E1 E2 : En} {σ : L2.St} {fps fps1 : Nat → List Addr} {g : Fn} {n : Nat}
theorem slOf_rel {t : Tr} {s : Sl} {v : V} {fp : List Addr} (h : slOf t = some s) (r : TR K P H t v fp) : SlR K P H s (some v) fp := by
  cases r with
  | dat _ => cases h
  | lst a b c => cases h; exact .own a b c
  | dic a b c => cases h; exact .tr (.dic a b c)
  | dit a b c => cases h; exact .tr (.dit a b c)
  | row a b c d => cases h; exact .tr (.row a b c d)
  | din a b c => cases h; exact .tr (.din a b c)
  | hol => cases h; exact .tr .hol
  | dst a b c d => cases h; exact .tr (.dst a b c d)
  | ins a b c d e f g i j => cases h; exact .tr (.ins a b c d e f g i j)
theorem unSl_rel {t : Tr} {s : Sl} {v : V} {fp : List Addr} (h : unSl s = some t) (r : SlR K P H s (some v) fp) : TR K P H t v fp := by
  cases r with
  | un => cases h
  | dat _ => cases h
  | scr _ => cases h
  | fn _ => cases h
  | own a b c => cases h; exact .lst a b c
  | tr r => cases h; exact r
/-- an argument as the callee's slot, and what the callee leaves of it as the caller's -/
structure ArgF (K : PySem.W.Frag) (P1 : Hp) (E1 : En) (σ : L2.St) (H1 : Hp) (fps1 : Nat → List Addr) (a : Arg) (v : V) (s : Sl) (fp : List Addr) : Prop where
  rel : SlR K P1 H1 s (some v) fp
  ex : ∀ d, a = .ex d → fp = []
  sub : ∀ i p, a = .pl i p → ∀ b ∈ fp, b ∈ fps1 i
  wb : ∀ i p, a = .pl i p → ∀ (P' H' : Hp) (o o' : Sl) (fp' : List Addr), Same P1 P' → SlR K P' H' o (some v) fp' → newSl E1 i p o = some o' → (∀ b ∈ fps1 i, b ∉ fp → H' b = H1 b ∧ P' b = none) → (∀ b ∈ fp', b ∈ fps1 i → b ∈ fp) →
    ∃ ov fp2, σ[i]? = some ov ∧ SlR K P' H' o' ov fp2 ∧ ∀ b ∈ fp2, (b ∈ fps1 i ∧ b ∉ fp) ∨ b ∈ fp'
theorem argF_of (r : Rel K vs0 P1 E1 σ H1 fps1) {a : Arg} {v : V} {s : Sl} (hv : ArgV K P1 σ H1 a v) (hs : argSl E1 a = some s) : ∃ fp, ArgF K P1 E1 σ H1 fps1 a v s fp := by
  cases a with
  | ex d =>
    cases hs
    exact ⟨[], .dat hv, (fun _ _ => rfl), (fun i p h => nomatch h), (fun i p h => nomatch h)⟩
  | pl i p =>
    have hw : walkS σ H1 i p = some v := hv
    unfold argSl at hs
    dsimp only at hs
    split at hs
    · rename_i xs e1
      cases p with
      | cons _ _ => cases hs
      | nil =>
        cases hs
        obtain ⟨ov, e2, sr⟩ := r.sl i _ e1
        generalize hfp : fps1 i = fp at sr
        cases sr with
        | @own ad vs _ pa ha dv =>
          have ev : v = .ref ad := by
            unfold walkS at hw
            rw [e2] at hw
            cases hw
            rfl
          subst ev
          refine ⟨[ad], .own pa ha dv, (fun d h => nomatch h), (fun i' p' h b hb => by cases h; rw [hfp]; exact hb), fun i' p' h P' H' o o' fp' pp so ho k m => ?_⟩
          cases h
          unfold newSl at ho
          split at ho
          · rw [e1] at ho
            cases ho
            exact ⟨_, fp', e2, so, fun b hb => .inr hb⟩
          · cases ho
    · rename_i t e1
      split at hs
      · rename_i nd e3
        have hnode : nodeAt i p E1 = some nd := by unfold nodeAt; rw [e1]; exact e3
        obtain ⟨ov, e2, sr⟩ := r.sl i _ e1
        generalize hfp : fps1 i = fpi at sr
        cases sr with
        | @tr _ ra _ tr0 =>
          obtain ⟨vn, fpn, w1, w2, w3, w4⟩ := tr0.focus e3
          have ev : vn = v := by
            unfold walkS at hw
            rw [e2] at hw
            exact Option.some.inj (w1.symm.trans hw)
          subst ev
          refine ⟨fpn, slOf_rel hs w2, (fun d h => nomatch h), (fun i' p' h b hb => by cases h; rw [hfp]; exact w3 b hb), fun i' p' h P' H' o o' fp' pp so ho k m => ?_⟩
          cases h
          unfold newSl at ho
          split at ho
          · rename_i n' en
            rw [e1] at ho
            cases ho
            obtain ⟨fp2, g1, g2⟩ := w4 P' H' n' fp' pp (unSl_rel en so) (fun b hb nb => k b (by rw [hfp]; exact hb) nb) (fun b hb hb2 => m b hb (by rw [hfp]; exact hb2))
            exact ⟨_, fp2, e2, .tr g1, fun b hb => by rw [hfp]; exact (g2 b).mp hb⟩
          · cases ho
      · cases hs
    · cases hs
theorem callA_core {as : List Arg} {vs : List V} {sls outs : List Sl} {r : Sl} {Q : VK} {E0 : XK} (r1 : Rel K vs0 P1 E1 σ H1 fps1) (hv : ArgVs K P1 σ H1 as vs) (hn : noTwice as = true) (hs : slsOf E1 as = some sls)
    (hg : g sls = some (r, outs)) (hl : sls.length = n) (hp : putB as outs E1 = some E2)
    (q : ∀ (P' H' : Hp) (fps' : Nat → List Addr) (v : V) (fr : List Addr), Rel K vs0 P' E2 σ H' fps' → Step (In fps1) P1 H1 (fun a => In fps' a ∨ a ∈ fr) P' H' → SlR K P' H' r (some v) fr → (∀ a ∈ fr, ¬ In fps' a) → Q v H') :
    spF K n g vs H1 Q E0 := by
  have la := hv.length
  have ls := slsOf_length hs
  -- the arguments' footprints
  obtain ⟨fpc, hf⟩ : ∃ fpc : Nat → List Addr, ∀ k, (as.length ≤ k → fpc k = []) ∧ ∀ a v s, as[k]? = some a → vs[k]? = some v → sls[k]? = some s → ArgF K P1 E1 σ H1 fps1 a v s (fpc k) := by
    refine Classical.axiomOfChoice (r := fun k fp => (as.length ≤ k → fp = []) ∧ ∀ a v s, as[k]? = some a → vs[k]? = some v → sls[k]? = some s → ArgF K P1 E1 σ H1 fps1 a v s fp) fun k => ?_
    by_cases hk : k < as.length
    · obtain ⟨s, h1, h2⟩ := slsOf_get hs (List.getElem?_eq_getElem hk)
      have hk2 : k < vs.length := by omega
      obtain ⟨fp, h3⟩ := argF_of r1 (hv.get (List.getElem?_eq_getElem hk) (List.getElem?_eq_getElem hk2)) h2
      refine ⟨fp, fun h => absurd hk (by omega), fun a v s' g1 g2 g3 => ?_⟩
      rw [List.getElem?_eq_getElem hk] at g1
      rw [List.getElem?_eq_getElem hk2] at g2
      rw [h1] at g3
      cases g1; cases g2; cases g3
      exact h3
    · refine ⟨[], fun _ => rfl, fun a v s g1 _ _ => ?_⟩
      have := (List.getElem?_eq_some_iff.mp g1).1
      omega
  have at3 : ∀ (k : Nat) (a : Arg), as[k]? = some a → ∃ v s, vs[k]? = some v ∧ sls[k]? = some s ∧ ArgF K P1 E1 σ H1 fps1 a v s (fpc k) := fun k a ha => by
    have hk := (List.getElem?_eq_some_iff.mp ha).1
    obtain ⟨s, h1, h2⟩ := slsOf_get hs ha
    have hk2 : k < vs.length := by omega
    exact ⟨_, s, List.getElem?_eq_getElem hk2, h1, (hf k).2 _ _ _ ha (List.getElem?_eq_getElem hk2) h1⟩
  have plOf : ∀ (k : Nat) (b : Addr), b ∈ fpc k → ∃ (i : Nat) (p : Path), as[k]? = some (Arg.pl i p) ∧ b ∈ fps1 i := fun k b hb => by
    by_cases hk : k < as.length
    · obtain ⟨v, s, _, _, f⟩ := at3 k _ (List.getElem?_eq_getElem hk)
      cases ea : as[k] with
      | ex d => rw [f.ex d ea] at hb; cases hb
      | pl i p => exact ⟨i, p, by rw [List.getElem?_eq_getElem hk, ea], f.sub i p ea b hb⟩
    · rw [(hf k).1 (by omega)] at hb; cases hb
  have incl : ∀ b, In fpc b → In fps1 b := fun b ⟨k, hb⟩ => by
    obtain ⟨i, p, _, h⟩ := plOf k b hb
    exact ⟨i, h⟩
  have rc : Rel K vs P1 sls (vs.map some) H1 fpc := by
    refine ⟨r1.sub, by rw [List.length_map]; omega, fun k s hk => ?_, fun k hk => (hf k).1 (by omega), fun j k b hj hk => ?_, fun k s v hv hk ho => by rw [List.getElem?_map, hv]; rfl⟩
    · have hl2 := (List.getElem?_eq_some_iff.mp hk).1
      have hk1 : k < as.length := by omega
      obtain ⟨v, s', h1, h2, f⟩ := at3 k _ (List.getElem?_eq_getElem hk1)
      rw [hk] at h2
      cases h2
      exact ⟨some v, by rw [List.getElem?_map, h1]; rfl, f.rel⟩
    · obtain ⟨i1, p1, g1, h1⟩ := plOf j b hj
      obtain ⟨i2, p2, g2, h2⟩ := plOf k b hk
      have := r1.dj i1 i2 b h1 h2
      subst this
      exact noTwice_eq hn g1 g2
  obtain ⟨lE, lo, keepE, newE⟩ := putB_get hn hp
  refine ⟨by omega, P1, sls, fpc, r, outs, rc, hg, fun P' H' fpo v fr r' s' sr nf => ?_⟩
  have ft : ∀ b, In fpo b → In fpc b ∨ H1 b = none := fun b hb => s'.foot b (.inl hb)
  have notC : ∀ (j k : Nat) (p : Path) (b : Addr), as[k]? = some (Arg.pl j p) → b ∈ fps1 j → b ∉ fpc k → ¬ In fpc b := fun j k p b ha hb nb ⟨k2, hk2⟩ => by
    obtain ⟨i2, p2, g2, h2⟩ := plOf k2 b hk2
    have := r1.dj j i2 b hb h2
    subst this
    exact nb (noTwice_eq hn ha g2 ▸ hk2)
  have kp : ∀ b, In fps1 b → ¬ In fpc b → H' b = H1 b ∧ P' b = none := fun b hb nb => by
    obtain ⟨pn, o, ho⟩ := r1.foot hb
    exact ⟨(s'.keep b o ho nb).trans ho.symm, s'.noneD ho nb pn fun xs z => r1.footN hb ⟨xs, by rw [ho, z]⟩⟩
  -- the caller's new footprints
  obtain ⟨fp2, hf2⟩ : ∃ fp2 : Nat → List Addr, ∀ j, (∀ s, E2[j]? = some s → ∃ ov, σ[j]? = some ov ∧ SlR K P' H' s ov (fp2 j)) ∧ (E2.length ≤ j → fp2 j = []) ∧ ∀ b ∈ fp2 j, (b ∈ fps1 j ∧ ¬ In fpc b) ∨ ∃ (k : Nat) (p : Path), as[k]? = some (Arg.pl j p) ∧ b ∈ fpo k := by
    refine Classical.axiomOfChoice (r := fun j fp => (∀ s, E2[j]? = some s → ∃ ov, σ[j]? = some ov ∧ SlR K P' H' s ov fp) ∧ (E2.length ≤ j → fp = []) ∧ ∀ b ∈ fp, (b ∈ fps1 j ∧ ¬ In fpc b) ∨ ∃ (k : Nat) (p : Path), as[k]? = some (Arg.pl j p) ∧ b ∈ fpo k) fun j => ?_
    by_cases hj : ∃ (k : Nat) (p : Path), as[k]? = some (Arg.pl j p)
    · obtain ⟨k, p, ha⟩ := hj
      obtain ⟨o, s2, h1, h2, h3⟩ := newE k j p ha
      obtain ⟨v2, s3, h4, h5, f⟩ := at3 k _ ha
      obtain ⟨ov, h6, h7⟩ := r'.sl k o h1
      rw [List.getElem?_map, h4] at h6
      cases h6
      obtain ⟨ov2, fpj, h8, h9, h10⟩ := f.wb j p rfl P' H' o s2 (fpo k) s'.pp h7 h2 (fun b hb nb => kp b ⟨j, hb⟩ (notC j k p b ha hb nb)) (fun b hb hb2 => by
        rcases ft b ⟨k, hb⟩ with z | z
        · exact Classical.byContradiction fun nb => notC j k p b ha hb2 nb z
        · obtain ⟨_, o2, ho2⟩ := r1.foot ⟨j, hb2⟩
          rw [z] at ho2
          cases ho2)
      refine ⟨fpj, fun s hs2 => ?_, fun hlj => ?_, fun b hb => ?_⟩
      · rw [h3] at hs2
        cases hs2
        exact ⟨ov2, h8, h9⟩
      · have := (List.getElem?_eq_some_iff.mp h3).1
        omega
      · rcases h10 b hb with ⟨z1, z2⟩ | z
        · exact .inl ⟨z1, notC j k p b ha z1 z2⟩
        · exact .inr ⟨k, p, ha, z⟩
    · have hj2 : ∀ (k : Nat) (p : Path), as[k]? ≠ some (Arg.pl j p) := fun k p z => hj ⟨k, p, z⟩
      have nC : ∀ b ∈ fps1 j, ¬ In fpc b := fun b hb ⟨k2, hk2⟩ => by
        obtain ⟨i2, p2, g2, h2⟩ := plOf k2 b hk2
        have := r1.dj j i2 b hb h2
        subst this
        exact hj2 k2 p2 g2
      refine ⟨fps1 j, fun s hs2 => ?_, fun hlj => r1.out j (by omega), fun b hb => .inl ⟨hb, nC b hb⟩⟩
      rw [keepE j hj2] at hs2
      obtain ⟨ov, h1, h2⟩ := r1.sl j s hs2
      exact ⟨ov, h1, h2.mono s'.pp fun b hb => kp b ⟨j, hb⟩ (nC b hb)⟩
  have old : ∀ b, In fps1 b → ∃ o, H1 b = some o := fun b hb => (r1.foot hb).2
  refine q P' H' fp2 v fr ⟨r'.sub, by rw [lE]; exact r1.len, fun j => (hf2 j).1, fun j => (hf2 j).2.1, fun j k b hj hk => ?_, fun j s v hv2 hs2 ho => ?_⟩ ⟨s'.pp, fun b o h1 nb => s'.keep b o h1 fun z => nb (incl b z), fun b o hb => (s'.fresh b o hb).imp id fun z => z.imp id (incl b), fun b hb => ?_, s'.live⟩ sr fun b hb ⟨j, hj⟩ => ?_
  · rcases (hf2 j).2.2 b hj with ⟨z1, z2⟩ | ⟨k1, p1, z1, z2⟩
    · rcases (hf2 k).2.2 b hk with ⟨w1, w2⟩ | ⟨k2, p2, w1, w2⟩
      · exact r1.dj j k b z1 w1
      · rcases ft b ⟨k2, w2⟩ with y | y
        · exact absurd y z2
        · obtain ⟨o, ho⟩ := old b ⟨j, z1⟩
          rw [y] at ho
          cases ho
    · rcases (hf2 k).2.2 b hk with ⟨w1, w2⟩ | ⟨k2, p2, w1, w2⟩
      · rcases ft b ⟨k1, z2⟩ with y | y
        · exact absurd y w2
        · obtain ⟨o, ho⟩ := old b ⟨k, w1⟩
          rw [y] at ho
          cases ho
      · have := r'.dj k1 k2 b z2 w2
        subst this
        rw [z1] at w1
        cases w1
        rfl
  · by_cases hj : ∃ (k : Nat) (p : Path), as[k]? = some (Arg.pl j p)
    · obtain ⟨k, p, ha⟩ := hj
      obtain ⟨o, s2, h1, h2, h3⟩ := newE k j p ha
      obtain ⟨_, _, u, hu, huo⟩ := newSl_ow h2
      exact r1.par j u v hv2 hu huo
    · rw [keepE j fun k p z => hj ⟨k, p, z⟩] at hs2
      exact r1.par j s v hv2 hs2 ho
  · rcases hb with ⟨j, hj⟩ | hb
    · rcases (hf2 j).2.2 b hj with ⟨z1, _⟩ | ⟨k1, p1, z1, z2⟩
      · exact .inl ⟨j, z1⟩
      · exact (ft b ⟨k1, z2⟩).imp (incl b) id
    · exact (s'.foot b (.inr hb)).imp (incl b) id
  · rcases (hf2 j).2.2 b hj with ⟨z1, z2⟩ | ⟨k1, p1, z1, z2⟩
    · rcases s'.foot b (.inr hb) with y | y
      · exact z2 y
      · obtain ⟨o, ho⟩ := old b ⟨j, z1⟩
        rw [y] at ho
        cases ho
    · exact nf b hb ⟨k1, z2⟩
end
end Fw
namespace Fw
open PySem PySem.Spec L2
open PyProof.Rows hiding St
theorem getP_app : ∀ (p q : Path) (t : Tr), getP (p ++ q) t = (getP p t).bind (getP q)
  | [], _, _ => rfl
  | (C, x) :: p, q, t => by
    cases t with
    | ins D fs =>
      rw [List.cons_append]
      unfold getP
      split
      · cases getF x fs with
        | none => rfl
        | some t => exact getP_app p q t
      · rfl
    | dst fs =>
      rw [List.cons_append]
      unfold getP
      split
      · cases getF x fs with
        | none => rfl
        | some t => exact getP_app p q t
      · rfl
    | _ => rfl
theorem walkH_app {H : Hp} : ∀ (p q : Path) (v : V), walkH H v (p ++ q) = (walkH H v p).bind fun w => walkH H w q
  | [], _, v => by cases v <;> rfl
  | (C, x) :: p, q, v => by
    cases v with
    | ref a =>
      rw [List.cons_append]
      simp only [walkH]
      cases e : H a with
      | none => rfl
      | some o =>
        cases o with
        | ins c d l =>
          dsimp only
          cases l.lookup x with
          | none => rfl
          | some w => exact walkH_app p q w
        | dK l =>
          dsimp only
          cases valV l (.inr x) with
          | none => rfl
          | some w => exact walkH_app p q w
        | _ => rfl
    | _ => rfl
theorem walkH_same {H H' : Hp} (s : Same H H') : ∀ {p : Path} {v w : V}, walkH H v p = some w → walkH H' v p = some w
  | [], v, w, h => by cases v <;> exact h
  | (C, x) :: p, v, w, h => by
    cases v with
    | ref a =>
      unfold walkH at h ⊢
      cases e : H a with
      | none => rw [e] at h; cases h
      | some o =>
        rw [e] at h
        rw [s a o e]
        cases o with
        | ins c d l =>
          dsimp only at h ⊢
          cases e2 : l.lookup x with
          | none => rw [e2] at h; cases h
          | some u => rw [e2] at h; exact walkH_same s h
        | dK l =>
          dsimp only at h ⊢
          cases e2 : valV l (.inr x) with
          | none => rw [e2] at h; cases h
          | some u => rw [e2] at h; exact walkH_same s h
        | _ => cases h
    | _ => cases h
theorem walkS_keep {σ : L2.St} {H H' : Hp} {i : Nat} {p : Path} {v : V} (hst : p = [] ∨ Same H H') (h : walkS σ H i p = some v) : walkS σ H' i p = some v := by
  unfold walkS at h ⊢
  split at h
  · rcases hst with rfl | s
    · rename_i w _
      cases w <;> exact h
    · exact walkH_same s h
  · cases h
def tP (K : PySem.W.Frag) (i : Nat) (p : Path) : TE := fun σ H Q => ∃ (vs0 : List V) (P : Hp) (E : En) (fps : Nat → List Addr) (n : Tr), Rel K vs0 P E σ H fps ∧ nodeAt i p E = some n ∧ ∀ v, walkS σ H i p = some v → Q v H
/-- the expression names a place: slot i, path p -/
def PP (X : Cx) (i : Nat) (p : Path) (e : Expr) : Prop := PE X e (tP X.K i p)
structure FldC (K : PySem.W.Frag) (C f : Str) : Prop where
  ok : ∀ c, clsK K C c → Cls K c ∧ NoAttr K c f
theorem clsK_eq {K : PySem.W.Frag} {C : Str} {a b : Addr} (h : clsK K C a) (g : clsK K C b) : a = b := by
  unfold clsK at h g
  rw [h] at g
  cases g
  rfl
section
variable {X : Cx} {m m1 m2 p1 p2 : Bool} {e a b o : Expr} {es : List Expr} {pos px apos : Pos} {f fa fb : SE PyData} {fs : SE (List PyData)} {i n : Nat} {p : Path} {C fl : Str}
theorem pp_var (h : PE X e (tVar i)) : PP X i [] e := pe_imp h fun σ H Q => by
  rintro ⟨vs0, P, E, fps, n, r, hn, q⟩
  unfold nodeAt at hn
  split at hn
  · rename_i t e1
    obtain ⟨ov, e2, s⟩ := r.sl i _ e1
    generalize fps i = fp at s
    cases s with
    | tr s => exact ⟨_, e2, q _ (by unfold walkS; rw [e2]; rfl)⟩
  · cases hn
theorem nodeAt_app {E : En} {q : Path} {n : Tr} (h : nodeAt i (p ++ q) E = some n) : ∃ t, nodeAt i p E = some t ∧ getP q t = some n := by
  unfold nodeAt at h ⊢
  split at h
  · rename_i t e1
    rw [getP_app] at h
    cases e2 : getP p t with
    | none => rw [e2] at h; cases h
    | some u => rw [e2] at h; exact ⟨u, rfl, h⟩
  · cases h
theorem walkS_app {σ : L2.St} {H : Hp} {q : Path} {v w : V} (h : walkS σ H i p = some v) (g : walkH H v q = some w) : walkS σ H i (p ++ q) = some w := by
  unfold walkS at h ⊢
  split at h
  · rw [walkH_app, h]
    exact g
  · cases h
theorem pp_fld (c : FldC X.K C fl) (h : PP X i p e) (hb : attributeBase e fl X.env (eval e X.env) = eval e X.env := by rfl) (hC : "{}" ≠ C := by decide) : PP X i (p ++ [(C, fl)]) (.Attribute e fl pos) := pe_imp (pe_fld h hb) fun σ H Q => by
  rintro ⟨vs0, P, E, fps, n, r, hn, q⟩
  obtain ⟨t, h1, h2⟩ := nodeAt_app hn
  refine ⟨vs0, P, E, fps, t, r, h1, fun v hv => ?_⟩
  obtain ⟨vn, fpn, w1, w2, _, _⟩ := r.focus h1
  rw [hv] at w1
  cases w1
  unfold getP at h2
  cases w2 with
  | @ins D c' ad dx fs0 l fpi pa pd ha hd hc s _ _ _ =>
    dsimp only at h2
    split at h2
    · rename_i eD
      subst eD
      obtain ⟨fp1, _, i2, _, _⟩ := TRs.at_ (x := fl) s
      cases e1 : getF fl fs0 with
      | none => rw [e1] at h2; cases h2
      | some t1 =>
        obtain ⟨v1, h3, _⟩ := i2 t1 e1
        obtain ⟨c1, c2⟩ := c.ok _ hc
        refine ⟨ad, c', dx, l, v1, rfl, ha, c1, c2, h3, q v1 (walkS_app hv ?_)⟩
        unfold walkH
        rw [ha]
        dsimp only
        rw [h3]
        cases v1 <;> rfl
    · cases h2
  | dst _ _ _ _ =>
    dsimp only at h2
    rw [if_neg hC] at h2
    cases h2
  | _ => cases h2

/-- data -/
def rdP (i : Nat) (p : Path) : SE PyData := fun E => match nodeAt i p E with
  | some (.dat d) => some (d, E)
  | _ => none
/-- a list, only for now -/
def rdB (i : Nat) (p : Path) : SE PyData := fun E => match nodeAt i p E with
  | some (.lst xs) => some (.list xs, E)
  | _ => none
/-- data, or a list that isn't changed any more -/
def rdZ (i : Nat) (p : Path) : SE PyData := fun E => match nodeAt i p E with
  | some (.dat d) => some (d, E)
  | some (.lst xs) => some (.list xs, putAt i p (.dat (.list xs)) E)
  | _ => none
theorem px_rdP (h : PP X i p e) : PX X false true e (rdP i p) := pe_imp h fun σ H Q => by
  rintro ⟨vs0, P, E, fps, d, E', r, hf, q⟩
  unfold rdP at hf
  split at hf
  · rename_i d' e1
    cases hf
    refine ⟨vs0, P, E, fps, _, r, e1, fun v hv => ?_⟩
    obtain ⟨vn, fpn, w1, w2, _, _⟩ := r.focus e1
    rw [hv] at w1
    cases w1
    cases w2 with
    | dat dv => exact q P H fps _ r (.refl _ _ _) (fun _ => Same.refl H) dv
  · cases hf
theorem px_rdB (h : PP X i p e) : PX X false false e (rdB i p) := pe_imp h fun σ H Q => by
  rintro ⟨vs0, P, E, fps, d, E', r, hf, q⟩
  unfold rdB at hf
  split at hf
  · rename_i d' e1
    cases hf
    refine ⟨vs0, P, E, fps, _, r, e1, fun v hv => ?_⟩
    obtain ⟨vn, fpn, w1, w2, _, _⟩ := r.focus e1
    rw [hv] at w1
    cases w1
    cases w2 with
    | lst pa ha dv => exact q P H fps _ r (.refl _ _ _) (fun _ => Same.refl H) (.lst ha (dv.mono r.sub))
  · cases hf
theorem px_rdZ (h : PP X i p e) : PX X true true e (rdZ i p) := pe_imp h fun σ H Q => by
  rintro ⟨vs0, P, E, fps, d, E', r, hf, q⟩
  unfold rdZ at hf
  split at hf
  · rename_i d' e1
    cases hf
    refine ⟨vs0, P, E, fps, _, r, e1, fun v hv => ?_⟩
    obtain ⟨vn, fpn, w1, w2, _, _⟩ := r.focus e1
    rw [hv] at w1
    cases w1
    cases w2 with
    | dat dv => exact q P H fps _ r (.refl _ _ _) (fun _ => Same.refl H) dv
  · rename_i xs e1
    cases hf
    refine ⟨vs0, P, E, fps, _, r, e1, fun v hv => ?_⟩
    obtain ⟨vn, fpn, w1, w2, w3, w4⟩ := r.focus e1
    rw [hv] at w1
    cases w1
    cases w2 with
    | @lst ad vs _ pa ha dv =>
      have s1 : Same P (upd P ad (.lst vs)) := Fw.same_upd pa
      have dq : Dq X.K (upd P ad (.lst vs)) (.ref ad) (.list xs) := .lst upd_same (dv.mono s1)
      obtain ⟨fps', g1, g2⟩ := w4 (upd P ad (.lst vs)) H (.dat (.list xs)) [] s1 (fun x u hx => by
        by_cases ex : x = ad
        · subst ex; rw [upd_same] at hx; cases hx; exact ha
        · rw [upd_ne ex] at hx; exact r.sub x u hx) (.dat dq) (fun b hb nb => ⟨rfl, by
        have : b ≠ ad := fun z => nb (by rw [z]; exact List.mem_singleton.mpr rfl)
        rw [upd_ne this]
        exact (r.foot hb).1⟩) (fun b hb => nomatch hb)
      refine q _ H fps' _ g1 ⟨s1, fun _ _ h _ => h, fun a o hx => ?_, fun a h => ?_, fun a o h => ⟨o, h⟩⟩ (fun h => nomatch h) dq
      · by_cases ex : a = ad
        · subst ex; exact .inr (.inr (w3 a (List.mem_singleton.mpr rfl)))
        · rw [upd_ne ex] at hx; exact .inl ⟨o, hx⟩
      · rcases (g2 a).mp h with z | z
        · exact .inl z.1
        · cases z
  · cases hf

def tXC (K : PySem.W.Frag) (m : Bool) (f : SE Sl) : TE := fun σ H Q => ∃ (vs0 : List V) (P : Hp) (E : En) (fps : Nat → List Addr) (r : Sl) (E' : En), Rel K vs0 P E σ H fps ∧ f E = some (r, E') ∧
  ∀ (P' H' : Hp) (fps' : Nat → List Addr) (v : V) (fr : List Addr), Rel K vs0 P' E' σ H' fps' → Step (In fps) P H (fun a => In fps' a ∨ a ∈ fr) P' H' → (m = false → Same H H') → SlR K P' H' r (some v) fr → (∀ a ∈ fr, ¬ In fps' a) → Q v H'
def PXC (X : Cx) (m : Bool) (e : Expr) (f : SE Sl) : Prop := PE X e (tXC X.K m f)
def datS (f : SE PyData) : SE Sl := bnd f fun d => ret (.dat d)
def ownS (f : SE (List PyData)) : SE Sl := bnd f fun xs => ret (.own xs)
theorem Step.or {F F' : Addr → Prop} {P H P' H' : Hp} {fr : List Addr} (s : Step F P H F' P' H') (h : ∀ a ∈ fr, F a ∨ H a = none) : Step F P H (fun a => F' a ∨ a ∈ fr) P' H' := ⟨s.pp, s.keep, s.fresh, fun a ha => ha.elim (s.foot a) (h a), s.live⟩
theorem pxc_px (h : PX X m true e f) : PXC X m e (datS f) := pe_imp h fun σ H Q => by
  rintro ⟨vs0, P, E, fps, d, E', r, hf, q⟩
  obtain ⟨d1, E1, h1, h2⟩ := bnd_some hf
  obtain ⟨rfl, rfl⟩ := ret_some h2
  exact ⟨vs0, P, E, fps, d1, _, r, h1, fun P1 H1 fps1 v r1 s1 sm dv => q P1 H1 fps1 v [] r1 (s1.or fun a h => nomatch h) sm (.dat dv) fun a h => nomatch h⟩
theorem pxc_pl (h : PL X m e fs) : PXC X m e (ownS fs) := pe_imp h fun σ H Q => by
  rintro ⟨vs0, P, E, fps, d, E', r, hf, q⟩
  obtain ⟨d1, E1, h1, h2⟩ := bnd_some hf
  obtain ⟨rfl, rfl⟩ := ret_some h2
  exact ⟨vs0, P, E, fps, d1, _, r, h1, fun P1 H1 fps1 ad vs r1 s1 sm ha pa nf hv dv => q P1 H1 fps1 (.ref ad) [ad] r1 (s1.or fun a h => .inr (by cases List.mem_singleton.mp h; exact ha)) sm (.own pa hv dv) fun a h => by cases List.mem_singleton.mp h; exact nf⟩
variable {fc : SE Sl}
theorem Rel.keep {K : PySem.W.Frag} {vs0 : List V} {P P' H H' : Hp} {E : En} {σ : L2.St} {fps : Nat → List Addr} (r : Rel K vs0 P E σ H fps) (pp : Same P P') (su : Same P' H') (k : ∀ b, In fps b → H' b = H b ∧ P' b = none) : Rel K vs0 P' E σ H' fps :=
  ⟨su, r.len, fun i s hs => by
    obtain ⟨ov, h1, h2⟩ := r.sl i s hs
    exact ⟨ov, h1, h2.mono pp fun b hb => k b ⟨i, hb⟩⟩, r.out, r.dj, r.par⟩
/-- .. as data -/
theorem px_pxc (h : PXC X m e fc) : PX X true true e (asD fc) := pe_imp h fun σ H Q => by
  rintro ⟨vs0, P, E, fps, d, E', r, hf, q⟩
  unfold asD at hf
  split at hf
  · rename_i d1 E1 e1
    cases hf
    refine ⟨vs0, P, E, fps, _, _, r, e1, fun P1 H1 fps1 v fr r1 s1 _ sr nf => ?_⟩
    cases sr with
    | dat dv => exact q P1 H1 fps1 v r1 ⟨s1.pp, s1.keep, s1.fresh, fun a h => s1.foot a (.inl h), s1.live⟩ (fun h => nomatch h) dv
  · rename_i xs E1 e1
    cases hf
    refine ⟨vs0, P, E, fps, _, _, r, e1, fun P1 H1 fps1 v fr r1 s1 _ sr nf => ?_⟩
    cases sr with
    | @own al vs _ pa ha dv =>
      have t1 : Same P1 (upd P1 al (.lst vs)) := Fw.same_upd pa
      refine q (upd P1 al (.lst vs)) H1 fps1 _ (r1.keep t1 (fun x u hx => ?_) fun b hb => ⟨rfl, ?_⟩) ⟨s1.pp.trans t1, s1.keep, fun a o hx => ?_, fun a h => s1.foot a (.inl h), s1.live⟩ (fun h => nomatch h) (.lst upd_same (dv.mono t1))
      · by_cases ex : x = al
        · subst ex; rw [upd_same] at hx; cases hx; exact ha
        · rw [upd_ne ex] at hx; exact r1.sub x u hx
      · have : b ≠ al := fun z => nf al (List.mem_singleton.mpr rfl) (z ▸ hb)
        rw [upd_ne this]
        exact (r1.foot hb).1
      · by_cases ex : a = al
        · subst ex
          rcases s1.foot a (.inr (List.mem_singleton.mpr rfl)) with z | z
          · exact .inr (.inr z)
          · exact .inr (.inl (.inl z))
        · rw [upd_ne ex] at hx
          exact s1.fresh a o hx
  · cases hf
/-- x = .. -/
def asgS (i : Nat) (fc : SE Sl) : SS := fun E => match fc E with
  | some (.dat d, E') => some (.nx, E'.set i (.dat d))
  | some (.own xs, E') => some (.nx, E'.set i (.own xs))
  | some (.tr t, E') => some (.nx, E'.set i (.tr t))
  | _ => none
theorem asgS_some {E E2 : En} {fl : Fl} (h : asgS i fc E = some (fl, E2)) : ∃ r E', fc E = some (r, E') ∧ fl = .nx ∧ E2 = E'.set i r := by
  unfold asgS at h
  split at h <;> first
    | (cases h; done)
    | (rename_i e1; cases h; exact ⟨_, _, e1, rfl, rfl⟩)
theorem pxs_asgS {x : Str} {pos' : Pos} (hi' : n ≤ i) (hN : X.N.Nodup) (hi : X.N[i]? = some x) (hx : Loc X.env.scope x) (h1 : PXC X m e fc) (hs : swapsWith e (some (.Name x pos')) pos.line X.env = pure false := by rfl) (hf : X.fn x = true ∨ X.env.scope.names.lookup x = some .local := by first | exact .inl rfl | exact .inr rfl | assumption) :
    PXS1 X n (.Assign [.Name x pos'] e pos) (asgS i fc) := ps_imp (ps_set hN hi hx h1 hs hf) fun D σ H => by
  rintro ⟨vs0, P, E, fps, fl, E', hn, r, hf, q⟩
  obtain ⟨s, E1, e1, rfl, rfl⟩ := asgS_some hf
  refine ⟨vs0, P, E, fps, s, E1, r, e1, fun P1 H1 fps1 v fr r1 s1 _ sr nf => ?_⟩
  have r2 := r1.put (i := i) (s := s) (ov := some v) (l := fr) sr (fun y hy j _ hj => nf y hy ⟨j, hj⟩) (fun v hv' _ => by
    have := (List.getElem?_eq_some_iff.mp hv').1
    omega)
  refine q P1 H1 _ _ r2 ⟨s1.pp, s1.keep, s1.fresh, fun y hy => ?_, s1.live⟩
  split at hy
  · rcases in_clr hy with h2 | h2
    · exact s1.foot y (.inr h2)
    · exact s1.foot y (.inl h2)
  · exact s1.foot y (.inl hy)
/-- return .. -/
def retS (fc : SE Sl) : SS := fun E => match fc E with
  | some (r, E') => some (.rt r, E')
  | none => none
theorem pxs_retS (h1 : PXC X m e fc) : PXS1 X n (.Return (some e) pos) (retS fc) := ps_imp (ps_ret h1) fun D σ H => by
  rintro ⟨vs0, P, E, fps, fl, E', hn, r, hf, q⟩
  unfold retS at hf
  split at hf
  · rename_i s E1 e1
    cases hf
    exact ⟨vs0, P, E, fps, s, _, r, e1, fun P1 H1 fps1 v fr r1 s1 _ sr nf => q P1 H1 fps1 σ v fr r1 s1 sr nf⟩
  · cases hf
/-- a call as a statement -/
def drpC (fc : SE Sl) : SS := fun E => match fc E with
  | some (_, E') => some (.nx, E')
  | none => none
theorem pxs_drpC (h1 : PXC X m e fc) (hs : swapsWith e none pos.line X.env = pure false := by rfl) : PXS1 X n (.Expr e pos) (drpC fc) := ps_imp (ps_expr h1 hs) fun D σ H => by
  rintro ⟨vs0, P, E, fps, fl, E', hn, r, hf, q⟩
  unfold drpC at hf
  split at hf
  · rename_i s E1 e1
    cases hf
    exact ⟨vs0, P, E, fps, s, _, r, e1, fun P1 H1 fps1 v fr r1 s1 _ sr nf => q P1 H1 fps1 σ r1 ⟨s1.pp, s1.keep, s1.fresh, fun a h => s1.foot a (.inl h), s1.live⟩⟩
  · cases hf
end
end Fw
namespace Fw
open PySem PySem.Spec L2
open PyProof.Rows hiding St
inductive AE where
  | pl (i : Nat) (p : Path)
  | ex (f : SE PyData)
def evA : List AE → SE (List Arg)
  | [] => ret []
  | .pl i p :: r => fun E => if (argSl E (.pl i p)).isSome then bnd (evA r) (fun as => ret (.pl i p :: as)) E else none
  | .ex f :: r => bnd f fun d => bnd (evA r) fun as => ret (.ex d :: as)
def tXAs (K : PySem.W.Frag) (m : Bool) (f : SE (List Arg)) : TA := fun σ H Q => ∃ (vs0 : List V) (P : Hp) (E : En) (fps : Nat → List Addr) (as : List Arg) (E' : En), Rel K vs0 P E σ H fps ∧ f E = some (as, E') ∧
  ∀ (P' H' : Hp) (fps' : Nat → List Addr) (vs : List V), Rel K vs0 P' E' σ H' fps' → Step (In fps) P H (In fps') P' H' → (m = false → Same H H') → ArgVs K P' σ H' as vs → Q vs H'
def PXAs (X : Cx) (m : Bool) (es : List Expr) (ae : List AE) : Prop := PA X es (tXAs X.K m (evA ae))
/-- an expression that names an owned thing: a place, or a list's own name -/
def tPV (K : PySem.W.Frag) (i : Nat) (p : Path) : TE := fun σ H Q => ∃ (vs0 : List V) (P : Hp) (E : En) (fps : Nat → List Addr), Rel K vs0 P E σ H fps ∧ (argSl E (.pl i p)).isSome = true ∧ ∀ v, walkS σ H i p = some v → Q v H
def PV (X : Cx) (i : Nat) (p : Path) (e : Expr) : Prop := PE X e (tPV X.K i p)
section
variable {X : Cx} {m m1 m2 p1 p2 : Bool} {e a b o : Expr} {es : List Expr} {pos px apos : Pos} {f fa fb : SE PyData} {fs : SE (List PyData)} {i n k j : Nat} {p : Path} {C mt x : Str} {ae : List AE} {g : Fn}
theorem pv_var (h : PE X e (tVar i)) : PV X i [] e := pe_imp h fun σ H Q => by
  rintro ⟨vs0, P, E, fps, r, hn, q⟩
  unfold argSl at hn
  dsimp only at hn
  split at hn
  · rename_i xs e1
    obtain ⟨ov, e2, s⟩ := r.sl i _ e1
    generalize fps i = fp at s
    cases s with
    | own _ _ _ => exact ⟨_, e2, q _ (by unfold walkS; rw [e2]; rfl)⟩
  · rename_i t e1
    obtain ⟨ov, e2, s⟩ := r.sl i _ e1
    generalize fps i = fp at s
    cases s with
    | tr s => exact ⟨_, e2, q _ (by unfold walkS; rw [e2]; rfl)⟩
  · cases hn
theorem pv_pl (h : PP X i p e) (hp : p ≠ [] := by exact List.cons_ne_nil _ _) : PV X i p e := pe_imp h fun σ H Q => by
  rintro ⟨vs0, P, E, fps, r, hn, q⟩
  unfold argSl at hn
  dsimp only at hn
  split at hn
  · cases p with
    | nil => exact absurd rfl hp
    | cons _ _ => cases hn
  · rename_i t e1
    split at hn
    · rename_i nd e2
      exact ⟨vs0, P, E, fps, nd, r, by unfold nodeAt; rw [e1]; exact e2, q⟩
    · cases hn
  · cases hn
theorem pas_nil : PXAs X false [] [] := pa_imp pa_nil fun σ H Q => by
  rintro ⟨vs0, P, E, fps, as, E', r, hf, q⟩
  obtain ⟨rfl, rfl⟩ := ret_some hf
  exact q P H fps [] r (.refl _ _ _) (fun _ => Same.refl H) .nil
theorem pas_ex (h : PX X m1 true a f) (hr : PXAs X m2 es ae) (hs : starEach (a :: es) X.env = (false, eval a X.env) :: starEach es X.env := by rfl) : PXAs X (m1 || m2) (a :: es) (.ex f :: ae) := pa_imp (pa_cons h hr hs) fun σ H Q => by
  rintro ⟨vs0, P, E, fps, as, E', r, hf, q⟩
  obtain ⟨d, E1, h1, hf⟩ := bnd_some hf
  obtain ⟨as', E2, h2, hf⟩ := bnd_some hf
  obtain ⟨rfl, rfl⟩ := ret_some hf
  refine ⟨vs0, P, E, fps, d, E1, r, h1, fun P1 H1 fps1 v r1 s1 m1' dv => ⟨vs0, P1, E1, fps1, as', _, r1, h2, fun P2 H2 fps2 vs r2 s2 m2' av => q P2 H2 fps2 (v :: vs) r2 (s1.trans s2) (fun hm => ?_) (.cons (dv.mono s2.pp) av)⟩⟩
  rw [Bool.or_eq_false_iff] at hm
  exact (m1' hm.1).trans (m2' hm.2)
theorem pas_pl (h : PV X i p a) (hr : PXAs X m2 es ae) (hst : p = [] ∨ m2 = false := by first | exact .inl rfl | exact .inr rfl) (hs : starEach (a :: es) X.env = (false, eval a X.env) :: starEach es X.env := by rfl) : PXAs X m2 (a :: es) (.pl i p :: ae) := pa_imp (pa_cons h hr hs) fun σ H Q => by
  rintro ⟨vs0, P, E, fps, as, E', r, hf, q⟩
  unfold evA at hf
  split at hf
  · rename_i hok
    obtain ⟨as', E2, h2, hf⟩ := bnd_some hf
    obtain ⟨rfl, rfl⟩ := ret_some hf
    exact ⟨vs0, P, E, fps, r, hok, fun v hv => ⟨vs0, P, E, fps, as', _, r, h2, fun P2 H2 fps2 vs r2 s2 m2' av => q P2 H2 fps2 (v :: vs) r2 s2 m2' (.cons (walkS_keep (hst.imp id m2') hv) av)⟩⟩
  · cases hf
def callA (g : Fn) (ae : List AE) : SE Sl := fun E => match evA ae E with
  | some (as, E1) => if noTwice as then (match slsOf E1 as with
    | some sls => (match g sls with
      | some (r, outs) => (match putB as outs E1 with
        | some E2 => some (r, E2)
        | none => none)
      | none => none)
    | none => none) else none
  | none => none
theorem callA_some {E E2 : En} {r : Sl} (h : callA g ae E = some (r, E2)) : ∃ as E1 sls outs, evA ae E = some (as, E1) ∧ noTwice as = true ∧ slsOf E1 as = some sls ∧ g sls = some (r, outs) ∧ putB as outs E1 = some E2 := by
  unfold callA at h
  split at h
  · rename_i as E1 e1
    split at h
    · rename_i e2
      split at h
      · rename_i sls e3
        split at h
        · rename_i r' outs e4
          split at h
          · rename_i E2' e5
            cases h
            exact ⟨as, E1, sls, outs, e1, e2, e3, e4, e5⟩
          · cases h
        · cases h
      · cases h
    · cases h
  · cases h
theorem callA_end {K : PySem.W.Frag} {vs0 : List V} {P H P1 H1 : Hp} {E1 E2 : En} {σ : L2.St} {fps fps1 : Nat → List Addr} {as : List Arg} {vs : List V} {sls outs : List Sl} {r : Sl} {Q : VK} {E0 : XK} (r1 : Rel K vs0 P1 E1 σ H1 fps1) (s1 : Step (In fps) P H (In fps1) P1 H1) (hv : ArgVs K P1 σ H1 as vs) (hn : noTwice as = true) (hs : slsOf E1 as = some sls)
    (hg : g sls = some (r, outs)) (hl : sls.length = n) (hp : putB as outs E1 = some E2)
    (q : ∀ (P' H' : Hp) (fps' : Nat → List Addr) (v : V) (fr : List Addr), Rel K vs0 P' E2 σ H' fps' → Step (In fps) P H (fun a => In fps' a ∨ a ∈ fr) P' H' → (true = false → Same H H') → SlR K P' H' r (some v) fr → (∀ a ∈ fr, ¬ In fps' a) → Q v H') :
    spF K n g (vs ++ []) H1 Q E0 := by
  rw [List.append_nil]
  exact callA_core r1 hv hn hs hg hl hp fun P' H' fps' v fr r' s' sr nf => q P' H' fps' v fr r' (s1.trans s') (fun h => nomatch h) sr nf
theorem pxc_call (c : Cl X.prog X.w X.K X.mg X.base k x n g) (hn : ∀ as r, g as = some r → as.length = n) (hr : Room j X.A) (hk : k ≤ j) (hg : Gl X x) (ha : PXAs X m (e :: es) ae) (hdb : (x == ("__debug__" : Str)) = false := by decide)
    (he : starEach (e :: es) X.env = (false, eval e X.env) :: starEach es X.env := by rfl) (hpl : (backTo pos (starEach es X.env)).any (·.1) = false := by rfl) : PXC X true (.Call (.Name x px) (e :: es) [] pos) (callA g ae) := by
  obtain ⟨f, fd, ps, F, hm, hkp, hb⟩ := c.ex
  refine pe_imp (pe_call F (hr.mono hk) hg hm hkp hb .nil pass0 ha hdb he hpl) fun σ H Q => ?_
  rintro ⟨vs0, P, E, fps, r, E', rel, hf, q⟩
  obtain ⟨as, E1, sls, outs, e1, e2, e3, e4, e5⟩ := callA_some hf
  exact ⟨vs0, P, E, fps, as, E1, rel, e1, fun P1 H1 fps1 vs r1 s1 _ av => callA_end r1 s1 av e2 e3 e4 (hn _ _ e4) e5 q⟩

structure Mt (P : Program) (w : World) (K : PySem.W.Frag) (mg : Str → Option Value) (base : Heap) (k : Nat) (C mt : Str) (n : Nat) (g : Fn) : Prop where
  ex : ∃ (c f : Addr) (fd : FuncData) (ps : List Str), clsK K C c ∧ Cls K c ∧ Meth K c mt f ∧ FnOk P w K mg base CX0 k f fd ps (spF K n g) ∧ Binds K fd ps []
/-- o.mt(..) of an instance of C at the place -/
def callMt (C mt : Str) (i : Nat) (p : Path) (g : Fn) (ae : List AE) : SE Sl := fun E => match nodeAt i p E with
  | some (.ins D fs) => if D = C ∧ getF mt fs = none then callA g (.pl i p :: ae) E else none
  | _ => none
theorem mt_core {c : Addr} {sp : Sp} {E0 : XK} {ta : TA} {σ : L2.St} {H : Hp} {Q : VK} {vs0 : List V} {P : Hp} {E : En} {fps : Nat → List Addr} {fs : List (Str × Tr)} (hc : clsK X.K C c) (r : Rel X.K vs0 P E σ H fps) (hn : nodeAt i p E = some (.ins C fs)) (hm : getF mt fs = none)
    (h : ∀ v, walkS σ H i p = some v → ta σ H fun vs H2 => sp (v :: (vs ++ [])) H2 Q E0) : tMeth c mt sp [] E0 (tP X.K i p) ta σ H Q := by
  refine ⟨vs0, P, E, fps, _, r, hn, fun v hv => ?_⟩
  obtain ⟨vn, fpn, w1, w2, _, _⟩ := r.focus hn
  rw [hv] at w1
  cases w1
  cases w2 with
  | @ins D c' ad dx fs0 l fpi pa pd ha hd hc' s _ _ _ =>
    obtain ⟨fp1, _, _, i3, _⟩ := TRs.at_ (x := mt) s
    cases clsK_eq hc hc'
    exact ⟨ad, dx, l, rfl, ha, i3 hm, h _ hv⟩
theorem pxc_meth {pl : Sem Bool} (c : Mt X.prog X.w X.K X.mg X.base k C mt n g) (hn : ∀ as r, g as = some r → as.length = n) (hr : Room j X.A) (hk : k ≤ j) (ho : PP X i p o) (ha : PXAs X m (e :: es) ae) (hst : p = [] ∨ m = false := by first | exact .inl rfl | exact .inr rfl)
    (hs : starEach (e :: es) X.env = (false, eval e X.env) :: starEach es X.env := by rfl) (hpl : (backTo pos (starEach es X.env)).any (·.1) = false := by rfl)
    (ht : eval (.Call (.Attribute o mt apos) (e :: es) [] pos) X.env = (do
      let ov ← eval o X.env
      standAt apos.atName
      let (f, first) ← holding [ov] (getMethod ov mt pl)
      callWith pos f first (backTo pos (starEach (e :: es) X.env)) (backToKw pos (keywordEach [] X.env))) := by rfl) :
    PXC X true (.Call (.Attribute o mt apos) (e :: es) [] pos) (callMt C mt i p g ae) := by
  obtain ⟨cc, f, fd, ps, hc, hcl, hme, F, hb⟩ := c.ex
  refine pe_imp (pe_meth ho hcl hme F (hr.mono hk) hb .nil pass0 ha hs hpl ht) fun σ H Q => ?_
  rintro ⟨vs0, P, E, fps, r, E', rel, hf, q⟩
  unfold callMt at hf
  split at hf
  · rename_i D fs e0
    split at hf
    · rename_i h0
      obtain ⟨rfl, h0⟩ := h0
      refine mt_core hc rel e0 h0 fun v hv => ?_
      obtain ⟨as, E1, sls, outs, e1, e2, e3, e4, e5⟩ := callA_some hf
      unfold evA at e1
      split at e1
      · obtain ⟨as', E3, g1, g2⟩ := bnd_some e1
        obtain ⟨rfl, rfl⟩ := ret_some g2
        exact ⟨vs0, P, E, fps, as', _, rel, g1, fun P1 H1 fps1 vs r1 s1 m1' av => callA_end (vs := v :: vs) r1 s1 (.cons (a := .pl i p) (walkS_keep (hst.imp id m1') hv) av) e2 e3 e4 (hn _ _ e4) e5 q⟩
      · cases e1
    · cases hf
  · cases hf
theorem pxc_meth0 {pl : Sem Bool} (c : Mt X.prog X.w X.K X.mg X.base k C mt n g) (hn : ∀ as r, g as = some r → as.length = n) (hr : Room j X.A) (hk : k ≤ j) (ho : PP X i p o)
    (ht : eval (.Call (.Attribute o mt apos) [] [] pos) X.env = (do
      let ov ← eval o X.env
      standAt apos.atName
      let (f, first) ← holding [ov] (getMethod ov mt pl)
      callWith pos f first (backTo pos (starEach [] X.env)) (backToKw pos (keywordEach [] X.env))) := by rfl) :
    PXC X true (.Call (.Attribute o mt apos) [] [] pos) (callMt C mt i p g []) := by
  obtain ⟨cc, f, fd, ps, hc, hcl, hme, F, hb⟩ := c.ex
  refine pe_imp (pe_meth0 (E := fun _ _ _ => True) ho hcl hme F (hr.mono hk) hb .nil pass0 ht) fun σ H Q => ?_
  rintro ⟨vs0, P, E, fps, r, E', rel, hf, q⟩
  unfold callMt at hf
  split at hf
  · rename_i D fs e0
    split at hf
    · rename_i h0
      obtain ⟨rfl, h0⟩ := h0
      refine mt_core hc rel e0 h0 fun v hv => ?_
      obtain ⟨as, E1, sls, outs, e1, e2, e3, e4, e5⟩ := callA_some hf
      unfold evA at e1
      split at e1
      · obtain ⟨as', E3, g1, g2⟩ := bnd_some e1
        obtain ⟨rfl, rfl⟩ := ret_some g2
        obtain ⟨rfl, rfl⟩ := ret_some g1
        exact callA_end (E0 := fun _ _ _ => True) (vs := [v]) rel (.refl _ _ _) (.cons (a := .pl i p) hv .nil) e2 e3 e4 (hn _ _ e4) e5 q
      · cases e1
    · cases hf
  · cases hf

structure Mkr (P : Program) (w : World) (K : PySem.W.Frag) (mg : Str → Option Value) (base : Heap) (k : Nat) (C : Str) (n : Nat) (g : Fn) : Prop where
  ex : ∃ (c f : Addr) (fd : FuncData) (ps : List Str), clsK K C c ∧ mg C = some (.ref c) ∧ Mk K c f ∧ FnOk P w K mg base CX0 k f fd ps (spF K n g) ∧ Binds K fd ps []
def makeA (C : Str) (g : Fn) (fs : SE (List PyData)) : SE Sl := fun E => match fs E with
  | some (ds, E1) => (match g (.tr (.ins C []) :: ds.map .dat) with
    | some (.dat .none, .tr t :: _) => some (.tr t, E1)
    | _ => none)
  | none => none
theorem make_core {K : PySem.W.Frag} {c : Addr} {vs0 : List V} {P H P1 H1 : Hp} {E1 : En} {σ : L2.St} {fps fps1 : Nat → List Addr} {ds : List PyData} {ws : List V} {t : Tr} {os : List Sl} {Q : VK} {E0 : XK} (hc : clsK K C c)
    (r1 : Rel K vs0 P1 E1 σ H1 fps1) (s1 : Step (In fps) P H (In fps1) P1 H1) (dw : DqAll K P1 ws ds) (hn : ∀ as r, g as = some r → as.length = n) (hg : g (.tr (.ins C []) :: ds.map .dat) = some (.dat .none, .tr t :: os))
    (q : ∀ (P' H' : Hp) (fps' : Nat → List Addr) (v : V) (fr : List Addr), Rel K vs0 P' E1 σ H' fps' → Step (In fps) P H (fun a => In fps' a ∨ a ∈ fr) P' H' → (true = false → Same H H') → SlR K P' H' (.tr t) (some v) fr → (∀ a ∈ fr, ¬ In fps' a) → Q v H')
    (z dx : Addr) (hz : H1 z = none) (hdx : H1 dx = none) (hne : dx ≠ z) : spF K n g (.ref z :: (ws ++ [])) (upd (upd H1 dx (.own z)) z (.ins c dx [])) (fun v H2 => v = .non ∧ Q (.ref z) H2) E0 := by
  rw [List.append_nil]
  have hl := hn _ _ hg
  rw [List.length_cons, List.length_map] at hl
  have t1 : Same H1 (upd H1 dx (.own z)) := Fw.same_upd hdx
  have hz2 : upd H1 dx (.own z) z = none := by rw [upd_ne (Ne.symm hne)]; exact hz
  have t2 : Same H1 (upd (upd H1 dx (.own z)) z (.ins c dx [])) := t1.trans (Fw.same_upd hz2)
  have pz := sub_none r1.sub hz
  have pd := sub_none r1.sub hdx
  have su2 : Same P1 (upd (upd H1 dx (.own z)) z (.ins c dx [])) := r1.sub.trans t2
  have rd := rel_data su2 dw
  have rc : Rel K (.ref z :: ws) P1 (.tr (.ins C []) :: ds.map .dat) ((V.ref z :: ws).map some) (upd (upd H1 dx (.own z)) z (.ins c dx [])) (fun j => if j = 0 then [z, dx] else []) := by
    refine ⟨su2, by simp [dw.length], fun j s hs => ?_, fun j hj => ?_, fun j k a hj hk => ?_, fun j zs v hv hs ho => by rw [List.getElem?_map, hv]; rfl⟩
    · cases j with
      | zero =>
        cases hs
        exact ⟨some (.ref z), rfl, .tr (.ins pz pd upd_same (by rw [upd_ne hne, upd_same]) hc .nil (fun h => nomatch h) (fun h => nomatch h) hne)⟩
      | succ j =>
        rw [List.getElem?_cons_succ] at hs
        obtain ⟨ov, h1, h2⟩ := rd.sl j s hs
        exact ⟨ov, by rw [List.map_cons, List.getElem?_cons_succ]; exact h1, by rw [if_neg (Nat.succ_ne_zero j)]; exact h2⟩
    · cases j with
      | zero => simp at hj
      | succ j => exact if_neg (Nat.succ_ne_zero j)
    · split at hj
      · split at hk
        · rename_i e1 e2
          exact e1.trans e2.symm
        · cases hk
      · cases hj
  refine ⟨by rw [List.length_cons, dw.length]; exact hl, P1, _, _, _, _, rc, hg, fun P' H' fpc v fr r' s' sr nf => ?_⟩
  have inc : ∀ a, In (fun j => if j = 0 then [z, dx] else []) a → a = z ∨ a = dx := fun a ⟨j, hj⟩ => by
    dsimp only at hj
    split at hj
    · simpa using hj
    · cases hj
  have new : ∀ a o, H1 a = some o → ¬ In (fun j => if j = 0 then [z, dx] else []) a := fun a o h hi => by
    rcases inc a hi with rfl | rfl
    · rw [hz] at h; cases h
    · rw [hdx] at h; cases h
  generalize hfr : fr = fr0 at sr s' nf
  cases sr with
  | dat dn =>
    refine ⟨by cases dn; rfl, ?_⟩
    obtain ⟨ov, h1, h2⟩ := r'.sl 0 (.tr t) rfl
    rw [List.map_cons, List.getElem?_cons_zero] at h1
    cases h1
    have st : Step (In fps1) P1 H1 (fun a => In fps1 a ∨ a ∈ fpc 0) P' H' := by
      refine ⟨s'.pp, fun a o h _ => s'.keep a o (t2 a o h) (new a o h), fun a o h => ?_, fun a h => ?_, fun a o h => s'.live a o (t2 a o h)⟩
      · rcases s'.fresh a o h with y | y | y
        · exact .inl y
        · refine .inr (.inl ?_)
          cases e : H1 a with
          | none => exact .inl e
          | some o2 =>
            rcases y with y | ⟨xs, y⟩
            · rw [t2 a o2 e] at y; cases y
            · rw [t2 a o2 e] at y; cases y; exact .inr ⟨xs, e⟩
        · rcases inc a y with rfl | rfl
          · exact .inr (.inl (.inl hz))
          · exact .inr (.inl (.inl hdx))
      · rcases h with h | h
        · exact .inl h
        · rcases s'.foot a (.inl ⟨0, h⟩) with y | y
          · rcases inc a y with rfl | rfl
            · exact .inr hz
            · exact .inr hdx
          · refine .inr ?_
            cases e : H1 a with
            | none => rfl
            | some o2 => rw [t2 a o2 e] at y; cases y
    have rE : Rel K vs0 P' E1 σ H' fps1 := r1.keep s'.pp r'.sub fun b hb => by
      obtain ⟨pn, o, ho⟩ := r1.foot hb
      refine ⟨(s'.keep b o (t2 b o ho) (new b o ho)).trans ho.symm, ?_⟩
      exact s'.noneD (t2 b o ho) (new b o ho) pn fun xs z => r1.footN hb ⟨xs, by rw [ho, z]⟩
    refine q P' H' fps1 _ (fpc 0) rE (s1.trans st) (fun h => nomatch h) h2 fun a ha hb => ?_
    obtain ⟨_, o, ho⟩ := r1.foot hb
    rcases s'.foot a (.inl ⟨0, ha⟩) with y | y
    · exact new a o ho y
    · rw [t2 a o ho] at y; cases y
theorem pxc_make (c : Mkr X.prog X.w X.K X.mg X.base k C n g) (hn : ∀ as r, g as = some r → as.length = n) (hr : Room j X.A) (hk : k + 1 ≤ j) (hg : Gl X C) (ha : PXA X m (e :: es) fs) (hdb : (C == ("__debug__" : Str)) = false := by decide)
    (he : starEach (e :: es) X.env = (false, eval e X.env) :: starEach es X.env := by rfl) (hpl : (backTo pos (starEach es X.env)).any (·.1) = false := by rfl) : PXC X true (.Call (.Name C px) (e :: es) [] pos) (makeA C g fs) := by
  obtain ⟨cc, f, fd, ps, hc, hm, hme, F, hb⟩ := c.ex
  refine pe_imp (pe_make hme F (hr.mono hk) hg hm hb .nil pass0 ha hdb he hpl) fun σ H Q => ?_
  rintro ⟨vs0, P, E, fps, r, E', rel, hf, q⟩
  unfold makeA at hf
  split at hf
  · rename_i ds E1 e1
    split at hf
    · rename_i t os e2
      cases hf
      exact ⟨vs0, P, E, fps, ds, _, rel, e1, fun P1 H1 fps1 ws r1 s1 _ dw z dx hz hdx hne => make_core hc r1 s1 dw hn e2 q z dx hz hdx hne⟩
    · cases hf
  · cases hf
theorem pxc_make0 (c : Mkr X.prog X.w X.K X.mg X.base k C n g) (hn : ∀ as r, g as = some r → as.length = n) (hr : Room j X.A) (hk : k + 1 ≤ j) (hg : Gl X C) (hdb : (C == ("__debug__" : Str)) = false := by decide) : PXC X true (.Call (.Name C px) [] [] pos) (makeA C g (ret [])) := by
  obtain ⟨cc, f, fd, ps, hc, hm, hme, F, hb⟩ := c.ex
  refine pe_imp (pe_make0 (E := fun _ _ _ => True) hme F (hr.mono hk) hg hm hb .nil pass0 hdb) fun σ H Q => ?_
  rintro ⟨vs0, P, E, fps, r, E', rel, hf, q⟩
  unfold makeA at hf
  split at hf
  · rename_i ds E1 e1
    obtain ⟨rfl, rfl⟩ := ret_some e1
    split at hf
    · rename_i t os e2
      cases hf
      exact fun z dx hz hdx hne => make_core (ws := []) hc rel (.refl _ _ _) .nil hn e2 q z dx hz hdx hne
    · cases hf
  · cases hf
end
end Fw
namespace Fw
open PySem PySem.Spec L2
open PyProof.Rows hiding St
def trOf : Sl → Option Tr
  | .dat d => some (.dat d)
  | .own xs => some (.lst xs)
  | .tr t => some t
  | _ => none
section
variable {K : PySem.W.Frag} {vs0 : List V} {P H P1 H1 : Hp} {E E1 : En} {σ : L2.St} {fps fps1 : Nat → List Addr} {i : Nat} {p : Path} {C : Str} {fs : List (Str × Tr)}
theorem trOf_rel {t : Tr} {s : Sl} {v : V} {fp : List Addr} (h : trOf s = some t) (r : SlR K P H s (some v) fp) : TR K P H t v fp := by
  cases r with
  | un => cases h
  | dat d => cases h; exact .dat d
  | scr _ => cases h
  | fn _ => cases h
  | own a b c => cases h; exact .lst a b c
  | tr r => cases h; exact r
/-- an attribute gets a new value -/
theorem Rel.store (r1 : Rel K vs0 P1 E1 σ H1 fps1) (hn : nodeAt i p E1 = some (.ins C fs)) {x : Str} {t : Tr} {v : V} {fpt : List Addr} (ht : TR K P1 H1 t v fpt) (nf : ∀ a ∈ fpt, ¬ In fps1 a) :
    ∃ (ad c dx : Addr) (l : List (Str × V)), walkS σ H1 i p = some (.ref ad) ∧ H1 ad = some (.ins c dx l) ∧ clsK K C c ∧ l.length = fs.length ∧
      ∃ fps', Rel K vs0 P1 (putAt i p (.ins C (setF x t fs)) E1) σ (upd H1 ad (.ins c dx (putF x v l))) fps' ∧ Step (fun b => In fps1 b ∨ b ∈ fpt) P1 H1 (In fps') P1 (upd H1 ad (.ins c dx (putF x v l))) := by
  obtain ⟨vn, fpn, w1, w2, w3, w4⟩ := r1.focus hn
  cases w2 with
  | @ins D c ad dx fs0 l fpi pa pd ha hd hc s n1 n2 n3 =>
    refine ⟨ad, c, dx, l, w1, ha, hc, s.length, ?_⟩
    have inA : In fps1 ad := w3 ad List.mem_cons_self
    have inD : In fps1 dx := w3 dx (List.mem_cons_of_mem _ List.mem_cons_self)
    have inI : ∀ b ∈ fpi, In fps1 b := fun b hb => w3 b (List.mem_cons_of_mem _ (List.mem_cons_of_mem _ hb))
    have neA : ∀ b, b ≠ ad → upd H1 ad (.ins c dx (putF x v l)) b = H1 b := fun b hb => upd_ne hb
    have tA : ∀ b ∈ fpt, b ≠ ad := fun b hb z => nf b hb (z ▸ inA)
    have ht' : TR K P1 (upd H1 ad (.ins c dx (putF x v l))) t v fpt := ht.mono (Same.refl P1) fun b hb => ⟨neA b (tA b hb), (ht.foot b hb).1⟩
    obtain ⟨fp1, i1, _, _, i4⟩ := TRs.at_ (x := x) s
    obtain ⟨fpi', j1, j2⟩ := i4 P1 (upd H1 ad (.ins c dx (putF x v l))) t v fpt (Same.refl P1) ht' (fun b hb _ => ⟨neA b fun z => n1 (z ▸ hb), (r1.foot (inI b hb)).1⟩) fun b hb hb2 => absurd (inI b hb2) (nf b hb)
    have out : ∀ b, In fps1 b → b ∉ fpi → b ∉ fpi' := fun b hb nb z => by
      rcases (j2 b).mp z with z | z
      · exact nb z.1
      · exact nf b z hb
    have nd : TR K P1 (upd H1 ad (.ins c dx (putF x v l))) (.ins C (setF x t fs)) (.ref ad) (ad :: dx :: fpi') :=
      .ins pa pd upd_same ((neA dx n3).trans hd) hc j1 (out ad inA n1) (out dx inD n2) n3
    obtain ⟨fps', g1, g2⟩ := w4 P1 (upd H1 ad (.ins c dx (putF x v l))) (.ins C (setF x t fs)) (ad :: dx :: fpi') (Same.refl P1) (fun y u hy => by
      rw [neA y fun z => by rw [z, pa] at hy; cases hy]
      exact r1.sub y u hy) nd (fun b hb nb => ⟨neA b fun z => nb (z ▸ List.mem_cons_self), (r1.foot hb).1⟩) (fun b hb hb2 => by
      rcases List.mem_cons.mp hb with rfl | hb
      · exact List.mem_cons_self
      · rcases List.mem_cons.mp hb with rfl | hb
        · exact List.mem_cons_of_mem _ List.mem_cons_self
        · rcases (j2 b).mp hb with z | z
          · exact List.mem_cons_of_mem _ (List.mem_cons_of_mem _ z.1)
          · exact absurd hb2 (nf b z))
    refine ⟨fps', g1, Same.refl P1, fun a o h1 na => ?_, .same, fun a h => ?_, fun a o h1 => ?_⟩
    · rw [neA a fun z => na (.inl (z ▸ inA))]
      exact h1
    · rcases (g2 a).mp h with z | z
      · exact .inl (.inl z.1)
      · rcases List.mem_cons.mp z with rfl | z
        · exact .inl (.inl inA)
        · rcases List.mem_cons.mp z with rfl | z
          · exact .inl (.inl inD)
          · rcases (j2 a).mp z with y | y
            · exact .inl (.inl (inI a y.1))
            · exact .inl (.inr y)
    · by_cases e : a = ad
      · subst e
        exact ⟨_, upd_same⟩
      · exact ⟨o, (neA a e).trans h1⟩
end
section
variable {X : Cx} {m m1 m2 p1 p2 : Bool} {e a b o : Expr} {es : List Expr} {pos px apos pos' tpos : Pos} {f fa fb : SE PyData} {fs : SE (List PyData)} {i n k j : Nat} {p : Path} {C fl x : Str} {fc : SE Sl}
/-- o.fl = e -/
def setS (i : Nat) (p : Path) (C fl : Str) (fc : SE Sl) : SS := fun E => match fc E with
  | some (r, E1) => (match trOf r with
    | some t => (match nodeAt i p E1 with
      | some (.ins D fs) => if D = C ∧ fs.length < 900 then some (.nx, putAt i p (.ins D (setF fl t fs)) E1) else none
      | _ => none)
    | none => none)
  | none => none
theorem pxs_setS (c : FldC X.K C fl) (ho : PP X i p o) (h1 : PXC X m e fc) (hs : swapsWith e (some (.Attribute o fl pos')) pos.line X.env = pure false := by rfl) : PXS1 X n (.Assign [.Attribute o fl pos'] e pos) (setS i p C fl fc) := ps_imp (ps_fld ho h1 hs) fun D σ H => by
  rintro ⟨vs0, P, E, fps, fl', E', hn, r, hf, q⟩
  unfold setS at hf
  split at hf
  · rename_i s E1 e1
    split at hf
    · rename_i t e2
      split at hf
      · rename_i D' fs e3
        split at hf
        · rename_i h0
          obtain ⟨rfl, hlen⟩ := h0
          cases hf
          refine ⟨vs0, P, E, fps, s, E1, r, e1, fun P1 H1 fps1 v fr r1 s1 _ sr nf => ⟨vs0, P1, E1, fps1, _, r1, e3, fun w hw => ?_⟩⟩
          obtain ⟨ad, cc, dx, l, g1, g2, g3, g4, fps', g5, g6⟩ := r1.store e3 (x := fl) (trOf_rel e2 sr) nf
          rw [hw] at g1
          cases g1
          obtain ⟨c1, c2⟩ := c.ok _ g3
          exact ⟨ad, cc, dx, l, rfl, g2, c1, c2, by omega, q _ _ _ _ g5 (s1.trans g6)⟩
        · cases hf
      · cases hf
    · cases hf
  · cases hf
/-- o.fl op= e, ints -/
def augF (i : Nat) (p : Path) (C fl : Str) (op : Int → Int → Int) (fa : SE PyData) : SS := fun E => match nodeAt i (p ++ [(C, fl)]) E with
  | some (.dat (.int k)) => (match fa E with
    | some (.int j, E1) => (match nodeAt i p E1 with
      | some (.ins D fs) => if D = C ∧ fs.length < 900 then some (.nx, putAt i p (.ins D (setF fl (.dat (.int (op k j))) fs)) E1) else none
      | _ => none)
    | _ => none)
  | _ => none
theorem pxs_augF {op : Operator} {fn : Int → Int → Int} {rd : V → V → Hp → VK → Prop} (hop : InOp X op rd) (hrd : ∀ k j H Q, Q (.int (fn k j)) H → rd (.int k) (.int j) H Q) (c : FldC X.K C fl) (ho : PP X i p o) (h1 : PX X m p1 e fa) (hst : p = [] ∨ m = false := by first | exact .inl rfl | exact .inr rfl) (hC : "{}" ≠ C := by decide) :
    PXS1 X n (.AugAssign (.Attribute o fl tpos) op e pos) (augF i p C fl fn fa) := ps_imp (ps_fldaug ho h1 hop) fun D σ H => by
  rintro ⟨vs0, P, E, fps, fl', E', hn, r, hf, q⟩
  unfold augF at hf
  split at hf
  · rename_i k e0
    split at hf
    · rename_i j E1 e1
      split at hf
      · rename_i D' fs e3
        split at hf
        · rename_i h0
          obtain ⟨rfl, hlen⟩ := h0
          cases hf
          obtain ⟨t0, n1, n2⟩ := nodeAt_app e0
          refine ⟨vs0, P, E, fps, t0, r, n1, fun w hw => ?_⟩
          obtain ⟨vn, fpn, w1, w2, _, _⟩ := r.focus n1
          rw [hw] at w1
          cases w1
          unfold getP at n2
          cases w2 with
          | @ins D2 c' ad dx fs0 l fpi pa pd ha hd hc s _ _ _ =>
            dsimp only at n2
            split at n2
            · rename_i eD
              subst eD
              obtain ⟨fp1, _, i2, _, _⟩ := TRs.at_ (x := fl) s
              cases e5 : getF fl fs0 with
              | none => rw [e5] at n2; cases n2
              | some t1 =>
                rw [e5] at n2
                cases n2
                obtain ⟨v1, h3, h4⟩ := i2 _ e5
                obtain ⟨c1, c2⟩ := c.ok _ hc
                have ev1 : v1 = .int k := by cases h4 with | dat d => exact dq_int d
                subst ev1
                refine ⟨ad, c', dx, l, _, rfl, ha, c1, c2, h3, vs0, P, E, fps, _, E1, r, e1, fun P1 H1 fps1 y r1 s1 m1' dy => ?_⟩
                have ey : y = .int j := by cases p1 <;> exact dq_int dy
                subst ey
                refine hrd _ _ _ _ ?_
                obtain ⟨ad2, cc, dx2, l2, g1, g2, g3, g4, fps', g5, g6⟩ := r1.store e3 (x := fl) (t := .dat (.int (fn k j))) (.dat (.int (fn k j))) (fun _ h => nomatch h)
                have hw2 := walkS_keep (hst.imp id m1') hw
                rw [hw2] at g1
                cases g1
                cases clsK_eq hc g3
                refine ⟨dx2, l2, g2, by omega, q _ _ _ _ g5 (s1.trans ⟨g6.pp, fun a o h na => g6.keep a o h fun z => z.elim na (fun w => nomatch w), .same, fun a h => (g6.foot a h).imp (fun z => z.elim id fun w => nomatch w) id, g6.live⟩)⟩
            · cases n2
          | dst _ _ _ _ =>
            dsimp only at n2
            rw [if_neg hC] at n2
            cases n2
          | _ => cases n2
        · cases hf
      · cases hf
    · cases hf
  · cases hf
end
end Fw
namespace Fw
open PySem PySem.Spec L2
open PyProof.Rows hiding St
def keyOf : PyData → Option Key
  | .int i => some (.inl i)
  | .str x => some (.inr x)
  | _ => none
section
variable {κ : Type} [DecidableEq κ]
def valD (r : List (κ × PyData)) (k : κ) : Option PyData := (r.find? fun kv => decide (kv.1 = k)).map (·.2)
def putD (r : List (κ × PyData)) (k : κ) (d : PyData) : List (κ × PyData) :=
  if (r.any fun kv => decide (kv.1 = k)) = true then r.map (fun kv => if kv.1 = k then (kv.1, d) else kv) else r ++ [(k, d)]
def dropD (r : List (κ × PyData)) (k : κ) : List (κ × PyData) := r.filter fun kv => decide (kv.1 ≠ k)
variable {K : PySem.W.Frag} {H : Hp}
theorem DqKV.length {l : List (κ × V)} {r : List (κ × PyData)} (h : DqKV K H l r) : l.length = r.length := by
  induction h with
  | nil => rfl
  | cons _ _ ih => rw [List.length_cons, List.length_cons, ih]
theorem DqKV.keys {l : List (κ × V)} {r : List (κ × PyData)} (h : DqKV K H l r) : l.map (·.1) = r.map (·.1) := by
  induction h with
  | nil => rfl
  | cons _ _ ih => rw [List.map_cons, List.map_cons, ih]
theorem DqKV.val {l : List (κ × V)} {r : List (κ × PyData)} (h : DqKV K H l r) (k : κ) : (∃ v d, valV l k = some v ∧ valD r k = some d ∧ Dq K H v d) ∨ (valV l k = none ∧ valD r k = none) := by
  induction h with
  | nil => exact .inr ⟨rfl, rfl⟩
  | @cons k' v d l r hd _ ih =>
    by_cases e : k' = k
    · exact .inl ⟨v, d, by simp [valV, List.find?_cons, e], by simp [valD, List.find?_cons, e], hd⟩
    · have e1 : valV ((k', v) :: l) k = valV l k := by simp [valV, List.find?_cons, e]
      have e2 : valD ((k', d) :: r) k = valD r k := by simp [valD, List.find?_cons, e]
      rw [e1, e2]
      exact ih
theorem DqKV.any {l : List (κ × V)} {r : List (κ × PyData)} (h : DqKV K H l r) (k : κ) : (l.any fun kv => decide (kv.1 = k)) = r.any fun kv => decide (kv.1 = k) := by
  induction h with
  | nil => rfl
  | cons _ _ ih => rw [List.any_cons, List.any_cons, ih]
theorem DqKV.mapP {l : List (κ × V)} {r : List (κ × PyData)} (h : DqKV K H l r) {k : κ} {v : V} {d : PyData} (hd : Dq K H v d) : DqKV K H (l.map fun kv => if kv.1 = k then (kv.1, v) else kv) (r.map fun kv => if kv.1 = k then (kv.1, d) else kv) := by
  induction h with
  | nil => exact .nil
  | @cons k' v' d' l r hd' _ ih =>
    rw [List.map_cons, List.map_cons]
    dsimp only
    by_cases e : k' = k
    · rw [if_pos e, if_pos e]; exact .cons hd ih
    · rw [if_neg e, if_neg e]; exact .cons hd' ih
theorem DqKV.snoc {l : List (κ × V)} {r : List (κ × PyData)} (h : DqKV K H l r) {k : κ} {v : V} {d : PyData} (hd : Dq K H v d) : DqKV K H (l ++ [(k, v)]) (r ++ [(k, d)]) := by
  induction h with
  | nil => exact .cons hd .nil
  | cons hd' _ ih => exact .cons hd' ih
theorem DqKV.put {l : List (κ × V)} {r : List (κ × PyData)} (h : DqKV K H l r) (k : κ) {v : V} {d : PyData} (hd : Dq K H v d) : DqKV K H (putK l k v) (putD r k d) := by
  unfold putK putD
  rw [h.any]
  split
  · exact h.mapP hd
  · exact h.snoc hd
theorem DqKV.drop {l : List (κ × V)} {r : List (κ × PyData)} (h : DqKV K H l r) (k : κ) : DqKV K H (dropK l k) (dropD r k) := by
  unfold dropK dropD
  induction h with
  | nil => exact .nil
  | @cons k' v d l r hd _ ih =>
    by_cases e : k' = k
    · simpa [List.filter_cons, e] using ih
    · simpa [List.filter_cons, e] using DqKV.cons hd ih
end
theorem keyOf_dq {K : PySem.W.Frag} {H : Hp} {v : V} {d : PyData} {k : Key} (h : keyOf d = some k) (dv : Dq K H v d) : v = kV k := by
  cases dv <;> first
    | (cases h; done)
    | (cases h; rfl)
/-- a change of a list's or a dict's own content -/
theorem Rel.pokeP {K : PySem.W.Frag} {vs0 : List V} {P H : Hp} {E : En} {σ : L2.St} {fps : Nat → List Addr} {i : Nat} {p : Path} {n n' : Tr} {ad : Addr} {o : HO} (r : Rel K vs0 P E σ H fps) (hn : nodeAt i p E = some n) (hw : walkS σ H i p = some (.ref ad))
    (old : ∀ fp, TR K P H n (.ref ad) fp → fp = [ad]) (new : P ad = none → TR K P (upd H ad o) n' (.ref ad) [ad]) : ∃ fps', Rel K vs0 P (putAt i p n' E) σ (upd H ad o) fps' ∧ Step (In fps) P H (In fps') P (upd H ad o) := by
  obtain ⟨vn, fpn, w1, w2, w3, w4⟩ := r.focus hn
  rw [hw] at w1
  cases w1
  have e1 := old fpn w2
  subst e1
  have inA : In fps ad := w3 ad (List.mem_singleton.mpr rfl)
  have pa := (r.foot inA).1
  obtain ⟨fps', g1, g2⟩ := w4 P (upd H ad o) n' [ad] (Same.refl P) (fun y u hy => by
    rw [upd_ne fun z => by rw [z, pa] at hy; cases hy]
    exact r.sub y u hy) (new pa) (fun b hb nb => ⟨upd_ne fun z => nb (z ▸ List.mem_singleton.mpr rfl), (r.foot hb).1⟩) (fun b hb _ => hb)
  refine ⟨fps', g1, Same.refl P, fun a o' h1 na => ?_, .same, fun a h => ?_, fun a o' h1 => ?_⟩
  · rw [upd_ne (fun z : a = ad => na (by rw [z]; exact inA))]
    exact h1
  · rcases (g2 a).mp h with z | z
    · exact .inl z.1
    · cases List.mem_singleton.mp z
      exact .inl inA
  · by_cases e : a = ad
    · subst e
      exact ⟨_, upd_same⟩
    · exact ⟨o', (upd_ne e).trans h1⟩
/-- the dict at a place -/
theorem Rel.dicAt {K : PySem.W.Frag} {vs0 : List V} {P H : Hp} {E : En} {σ : L2.St} {fps : Nat → List Addr} {i : Nat} {p : Path} {r : List (Key × PyData)} {v : V} (rl : Rel K vs0 P E σ H fps) (hn : nodeAt i p E = some (.dic r)) (hw : walkS σ H i p = some v) :
    ∃ ad l, v = .ref ad ∧ P ad = none ∧ H ad = some (.dK l) ∧ DqKV K P l r := by
  obtain ⟨vn, fpn, w1, w2, _, _⟩ := rl.focus hn
  rw [hw] at w1
  cases w1
  cases w2 with
  | dic pa ha d => exact ⟨_, _, rfl, pa, ha, d⟩
theorem Rel.pokeD {K : PySem.W.Frag} {vs0 : List V} {P H : Hp} {E : En} {σ : L2.St} {fps : Nat → List Addr} {i : Nat} {p : Path} {r r' : List (Key × PyData)} {ad : Addr} {l' : List (Key × V)} (rl : Rel K vs0 P E σ H fps) (hn : nodeAt i p E = some (.dic r)) (hw : walkS σ H i p = some (.ref ad))
    (d : DqKV K P l' r') : ∃ fps', Rel K vs0 P (putAt i p (.dic r') E) σ (upd H ad (.dK l')) fps' ∧ Step (In fps) P H (In fps') P (upd H ad (.dK l')) :=
  rl.pokeP hn hw (fun fp t => by cases t with | dic _ _ _ => rfl) fun pa => .dic pa upd_same d
section
variable {X : Cx} {m m1 m2 m3 p1 p2 p3 : Bool} {e a b o c : Expr} {es : List Expr} {pos px apos pos' tpos : Pos} {f fa fb fk fv fd : SE PyData} {fs : SE (List PyData)} {i n k j : Nat} {p : Path} {C fl x : Str} {fc : SE Sl}
/-- d[k] -/
def dgtP (i : Nat) (p : Path) (fk : SE PyData) : SE PyData := fun E => match nodeAt i p E with
  | some (.dic _) => (match fk E with
    | some (d, E1) => (match keyOf d, nodeAt i p E1 with
      | some k, some (.dic r) => (match valD r k with
        | some x => some (x, E1)
        | none => none)
      | _, _ => none)
    | none => none)
  | _ => none
theorem px_dgt (hu : X.A.units + 1 < cLine) (ho : PP X i p o) (hb : PX X m p2 b fk) (hs : NoSl b := by exact fun _ _ => rfl) (hst : p = [] ∨ m = false := by first | exact .inl rfl | exact .inr rfl) : PX X m true (.Subscript o b pos) (dgtP i p fk) := pe_imp (pe_dget hu ho hb hs) fun σ H Q => by
  rintro ⟨vs0, P, E, fps, d, E', r, hf, q⟩
  unfold dgtP at hf
  split at hf
  · rename_i r0 e0
    split at hf
    · rename_i dk E1 e1
      split at hf
      · rename_i kk r1 e2 e3
        split at hf
        · rename_i x e4
          cases hf
          refine ⟨vs0, P, E, fps, _, r, e0, fun w hw => ⟨vs0, P, E, fps, dk, _, r, e1, fun P1 H1 fps1 y rl s1 m1' dy => ?_⟩⟩
          have hw1 := walkS_keep (hst.imp id m1') hw
          obtain ⟨ad, l, rfl, pa, ha, dl⟩ := rl.dicAt e3 hw1
          have ey : y = kV kk := by cases p2 <;> exact keyOf_dq e2 dy
          subst ey
          rcases dl.val kk with ⟨v, d', g1, g2, g3⟩ | ⟨_, g2⟩
          · rw [e4] at g2
            cases g2
            exact ⟨ad, v, rfl, by rw [← g1]; exact DGet.k ha, q P1 H1 fps1 v rl s1 m1' g3⟩
          · rw [e4] at g2
            cases g2
        · cases hf
      · cases hf
    · cases hf
  · cases hf
/-- k in d, k not in d -/
def dinP (neg : Bool) (i : Nat) (p : Path) (fk : SE PyData) : SE PyData := fun E => match fk E with
  | some (d, E1) => (match keyOf d, nodeAt i p E1 with
    | some k, some (.dic r) => some (.bool (neg != (valD r k).isSome), E1)
    | _, _ => none)
  | none => none
theorem isSome_val {K : PySem.W.Frag} {H : Hp} {l : List (Key × V)} {r : List (Key × PyData)} (h : DqKV K H l r) (k : Key) : (valV l k).isSome = (valD r k).isSome := by
  rcases h.val k with ⟨v, d, g1, g2, _⟩ | ⟨g1, g2⟩ <;> rw [g1, g2] <;> rfl
theorem din_core {m : Bool} {neg : Bool} {σ : L2.St} {H : Hp} {Q : VK} (h : tX X.K m true (dinP neg i p fk) σ H Q) : tX X.K m p2 fk σ H fun y H1 => tP X.K i p σ H1 fun x H2 => ∃ a o, x = .ref a ∧ DGet H2 a y o ∧ Q (.bl (neg != o.isSome)) H2 := by
  obtain ⟨vs0, P, E, fps, d, E', r, hf, q⟩ := h
  unfold dinP at hf
  split at hf
  · rename_i dk E1 e1
    split at hf
    · rename_i kk r1 e2 e3
      cases hf
      refine ⟨vs0, P, E, fps, dk, _, r, e1, fun P1 H1 fps1 y rl s1 m1' dy => ⟨vs0, P1, _, fps1, _, rl, e3, fun w hw => ?_⟩⟩
      obtain ⟨ad, l, rfl, pa, ha, dl⟩ := rl.dicAt e3 hw
      have ey : y = kV kk := by cases p2 <;> exact keyOf_dq e2 dy
      subst ey
      refine ⟨ad, _, rfl, DGet.k ha, ?_⟩
      rw [isSome_val dl]
      exact q P1 H1 fps1 _ rl s1 m1' (.bl _)
    · cases hf
  · cases hf
theorem bnef (b : Bool) : (false != b) = b := by cases b <;> rfl
theorem bnet (b : Bool) : (true != b) = !b := by cases b <;> rfl
theorem px_din (hu : X.A.units + 1 < cLine) (hb : PX X m p2 b fk) (ho : PP X i p o) (h1 : behindInMarks .In o = false := by first | exact nobehind _ (by decide) (by decide) | rfl) : PX X m true (.Compare b [.In] [o] pos) (dinP false i p fk) := pe_imp (pe_cmp (pc_din hu hb ho) h1) fun σ H Q h => by
  have := din_core (p2 := p2) h
  simp only [bnef] at this
  exact this
theorem px_dnin (hu : X.A.units + 1 < cLine) (hb : PX X m p2 b fk) (ho : PP X i p o) (h1 : behindInMarks .NotIn o = false := by first | exact nobehind _ (by decide) (by decide) | rfl) : PX X m true (.Compare b [.NotIn] [o] pos) (dinP true i p fk) := pe_imp (pe_cmp (pc_dnotin hu hb ho) h1) fun σ H Q h => by
  have := din_core (p2 := p2) h
  simp only [bnet] at this
  exact this
theorem pt_din (hu : X.A.units + 1 < cLine) (hb : PX X m p2 b fk) (ho : PP X i p o) (h1 : behindInMarks .In o = false := by first | exact nobehind _ (by decide) (by decide) | rfl) : PXT X m (.Compare b [.In] [o] pos) (toB (dinP false i p fk)) := pt_imp (pt_cmp (pc_din hu hb ho) h1) fun σ H Q => by
  rintro ⟨vs0, P, E, fps, d, E', r, hf, q⟩
  have hf := toB_some hf
  have := din_core (p2 := p2) (σ := σ) (Q := fun v H' => ∃ b : Bool, v = .bl b ∧ Q b H') ⟨vs0, P, E, fps, _, E', r, hf, fun P' H' fps' v r' st sm dv => ⟨d, dq_bl dv, q P' H' fps' r' st sm⟩⟩
  simp only [bnef] at this
  exact this
theorem pt_dnin (hu : X.A.units + 1 < cLine) (hb : PX X m p2 b fk) (ho : PP X i p o) (h1 : behindInMarks .NotIn o = false := by first | exact nobehind _ (by decide) (by decide) | rfl) : PXT X m (.Compare b [.NotIn] [o] pos) (toB (dinP true i p fk)) := pt_imp (pt_cmp (pc_dnotin hu hb ho) h1) fun σ H Q => by
  rintro ⟨vs0, P, E, fps, d, E', r, hf, q⟩
  have hf := toB_some hf
  have := din_core (p2 := p2) (σ := σ) (Q := fun v H' => ∃ b : Bool, v = .bl b ∧ Q b H') ⟨vs0, P, E, fps, _, E', r, hf, fun P' H' fps' v r' st sm dv => ⟨d, dq_bl dv, q P' H' fps' r' st sm⟩⟩
  simp only [bnet] at this
  exact this
/-- d[k] = v -/
def dptP (i : Nat) (p : Path) (fk fv : SE PyData) : SS := fun E => match fv E with
  | some (d, E1) => (match nodeAt i p E1 with
    | some (.dic _) => (match fk E1 with
      | some (kd, E2) => (match keyOf kd, nodeAt i p E2 with
        | some k, some (.dic r) => if r.length < sizeLine then some (.nx, putAt i p (.dic (putD r k d)) E2) else none
        | _, _ => none)
      | none => none)
    | _ => none)
  | none => none
theorem pxs_dpt (hu : X.A.units + 1 < cLine) (ho : PP X i p o) (hb : PX X m p2 b fk) (hv : PX X m2 true e fv) (hs : swapsWith e (some (.Subscript o b pos')) pos.line X.env = pure false := by rfl) (hst : p = [] ∨ m = false := by first | exact .inl rfl | exact .inr rfl) :
    PXS1 X n (.Assign [.Subscript o b pos'] e pos) (dptP i p fk fv) := ps_imp (ps_dput hu ho hb hv hs) fun D σ H => by
  rintro ⟨vs0, P, E, fps, fl', E', hn, r, hf, q⟩
  unfold dptP at hf
  split at hf
  · rename_i d E1 e1
    split at hf
    · rename_i r0 e0
      split at hf
      · rename_i kd E2 e2
        split at hf
        · rename_i kk r1 e3 e4
          split at hf
          · rename_i hl
            cases hf
            refine ⟨vs0, P, E, fps, d, E1, r, e1, fun P1 H1 fps1 v rl1 s1 m1' dv => ⟨vs0, P1, E1, fps1, _, rl1, e0, fun w hw => ⟨vs0, P1, E1, fps1, kd, E2, rl1, e2, fun P2 H2 fps2 y rl2 s2 m2' dy => ?_⟩⟩⟩
            have hw2 := walkS_keep (hst.imp id m2') hw
            obtain ⟨ad, l, rfl, pa, ha, dl⟩ := rl2.dicAt e4 hw2
            have ey : y = kV kk := by cases p2 <;> exact keyOf_dq e3 dy
            subst ey
            obtain ⟨fps3, g1, g2⟩ := rl2.pokeD e4 hw2 (dl.put kk (dv.mono s2.pp))
            exact ⟨ad, _, rfl, DPut.k ha (by rw [dl.length]; exact hl), q _ _ _ _ g1 ((s1.trans s2).trans g2)⟩
          · cases hf
        · cases hf
      · cases hf
    · cases hf
  · cases hf
/-- d[k] op= v, ints -/
def daugP (i : Nat) (p : Path) (op : Int → Int → Int) (fk fv : SE PyData) : SS := fun E => match nodeAt i p E with
  | some (.dic _) => (match fk E with
    | some (kd, E1) => (match keyOf kd, nodeAt i p E1 with
      | some k, some (.dic r) => (match valD r k with
        | some (.int x) => (match fv E1 with
          | some (.int y, E2) => (match nodeAt i p E2 with
            | some (.dic r2) => if r2.length < sizeLine then some (.nx, putAt i p (.dic (putD r2 k (.int (op x y)))) E2) else none
            | _ => none)
          | _ => none)
        | _ => none)
      | _, _ => none)
    | none => none)
  | _ => none
theorem pxs_daug {op : Operator} {fn : Int → Int → Int} {rd : V → V → Hp → VK → Prop} (hop : InOp X op rd) (hrd : ∀ k j H Q, Q (.int (fn k j)) H → rd (.int k) (.int j) H Q) (hu : X.A.units + 1 < cLine) (ho : PP X i p o) (hb : PX X m p2 b fk) (hv : PX X m2 p1 e fv)
    (ha : ∀ ov iv new, augStore b ov iv new = (do holding [new, ov, iv] (setItem ov iv new); release [new, ov, iv] []; pure .next) := by intro _ _ _; rfl) (hst : p = [] ∨ m = false := by first | exact .inl rfl | exact .inr rfl) (hst2 : p = [] ∨ m2 = false := by first | exact .inl rfl | exact .inr rfl) :
    PXS1 X n (.AugAssign (.Subscript o b tpos) op e pos) (daugP i p fn fk fv) := ps_imp (ps_daug hu ho hb hv hop ha) fun D σ H => by
  rintro ⟨vs0, P, E, fps, fl', E', hn, r, hf, q⟩
  unfold daugP at hf
  split at hf
  · rename_i r0 e0
    split at hf
    · rename_i kd E1 e1
      split at hf
      · rename_i kk r1 e2 e3
        split at hf
        · rename_i x0 e4
          split at hf
          · rename_i y0 E2 e5
            split at hf
            · rename_i r2 e6
              split at hf
              · rename_i hl
                cases hf
                refine ⟨vs0, P, E, fps, _, r, e0, fun w hw => ⟨vs0, P, E, fps, kd, E1, r, e1, fun P1 H1 fps1 y rl1 s1 m1' dy => ?_⟩⟩
                have hw1 := walkS_keep (hst.imp id m1') hw
                obtain ⟨ad, l, rfl, pa, ha, dl⟩ := rl1.dicAt e3 hw1
                have ey : y = kV kk := by cases p2 <;> exact keyOf_dq e2 dy
                subst ey
                rcases dl.val kk with ⟨v, d', g1, g2, g3⟩ | ⟨_, g2⟩
                · rw [e4] at g2
                  cases g2
                  cases dq_int g3
                  refine ⟨ad, _, rfl, by rw [← g1]; exact DGet.k ha, vs0, P1, E1, fps1, _, E2, rl1, e5, fun P2 H2 fps2 y2 rl2 s2 m2' dy2 => ?_⟩
                  have ey2 : y2 = .int y0 := by cases p1 <;> exact dq_int dy2
                  subst ey2
                  refine hrd _ _ _ _ ?_
                  have hw2 := walkS_keep (hst2.imp id m2') hw1
                  obtain ⟨ad2, l2, ead, pa2, ha2, dl2⟩ := rl2.dicAt e6 hw2
                  cases ead
                  obtain ⟨fps3, g4, g5⟩ := rl2.pokeD e6 hw2 (dl2.put kk (.int (fn x0 y0)))
                  exact ⟨_, DPut.k ha2 (by rw [dl2.length]; exact hl), q _ _ _ _ g4 ((s1.trans s2).trans g5)⟩
                · rw [e4] at g2
                  cases g2
              · cases hf
            · cases hf
          · cases hf
        · cases hf
      · cases hf
    · cases hf
  · cases hf
/-- del d[k] -/
def ddelP (i : Nat) (p : Path) (fk : SE PyData) : SS := fun E => match nodeAt i p E with
  | some (.dic _) => (match fk E with
    | some (kd, E1) => (match keyOf kd, nodeAt i p E1 with
      | some k, some (.dic r) => if (valD r k).isSome then some (.nx, putAt i p (.dic (dropD r k)) E1) else none
      | _, _ => none)
    | none => none)
  | _ => none
theorem pxs_ddel (ho : PP X i p o) (hb : PX X m p2 b fk) (hst : p = [] ∨ m = false := by first | exact .inl rfl | exact .inr rfl) : PXS1 X n (.Delete [.Subscript o b tpos] pos) (ddelP i p fk) := ps_imp (ps_ddel ho hb) fun D σ H => by
  rintro ⟨vs0, P, E, fps, fl', E', hn, r, hf, q⟩
  unfold ddelP at hf
  split at hf
  · rename_i r0 e0
    split at hf
    · rename_i kd E1 e1
      split at hf
      · rename_i kk r1 e2 e3
        split at hf
        · rename_i hsm
          cases hf
          refine ⟨vs0, P, E, fps, _, r, e0, fun w hw => ⟨vs0, P, E, fps, kd, E1, r, e1, fun P1 H1 fps1 y rl1 s1 m1' dy => ?_⟩⟩
          have hw1 := walkS_keep (hst.imp id m1') hw
          obtain ⟨ad, l, rfl, pa, ha, dl⟩ := rl1.dicAt e3 hw1
          have ey : y = kV kk := by cases p2 <;> exact keyOf_dq e2 dy
          subst ey
          obtain ⟨fps3, g4, g5⟩ := rl1.pokeD e3 hw1 (dl.drop kk)
          exact ⟨ad, l, kk, rfl, ha, rfl, by rw [isSome_val dl]; exact hsm, q _ _ _ _ g4 (s1.trans g5)⟩
        · cases hf
      · cases hf
    · cases hf
  · cases hf
/-- d.get(k) -/
def dgoP (i : Nat) (p : Path) (fk : SE PyData) : SE PyData := fun E => match nodeAt i p E with
  | some (.dic _) => (match fk E with
    | some (d, E1) => (match keyOf d, nodeAt i p E1 with
      | some k, some (.dic r) => some ((valD r k).getD .none, E1)
      | _, _ => none)
    | none => none)
  | _ => none
theorem px_dgo (hu : X.A.units + 1 < cLine) (ho : PP X i p o) (hb : PX X m p2 b fk) (hm : M1 X o "get" apos b pos := by exact ⟨rfl, rfl, rfl, rfl⟩) (hst : p = [] ∨ m = false := by first | exact .inl rfl | exact .inr rfl) : PX X m true (.Call (.Attribute o "get" apos) [b] [] pos) (dgoP i p fk) := pe_imp (pe_dget1 hu ho hb hm) fun σ H Q => by
  rintro ⟨vs0, P, E, fps, d, E', r, hf, q⟩
  unfold dgoP at hf
  split at hf
  · rename_i r0 e0
    split at hf
    · rename_i dk E1 e1
      split at hf
      · rename_i kk r1 e2 e3
        cases hf
        refine ⟨vs0, P, E, fps, _, r, e0, fun w hw => ?_⟩
        obtain ⟨ad0, l0, rfl, _, ha0, _⟩ := r.dicAt e0 hw
        refine ⟨ad0, rfl, .inl ⟨l0, .inl ha0⟩, vs0, P, E, fps, dk, _, r, e1, fun P1 H1 fps1 y rl s1 m1' dy => ?_⟩
        have hw1 := walkS_keep (hst.imp id m1') hw
        obtain ⟨ad, l, ea, pa, ha, dl⟩ := rl.dicAt e3 hw1
        cases ea
        have ey : y = kV kk := by cases p2 <;> exact keyOf_dq e2 dy
        subst ey
        refine ⟨_, DGet.k ha, ?_⟩
        rcases dl.val kk with ⟨v, d', g1, g2, g3⟩ | ⟨g1, g2⟩
        · rw [g1]
          rw [g2] at q
          exact q P1 H1 fps1 v rl s1 m1' g3
        · rw [g1]
          rw [g2] at q
          exact q P1 H1 fps1 .non rl s1 m1' .non
      · cases hf
    · cases hf
  · cases hf
/-- d.get(k, x) -/
def dgxP (i : Nat) (p : Path) (fk fd : SE PyData) : SE PyData := fun E => match nodeAt i p E with
  | some (.dic _) => (match fk E with
    | some (d, E1) => (match fd E1 with
      | some (z, E2) => (match keyOf d, nodeAt i p E2 with
        | some k, some (.dic r) => some ((valD r k).getD z, E2)
        | _, _ => none)
      | none => none)
    | none => none)
  | _ => none
theorem px_dgx (hu : X.A.units + 1 < cLine) (ho : PP X i p o) (hb : PX X m true b fk) (hc : PX X m2 true c fd) (hm : M2 X o "get" apos b c pos := by exact ⟨rfl, rfl, rfl, rfl⟩) (hst : p = [] ∨ (m = false ∧ m2 = false) := by first | exact .inl rfl | exact .inr ⟨rfl, rfl⟩) : PX X (m || m2) true (.Call (.Attribute o "get" apos) [b, c] [] pos) (dgxP i p fk fd) := pe_imp (pe_dget2 hu ho hb hc hm) fun σ H Q => by
  rintro ⟨vs0, P, E, fps, d, E', r, hf, q⟩
  unfold dgxP at hf
  split at hf
  · rename_i r0 e0
    split at hf
    · rename_i dk E1 e1
      split at hf
      · rename_i z E2 e5
        split at hf
        · rename_i kk r1 e2 e3
          cases hf
          refine ⟨vs0, P, E, fps, _, r, e0, fun w hw => ?_⟩
          obtain ⟨ad0, l0, rfl, _, ha0, _⟩ := r.dicAt e0 hw
          refine ⟨ad0, rfl, .inl ⟨l0, .inl ha0⟩, vs0, P, E, fps, dk, _, r, e1, fun P1 H1 fps1 y rl1 s1 m1' dy => ⟨vs0, P1, _, fps1, z, _, rl1, e5, fun P2 H2 fps2 u rl s2 m2' du => ?_⟩⟩
          have hw1 := walkS_keep (hst.imp id fun h => (m1' h.1).trans (m2' h.2)) hw
          obtain ⟨ad, l, ea, pa, ha, dl⟩ := rl.dicAt e3 hw1
          cases ea
          cases keyOf_dq e2 dy
          refine ⟨_, DGet.k ha, ?_⟩
          have mm : (m || m2) = false → Same H H2 := fun hm => by
            rw [Bool.or_eq_false_iff] at hm
            exact (m1' hm.1).trans (m2' hm.2)
          rcases dl.val kk with ⟨v, d', g1, g2, g3⟩ | ⟨g1, g2⟩
          · rw [g1]
            rw [g2] at q
            exact q P2 H2 fps2 v rl (s1.trans s2) mm g3
          · rw [g1]
            rw [g2] at q
            exact q P2 H2 fps2 u rl (s1.trans s2) mm du
        · cases hf
      · cases hf
    · cases hf
  · cases hf
/-- d.pop(k) -/
def dpoP (i : Nat) (p : Path) (fk : SE PyData) : SE PyData := fun E => match nodeAt i p E with
  | some (.dic _) => (match fk E with
    | some (d, E1) => (match keyOf d, nodeAt i p E1 with
      | some k, some (.dic r) => (match valD r k with
        | some x => some (x, putAt i p (.dic (dropD r k)) E1)
        | none => none)
      | _, _ => none)
    | none => none)
  | _ => none
theorem px_dpo (ho : PP X i p o) (hb : PX X m p2 b fk) (hm : M1 X o "pop" apos b pos := by exact ⟨rfl, rfl, rfl, rfl⟩) (hst : p = [] ∨ m = false := by first | exact .inl rfl | exact .inr rfl) : PX X true true (.Call (.Attribute o "pop" apos) [b] [] pos) (dpoP i p fk) := pe_imp (pe_dpop1 ho hb hm) fun σ H Q => by
  rintro ⟨vs0, P, E, fps, d, E', r, hf, q⟩
  unfold dpoP at hf
  split at hf
  · rename_i r0 e0
    split at hf
    · rename_i dk E1 e1
      split at hf
      · rename_i kk r1 e2 e3
        split at hf
        · rename_i x0 e4
          cases hf
          refine ⟨vs0, P, E, fps, _, r, e0, fun w hw => ?_⟩
          obtain ⟨ad0, l0, rfl, _, ha0, _⟩ := r.dicAt e0 hw
          refine ⟨ad0, rfl, .inl ⟨l0, .inl ha0⟩, vs0, P, E, fps, dk, _, r, e1, fun P1 H1 fps1 y rl s1 m1' dy => ?_⟩
          have hw1 := walkS_keep (hst.imp id m1') hw
          obtain ⟨ad, l, ea, pa, ha, dl⟩ := rl.dicAt e3 hw1
          cases ea
          have ey : y = kV kk := by cases p2 <;> exact keyOf_dq e2 dy
          subst ey
          rcases dl.val kk with ⟨v, d', g1, g2, g3⟩ | ⟨_, g2⟩
          · rw [e4] at g2
            cases g2
            obtain ⟨fps3, g4, g5⟩ := rl.pokeD e3 hw1 (dl.drop kk)
            exact ⟨l, kk, v, ha, rfl, g1, q _ _ _ _ g4 (s1.trans g5) (fun h => nomatch h) g3⟩
          · rw [e4] at g2
            cases g2
        · cases hf
      · cases hf
    · cases hf
  · cases hf
/-- d.setdefault(k, x) -/
def dsdP (i : Nat) (p : Path) (fk fd : SE PyData) : SE PyData := fun E => match nodeAt i p E with
  | some (.dic _) => (match fk E with
    | some (d, E1) => (match fd E1 with
      | some (z, E2) => (match keyOf d, nodeAt i p E2 with
        | some k, some (.dic r) => if r.length < sizeLine then (match valD r k with
          | some x => some (x, E2)
          | none => some (z, putAt i p (.dic (putD r k z)) E2)) else none
        | _, _ => none)
      | none => none)
    | none => none)
  | _ => none
theorem px_dsd (ho : PP X i p o) (hb : PX X m true b fk) (hc : PX X m2 true c fd) (hm : M2 X o "setdefault" apos b c pos := by exact ⟨rfl, rfl, rfl, rfl⟩) (hst : p = [] ∨ (m = false ∧ m2 = false) := by first | exact .inl rfl | exact .inr ⟨rfl, rfl⟩) : PX X true true (.Call (.Attribute o "setdefault" apos) [b, c] [] pos) (dsdP i p fk fd) := pe_imp (pe_dsetd ho hb hc hm) fun σ H Q => by
  rintro ⟨vs0, P, E, fps, d, E', r, hf, q⟩
  unfold dsdP at hf
  split at hf
  · rename_i r0 e0
    split at hf
    · rename_i dk E1 e1
      split at hf
      · rename_i z E2 e5
        split at hf
        · rename_i kk r1 e2 e3
          split at hf
          · rename_i hl
            refine ⟨vs0, P, E, fps, _, r, e0, fun w hw => ?_⟩
            obtain ⟨ad0, l0, rfl, _, ha0, _⟩ := r.dicAt e0 hw
            refine ⟨ad0, rfl, .inl ⟨l0, .inl ha0⟩, vs0, P, E, fps, dk, _, r, e1, fun P1 H1 fps1 y rl1 s1 m1' dy => ⟨vs0, P1, _, fps1, z, _, rl1, e5, fun P2 H2 fps2 u rl s2 m2' du => ?_⟩⟩
            have hw1 := walkS_keep (hst.imp id fun h => (m1' h.1).trans (m2' h.2)) hw
            obtain ⟨ad, l, ea, pa, ha, dl⟩ := rl.dicAt e3 hw1
            cases ea
            cases keyOf_dq e2 dy
            refine ⟨l, kk, ha, rfl, by rw [dl.length]; exact hl, fun v hv => ?_, fun hv => ?_⟩
            · rcases dl.val kk with ⟨v', d', g1, g2, g3⟩ | ⟨g1, g2⟩
              · rw [hv] at g1
                cases g1
                rw [g2] at hf
                cases hf
                exact q P2 H2 fps2 v rl (s1.trans s2) (fun h => nomatch h) g3
              · rw [hv] at g1; cases g1
            · rcases dl.val kk with ⟨v', d', g1, g2, g3⟩ | ⟨g1, g2⟩
              · rw [hv] at g1; cases g1
              · rw [g2] at hf
                cases hf
                obtain ⟨fps3, g4, g5⟩ := rl.pokeD e3 hw1 (dl.put kk du)
                exact q _ _ _ _ g4 ((s1.trans s2).trans g5) (fun h => nomatch h) du
          · cases hf
        · cases hf
      · cases hf
    · cases hf
  · cases hf
/-- {} -/
def newD : SE Sl := ret (.tr (.dic []))
theorem pxc_newD : PXC X true (.Dict [] [] pos) newD := pe_imp pe_dnewK fun σ H Q => by
  rintro ⟨vs0, P, E, fps, d, E', r, hf, q⟩
  obtain ⟨rfl, rfl⟩ := ret_some hf
  intro z hz
  have s1 : Same H (upd H z (.dK [])) := Fw.same_upd hz
  have pz := sub_none r.sub hz
  refine q P (upd H z (.dK [])) fps (.ref z) [z] (r.keep (Same.refl P) (r.sub.trans s1) fun b hb => ?_) ⟨Same.refl P, fun a o h _ => s1 a o h, .same, fun a h => ?_, fun a o h => ⟨o, s1 a o h⟩⟩ (fun h => nomatch h) (.tr (.dic pz upd_same .nil)) fun a h hb => ?_
  · obtain ⟨pn, o, ho⟩ := r.foot hb
    exact ⟨(s1 b o ho).trans ho.symm, pn⟩
  · rcases h with h | h
    · exact .inl h
    · cases List.mem_singleton.mp h
      exact .inr hz
  · cases List.mem_singleton.mp h
    obtain ⟨_, o, ho⟩ := r.foot hb
    rw [hz] at ho
    cases ho
/-- len(d) -/
def dlnP (i : Nat) (p : Path) : SE PyData := fun E => match nodeAt i p E with
  | some (.dic r) => some (.int r.length, E)
  | _ => none
theorem px_dln (hg : Gl X "len") (hm : X.mg "len" = none) (ho : PP X i p o) (he : starEach [o] X.env = (false, eval o X.env) :: starEach [] X.env := by rfl) : PX X false true (.Call (.Name "len" px) [o] [] pos) (dlnP i p) :=
  pe_imp (pe_callB (id := "len") call_lenD hg hm (by decide +kernel) (pa_cons ho pa_nil he) (by decide) (by decide) he rfl) fun σ H Q => by
  rintro ⟨vs0, P, E, fps, d, E', r, hf, q⟩
  unfold dlnP at hf
  split at hf
  · rename_i r0 e0
    cases hf
    refine ⟨vs0, P, E, fps, _, r, e0, fun w hw => ?_⟩
    obtain ⟨ad, l, rfl, pa, ha, dl⟩ := r.dicAt e0 hw
    exact ⟨ad, l, rfl, ha, by rw [dl.length]; exact q P H fps _ r (.refl _ _ _) (fun _ => Same.refl H) (.int _)⟩
  · cases hf
end
end Fw
namespace Fw
open PySem PySem.Spec L2
open PyProof.Rows hiding St
structure Fm (K : PySem.W.Frag) (C mt qual : Str) (st : Stmt) (ps : List Str) : Prop where
  ex : ∃ (c f : Addr) (fd : FuncData), clsK K C c ∧ Cls K c ∧ Meth K c mt f ∧ Fun K mt qual st f fd ∧ Binds K fd ps []
structure Fk (K : PySem.W.Frag) (mg : Str → Option Value) (C qual : Str) (st : Stmt) (ps : List Str) : Prop where
  ex : ∃ (c f : Addr) (fd : FuncData), clsK K C c ∧ mg C = some (.ref c) ∧ Mk K c f ∧ Fun K "__init__" qual st f fd ∧ Binds K fd ps []
section
variable {P : Program} {w : World} {K : PySem.W.Frag} {mg : Str → Option Value} {base : Heap} {C mt qual : Str} {st : Stmt} {ps : List Str} {k n : Nat} {g : Fn}
theorem Fm.to (h : Fm K C mt qual st ps) (ok : ∀ (f : Addr) (fd : FuncData), Fun K mt qual st f fd → FnOk P w K mg base CX0 k f fd ps (spF K n g)) : Mt P w K mg base k C mt n g := by
  obtain ⟨c, f, fd, h1, h2, h3, h4, h5⟩ := h.ex
  exact ⟨c, f, fd, ps, h1, h2, h3, ok f fd h4, h5⟩
theorem Fk.to (h : Fk K mg C qual st ps) (ok : ∀ (f : Addr) (fd : FuncData), Fun K "__init__" qual st f fd → FnOk P w K mg base CX0 k f fd ps (spF K n g)) : Mkr P w K mg base k C n g := by
  obtain ⟨c, f, fd, h1, h2, h3, h4, h5⟩ := h.ex
  exact ⟨c, f, fd, ps, h1, h2, h3, ok f fd h4, h5⟩
variable {h : Heap} {c f : Addr} {oc : Value} {od an : Option Addr} {osl : Array (Option Value)} {kV doc pm cdv ct : Value}
theorem Fm.of (a : PySem.W.nsIn K mainGlobals C = some (some (.ref c))) (cl : Cls K c) (t : PySem.W.findIn K (.ref c) mt = some (some (.ref f))) (i : PySem.W.isFn K (.ref f) = true)
    (l : K.lookup f = some ⟨oc, od, .func (PySem.W.fnOf mt qual (defArgs st) (defBody st) (defScope st) .none kV doc pm an cdv ct), osl⟩) (c' : PySem.W.codeIn K cdv qual = true) (k : PySem.W.keepIn K (.ref f) = true)
    (hb : ∀ (kV doc pm : Value) (an : Option Addr) (cdv ct : Value) (us : List Value), us.length = ps.length → bindArgs (PySem.W.fnOf mt qual (defArgs st) (defBody st) (defScope st) .none kV doc pm an cdv ct) ⟨us, []⟩ = pure (ps.zip us)) : Fm K C mt qual st ps :=
  ⟨c, f, _, a, cl, ⟨t, i, k⟩, fun_mk l c' k, (fun_mk l c' k).binds hb⟩
theorem Fk.of (X : K.In h) (G : h.Ns mainGlobals mg) (a : PySem.W.nsIn K mainGlobals C = some (some (.ref c))) (mk : PySem.W.makesIn K c = true) (kc : PySem.W.keepIn K (.ref c) = true) (t : PySem.W.findIn K (.ref c) "__init__" = some (some (.ref f))) (i : PySem.W.isFn K (.ref f) = true)
    (l : K.lookup f = some ⟨oc, od, .func (PySem.W.fnOf "__init__" qual (defArgs st) (defBody st) (defScope st) .none kV doc pm an cdv ct), osl⟩) (c' : PySem.W.codeIn K cdv qual = true) (k : PySem.W.keepIn K (.ref f) = true)
    (hb : ∀ (kV doc pm : Value) (an : Option Addr) (cdv ct : Value) (us : List Value), us.length = ps.length → bindArgs (PySem.W.fnOf "__init__" qual (defArgs st) (defBody st) (defScope st) .none kV doc pm an cdv ct) ⟨us, []⟩ = pure (ps.zip us)) : Fk K mg C qual st ps :=
  ⟨c, f, _, a, PySem.W.mg_of X G a, ⟨mk, t, i, kc⟩, fun_mk l c' k, (fun_mk l c' k).binds hb⟩
theorem FldC.of (a : PySem.W.nsIn K mainGlobals C = some (some (.ref c))) (cl : Cls K c) {fl : Str} (n : PySem.W.findIn K (.ref c) fl = some none) : FldC K C fl := ⟨fun c' h => by
  cases clsK_eq a h
  exact ⟨cl, n⟩⟩
end
theorem hrd_add {k j : Int} {H : Hp} {Q : VK} (q : Q (.int (k + j)) H) : rAdd (.int k) (.int j) H Q := ⟨k, j, rfl, rfl, q⟩
theorem hrd_sub {k j : Int} {H : Hp} {Q : VK} (q : Q (.int (k - j)) H) : rSub (.int k) (.int j) H Q := ⟨k, j, rfl, rfl, q⟩

section
variable {α β : Type} {Q : Fl → En → Prop} {QS : Sl → En → Prop} {QD : PyData → En → Prop} {E : En} {i : Nat} {p : Path} {C mt fl : Str} {f fk fv fd : SE PyData} {fs : SE (List PyData)} {fc : SE Sl} {g : Fn} {ae : List AE}
theorem ok_mP {α β : Type} {m : Option (α × En)} {k : α → En → Option (β × En)} {Q : β → En → Prop} : Ok (m.bind fun x => k x.1 x.2) Q = Ok m fun a E1 => Ok (k a E1) Q := by
  cases m with
  | none => exact ok_none.trans ok_none.symm
  | some r => rw [show r = (r.1, r.2) from rfl, ok_some]; rfl
theorem ok_vP {α β : Type} {m : Option α} {k : α → Option (β × En)} {Q : β → En → Prop} : Ok (m.bind k) Q = OkV m fun a => Ok (k a) Q := by
  cases m with
  | none => exact ok_none.trans okV_none.symm
  | some r => rw [okV_some]; rfl
theorem ok_rdP : Ok (rdP i p E) QD = OkV (nodeAt i p E) fun t => match t with
    | .dat d => QD d E
    | _ => False := by
  rw [← show ((nodeAt i p E).bind fun t => match t with | .dat d => some (d, E) | _ => none) = rdP i p E by unfold rdP; cases nodeAt i p E with | none => rfl | some t => cases t <;> rfl, ok_vP]
  congr 1; funext t; cases t <;> first | exact ok_some | exact ok_none
theorem ok_rdB : Ok (rdB i p E) QD = OkV (nodeAt i p E) fun t => match t with
    | .lst xs => QD (.list xs) E
    | _ => False := by
  rw [← show ((nodeAt i p E).bind fun t => match t with | .lst xs => some (.list xs, E) | _ => none) = rdB i p E by unfold rdB; cases nodeAt i p E with | none => rfl | some t => cases t <;> rfl, ok_vP]
  congr 1; funext t; cases t <;> first | exact ok_some | exact ok_none
theorem ok_rdZ : Ok (rdZ i p E) QD = OkV (nodeAt i p E) fun t => match t with
    | .dat d => QD d E
    | .lst xs => QD (.list xs) (putAt i p (.dat (.list xs)) E)
    | _ => False := by
  rw [← show ((nodeAt i p E).bind fun t => match t with | .dat d => some (d, E) | .lst xs => some (.list xs, putAt i p (.dat (.list xs)) E) | _ => none) = rdZ i p E by unfold rdZ; cases nodeAt i p E with | none => rfl | some t => cases t <;> rfl, ok_vP]
  congr 1; funext t; cases t <;> first | exact ok_some | exact ok_none
theorem ok_datS : Ok (datS f E) QS = Ok (f E) fun d E1 => QS (.dat d) E1 := by
  unfold datS
  rw [ok_bnd]
  congr 1; funext d E1; exact ok_ret
theorem ok_ownS : Ok (ownS fs E) QS = Ok (fs E) fun d E1 => QS (.own d) E1 := by
  unfold ownS
  rw [ok_bnd]
  congr 1; funext d E1; exact ok_ret
theorem ok_asgS : Ok (asgS i fc E) Q = Ok (fc E) fun s E1 => match s with
    | .dat d => Q .nx (E1.set i (.dat d))
    | .own xs => Q .nx (E1.set i (.own xs))
    | .tr t => Q .nx (E1.set i (.tr t))
    | _ => False := by
  unfold asgS
  cases fc E with
  | none => exact ok_none.trans ok_none.symm
  | some r =>
    obtain ⟨s, E1⟩ := r
    rw [ok_some]
    cases s <;> first | exact ok_some | exact ok_none
theorem ok_retS : Ok (retS fc E) Q = Ok (fc E) fun s E1 => Q (.rt s) E1 := by
  unfold retS
  cases fc E with
  | none => exact ok_none.trans ok_none.symm
  | some r =>
    obtain ⟨s, E1⟩ := r
    simp only [ok_some]
theorem ok_drpC : Ok (drpC fc E) Q = Ok (fc E) fun _ E1 => Q .nx E1 := by
  unfold drpC
  cases fc E with
  | none => exact ok_none.trans ok_none.symm
  | some r =>
    obtain ⟨s, E1⟩ := r
    simp only [ok_some]
theorem ok_evA_nil {Q : List Arg → En → Prop} : Ok (evA [] E) Q = Q [] E := ok_ret
theorem ok_evA_ex {Q : List Arg → En → Prop} : Ok (evA (.ex f :: ae) E) Q = Ok (f E) fun d E1 => Ok (evA ae E1) fun as E2 => Q (.ex d :: as) E2 := by
  show Ok (bnd f _ E) Q = _
  rw [ok_bnd]
  congr 1; funext d E1
  rw [ok_bnd]
  congr 1; funext as E2; exact ok_ret
theorem ok_evA_pl {Q : List Arg → En → Prop} : Ok (evA (.pl i p :: ae) E) Q = ((argSl E (.pl i p)).isSome = true ∧ Ok (evA ae E) fun as E2 => Q (.pl i p :: as) E2) := by
  show Ok (if (argSl E (.pl i p)).isSome then bnd (evA ae) _ E else none) Q = _
  by_cases h : (argSl E (.pl i p)).isSome = true
  · rw [if_pos h, ok_bnd]
    simp only [ok_ret]
    exact propext ⟨fun x => ⟨h, x⟩, fun x => x.2⟩
  · rw [if_neg h, ok_none]
    exact propext ⟨False.elim, fun x => h x.1⟩
theorem ok_callA : Ok (callA g ae E) QS = Ok (evA ae E) fun as E1 => noTwice as = true ∧ OkV (slsOf E1 as) fun sls => Ok (g sls) fun r outs => OkV (putB as outs E1) fun E2 => QS r E2 := by
  unfold callA
  cases evA ae E with
  | none => exact ok_none.trans ok_none.symm
  | some r =>
    obtain ⟨as, E1⟩ := r
    rw [ok_some]
    dsimp only
    by_cases h : noTwice as = true
    · rw [if_pos h]
      rw [show ∀ Z : Prop, (noTwice as = true ∧ Z) = Z from fun Z => propext ⟨fun x => x.2, fun x => ⟨h, x⟩⟩]
      cases slsOf E1 as with
      | none => exact ok_none.trans okV_none.symm
      | some sls =>
        rw [okV_some]
        dsimp only
        cases g sls with
        | none => exact ok_none.trans ok_none.symm
        | some r =>
          obtain ⟨r, outs⟩ := r
          rw [ok_some]
          dsimp only
          cases putB as outs E1 with
          | none => exact ok_none.trans okV_none.symm
          | some E2 => rw [okV_some]; exact ok_some
    · rw [if_neg h, ok_none]
      exact propext ⟨False.elim, fun x => h x.1⟩
theorem ok_callMt : Ok (callMt C mt i p g ae E) QS = OkV (nodeAt i p E) fun t => match t with
    | .ins D fs => (D = C ∧ getF mt fs = none) ∧ Ok (callA g (.pl i p :: ae) E) QS
    | _ => False := by
  unfold callMt
  cases nodeAt i p E with
  | none => exact ok_none.trans okV_none.symm
  | some t =>
    rw [okV_some]
    cases t with
    | ins D fs =>
      dsimp only
      by_cases h : D = C ∧ getF mt fs = none
      · rw [if_pos h]
        exact propext ⟨fun x => ⟨h, x⟩, fun x => x.2⟩
      · rw [if_neg h, ok_none]
        exact propext ⟨False.elim, fun x => h x.1⟩
    | _ => exact ok_none
theorem ok_makeA : Ok (makeA C g fs E) QS = Ok (fs E) fun ds E1 => Ok (g (.tr (.ins C []) :: ds.map .dat)) fun r outs => match r, outs with
    | .dat .none, .tr t :: _ => QS (.tr t) E1
    | _, _ => False := by
  unfold makeA
  cases fs E with
  | none => exact ok_none.trans ok_none.symm
  | some r =>
    obtain ⟨ds, E1⟩ := r
    rw [ok_some]
    dsimp only
    cases g (.tr (.ins C []) :: ds.map .dat) with
    | none => exact ok_none.trans ok_none.symm
    | some r =>
      obtain ⟨r, outs⟩ := r
      rw [ok_some]
      cases r with
      | dat d =>
        cases d with
        | none =>
          cases outs with
          | nil => exact ok_none
          | cons o os => cases o <;> first | exact ok_some | exact ok_none
        | _ => exact ok_none
      | _ => exact ok_none
theorem ok_setS : Ok (setS i p C fl fc E) Q = Ok (fc E) fun r E1 => OkV (trOf r) fun t => OkV (nodeAt i p E1) fun n => match n with
    | .ins D fs => (D = C ∧ fs.length < 900) ∧ Q .nx (putAt i p (.ins D (setF fl t fs)) E1)
    | _ => False := by
  unfold setS
  cases fc E with
  | none => exact ok_none.trans ok_none.symm
  | some r =>
    obtain ⟨r, E1⟩ := r
    rw [ok_some]
    dsimp only
    cases trOf r with
    | none => exact ok_none.trans okV_none.symm
    | some t =>
      rw [okV_some]
      dsimp only
      cases nodeAt i p E1 with
      | none => exact ok_none.trans okV_none.symm
      | some n =>
        rw [okV_some]
        cases n with
        | ins D fs =>
          dsimp only
          by_cases h : D = C ∧ fs.length < 900
          · rw [if_pos h, ok_some]
            exact propext ⟨fun x => ⟨h, x⟩, fun x => x.2⟩
          · rw [if_neg h, ok_none]
            exact propext ⟨False.elim, fun x => h x.1⟩
        | _ => exact ok_none
theorem ok_augF {op : Int → Int → Int} : Ok (augF i p C fl op f E) Q = OkV (nodeAt i (p ++ [(C, fl)]) E) fun t => match t with
    | .dat (.int k) => Ok (f E) fun d E1 => (match d with
      | .int j => OkV (nodeAt i p E1) fun n => (match n with
        | .ins D fs => (D = C ∧ fs.length < 900) ∧ Q .nx (putAt i p (.ins D (setF fl (.dat (.int (op k j))) fs)) E1)
        | _ => False)
      | _ => False)
    | _ => False := by
  unfold augF
  cases nodeAt i (p ++ [(C, fl)]) E with
  | none => exact ok_none.trans okV_none.symm
  | some t =>
    rw [okV_some]
    cases t with
    | dat d =>
      cases d with
      | int k =>
        dsimp only
        cases f E with
        | none => exact ok_none.trans ok_none.symm
        | some r =>
          obtain ⟨d, E1⟩ := r
          rw [ok_some]
          cases d with
          | int j =>
            dsimp only
            cases nodeAt i p E1 with
            | none => exact ok_none.trans okV_none.symm
            | some n =>
              rw [okV_some]
              cases n with
              | ins D fs =>
                dsimp only
                by_cases h : D = C ∧ fs.length < 900
                · rw [if_pos h, ok_some]
                  exact propext ⟨fun x => ⟨h, x⟩, fun x => x.2⟩
                · rw [if_neg h, ok_none]
                  exact propext ⟨False.elim, fun x => h x.1⟩
              | _ => exact ok_none
          | _ => exact ok_none
      | _ => exact ok_none
    | _ => exact ok_none
theorem ok_newD : Ok (newD E) QS = QS (.tr (.dic [])) E := ok_ret
/-- the dict at a place -/
def dicAt (i : Nat) (p : Path) (E : En) : Option (List (Key × PyData)) := match nodeAt i p E with
  | some (.dic r) => some r
  | _ => none
theorem ok_dgt : Ok (dgtP i p fk E) QD = ((dicAt i p E).isSome = true ∧ Ok (fk E) fun d E1 => OkV (keyOf d) fun k => OkV (dicAt i p E1) fun r => OkV (valD r k) fun x => QD x E1) := by
  unfold dgtP dicAt
  cases h0 : nodeAt i p E with
  | none => rw [ok_none]; exact propext ⟨False.elim, fun x => nomatch x.1⟩
  | some t =>
    cases t with
    | dic r0 =>
      dsimp only
      rw [show ∀ Z : Prop, ((some r0).isSome = true ∧ Z) = Z from fun Z => propext ⟨fun x => x.2, fun x => ⟨rfl, x⟩⟩]
      cases fk E with
      | none => exact ok_none.trans ok_none.symm
      | some r =>
        obtain ⟨d, E1⟩ := r
        rw [ok_some]
        dsimp only
        cases keyOf d with
        | none => exact ok_none.trans okV_none.symm
        | some k =>
          rw [okV_some]
          cases nodeAt i p E1 with
          | none => exact ok_none.trans okV_none.symm
          | some n =>
            cases n with
            | dic r =>
              dsimp only
              rw [okV_some]
              cases valD r k with
              | none => exact ok_none.trans okV_none.symm
              | some x => rw [okV_some]; exact ok_some
            | _ => exact ok_none.trans okV_none.symm
    | _ => rw [ok_none]; exact propext ⟨False.elim, fun x => nomatch x.1⟩
theorem ok_din {neg : Bool} : Ok (dinP neg i p fk E) QD = Ok (fk E) fun d E1 => OkV (keyOf d) fun k => OkV (dicAt i p E1) fun r => QD (.bool (neg != (valD r k).isSome)) E1 := by
  unfold dinP dicAt
  cases fk E with
  | none => exact ok_none.trans ok_none.symm
  | some r =>
    obtain ⟨d, E1⟩ := r
    rw [ok_some]
    dsimp only
    cases keyOf d with
    | none => exact ok_none.trans okV_none.symm
    | some k =>
      rw [okV_some]
      cases nodeAt i p E1 with
      | none => exact ok_none.trans okV_none.symm
      | some n =>
        cases n with
        | dic r => dsimp only; rw [okV_some]; exact ok_some
        | _ => exact ok_none.trans okV_none.symm
theorem ok_dpt : Ok (dptP i p fk fv E) Q = Ok (fv E) fun d E1 => (dicAt i p E1).isSome = true ∧ Ok (fk E1) fun kd E2 => OkV (keyOf kd) fun k => OkV (dicAt i p E2) fun r => r.length < sizeLine ∧ Q .nx (putAt i p (.dic (putD r k d)) E2) := by
  unfold dptP dicAt
  cases fv E with
  | none => exact ok_none.trans ok_none.symm
  | some r =>
    obtain ⟨d, E1⟩ := r
    rw [ok_some]
    dsimp only
    cases nodeAt i p E1 with
    | none => rw [ok_none]; exact propext ⟨False.elim, fun x => nomatch x.1⟩
    | some t =>
      cases t with
      | dic r0 =>
        dsimp only
        rw [show ∀ Z : Prop, ((some r0).isSome = true ∧ Z) = Z from fun Z => propext ⟨fun x => x.2, fun x => ⟨rfl, x⟩⟩]
        cases fk E1 with
        | none => exact ok_none.trans ok_none.symm
        | some r =>
          obtain ⟨kd, E2⟩ := r
          rw [ok_some]
          dsimp only
          cases keyOf kd with
          | none => exact ok_none.trans okV_none.symm
          | some k =>
            rw [okV_some]
            cases nodeAt i p E2 with
            | none => exact ok_none.trans okV_none.symm
            | some n =>
              cases n with
              | dic r =>
                dsimp only
                rw [okV_some]
                by_cases h : r.length < sizeLine
                · rw [if_pos h, ok_some]
                  exact propext ⟨fun x => ⟨h, x⟩, fun x => x.2⟩
                · rw [if_neg h, ok_none]
                  exact propext ⟨False.elim, fun x => h x.1⟩
              | _ => exact ok_none.trans okV_none.symm
      | _ => rw [ok_none]; exact propext ⟨False.elim, fun x => nomatch x.1⟩
theorem ok_daug {op : Int → Int → Int} : Ok (daugP i p op fk fv E) Q = ((dicAt i p E).isSome = true ∧ Ok (fk E) fun kd E1 => OkV (keyOf kd) fun k => OkV (dicAt i p E1) fun r => OkV (valD r k) fun x => match x with
    | .int x => Ok (fv E1) fun y E2 => (match y with
      | .int y => OkV (dicAt i p E2) fun r2 => r2.length < sizeLine ∧ Q .nx (putAt i p (.dic (putD r2 k (.int (op x y)))) E2)
      | _ => False)
    | _ => False) := by
  unfold daugP dicAt
  cases h0 : nodeAt i p E with
  | none => rw [ok_none]; exact propext ⟨False.elim, fun x => nomatch x.1⟩
  | some t =>
    cases t with
    | dic r0 =>
      dsimp only
      rw [show ∀ Z : Prop, ((some r0).isSome = true ∧ Z) = Z from fun Z => propext ⟨fun x => x.2, fun x => ⟨rfl, x⟩⟩]
      cases fk E with
      | none => exact ok_none.trans ok_none.symm
      | some r =>
        obtain ⟨d, E1⟩ := r
        rw [ok_some]
        dsimp only
        cases keyOf d with
        | none => exact ok_none.trans okV_none.symm
        | some k =>
          rw [okV_some]
          cases nodeAt i p E1 with
          | none => exact ok_none.trans okV_none.symm
          | some n =>
            cases n with
            | dic r =>
              dsimp only
              rw [okV_some]
              cases valD r k with
              | none => exact ok_none.trans okV_none.symm
              | some x =>
                rw [okV_some]
                cases x with
                | int x =>
                  dsimp only
                  cases fv E1 with
                  | none => exact ok_none.trans ok_none.symm
                  | some r =>
                    obtain ⟨y, E2⟩ := r
                    rw [ok_some]
                    cases y with
                    | int y =>
                      dsimp only
                      cases nodeAt i p E2 with
                      | none => exact ok_none.trans okV_none.symm
                      | some n =>
                        cases n with
                        | dic r =>
                          dsimp only
                          rw [okV_some]
                          by_cases h : r.length < sizeLine
                          · rw [if_pos h, ok_some]
                            exact propext ⟨fun x => ⟨h, x⟩, fun x => x.2⟩
                          · rw [if_neg h, ok_none]
                            exact propext ⟨False.elim, fun x => h x.1⟩
                        | _ => exact ok_none.trans okV_none.symm
                    | _ => exact ok_none
                | _ => exact ok_none
            | _ => exact ok_none.trans okV_none.symm
    | _ => rw [ok_none]; exact propext ⟨False.elim, fun x => nomatch x.1⟩
theorem ok_ddel : Ok (ddelP i p fk E) Q = ((dicAt i p E).isSome = true ∧ Ok (fk E) fun kd E1 => OkV (keyOf kd) fun k => OkV (dicAt i p E1) fun r => (valD r k).isSome = true ∧ Q .nx (putAt i p (.dic (dropD r k)) E1)) := by
  unfold ddelP dicAt
  cases h0 : nodeAt i p E with
  | none => rw [ok_none]; exact propext ⟨False.elim, fun x => nomatch x.1⟩
  | some t =>
    cases t with
    | dic r0 =>
      dsimp only
      rw [show ∀ Z : Prop, ((some r0).isSome = true ∧ Z) = Z from fun Z => propext ⟨fun x => x.2, fun x => ⟨rfl, x⟩⟩]
      cases fk E with
      | none => exact ok_none.trans ok_none.symm
      | some r =>
        obtain ⟨d, E1⟩ := r
        rw [ok_some]
        dsimp only
        cases keyOf d with
        | none => exact ok_none.trans okV_none.symm
        | some k =>
          rw [okV_some]
          cases nodeAt i p E1 with
          | none => exact ok_none.trans okV_none.symm
          | some n =>
            cases n with
            | dic r =>
              dsimp only
              rw [okV_some]
              by_cases h : (valD r k).isSome = true
              · rw [if_pos h, ok_some]
                exact propext ⟨fun x => ⟨h, x⟩, fun x => x.2⟩
              · rw [if_neg h, ok_none]
                exact propext ⟨False.elim, fun x => h x.1⟩
            | _ => exact ok_none.trans okV_none.symm
    | _ => rw [ok_none]; exact propext ⟨False.elim, fun x => nomatch x.1⟩
theorem ok_dgo : Ok (dgoP i p fk E) QD = ((dicAt i p E).isSome = true ∧ Ok (fk E) fun d E1 => OkV (keyOf d) fun k => OkV (dicAt i p E1) fun r => QD ((valD r k).getD .none) E1) := by
  unfold dgoP dicAt
  cases h0 : nodeAt i p E with
  | none => rw [ok_none]; exact propext ⟨False.elim, fun x => nomatch x.1⟩
  | some t =>
    cases t with
    | dic r0 =>
      dsimp only
      rw [show ∀ Z : Prop, ((some r0).isSome = true ∧ Z) = Z from fun Z => propext ⟨fun x => x.2, fun x => ⟨rfl, x⟩⟩]
      cases fk E with
      | none => exact ok_none.trans ok_none.symm
      | some r =>
        obtain ⟨d, E1⟩ := r
        rw [ok_some]
        dsimp only
        cases keyOf d with
        | none => exact ok_none.trans okV_none.symm
        | some k =>
          rw [okV_some]
          cases nodeAt i p E1 with
          | none => exact ok_none.trans okV_none.symm
          | some n =>
            cases n with
            | dic r => dsimp only; rw [okV_some]; exact ok_some
            | _ => exact ok_none.trans okV_none.symm
    | _ => rw [ok_none]; exact propext ⟨False.elim, fun x => nomatch x.1⟩
theorem ok_dpo : Ok (dpoP i p fk E) QD = ((dicAt i p E).isSome = true ∧ Ok (fk E) fun d E1 => OkV (keyOf d) fun k => OkV (dicAt i p E1) fun r => OkV (valD r k) fun x => QD x (putAt i p (.dic (dropD r k)) E1)) := by
  unfold dpoP dicAt
  cases h0 : nodeAt i p E with
  | none => rw [ok_none]; exact propext ⟨False.elim, fun x => nomatch x.1⟩
  | some t =>
    cases t with
    | dic r0 =>
      dsimp only
      rw [show ∀ Z : Prop, ((some r0).isSome = true ∧ Z) = Z from fun Z => propext ⟨fun x => x.2, fun x => ⟨rfl, x⟩⟩]
      cases fk E with
      | none => exact ok_none.trans ok_none.symm
      | some r =>
        obtain ⟨d, E1⟩ := r
        rw [ok_some]
        dsimp only
        cases keyOf d with
        | none => exact ok_none.trans okV_none.symm
        | some k =>
          rw [okV_some]
          cases nodeAt i p E1 with
          | none => exact ok_none.trans okV_none.symm
          | some n =>
            cases n with
            | dic r =>
              dsimp only
              rw [okV_some]
              cases valD r k with
              | none => exact ok_none.trans okV_none.symm
              | some x => rw [okV_some]; exact ok_some
            | _ => exact ok_none.trans okV_none.symm
    | _ => rw [ok_none]; exact propext ⟨False.elim, fun x => nomatch x.1⟩
theorem ok_dln : Ok (dlnP i p E) QD = OkV (dicAt i p E) fun r => QD (.int r.length) E := by
  unfold dlnP dicAt
  cases h0 : nodeAt i p E with
  | none => exact ok_none.trans okV_none.symm
  | some t =>
    cases t with
    | dic r => rw [okV_some]; exact ok_some
    | _ => exact ok_none.trans okV_none.symm
end
end Fw
namespace Fw
open PySem PySem.Spec L2
open PyProof.Rows hiding St
theorem Rel.lstAt {K : PySem.W.Frag} {vs0 : List V} {P H : Hp} {E : En} {σ : L2.St} {fps : Nat → List Addr} {i : Nat} {p : Path} {xs : List PyData} {v : V} (rl : Rel K vs0 P E σ H fps) (hn : nodeAt i p E = some (.lst xs)) (hw : walkS σ H i p = some v) :
    ∃ ad vs, v = .ref ad ∧ P ad = none ∧ H ad = some (.lst vs) ∧ DqAll K P vs xs := by
  obtain ⟨vn, fpn, w1, w2, _, _⟩ := rl.focus hn
  rw [hw] at w1
  cases w1
  cases w2 with
  | lst pa ha d => exact ⟨_, _, rfl, pa, ha, d⟩
theorem Rel.pokeL {K : PySem.W.Frag} {vs0 : List V} {P H : Hp} {E : En} {σ : L2.St} {fps : Nat → List Addr} {i : Nat} {p : Path} {xs ys : List PyData} {ad : Addr} {ws : List V} (rl : Rel K vs0 P E σ H fps) (hn : nodeAt i p E = some (.lst xs)) (hw : walkS σ H i p = some (.ref ad))
    (d : DqAll K P ws ys) : ∃ fps', Rel K vs0 P (putAt i p (.lst ys) E) σ (upd H ad (.lst ws)) fps' ∧ Step (In fps) P H (In fps') P (upd H ad (.lst ws)) :=
  rl.pokeP hn hw (fun fp t => by cases t with | lst _ _ _ => rfl) fun pa => .lst pa upd_same d
/-- the list at a place -/
def lstAt (i : Nat) (p : Path) (E : En) : Option (List PyData) := match nodeAt i p E with
  | some (.lst r) => some r
  | _ => none
theorem lstAt_some {i : Nat} {p : Path} {E : En} {xs : List PyData} (h : lstAt i p E = some xs) : nodeAt i p E = some (.lst xs) := by
  unfold lstAt at h
  split at h
  · rename_i e; cases h; exact e
  · cases h
section
variable {X : Cx} {m m1 m2 m3 p1 p2 p3 : Bool} {e a b o c : Expr} {es : List Expr} {pos px apos pos' tpos : Pos} {f fa fb fk fv fd : SE PyData} {fs : SE (List PyData)} {i n k j : Nat} {p : Path} {C fl x : Str} {fc : SE Sl}
/-- l.append(e) -/
def appP (i : Nat) (p : Path) (fa : SE PyData) : SS := fun E => match lstAt i p E with
  | some _ => (match fa E with
    | some (d, E1) => (match lstAt i p E1 with
      | some xs => if xs.length < sizeLine then some (.nx, putAt i p (.lst (xs ++ [d])) E1) else none
      | none => none)
    | none => none)
  | none => none
theorem pxs_appP (ho : PP X i p a) (h1 : PX X m true b fa) (hst : p = [] ∨ m = false := by first | exact .inl rfl | exact .inr rfl) (hs : swapsWith (.Call (.Attribute a "append" apos) [b] [] px) none pos.line X.env = pure false := by rfl)
    (hb : attributeBase a "append" X.env (eval a X.env) = eval a X.env := by rfl)
    (h3 : ((((backTo px (starEach [b] X.env)).all fun x => !x.fst) && (backToKw px (keywordEach [] X.env)).all fun x => x.fst.isSome) && decide (([b] : List Expr).length + ([] : List Keyword).length + (if ([] : List Keyword).isEmpty = true then 0 else 1) < 30)) = true := by rfl)
    (hline : (apos.endLine == px.line) = true := by rfl) (he : starEach [b] X.env = (false, eval b X.env) :: starEach [] X.env := by rfl) (hpl : (backTo px (starEach [] X.env)).any (·.1) = false := by rfl) :
    PXS1 X n (.Expr (.Call (.Attribute a "append" apos) [b] [] px) pos) (appP i p fa) := ps_imp (ps_expr (pe_bm PySem.F.plainAttrs_list PySem.F.slot_list_append PySem.F.type_list_append mt_append ho (pa_cons h1 pa_nil he) hb h3 hline he hpl) hs) fun D σ H => by
  rintro ⟨vs0, P, E, fps, fl, E', hn, r, hf, q⟩
  unfold appP at hf
  split at hf
  · rename_i xs0 e0
    split at hf
    · rename_i d E1 e1
      split at hf
      · rename_i xs e2
        split at hf
        · rename_i hl
          cases hf
          refine ⟨vs0, P, E, fps, _, r, lstAt_some e0, fun w hw => ?_⟩
          obtain ⟨ad0, vs1, rfl, _, ha1, _⟩ := r.lstAt (lstAt_some e0) hw
          refine ⟨.inl ⟨rfl, vs1, SqL.of ha1⟩, vs0, P, E, fps, d, E1, r, e1, fun P1 H1 fps1 v r1 s1 m1' dv => ?_⟩
          have hw1 := walkS_keep (hst.imp id m1') hw
          obtain ⟨ad, vs, ea, pa, ha, dx⟩ := r1.lstAt (lstAt_some e2) hw1
          cases ea
          obtain ⟨fps3, r3, s3⟩ := r1.pokeL (lstAt_some e2) hw1 (dx.append (.one dv))
          exact ⟨ad0, vs, v, rfl, rfl, ha, by rw [dx.length]; exact hl, q P1 _ fps3 σ r3 (s1.trans s3)⟩
        · cases hf
      · cases hf
    · cases hf
  · cases hf
/-- l.extend(e) -/
def extP (i : Nat) (p : Path) (fa : SE PyData) : SS := fun E => match lstAt i p E with
  | some _ => (match fa E with
    | some (d, E1) => (match lstAt i p E1, gList d with
      | some xs, some ys => if xs.length + ys.length ≤ sizeLine then some (.nx, putAt i p (.lst (xs ++ ys)) E1) else none
      | _, _ => none)
    | none => none)
  | none => none
theorem pxs_extP (ho : PP X i p a) (h1 : PX X m true b fa) (hst : p = [] ∨ m = false := by first | exact .inl rfl | exact .inr rfl) (hs : swapsWith (.Call (.Attribute a "extend" apos) [b] [] px) none pos.line X.env = pure false := by rfl)
    (hb : attributeBase a "extend" X.env (eval a X.env) = eval a X.env := by rfl)
    (h3 : ((((backTo px (starEach [b] X.env)).all fun x => !x.fst) && (backToKw px (keywordEach [] X.env)).all fun x => x.fst.isSome) && decide (([b] : List Expr).length + ([] : List Keyword).length + (if ([] : List Keyword).isEmpty = true then 0 else 1) < 30)) = true := by rfl)
    (hline : (apos.endLine == px.line) = true := by rfl) (he : starEach [b] X.env = (false, eval b X.env) :: starEach [] X.env := by rfl) (hpl : (backTo px (starEach [] X.env)).any (·.1) = false := by rfl) :
    PXS1 X n (.Expr (.Call (.Attribute a "extend" apos) [b] [] px) pos) (extP i p fa) := ps_imp (ps_expr (pe_bm PySem.F.plainAttrs_list PySem.F.slot_list_extend PySem.F.type_list_extend mt_extA ho (pa_cons h1 pa_nil he) hb h3 hline he hpl) hs) fun D σ H => by
  rintro ⟨vs0, P, E, fps, fl, E', hn, r, hf, q⟩
  unfold extP at hf
  split at hf
  · rename_i xs0 e0
    split at hf
    · rename_i d E1 e1
      split at hf
      · rename_i xs ys e2 e3
        split at hf
        · rename_i hl
          cases hf
          refine ⟨vs0, P, E, fps, _, r, lstAt_some e0, fun w hw => ?_⟩
          obtain ⟨ad0, vs1, rfl, _, ha1, _⟩ := r.lstAt (lstAt_some e0) hw
          refine ⟨.inl ⟨rfl, vs1, SqL.of ha1⟩, vs0, P, E, fps, d, E1, r, e1, fun P1 H1 fps1 v r1 s1 m1' dv => ?_⟩
          have hw1 := walkS_keep (hst.imp id m1') hw
          obtain ⟨ad, vs, ea, pa, ha, dx⟩ := r1.lstAt (lstAt_some e2) hw1
          cases ea
          unfold gList at e3
          split at e3
          · cases e3
            cases dv with
            | @lst ad3 ws _ hw3 dw =>
              obtain ⟨fps3, r3, s3⟩ := r1.pokeL (lstAt_some e2) hw1 (dx.append dw)
              exact .inl ⟨ad0, ad3, vs, ws, rfl, rfl, ha, r1.sub _ _ hw3, by rw [dx.length, dw.length]; exact hl, q P1 _ fps3 σ r3 (s1.trans s3)⟩
          · cases e3
            cases dv with
            | @tup ad3 ws _ hw3 dw =>
              obtain ⟨fps3, r3, s3⟩ := r1.pokeL (lstAt_some e2) hw1 (dx.append dw)
              exact .inr ⟨ad0, ad3, vs, ws, rfl, rfl, ha, seqC r1.sub hw3, by rw [dx.length, dw.length]; exact hl, q P1 _ fps3 σ r3 (s1.trans s3)⟩
          · cases e3
        · cases hf
      · cases hf
    · cases hf
  · cases hf
/-- l[k] -/
def ixP (i : Nat) (p : Path) (fb : SE PyData) : SE PyData := fun E => match lstAt i p E with
  | some _ => (match fb E with
    | some (e, E1) => (match lstAt i p E1 with
      | some xs => (match gIx (.list xs) e with
        | some z => some (z, E1)
        | none => none)
      | none => none)
    | none => none)
  | none => none
theorem px_ixP (ho : PP X i p a) (hb : PX X m p2 b fb) (hst : p = [] ∨ m = false := by first | exact .inl rfl | exact .inr rfl) (hp : PlainIx b := by exact fun _ _ => rfl) : PX X m true (.Subscript a b pos) (ixP i p fb) := pe_imp (pe_ix ix_seq ho hb hp) fun σ H Q => by
  rintro ⟨vs0, P, E, fps, d, E', rel, hh, q⟩
  unfold ixP at hh
  split at hh
  · rename_i xs0 e0
    split at hh
    · rename_i d1 E1 h1
      split at hh
      · rename_i xs e1
        split at hh
        · rename_i z h2
          cases hh
          refine ⟨vs0, P, E, fps, _, rel, lstAt_some e0, fun w hw => ⟨vs0, P, E, fps, d1, _, rel, h1, fun P1 H1 fps1 y r1 s1 m1' dy => ?_⟩⟩
          have hw1 := walkS_keep (hst.imp id m1') hw
          obtain ⟨ad, vs, rfl, pa, ha, dv⟩ := r1.lstAt (lstAt_some e1) hw1
          obtain ⟨i', hi'⟩ : ∃ i', d1 = .int i' := by
            cases d1 <;> first | exact ⟨_, rfl⟩ | (cases h2; done)
          subst hi'
          obtain ⟨v, g1, g2⟩ := atI_dq dv (show atI xs i' = some d from h2)
          have ey : y = .int i' := by cases p2 <;> exact dq_int dy
          exact .inl ⟨ad, vs, i', v, rfl, ey, SqL.of ha, g1, q P1 H1 fps1 v r1 s1 m1' g2⟩
        · cases hh
      · cases hh
    · cases hh
  · cases hh
/-- l[a:b], a new list -/
def slP (i : Nat) (p : Path) (fl fh : SE (Option Int)) : SE (List PyData) := fun E => match lstAt i p E with
  | some _ => bnd fl (fun lo => bnd fh fun hi => fun E1 => match lstAt i p E1 with
    | some xs => some (cutL xs lo hi, E1)
    | none => none) E
  | none => none
theorem pl_slP {lo hi : Option Expr} {p2' : Pos} {fl fh : SE (Option Int)} (ho : PP X i p a) (hl : PXO X m2 lo fl) (hh : PXO X m3 hi fh) (hst : p = [] ∨ (m2 = false ∧ m3 = false) := by first | exact .inl rfl | exact .inr ⟨rfl, rfl⟩) : PL X (m2 || m3) (.Subscript a (.Slice lo hi none p2') pos) (slP i p fl fh) := pe_imp (pe_slice sl_any3 ho hl hh) fun σ H Q => by
  rintro ⟨vs0, P, E, fps, d, E', rel, hh, q⟩
  unfold slP at hh
  split at hh
  · rename_i xs0 e0
    obtain ⟨l, E2, h2, hh⟩ := bnd_some hh
    obtain ⟨u, E3, h3, hh⟩ := bnd_some hh
    split at hh
    · rename_i xs e3
      cases hh
      refine ⟨vs0, P, E, fps, _, rel, lstAt_some e0, fun w hw => ⟨vs0, P, E, fps, l, E2, rel, h2, fun P2 H2 fps2 r2 s2 m2' => ⟨vs0, P2, E2, fps2, u, _, r2, h3, fun P3 H3 fps3 r3 s3 m3' => ?_⟩⟩⟩
      have hw1 := walkS_keep (hst.imp id fun h => (m2' h.1).trans (m3' h.2)) hw
      obtain ⟨ad, vs, rfl, pa, ha, dv⟩ := r3.lstAt (lstAt_some e3) hw1
      refine .inr (.inr ⟨ad, vs, rfl, SqL.of ha, fun p0 hp => (tXL_end r3 (s2.trans s3) (fun hm => ?_) q).new r3.sub hp (cut_dq dv l u)⟩)
      rw [Bool.or_eq_false_iff] at hm
      exact (m2' hm.1).trans (m3' hm.2)
    · cases hh
  · cases hh
/-- tuple(l) -/
def tupP (i : Nat) (p : Path) : SE PyData := fun E => match lstAt i p E with
  | some xs => some (.tuple xs, E)
  | none => none
theorem px_tupP (hg : Gl X "tuple") (hm : X.mg "tuple" = none) (ha : PP X i p a) (he : starEach [a] X.env = (false, eval a X.env) :: starEach [] X.env := by rfl) : PX X false true (.Call (.Name "tuple" px) [a] [] pos) (tupP i p) :=
  pe_imp (pe_callTy (T := "tuple") call_tuple_of hg hm (by decide +kernel) (pa_cons ha pa_nil he) (by decide) (by decide) he rfl) fun σ H Q => by
  rintro ⟨vs0, P, E, fps, d, E', rel, hh, q⟩
  unfold tupP at hh
  split at hh
  · rename_i xs e0
    cases hh
    refine ⟨vs0, P, E, fps, _, rel, lstAt_some e0, fun w hw => ?_⟩
    obtain ⟨ad, vs, rfl, pa, hv, dv⟩ := rel.lstAt (lstAt_some e0) hw
    refine ⟨ad, vs, rfl, .inl ⟨SqL.of hv, fun p0 hp => ?_⟩⟩
    have s1 : Same P (upd P p0 (.tup vs)) := Fw.same_upd (sub_none rel.sub hp)
    exact q (upd P p0 (.tup vs)) (upd H p0 (.tup vs)) fps (.ref p0) (rel.alloc s1 (same_upd2 rel.sub hp) (Fw.same_upd hp) (fresh_upd hp)) (.alloc s1 (Fw.same_upd hp) (fresh_upd hp)) (fun _ => Fw.same_upd hp) (.tup (SqC.of upd_same) (dv.mono s1))
  · cases hh

def insI (a : Int) : List Int → List Int
  | [] => [a]
  | b :: l => if a ≤ b then a :: b :: l else b :: insI a l
def srtI (l : List Int) : List Int := l.foldr insI []
theorem insI_perm (a : Int) : ∀ l, (insI a l).Perm (a :: l)
  | [] => .refl _
  | b :: l => by
    unfold insI
    split
    · exact .refl _
    · exact ((insI_perm a l).cons b).trans (.swap a b l)
theorem srtI_perm : ∀ l, (srtI l).Perm l
  | [] => .refl _
  | a :: l => (insI_perm a _).trans ((srtI_perm l).cons a)
theorem insI_srt (a : Int) : ∀ {l : List Int}, l.Pairwise (· ≤ ·) → (insI a l).Pairwise (· ≤ ·)
  | [], _ => by simp [insI]
  | b :: l, h => by
    obtain ⟨h1, h2⟩ := List.pairwise_cons.mp h
    unfold insI
    split
    · rename_i hab
      refine List.pairwise_cons.mpr ⟨fun x hx => ?_, h⟩
      rcases List.mem_cons.mp hx with rfl | hx
      · exact hab
      · exact Int.le_trans hab (h1 x hx)
    · rename_i hab
      refine List.pairwise_cons.mpr ⟨fun x hx => ?_, insI_srt a h2⟩
      rcases List.mem_cons.mp ((insI_perm a l).mem_iff.mp hx) with rfl | hx
      · omega
      · exact h1 x hx
theorem srtI_srt : ∀ l, (srtI l).Pairwise (· ≤ ·)
  | [] => .nil
  | a :: l => insI_srt a (srtI_srt l)
theorem srtI_uniq {l r : List Int} (h : l.Pairwise (· ≤ ·)) (p : l.Perm r) : l = srtI r :=
  List.Perm.eq_of_pairwise (fun x y _ _ h1 h2 => Int.le_antisymm h1 h2) h (srtI_srt r) (p.trans (srtI_perm r).symm)
def intKeys : List (Key × PyData) → Option (List Int)
  | [] => some []
  | (.inl k, _) :: r => (intKeys r).map (k :: ·)
  | _ :: _ => none
theorem intKeys_map : ∀ {r : List (Key × PyData)} {ks : List Int}, intKeys r = some ks → r.map (·.1) = ks.map Sum.inl
  | [], ks, h => by cases h; rfl
  | (.inl k, _) :: r, ks, h => by
    unfold intKeys at h
    cases e : intKeys r with
    | none => rw [e] at h; cases h
    | some l => rw [e] at h; cases h; rw [List.map_cons, List.map_cons, intKeys_map e]
  | (.inr k, _) :: r, ks, h => by cases h
def dsoP (i : Nat) (p : Path) : SE (List PyData) := fun E => match nodeAt i p E with
  | some (.dic r) => (match intKeys r with
    | some ks => if ks.length < 64 then some ((srtI ks).map .int, E) else none
    | none => none)
  | _ => none
theorem pl_dso (hc : X.calm = true) (hg : Gl X "sorted") (hm : X.mg "sorted" = none) (ho : PP X i p o) (he : starEach [o] X.env = (false, eval o X.env) :: starEach [] X.env := by rfl) : PL X false (.Call (.Name "sorted" px) [o] [] pos) (dsoP i p) :=
  pe_imp (pe_callB (id := "sorted") (call_sortedDI hc) hg hm (by decide +kernel) (pa_cons ho pa_nil he) (by decide) (by decide) he rfl) fun σ H Q => by
  rintro ⟨vs0, P, E, fps, d, E', r, hf, q⟩
  unfold dsoP at hf
  split at hf
  · rename_i r0 e0
    split at hf
    · rename_i ks e1
      split at hf
      · rename_i hl
        cases hf
        refine ⟨vs0, P, E, fps, _, r, e0, fun w hw => ?_⟩
        obtain ⟨ad, l, rfl, pa, ha, dl⟩ := r.dicAt e0 hw
        refine ⟨ad, l, ks, rfl, .inl ha, by rw [dl.keys]; exact intKeys_map e1, hl, fun ys z hp hs hz => ?_⟩
        rw [srtI_uniq hs hp]
        exact (tXL_end r (.refl _ _ _) (fun _ => Same.refl H) q).new r.sub hz (ints_all _)
      · cases hf
    · cases hf
  · cases hf

inductive PDs (X : Cx) : List (Option Expr) → List Expr → List (SE PyData × SE PyData) → Prop where
  | nil : PDs X [] [] []
  | cons {a b : Expr} {m1 m2 : Bool} {ks : List (Option Expr)} {vs : List Expr} {fa fb : SE PyData} {fs : List (SE PyData × SE PyData)} (ha : PX X m1 true a fa) (hb : PX X m2 true b fb) (hr : PDs X ks vs fs) : PDs X (some a :: ks) (b :: vs) ((fa, fb) :: fs)
def prsS : List (SE PyData × SE PyData) → SE (List (Key × PyData))
  | [] => ret []
  | (fk, fv) :: r => bnd fk fun k => bnd fv fun v => bnd (prsS r) fun l => lft ((keyOf k).map fun k => (k, v) :: l)
def mergeD (r more : List (Key × PyData)) : List (Key × PyData) := more.foldl (fun acc kv => putD acc kv.1 kv.2) r
def dspD (fs : List (SE PyData × SE PyData)) : SE Sl := bnd (prsS fs) fun l => ret (.tr (.dic (mergeD [] l)))
theorem DqKV.merge {K : PySem.W.Frag} {H : Hp} {l : List (Key × V)} {r : List (Key × PyData)} (h : DqKV K H l r) : ∀ {l0 : List (Key × V)} {r0 : List (Key × PyData)}, DqKV K H l0 r0 → DqKV K H (mergeK l0 l) (mergeD r0 r) := by
  induction h with
  | nil => exact fun h => h
  | cons d _ ih => exact fun h => ih (h.put _ d)
theorem pd_of {X : Cx} {ks : List (Option Expr)} {vs : List Expr} {fs : List (SE PyData × SE PyData)} (h : PDs X ks vs fs) : ∃ trs, (∀ pos, PPs X pos ks vs trs) ∧ ks.length = fs.length ∧ vs.length = fs.length ∧ ks.all (·.isSome) = true ∧
    ∀ (σ : L2.St) (H : Hp) (vs0 : List V) (P : Hp) (E E' : En) (fps : Nat → List Addr) (l : List (Key × PyData)) (Q : List (V × V) → Hp → Prop), Rel X.K vs0 P E σ H fps → prsS fs E = some (l, E') →
      (∀ (P' H' : Hp) (fps' : Nat → List Addr) (kvs : List (Key × V)), Rel X.K vs0 P' E' σ H' fps' → Step (In fps) P H (In fps') P' H' → DqKV X.K P' kvs l → kvs.length = fs.length → Q (kvs.map fun kv => (kV kv.1, kv.2)) H') → tPairs trs σ H Q := by
  induction h with
  | nil =>
    refine ⟨[], fun _ => pps_nil, rfl, rfl, rfl, fun σ H vs0 P E E' fps l Q r hf q => ?_⟩
    obtain ⟨rfl, rfl⟩ := ret_some hf
    exact q P H fps [] r (.refl _ _ _) .nil rfl
  | @cons a b m1 m2 ks vs fa fb fs ha hb _ ih =>
    obtain ⟨trs, h1, h2, h3, h4, h5⟩ := ih
    refine ⟨(tX X.K m1 true fa, tX X.K m2 true fb) :: trs, fun pos => pps_cons ha hb (h1 pos), by simp [h2], by simp [h3], by simp [h4], fun σ H vs0 P E E' fps l Q r hf q => ?_⟩
    unfold prsS at hf
    obtain ⟨dk, E1, g1, hf⟩ := bnd_some hf
    obtain ⟨dv, E2, g2, hf⟩ := bnd_some hf
    obtain ⟨l2, E3, g3, hf⟩ := bnd_some hf
    obtain ⟨g4, rfl⟩ := lft_some hf
    obtain ⟨k, g5, rfl⟩ := Option.map_eq_some_iff.mp g4
    refine ⟨vs0, P, E, fps, dk, E1, r, g1, fun P1 H1 fps1 x r1 s1 _ dx => ⟨vs0, P1, E1, fps1, dv, E2, r1, g2, fun P2 H2 fps2 y r2 s2 _ dy => h5 σ H2 vs0 P2 E2 _ fps2 l2 _ r2 g3 fun P3 H3 fps3 kvs r3 s3 d3 hl => ?_⟩⟩
    cases keyOf_dq g5 dx
    have := q P3 H3 fps3 ((k, y) :: kvs) r3 ((s1.trans s2).trans s3) (.cons (dy.mono s3.pp) d3) (by simp [hl])
    exact this
theorem pxc_dsp {ks : List (Option Expr)} {vs : List Expr} {fs : List (SE PyData × SE PyData)} (h : PDs X ks vs fs) (h0 : ks ≠ []) (h15 : ks.length ≤ 15) : PXC X true (.Dict ks vs pos) (dspD fs) := by
  obtain ⟨trs, h1, h2, h3, h4, h5⟩ := pd_of h
  refine pe_imp (pe_disp (h1 pos) h4 (h2.trans h3.symm) h0 h15) fun σ H Q => ?_
  rintro ⟨vs0, P, E, fps, d, E', r, hf, q⟩
  obtain ⟨l, E1, g1, g2⟩ := bnd_some hf
  obtain ⟨rfl, rfl⟩ := ret_some g2
  intro z hz
  have s0 : Same H (upd H z (.dK [])) := Fw.same_upd hz
  have pz := sub_none r.sub hz
  have nz : ¬ In fps z := fun hi => by
    obtain ⟨_, o, ho⟩ := r.foot hi
    rw [hz] at ho
    cases ho
  have r0 : Rel X.K vs0 P E σ (upd H z (.dK [])) fps := r.keep (Same.refl P) (r.sub.trans s0) fun b hb => by
    obtain ⟨pn, o, ho⟩ := r.foot hb
    exact ⟨(s0 b o ho).trans ho.symm, pn⟩
  have st0 : Step (In fps) P H (In fps) P (upd H z (.dK [])) := ⟨Same.refl P, fun a o h _ => s0 a o h, .same, fun a h => .inl h, fun a o h => ⟨o, s0 a o h⟩⟩
  refine h5 σ _ vs0 P E _ fps l _ r0 g1 fun P1 H1 fps1 kvs r1 s1 d1 hl => ?_
  obtain ⟨hz1, nz1⟩ := s1.keepD upd_same nz
  have pz1 : P1 z = none := s1.noneD upd_same nz pz
  refine ⟨hz1, kvs, rfl, by rw [hl]; omega, ?_⟩
  have tr := st0.trans s1
  refine q P1 _ fps1 (.ref z) [z] (r1.poke pz1 nz1) ⟨tr.pp, fun a o h na => ?_, tr.fresh, fun a h => ?_, fun a o h => ?_⟩ (fun h => nomatch h) (.tr (.dic pz1 upd_same (d1.merge .nil))) fun a h => by cases List.mem_singleton.mp h; exact nz1
  · rw [upd_ne (ne_of_none h hz)]
    exact tr.keep a o h na
  · rcases h with h | h
    · exact tr.foot a h
    · cases List.mem_singleton.mp h; exact .inr hz
  · rw [upd_ne (ne_of_none h hz)]
    exact tr.live a o h
end
end Fw
namespace Fw
open PySem PySem.Spec L2
def dF (ks : List Int) (f : Int → Int) : List (Key × PyData) := ks.map fun k => (Sum.inl k, PyData.int (f k))
def upF (f : Int → Int) (k v : Int) : Int → Int := fun x => if x = k then v else f x
theorem upF_same {f : Int → Int} {k v : Int} : upF f k v k = v := if_pos rfl
theorem upF_ne {f : Int → Int} {k v x : Int} (h : x ≠ k) : upF f k v x = f x := if_neg h
theorem upF_id {f : Int → Int} {k : Int} : upF f k (f k) = f := by
  funext x
  unfold upF
  split
  · rename_i h; rw [h]
  · rfl
theorem dF_len {ks : List Int} {f : Int → Int} : (dF ks f).length = ks.length := List.length_map ..
theorem dF_nil {f : Int → Int} : dF [] f = [] := rfl
theorem dF_val {f : Int → Int} {k : Int} : ∀ {ks : List Int}, k ∈ ks → valD (dF ks f) (Sum.inl k : Key) = some (.int (f k))
  | j :: ks, h => by
    unfold valD dF
    rw [List.map_cons, List.find?_cons]
    by_cases e : j = k
    · subst e
      simp
    · have h' : k ∈ ks := (List.mem_cons.mp h).resolve_left fun z => e z.symm
      have : decide ((Sum.inl j : Key) = Sum.inl k) = false := decide_eq_false fun z => e (Sum.inl.inj z)
      dsimp only
      rw [this]
      exact dF_val h'
theorem dF_val_no {f : Int → Int} {k : Int} : ∀ {ks : List Int}, k ∉ ks → valD (dF ks f) (Sum.inl k : Key) = none
  | [], _ => rfl
  | j :: ks, h => by
    rw [List.mem_cons, not_or] at h
    unfold valD dF
    rw [List.map_cons, List.find?_cons]
    have : decide ((Sum.inl j : Key) = Sum.inl k) = false := decide_eq_false fun z => h.1 (Sum.inl.inj z).symm
    dsimp only
    rw [this]
    exact dF_val_no h.2
theorem dF_any {f : Int → Int} {k : Int} {ks : List Int} : ((dF ks f).any fun kv => decide (kv.1 = (Sum.inl k : Key))) = decide (k ∈ ks) := by
  unfold dF
  rw [List.any_map, Bool.eq_iff_iff, List.any_eq_true, decide_eq_true_iff]
  constructor
  · rintro ⟨j, hj, e⟩
    have e := of_decide_eq_true e
    cases e
    exact hj
  · intro h
    exact ⟨k, h, decide_eq_true rfl⟩
theorem dF_put {f : Int → Int} {k v : Int} {ks : List Int} (h : k ∈ ks) : putD (dF ks f) (Sum.inl k : Key) (.int v) = dF ks (upF f k v) := by
  unfold putD
  rw [dF_any, if_pos (decide_eq_true h)]
  unfold dF
  rw [List.map_map]
  apply List.map_congr_left
  intro j _
  show (if (Sum.inl j : Key) = Sum.inl k then ((Sum.inl j : Key), PyData.int v) else (Sum.inl j, .int (f j))) = (Sum.inl j, .int (upF f k v j))
  by_cases e : j = k
  · subst e
    rw [if_pos rfl, upF_same]
  · rw [if_neg fun z => e (Sum.inl.inj z), upF_ne e]
theorem dF_congr {f g : Int → Int} {ks : List Int} (h : ∀ k ∈ ks, f k = g k) : dF ks f = dF ks g := List.map_congr_left fun k hk => by rw [h k hk]
theorem dF_new {f : Int → Int} {k v : Int} {ks : List Int} (h : k ∉ ks) : putD (dF ks f) (Sum.inl k : Key) (.int v) = dF (ks ++ [k]) (upF f k v) := by
  unfold putD
  rw [dF_any, if_neg (by simpa using h)]
  unfold dF
  rw [List.map_append, List.map_cons, List.map_nil, upF_same]
  congr 1
  apply List.map_congr_left
  intro j hj
  rw [upF_ne (fun z : j = k => h (by rw [← z]; exact hj))]
theorem dF_drop {f : Int → Int} {k : Int} {ks : List Int} : dropD (dF ks f) (Sum.inl k : Key) = dF (ks.filter fun j => decide (j ≠ k)) f := by
  unfold dropD dF
  rw [List.filter_map]
  congr 1
  apply List.filter_congr
  intro j _
  show decide ((Sum.inl j : Key) ≠ Sum.inl k) = decide (j ≠ k)
  by_cases e : j = k
  · subst e; simp
  · simp [e]
theorem dF_ints {f : Int → Int} : ∀ {ks : List Int}, intKeys (dF ks f) = some ks
  | [] => rfl
  | k :: ks => by
    unfold dF
    rw [List.map_cons]
    unfold intKeys
    rw [show intKeys (ks.map fun k => ((Sum.inl k : Key), PyData.int (f k))) = some ks from dF_ints (f := f)]
    rfl
/-- ascending rows are sorted -/
theorem srtI_id {l : List Int} (h : l.Pairwise (· ≤ ·)) : srtI l = l := (srtI_uniq h (.refl l)).symm
/-- sorted(d) at a place -/
theorem ok_dso {i : Nat} {p : Path} {E : En} {Q : List PyData → En → Prop} : Ok (dsoP i p E) Q = OkV (dicAt i p E) fun r => OkV (intKeys r) fun ks => ks.length < 64 ∧ Q ((srtI ks).map .int) E := by
  unfold dsoP dicAt
  cases nodeAt i p E with
  | none => exact ok_none.trans okV_none.symm
  | some n =>
    cases n with
    | dic r =>
      dsimp only
      rw [okV_some]
      cases intKeys r with
      | none => exact ok_none.trans okV_none.symm
      | some ks =>
        rw [okV_some]
        dsimp only
        by_cases h : ks.length < 64
        · rw [if_pos h, ok_some]
          exact propext ⟨fun x => ⟨h, x⟩, fun x => x.2⟩
        · rw [if_neg h, ok_none]
          exact propext ⟨False.elim, fun x => h x.1⟩
    | _ => exact ok_none.trans okV_none.symm
theorem rngL_len {lo : Int} {n : Nat} : (rngL lo n).length = n := by simp [rngL]
theorem rngL_at {lo : Int} {n i : Nat} {z : PyData} (h : (rngL lo n)[i]? = some z) : i < n ∧ z = .int (lo + (i : Nat)) := by
  have hi := (List.getElem?_eq_some_iff.mp h).1
  rw [rngL_len] at hi
  unfold rngL at h
  rw [List.getElem?_map, List.getElem?_range hi] at h
  cases h
  exact ⟨hi, rfl⟩
theorem gMax_ii {i j : Int} : gMax [.int i, .int j] = some (.int (max i j)) := by
  unfold gMax
  dsimp only
  congr 2
  split <;> omega
theorem gMin_ii {i j : Int} : gMin [.int i, .int j] = some (.int (min i j)) := by
  unfold gMin
  dsimp only
  congr 2
  split <;> omega
/-- lists at places -/
theorem ok_appP {i : Nat} {p : Path} {f : SE PyData} {E : En} {Q : Fl → En → Prop} : Ok (appP i p f E) Q = ((lstAt i p E).isSome = true ∧ Ok (f E) fun d E1 => OkV (lstAt i p E1) fun xs => xs.length < sizeLine ∧ Q .nx (putAt i p (.lst (xs ++ [d])) E1)) := by
  unfold appP
  cases lstAt i p E with
  | none => rw [ok_none]; exact propext ⟨False.elim, fun x => nomatch x.1⟩
  | some xs0 =>
    dsimp only
    rw [show ∀ Z : Prop, ((some xs0).isSome = true ∧ Z) = Z from fun Z => propext ⟨fun x => x.2, fun x => ⟨rfl, x⟩⟩]
    cases f E with
    | none => exact ok_none.trans ok_none.symm
    | some r =>
      obtain ⟨d, E1⟩ := r
      rw [ok_some]
      dsimp only
      cases lstAt i p E1 with
      | none => exact ok_none.trans okV_none.symm
      | some xs =>
        rw [okV_some]
        dsimp only
        by_cases h : xs.length < sizeLine
        · rw [if_pos h, ok_some]
          exact propext ⟨fun x => ⟨h, x⟩, fun x => x.2⟩
        · rw [if_neg h, ok_none]
          exact propext ⟨False.elim, fun x => h x.1⟩
theorem ok_extP {i : Nat} {p : Path} {f : SE PyData} {E : En} {Q : Fl → En → Prop} : Ok (extP i p f E) Q = ((lstAt i p E).isSome = true ∧ Ok (f E) fun d E1 => OkV (lstAt i p E1) fun xs => OkV (gList d) fun ys => xs.length + ys.length ≤ sizeLine ∧ Q .nx (putAt i p (.lst (xs ++ ys)) E1)) := by
  unfold extP
  cases lstAt i p E with
  | none => rw [ok_none]; exact propext ⟨False.elim, fun x => nomatch x.1⟩
  | some xs0 =>
    dsimp only
    rw [show ∀ Z : Prop, ((some xs0).isSome = true ∧ Z) = Z from fun Z => propext ⟨fun x => x.2, fun x => ⟨rfl, x⟩⟩]
    cases f E with
    | none => exact ok_none.trans ok_none.symm
    | some r =>
      obtain ⟨d, E1⟩ := r
      rw [ok_some]
      dsimp only
      cases lstAt i p E1 with
      | none => exact ok_none.trans okV_none.symm
      | some xs =>
        rw [okV_some]
        cases gList d with
        | none => exact ok_none.trans okV_none.symm
        | some ys =>
          rw [okV_some]
          dsimp only
          by_cases h : xs.length + ys.length ≤ sizeLine
          · rw [if_pos h, ok_some]
            exact propext ⟨fun x => ⟨h, x⟩, fun x => x.2⟩
          · rw [if_neg h, ok_none]
            exact propext ⟨False.elim, fun x => h x.1⟩
theorem ok_ixP {i : Nat} {p : Path} {f : SE PyData} {E : En} {Q : PyData → En → Prop} : Ok (ixP i p f E) Q = ((lstAt i p E).isSome = true ∧ Ok (f E) fun e E1 => OkV (lstAt i p E1) fun xs => OkV (gIx (.list xs) e) fun z => Q z E1) := by
  unfold ixP
  cases lstAt i p E with
  | none => rw [ok_none]; exact propext ⟨False.elim, fun x => nomatch x.1⟩
  | some xs0 =>
    dsimp only
    rw [show ∀ Z : Prop, ((some xs0).isSome = true ∧ Z) = Z from fun Z => propext ⟨fun x => x.2, fun x => ⟨rfl, x⟩⟩]
    cases f E with
    | none => exact ok_none.trans ok_none.symm
    | some r =>
      obtain ⟨d, E1⟩ := r
      rw [ok_some]
      dsimp only
      cases lstAt i p E1 with
      | none => exact ok_none.trans okV_none.symm
      | some xs =>
        rw [okV_some]
        dsimp only
        cases gIx (.list xs) d with
        | none => exact ok_none.trans okV_none.symm
        | some z => rw [okV_some]; exact ok_some
theorem ok_tupP {i : Nat} {p : Path} {E : En} {Q : PyData → En → Prop} : Ok (tupP i p E) Q = OkV (lstAt i p E) fun xs => Q (.tuple xs) E := by
  unfold tupP
  cases lstAt i p E with
  | none => exact ok_none.trans okV_none.symm
  | some xs => rw [okV_some]; exact ok_some
theorem ok_dsp_nil {E : En} {Q : List (Key × PyData) → En → Prop} : Ok (prsS [] E) Q = Q [] E := ok_ret
theorem ok_dsp_cons {fk fv : SE PyData} {fs : List (SE PyData × SE PyData)} {E : En} {Q : List (Key × PyData) → En → Prop} : Ok (prsS ((fk, fv) :: fs) E) Q = Ok (fk E) fun k E1 => Ok (fv E1) fun v E2 => Ok (prsS fs E2) fun l E3 => OkV (keyOf k) fun k => Q ((k, v) :: l) E3 := by
  show Ok (bnd fk _ E) Q = _
  rw [ok_bnd]; congr 1; funext k E1
  rw [ok_bnd]; congr 1; funext v E2
  rw [ok_bnd]; congr 1; funext l E3
  rw [ok_lft]
  cases keyOf k with
  | none => exact okV_none.trans okV_none.symm
  | some k => rw [okV_some]; exact okV_some
theorem ok_dsp {fs : List (SE PyData × SE PyData)} {E : En} {Q : Sl → En → Prop} : Ok (dspD fs E) Q = Ok (prsS fs E) fun l E1 => Q (.tr (.dic (mergeD [] l))) E1 := by
  unfold dspD
  rw [ok_bnd]; congr 1; funext l E1; exact ok_ret
end Fw
namespace Fw
open PySem PySem.Spec L2
open PyProof.Rows hiding St
section
variable {X : Cx} {m m1 m2 m3 : Bool} {e a b c o : Expr} {pos : Pos} {i j : Nat} {fc fd : SE Sl} {g : SE Bool}
/-- the name's thing, which the name gives away -/
def mvS (i : Nat) : SE Sl := fun E => match E[i]? with
  | some (.tr t) => some (.tr t, E.set i .un)
  | some (.own xs) => some (.own xs, E.set i .un)
  | some (.dat d) => some (.dat d, E)
  | _ => none
theorem pxc_mv (h : PE X e (tVar i)) : PXC X true e (mvS i) := pe_imp h fun σ H Q => by
  rintro ⟨vs0, P, E, fps, s, E', r, hf, q⟩
  have move : ∀ {s0 : Sl} {v : V}, E[i]? = some s0 → σ[i]? = some (some v) → SlR X.K P H s0 (some v) (fps i) → E' = E.set i .un → s = s0 → Q v H := by
    rintro s0 v e1 e2 sr rfl rfl
    have hi : i < E.length := (List.getElem?_eq_some_iff.mp e1).1
    have r2 := r.put (i := i) (s := .un) (ov := some v) (l := []) .un (fun a ha => nomatch ha) (fun v' _ ho => Bool.noConfusion ho)
    rw [if_pos hi] at r2
    have es : σ.set i (some v) = σ := setq e2
    rw [es] at r2
    refine q P H (clr fps i []) v (fps i) r2 ⟨Same.refl P, fun _ _ h _ => h, .same, fun a ha => ?_, fun a o h => ⟨o, h⟩⟩ (fun h => nomatch h) sr fun a ha hb => ?_
    · rcases ha with ha | ha
      · rcases in_clr ha with z | z
        · cases z
        · exact .inl z
      · exact .inl ⟨i, ha⟩
    · obtain ⟨k, hk⟩ := hb
      unfold clr at hk
      split at hk
      · cases hk
      · rename_i hne
        exact hne (r.dj k i a hk ha)
  unfold mvS at hf
  split at hf
  · rename_i t e1
    cases hf
    obtain ⟨ov, e2, sr⟩ := r.sl i _ e1
    generalize hfp : fps i = fp at sr
    cases sr with
    | tr z => exact ⟨_, e2, move e1 e2 (by rw [hfp]; exact .tr z) rfl rfl⟩
  · rename_i xs e1
    cases hf
    obtain ⟨ov, e2, sr⟩ := r.sl i _ e1
    generalize hfp : fps i = fp at sr
    cases sr with
    | own z1 z2 z3 => exact ⟨_, e2, move e1 e2 (by rw [hfp]; exact .own z1 z2 z3) rfl rfl⟩
  · rename_i d e1
    cases hf
    obtain ⟨ov, e2, sr⟩ := r.sl i _ e1
    generalize hfp : fps i = fp at sr
    cases sr with
    | dat z => exact ⟨_, e2, q P H fps _ [] r ⟨Same.refl P, fun _ _ h _ => h, .same, fun a ha => ha.elim .inl (fun w => nomatch w), fun a o h => ⟨o, h⟩⟩ (fun _ => Same.refl H) (.dat z) (fun _ h => nomatch h)⟩
  · cases hf
def sIfC (g : SE Bool) (fa fb : SE Sl) : SE Sl := bnd g fun b => if b then fa else fb
theorem pxc_if (hc : PXT X m1 c g) (ha : PXC X m2 a fc) (hb : PXC X m3 b fd) : PXC X true (.IfExp c a b pos) (sIfC g fc fd) := pe_imp (pe_ifExp hc ha hb) fun σ H Q => by
  rintro ⟨vs0, P, E, fps, d, E', rel, hh, q⟩
  obtain ⟨d1, E1, h1, hh⟩ := bnd_some hh
  refine ⟨vs0, P, E, fps, d1, E1, rel, h1, fun P1 H1 fps1 r1 s1 m1' => ?_⟩
  cases d1 with
  | true =>
    rw [if_pos rfl] at hh
    rw [if_pos rfl]
    exact ⟨vs0, P1, E1, fps1, d, E', r1, hh, fun P2 H2 fps2 v2 fr r2 s2 m2' sr nf => q P2 H2 fps2 v2 fr r2 (s1.trans s2) (fun hm => nomatch hm) sr nf⟩
  | false =>
    rw [if_neg Bool.false_ne_true] at hh
    rw [if_neg Bool.false_ne_true]
    exact ⟨vs0, P1, E1, fps1, d, E', r1, hh, fun P2 H2 fps2 v2 fr r2 s2 m2' sr nf => q P2 H2 fps2 v2 fr r2 (s1.trans s2) (fun hm => nomatch hm) sr nf⟩
/-- x is None, x is not None of a name that may own -/
def isNT (neg : Bool) (i : Nat) : SE PyData := fun E => match E[i]? with
  | some (.tr _) => some (.bool neg, E)
  | some (.own _) => some (.bool neg, E)
  | some (.dat .none) => some (.bool !neg, E)
  | some (.dat _) => some (.bool neg, E)
  | _ => none
theorem isNT_some {neg : Bool} {E E' : En} {d : PyData} {K : PySem.W.Frag} {vs0 : List V} {P H : Hp} {σ : L2.St} {fps : Nat → List Addr} (r : Rel K vs0 P E σ H fps) (h : isNT neg i E = some (d, E')) : E' = E ∧ ∃ v, σ[i]? = some (some v) ∧ d = .bool (neg != decide (v = .non)) := by
  unfold isNT at h
  split at h
  · rename_i t e1
    cases h
    obtain ⟨ov, e2, sr⟩ := r.sl i _ e1
    generalize fps i = fp at sr
    cases sr with
    | tr z => exact ⟨rfl, _, e2, by cases neg <;> rfl⟩
  · rename_i t e1
    cases h
    obtain ⟨ov, e2, sr⟩ := r.sl i _ e1
    generalize fps i = fp at sr
    cases sr with
    | own _ _ _ => exact ⟨rfl, _, e2, by cases neg <;> rfl⟩
  · rename_i e1
    cases h
    obtain ⟨ov, e2, sr⟩ := r.sl i _ e1
    generalize fps i = fp at sr
    cases sr with
    | dat z => cases z; exact ⟨rfl, _, e2, by cases neg <;> rfl⟩
  · rename_i d0 hne e1
    cases h
    obtain ⟨ov, e2, sr⟩ := r.sl i _ e1
    generalize fps i = fp at sr
    cases sr with
    | dat z =>
      refine ⟨rfl, _, e2, ?_⟩
      cases z <;> first
        | exact absurd rfl hne
        | (cases neg <;> rfl)
  · cases h
theorem px_isNT {k : Nat} {pos' : Pos} (ha : PE X a (tVar i)) : PX X false true (.Compare a [.Is] [.Constant .none k pos'] pos) (isNT false i) := pe_imp (pe_cmp (pc_isN ha)) fun σ H Q => by
  rintro ⟨vs0, P, E, fps, d, E', r, hf, q⟩
  obtain ⟨rfl, v, e, rfl⟩ := isNT_some r hf
  rw [bnef] at q
  exact ⟨v, e, q P H fps _ r (.refl _ _ _) (fun _ => Same.refl H) (.bl _)⟩
theorem px_notNT {k : Nat} {pos' : Pos} (ha : PE X a (tVar i)) : PX X false true (.Compare a [.IsNot] [.Constant .none k pos'] pos) (isNT true i) := pe_imp (pe_cmp (pc_notN ha)) fun σ H Q => by
  rintro ⟨vs0, P, E, fps, d, E', r, hf, q⟩
  obtain ⟨rfl, v, e, rfl⟩ := isNT_some r hf
  rw [bnet] at q
  exact ⟨v, e, q P H fps _ r (.refl _ _ _) (fun _ => Same.refl H) (.bl _)⟩
theorem pt_isNT {k : Nat} {pos' : Pos} (ha : PE X a (tVar i)) : PXT X false (.Compare a [.Is] [.Constant .none k pos'] pos) (toB (isNT false i)) := pt_imp (pt_cmp (pc_isN ha)) fun σ H Q => by
  rintro ⟨vs0, P, E, fps, d, E', r, hf, q⟩
  obtain ⟨rfl, v, e, ed⟩ := isNT_some r (toB_some hf)
  rw [bnef] at ed
  cases ed
  exact ⟨v, e, _, rfl, q P H fps r (.refl _ _ _) (fun _ => Same.refl H)⟩
theorem pt_notNT {k : Nat} {pos' : Pos} (ha : PE X a (tVar i)) : PXT X false (.Compare a [.IsNot] [.Constant .none k pos'] pos) (toB (isNT true i)) := pt_imp (pt_cmp (pc_notN ha)) fun σ H Q => by
  rintro ⟨vs0, P, E, fps, d, E', r, hf, q⟩
  obtain ⟨rfl, v, e, ed⟩ := isNT_some r (toB_some hf)
  rw [bnet] at ed
  cases ed
  exact ⟨v, e, _, rfl, q P H fps r (.refl _ _ _) (fun _ => Same.refl H)⟩
theorem ok_mvS {E : En} {Q : Sl → En → Prop} : Ok (mvS i E) Q = match E[i]? with
    | some (.tr t) => Q (.tr t) (E.set i .un)
    | some (.own xs) => Q (.own xs) (E.set i .un)
    | some (.dat d) => Q (.dat d) E
    | _ => False := by
  unfold mvS
  cases E[i]? with
  | none => exact ok_none
  | some s => cases s <;> first | exact ok_some | exact ok_none
theorem ok_sIfC {E : En} {Q : Sl → En → Prop} : Ok (sIfC g fc fd E) Q = Ok (g E) fun b E1 => if b = true then Ok (fc E1) Q else Ok (fd E1) Q := by
  unfold sIfC
  rw [ok_bnd]
  congr 1; funext b E1
  cases b <;> rfl
theorem ok_isNT {neg : Bool} {E : En} {Q : PyData → En → Prop} : Ok (isNT neg i E) Q = match E[i]? with
    | some (.tr _) => Q (.bool neg) E
    | some (.own _) => Q (.bool neg) E
    | some (.dat .none) => Q (.bool !neg) E
    | some (.dat _) => Q (.bool neg) E
    | _ => False := by
  unfold isNT
  cases E[i]? with
  | none => exact ok_none
  | some s =>
    cases s with
    | dat d => cases d <;> exact ok_some
    | own _ => exact ok_some
    | tr _ => exact ok_some
    | un => exact ok_none
    | scr _ => exact ok_none
    | fn _ => exact ok_none
end
end Fw
namespace Fw
open PySem PySem.Spec L2
open PyProof.Rows hiding St
section
variable {X : Cx} {n : Nat} {m m1 m2 m3 p p1 p2 p3 : Bool} {elt tg iter kx a b : Expr} {ifs : List Expr} {pos px apos : Pos} {fe fk fb : SE PyData} {fs : SE (List PyData)} {scope : Scope} {x : Str}
/-- a dict of the module with keys of text -/
def CnD (K : PySem.W.Frag) (w : World) (mg : Str → Option Value) (x : Str) (r : List (Str × PyData)) : Prop := ∃ q : Addr, (∃ u, mg x = some u ∧ RelV (.ref q) u) ∧ ∀ z d, r.lookup z = some d → ∃ v, KDct K w q z v ∧ Kn K v d
def gKd (r : List (Str × PyData)) : PyData → Option PyData
  | .str z => r.lookup z
  | _ => none
theorem px_kd {r : List (Str × PyData)} (hg : Gl X x) (h : CnD X.K X.w X.mg x r) (hb : PX X m p2 b fb) (hd : (x == ("__debug__" : Str)) = false := by decide) (hp : PlainIx b := by exact fun _ _ => rfl) : PX X m true (.Subscript (.Name x px) b pos) (una fb (gKd r)) := by
  obtain ⟨q0, ⟨u, h1, h2⟩, h3⟩ := h
  refine pe_imp (pe_ix ix_kdict (pe_glob hg h1 h2 hd) hb hp) fun σ H Q => ?_
  rintro ⟨vs0, P, E, fps, d, E', rel, hh, q⟩
  unfold una at hh
  obtain ⟨d1, E1, e1, hh⟩ := bnd_some hh
  obtain ⟨e2, rfl⟩ := lft_some hh
  refine ⟨vs0, P, E, fps, d1, _, rel, e1, fun P1 H1 fps1 y r1 s1 m1' dy => ?_⟩
  unfold gKd at e2
  split at e2
  · rename_i z
    obtain ⟨v, k1, k2⟩ := h3 _ _ e2
    have ey : y = .str z := by cases p2 <;> exact dq_str dy
    exact ⟨q0, z, v, rfl, ey, k1, q P1 H1 fps1 v r1 s1 m1' (k2 _)⟩
  · cases e2
def dcL (vs : List Nat) (bb : PyData → En → Option En) (t : SE Bool) (fk fe : SE PyData) : List (Key × PyData) → List PyData → SE (List (Key × PyData))
  | acc, [], E => some (acc, E)
  | acc, d :: ds, E => match wipE vs E with
    | some E0 => match bb d E0 with
      | some E1 => match t E1 with
        | some (true, E2) => match fk E2 with
          | some (y, E3) => match fe E3 with
            | some (z, E4) => match keyOf y with
              | some k => dcL vs bb t fk fe (putD acc k z) ds (bakE vs E E4)
              | none => none
            | none => none
          | none => none
        | some (false, E2) => dcL vs bb t fk fe acc ds (bakE vs E E2)
        | none => none
      | none => none
    | none => none
def dcS (fs : SE (List PyData)) (vs : List Nat) (bb : PyData → En → Option En) (t : SE Bool) (fk fe : SE PyData) : SE Sl := fun E => match fs E with
  | some (ds, E1) => if ds.length < sizeLine then (match dcL vs bb t fk fe [] ds E1 with
    | some (r, E2) => some (.tr (.dic r), E2)
    | none => none) else none
  | none => none
theorem putK_le (kvs : List (Key × V)) (k : Key) (v : V) : (putK kvs k v).length ≤ kvs.length + 1 := by
  unfold putK
  split
  · rw [List.length_map]; omega
  · rw [List.length_append, List.length_singleton]; exact Nat.le_refl _
theorem dc_imp {K : PySem.W.Frag} {vs ts : List Nat} {bb : PyData → En → Option En} {t : SE Bool} {σ : L2.St} {H : Hp} {Q : VK} (hts : ∀ k ∈ ts, k ∈ vs) : tXC K true (dcS fs vs bb t fk fe) σ H Q → tDc (tXI K m fs) (tXG K ts bb) (tXT K m2 t) (tX K m1 true fk) (tX K m3 true fe) vs σ H Q := by
  rintro ⟨vs0, P, E, fps, zs, E', r, hf, q⟩
  unfold dcS at hf
  split at hf
  · rename_i ds E1 e1
    split at hf
    · rename_i hlen
      split at hf
      · rename_i rf E9 e9
        cases hf
        refine ⟨vs0, P, E, fps, ds, E1, r, e1, fun P1 H1 fps1 J G r1 s1 _ sn g1 D hD => ?_⟩
        have hHD : H D = none := s1.free hD
        refine ⟨fun i k H2 => k = ds.length - i ∧ i ≤ ds.length ∧ ∃ P2 E2 fps2 l rr, Rel K vs0 P2 E2 σ H2 fps2 ∧ Step (In fps) P H (In fps2) P2 H2 ∧ G P2 ∧ H2 D = some (.dK l) ∧ P2 D = none ∧ ¬ In fps2 D ∧ DqKV K P2 l rr ∧ l.length ≤ i ∧ dcL vs bb t fk fe rr (ds.drop i) E2 = some (rf, E'), ?_, ?_⟩
        · exact ⟨_, rfl, Nat.zero_le _, P1, E1, fps1, [], [], r1.newList hD, s1.poke hHD, g1, upd_same, sub_none r1.sub hD, r1.notIn hD, .nil, Nat.zero_le _, e9⟩
        · rintro i k H2 ⟨rfl, hi2, P2, E2, fps2, l, rr, r2, s2, g2, hD2, pD2, nD2, dkv, ll, h2⟩
          by_cases hlt : i < ds.length
          · have ed : ds.drop i = ds[i] :: ds.drop (i + 1) := List.drop_eq_getElem_cons hlt
            rw [ed] at h2
            unfold dcL at h2
            split at h2
            · rename_i E0 e0
              split at h2
              · rename_i Ea ea
                refine .inr ⟨sn.go i P2 H2 hlt g2 r2.sub, fun H4 => ∃ P4 E4 fps4 l4 rr4, Rel K vs0 P4 E4 σ H4 fps4 ∧ Step (In fps) P H (In fps4) P4 H4 ∧ G P4 ∧ H4 D = some (.dK l4) ∧ P4 D = none ∧ ¬ In fps4 D ∧ DqKV K P4 l4 rr4 ∧ l4.length ≤ i + 1 ∧ dcL vs bb t fk fe rr4 (ds.drop (i + 1)) E4 = some (rf, E'), ?_, fun y H3 hy => ?_⟩
                · rintro H4 ⟨P4, E4, fps4, l4, rr4, w⟩
                  exact ⟨ds.length - (i + 1), by omega, rfl, hlt, P4, E4, fps4, l4, rr4, w⟩
                · obtain ⟨P3, p1, p2, p3, p4, dv⟩ := sn.yld i P2 H2 y H3 ds[i] g2 r2.sub (List.getElem?_eq_getElem hlt) hy
                  have r3 := r2.alloc p1 p2 p3 p4
                  have s3 := s2.trans (Step.alloc (F := In fps2) p1 p3 p4)
                  have g3 := sn.mono _ _ p1 g2
                  have hD3 := p3 _ _ hD2
                  have pD3 : P3 D = none := (Step.alloc (F := In fps2) p1 p3 p4).noneD hD2 nD2 pD2
                  obtain ⟨rw, kw, lw, ow⟩ := wipe_ok r3 e0
                  refine ⟨vs0, P3, E0, fps2, ds[i], Ea, rw, dv, ea, fun fps5 σ5 r5 s5 hl5 hk5 => ?_⟩
                  have hl : σ5.length = σ.length := by rw [hl5, wipe_length]
                  have hk : ∀ k, k ∉ vs → σ5[k]? = σ[k]? := fun k hkv => by rw [hk5 k (fun z => hkv (hts k z)), wipe_get hkv]
                  refine ⟨wipe_eq hl hk, ?_⟩
                  obtain ⟨-, nD5⟩ := s5.keepD hD3 nD2
                  split at h2
                  · rename_i Eb eb
                    split at h2
                    · rename_i yk Ec ec
                      split at h2
                      · rename_i z Ed ed
                        split at h2
                        · rename_i kk ek
                          refine ⟨vs0, P3, Ea, fps5, true, Eb, r5, eb, fun P6 H6 fps6 r6 s6 _ => ?_⟩
                          show tX K m1 true fk σ5 H6 _
                          refine ⟨vs0, P6, Eb, fps6, yk, Ec, r6, ec, fun P7 H7 fps7 vk r7 s7 _ dk => ?_⟩
                          refine ⟨vs0, P7, Ec, fps7, z, Ed, r7, ed, fun P8 H8 fps8 v r8 s8 _ dz => ?_⟩
                          obtain ⟨hD6, nD6⟩ := s6.keepD hD3 nD5
                          obtain ⟨hD7, nD7⟩ := s7.keepD hD6 nD6
                          obtain ⟨hD8, nD8⟩ := s8.keepD hD7 nD7
                          have pD6 := s6.noneD hD3 nD5 pD3
                          have pD7 := s7.noneD hD6 nD6 pD6
                          have pD8 := s8.noneD hD7 nD7 pD7
                          have pp : Same P3 P8 := (s6.pp.trans s7.pp).trans s8.pp
                          obtain ⟨fps9, r9, i9⟩ := bak_ok r3 r8 pp ow hl hk
                          have s9 := (((s3.trans s5).trans s6).trans s7).trans s8
                          refine ⟨l, kk, keyOf_dq ek dk, hD8, by omega, P8, _, fps9, putK l kk v, putD rr kk z, r9.poke pD8 (fun w => nD8 (i9 D w)), ?_, sn.mono _ _ pp g3, upd_same, pD8, (fun w => nD8 (i9 D w)), (dkv.mono (p1.trans pp)).put kk dz, by have := putK_le l kk v; omega, h2⟩
                          exact Step.poke ⟨s9.pp, s9.keep, s9.fresh, fun a ha => s9.foot a (i9 a ha), s9.live⟩ hHD
                        · cases h2
                      · cases h2
                    · cases h2
                  · rename_i Eb eb
                    refine ⟨vs0, P3, Ea, fps5, false, Eb, r5, eb, fun P6 H6 fps6 r6 s6 _ => ?_⟩
                    obtain ⟨hD6, nD6⟩ := s6.keepD hD3 nD5
                    have pD6 := s6.noneD hD3 nD5 pD3
                    obtain ⟨fps8, r8, i8⟩ := bak_ok r3 r6 s6.pp ow hl hk
                    have s8 := (s3.trans s5).trans s6
                    exact ⟨P6, _, fps8, l, rr, r8, ⟨s8.pp, s8.keep, s8.fresh, fun a ha => s8.foot a (i8 a ha), s8.live⟩, sn.mono _ _ s6.pp g3, hD6, pD6, (fun w => nD6 (i8 D w)), dkv.mono (p1.trans s6.pp), by omega, h2⟩
                  · cases h2
              · cases h2
            · cases h2
          · have e0 : i = ds.length := by omega
            subst e0
            rw [List.drop_length] at h2
            unfold dcL at h2
            cases h2
            refine .inl ⟨sn.stop P2 H2 g2 r2.sub, q P2 H2 fps2 (.ref D) [D] r2 ⟨s2.pp, s2.keep, s2.fresh, fun a h => ?_, s2.live⟩ (fun z => nomatch z) (.tr (.dic pD2 hD2 dkv)) fun a h hb => ?_⟩
            · rcases h with h | h
              · exact s2.foot a h
              · cases List.mem_singleton.mp h
                exact .inr hHD
            · cases List.mem_singleton.mp h
              exact nD2 hb
      · cases hf
    · cases hf
  · cases hf
theorem pxc_dc {own : List (Str × Nat)} {ts : List Nat} {bb : PyData → En → Option En} {t : SE Bool} (hc : X.calm = true) (hN : X.N.Nodup) (ok : BlkOk X.N X.env.scope scope own) (hi : PXI X m tg iter fs)
    (hg : ∀ (s : Shared) (H : Hp) (C : Addr) (cl : List (Str × Addr)) (fp : List Addr), PXG (X.blk s H scope (compEnvC scope cl C X.env) fp) ts tg bb)
    (ht : ∀ (s : Shared) (H : Hp) (C : Addr) (cl : List (Str × Addr)) (fp : List Addr), PTs (X.blk s H scope (compEnvC scope cl C X.env) fp) ifs (tXT X.K m2 t))
    (hk : ∀ (s : Shared) (H : Hp) (C : Addr) (cl : List (Str × Addr)) (fp : List Addr), PX (X.blk s H scope (compEnvC scope cl C X.env) fp) m1 true kx fk)
    (he : ∀ (s : Shared) (H : Hp) (C : Addr) (cl : List (Str × Addr)) (fp : List Addr), PX (X.blk s H scope (compEnvC scope cl C X.env) fp) m3 true elt fe)
    (hts : ∀ k ∈ ts, k ∈ own.map (·.2)) (hs : ∀ x, foldedSetIterable iter X.env x = pure x := by intro _; rfl) :
    PXC X true (.DictComp kx elt [⟨tg, iter, ifs, 0⟩] scope pos) (dcS fs (own.map (·.2)) bb t fk fe) := pe_imp (pe_dc (g := tXG X.K ts bb) (tt := tXT X.K m2 t) (tk := tX X.K m1 true fk) (tv := tX X.K m3 true fe) hc hN hi ok hg ht hk he hs) fun σ H Q => dc_imp hts
end
def gBxor := gI (fun _ _ => true) fun i j => .int (Builtin.bitXor i j)
theorem px_bxor {X : Cx} {m1 m2 : Bool} {a b : Expr} {pos : Pos} {fa fb : SE PyData} (ha : PX X m1 true a fa) (hb : PX X m2 true b fb) : PX X (m1 || m2) true (.BinOp a .BitXor b pos) (bin fa fb gBxor) := px_op2 (pe_op op_xor ha hb) (vo_I0 fun _ _ _ => .int _) (.inl rfl)
/-- the facts of a constant dict -/
inductive KdL (K : PySem.W.Frag) (w : World) (q : Addr) : List (Str × PyData) → Prop where
  | nil : KdL K w q []
  | cons {z : Str} {d : PyData} {r : List (Str × PyData)} (h : ∃ v, KDct K w q z v ∧ Kn K v d) (t : KdL K w q r) : KdL K w q ((z, d) :: r)
theorem KdL.at {K : PySem.W.Frag} {w : World} {q : Addr} {r : List (Str × PyData)} (h : KdL K w q r) {z : Str} {d : PyData} (e : r.lookup z = some d) : ∃ v, KDct K w q z v ∧ Kn K v d := by
  induction h with
  | nil => cases e
  | @cons z' d' r h t ih =>
    rw [List.lookup_cons] at e
    by_cases hz : (z == z') = true
    · rw [hz] at e
      cases e
      rw [eq_of_beq hz]
      exact h
    · rw [Bool.not_eq_true] at hz
      rw [hz] at e
      exact ih e
theorem KdL.int {K : PySem.W.Frag} {w : World} {q : Addr} {es : Array DictEntry} {n : Nat} {z : Str} {i : Int} {t : Tok} (l : K.lookup q = some ⟨.type "dict", none, .dict es n, #[]⟩) (k : PySem.W.KeysLit w.params es.toList) (a : PySem.W.nsIn K q z = some (some (.int i t))) : ∃ v, KDct K w q z v ∧ Kn K v (.int i) :=
  ⟨.int i, ⟨es, n, _, l, k, a, ⟨t, rfl⟩⟩, fun _ => .int i⟩
theorem CnD.of {K : PySem.W.Frag} {w : World} {mg : Str → Option Value} {h : Heap} {x : Str} {q : Addr} {r : List (Str × PyData)} (X : K.In h) (G : h.Ns mainGlobals mg) (a : PySem.W.nsIn K mainGlobals x = some (some (.ref q))) (k : KdL K w q r) : CnD K w mg x r :=
  ⟨q, ⟨_, PySem.W.mg_of X G a, rfl⟩, fun _ _ e => k.at e⟩
theorem ok_dcS {fs : SE (List PyData)} {vs : List Nat} {bb : PyData → En → Option En} {t : SE Bool} {fk fe : SE PyData} {E : En} {Q : Sl → En → Prop} : Ok (dcS fs vs bb t fk fe E) Q = Ok (fs E) fun ds E1 => ds.length < sizeLine ∧ Ok (dcL vs bb t fk fe [] ds E1) fun r E2 => Q (.tr (.dic r)) E2 := by
  unfold dcS
  cases fs E with
  | none => exact ok_none.trans ok_none.symm
  | some r =>
    obtain ⟨ds, E1⟩ := r
    simp only [ok_some]
    by_cases hl : ds.length < sizeLine
    · rw [if_pos hl]
      simp only [hl, true_and]
      cases dcL vs bb t fk fe [] ds E1 with
      | none => exact ok_none.trans ok_none.symm
      | some r =>
        obtain ⟨r, E2⟩ := r
        simp only [ok_some]
    · rw [if_neg hl, ok_none]
      simp only [hl, false_and]
theorem ok_dcL_nil {vs : List Nat} {bb : PyData → En → Option En} {t : SE Bool} {fk fe : SE PyData} {acc : List (Key × PyData)} {E : En} {Q : List (Key × PyData) → En → Prop} : Ok (dcL vs bb t fk fe acc [] E) Q = Q acc E := ok_some
theorem ok_dcL_cons {vs : List Nat} {bb : PyData → En → Option En} {t : SE Bool} {fk fe : SE PyData} {acc : List (Key × PyData)} {d : PyData} {ds : List PyData} {E : En} {Q : List (Key × PyData) → En → Prop} : Ok (dcL vs bb t fk fe acc (d :: ds) E) Q = OkV (wipE vs E) fun E0 => OkV (bb d E0) fun E1 => Ok (t E1) fun x E2 =>
    if x then Ok (fk E2) fun y E3 => Ok (fe E3) fun z E4 => OkV (keyOf y) fun k => Ok (dcL vs bb t fk fe (putD acc k z) ds (bakE vs E E4)) Q else Ok (dcL vs bb t fk fe acc ds (bakE vs E E2)) Q := by
  conv => lhs; unfold dcL
  cases wipE vs E with
  | none => exact ok_none.trans okV_none.symm
  | some E0 =>
    simp only [okV_some]
    cases bb d E0 with
    | none => exact ok_none.trans okV_none.symm
    | some E1 =>
      simp only [okV_some]
      cases t E1 with
      | none => exact ok_none.trans ok_none.symm
      | some r =>
        obtain ⟨x, E2⟩ := r
        cases x with
        | false => simp only [ok_some, Bool.false_eq_true, if_false]
        | true =>
          simp only [ok_some, if_true]
          cases fk E2 with
          | none => exact ok_none.trans ok_none.symm
          | some r =>
            obtain ⟨y, E3⟩ := r
            simp only [ok_some]
            cases fe E3 with
            | none => exact ok_none.trans ok_none.symm
            | some r =>
              obtain ⟨z, E4⟩ := r
              simp only [ok_some]
              cases keyOf y with
              | none => exact ok_none.trans okV_none.symm
              | some k => simp only [okV_some]
end Fw
namespace Fw
open PySem PySem.Spec L2
open PyProof.Rows hiding St
def intsD : List PyData → Option (List Int)
  | [] => some []
  | .int i :: r => (intsD r).map (i :: ·)
  | _ => none
theorem intsD_at {K : PySem.W.Frag} {H : Hp} : ∀ {ds : List PyData} {ns : List Int} {vs : List V}, intsD ds = some ns → DqAll K H vs ds → vs = ns.map V.int
  | [], ns, vs, h, r => by cases h; cases r; rfl
  | .int i :: ds, ns, vs, h, r => by
    unfold intsD at h
    cases e : intsD ds with
    | none => rw [e] at h; cases h
    | some l =>
      rw [e] at h
      cases h
      cases r with
      | cons h1 h2 => cases h1; rw [intsD_at e h2]; rfl
def rGtT (K : PySem.W.Frag) : R2 := fun x y H Q => ∃ (a b : Addr) (ns ms : List Int), x = .ref a ∧ y = .ref b ∧ SqT K H a (ns.map V.int) ∧ SqT K H b (ms.map V.int) ∧
  Q (.bl (Ob.lexAt (fun j => decide (ns.getD j 0 = ms.getD j 0)) (fun j => decide (ms.getD j 0 < ns.getD j 0)) (decide (ms.length < ns.length)) 0 (min ns.length ms.length))) H
theorem op_gtT {X : Cx} (hu : X.A.units < cLine) : OpR X (compareOp .Gt) (rGtT X.K) := by
  intro pins s σ H x y v u Q I rx ry h
  obtain ⟨a, b, ns, ms, rfl, rfl, ha, hb, q⟩ := h
  cases rx
  cases ry
  obtain ⟨its, r1, p1, _⟩ := I.tuple ha
  obtain ⟨its2, r2, p2, _⟩ := I.tuple hb
  have i1 : IntsAre its ns := Vals.ints r1
  have i2 : IntsAre its2 ms := Vals.ints r2
  have e1 : its.toArray.size = ns.length := by rw [List.size_toArray]; exact i1.length
  have e2 : its2.toArray.size = ms.length := by rw [List.size_toArray]; exact i2.length
  have at1 : ∀ j (h1 : j < its.toArray.size), ∃ t, its.toArray[j] = .int (ns.getD j 0) t := fun j h1 => PyProof.Rows.IntsAre.int_at i1 _ _ (by simp at h1; simp [h1])
  have at2 : ∀ j (h1 : j < its2.toArray.size), ∃ t, its2.toArray[j] = .int (ms.getD j 0) t := fun j h1 => PyProof.Rows.IntsAre.int_at i2 _ _ (by simp at h1; simp [h1])
  have R := Ob.RcOp.tuples_gt (A := X.A) (s := s) (e := fun j => decide (ns.getD j 0 = ms.getD j 0)) (r := fun j => decide (ms.getD j 0 < ns.getD j 0)) p1 p2 hu (fun j h1 h2 => by
    obtain ⟨t, et⟩ := at1 j h1
    obtain ⟨t', et'⟩ := at2 j h2
    rw [et, et']
    have z : (ns.getD j 0 == ms.getD j 0) = decide (ns.getD j 0 = ms.getD j 0) := by
      by_cases q : ns.getD j 0 = ms.getD j 0
      · rw [decide_eq_true q]; exact beq_iff_eq.mpr q
      · rw [decide_eq_false q]; exact beq_eq_false_iff_ne.mpr q
    rw [← z]
    exact SeqAt.EqAt.int_int _ _ _ _) (fun j h1 h2 _ => by
    obtain ⟨t, et⟩ := at1 j h1
    obtain ⟨t', et'⟩ := at2 j h2
    rw [et, et']
    exact Ob.RcOp.gt_int _ _ _ _)
  rw [e1, e2] at R
  have z : wpAny (model X.prog X.w) X.A (compareOp .Gt (.ref a) (.ref b)) (EP X pins σ Q) X.xe s := R X.prog X.w X.xe (EP X pins σ Q) ⟨.bl _, H, I, rfl, q⟩
  exact z
def lexGt (ns ms : List Int) : Bool := Ob.lexAt (fun j => decide (ns.getD j 0 = ms.getD j 0)) (fun j => decide (ms.getD j 0 < ns.getD j 0)) (decide (ms.length < ns.length)) 0 (min ns.length ms.length)
def gGtT : PyData → PyData → Option PyData
  | .tuple xs, .tuple ys => match intsD xs, intsD ys with
    | some ns, some ms => some (.bool (lexGt ns ms))
    | _, _ => none
  | _, _ => none
theorem vo_gtT {K : PySem.W.Frag} {p1 p2 : Bool} : VO K p1 p2 (rGtT K) gGtT := by
  intro P H x y d e z Q su dx dy hg q
  unfold gGtT at hg
  split at hg
  · rename_i xs ys
    split at hg
    · rename_i ns ms h1 h2
      cases hg
      have dx := Dq.pick su dx
      have dy := Dq.pick su dy
      cases dx with
      | tup ha da =>
        cases dy with
        | tup hb db =>
          cases intsD_at h1 da
          cases intsD_at h2 db
          exact ⟨_, _, ns, ms, rfl, rfl, ha.sq, hb.sq, q.at su (.bl _)⟩
    · cases hg
  · cases hg
section
variable {X : Cx} {m m1 m2 p1 p2 : Bool} {a b : Expr} {pos : Pos} {fa fb : SE PyData}
theorem px_gtT {k : Nat} (hr : Room k X.A) (ha : PX X m1 p1 a fa) (hb : PX X m2 p2 b fb) (hf : p1 = true ∨ m2 = false) : PX X (m1 || m2) true (.Compare a [.Gt] [b] pos) (bin fa fb gGtT) := px_op2 (pe_cmpR (op_gtT (Nat.lt_of_succ_lt (hu_of hr))) ha hb (nomark _)) vo_gtT hf
theorem pt_gtT {k : Nat} (hr : Room k X.A) (ha : PX X m1 p1 a fa) (hb : PX X m2 p2 b fb) (hf : p1 = true ∨ m2 = false) : PXT X (m1 || m2) (.Compare a [.Gt] [b] pos) (toB (bin fa fb gGtT)) := pt_op2 (pt_cmpR (op_gtT (Nat.lt_of_succ_lt (hu_of hr))) ha hb (nomark _)) vo_gtT hf
end
theorem gGtT_pp {a b c d : Int} : gGtT (.tuple [.int a, .int b]) (.tuple [.int c, .int d]) = some (.bool (if a = c then decide (d < b) else decide (c < a))) := by
  have : lexGt [a, b] [c, d] = if a = c then decide (d < b) else decide (c < a) := by
    unfold lexGt
    show Ob.lexAt _ _ _ 0 2 = _
    rw [Ob.lexAt_succ, Ob.lexAt_succ, Ob.lexAt_zero]
    by_cases h1 : a = c
    · by_cases h2 : b = d
      · subst h1 h2; simp
      · subst h1; simp [h2]
    · simp [h1]
  show some (PyData.bool (lexGt [a, b] [c, d])) = _
  rw [this]
end Fw
namespace Fw
open PySem PySem.Spec L2
open PyProof.Rows hiding St
def binO (i : Nat) (fb : SE PyData) (g : PyData → PyData → Option PyData) : SE PyData := bnd (rdO i) fun _ => bnd fb fun e => bnd (rdO i) fun d => lft (g d e)
section
variable {X : Cx} {m m1 m2 p1 p2 : Bool} {e a b : Expr} {pos : Pos} {fa fb : SE PyData} {i : Nat}
theorem own_at {K : PySem.W.Frag} {vs0 : List V} {P H : Hp} {E : En} {σ : L2.St} {fps : Nat → List Addr} {xs : List PyData} (r : Rel K vs0 P E σ H fps) (h : E[i]? = some (.own xs)) : ∃ ad vs, σ[i]? = some (some (.ref ad)) ∧ H ad = some (.lst vs) ∧ DqAll K P vs xs := by
  obtain ⟨ov, e1, s⟩ := r.sl i _ h
  generalize hfp : fps i = fp at s
  cases s with
  | own pa ha dv => exact ⟨_, _, e1, ha, dv⟩
theorem px_op2O {r : R2} {g : PyData → PyData → Option PyData} (h : PE X e (tOp r (tVar i) (tX X.K m2 p2 fb))) (v : VO X.K false p2 r g) : PX X m2 true e (binO i fb g) := pe_imp h fun σ H Q => by
  rintro ⟨vs0, P, E, fps, d, E', rel, hh, q⟩
  obtain ⟨d0, E1, h0, hh1⟩ := bnd_some hh
  clear hh
  obtain ⟨xs0, g1, rfl, rfl⟩ := rdO_some h0
  obtain ⟨d2, E2, h2, hh2⟩ := bnd_some hh1
  clear hh1
  obtain ⟨d1, E3, h1, hh3⟩ := bnd_some hh2
  clear hh2
  obtain ⟨xs, g2, rfl, rfl⟩ := rdO_some h1
  obtain ⟨h3, rfl⟩ := lft_some hh3
  obtain ⟨ad, vs, e1, _, _⟩ := own_at rel g1
  refine ⟨_, e1, ⟨vs0, P, _, fps, d2, _, rel, h2, fun P2 H2 fps2 y r2 s2 m2' dy => ?_⟩⟩
  obtain ⟨ad2, vs2, e2, ha2, dv2⟩ := own_at r2 g2
  rw [e1] at e2
  cases e2
  refine v P2 H2 _ y (.list xs) d2 d Q r2.sub (.lst ha2 (dv2.mono r2.sub)) dy h3 fun P3 H3 w pp su hh fr dw => ?_
  exact q P3 H3 fps2 w (r2.alloc pp su hh fr) (s2.trans (.alloc pp hh fr)) (fun hm => (m2' hm).trans hh) dw
theorem pt_op2O {r : R2} {g : PyData → PyData → Option PyData} (h : PT X e (tTest (tOp r (tVar i) (tX X.K m2 p2 fb)))) (v : VO X.K false p2 r g) : PXT X m2 e (toB (binO i fb g)) := pt_imp h fun σ H Q => by
  rintro ⟨vs0, P, E, fps, d, E', rel, hh, q⟩
  have hz := toB_some hh
  clear hh
  have hh := hz
  clear hz
  obtain ⟨d0, E1, h0, hh1⟩ := bnd_some hh
  clear hh
  obtain ⟨xs0, g1, rfl, rfl⟩ := rdO_some h0
  obtain ⟨d2, E2, h2, hh2⟩ := bnd_some hh1
  clear hh1
  obtain ⟨d1, E3, h1, hh3⟩ := bnd_some hh2
  clear hh2
  obtain ⟨xs, g2, rfl, rfl⟩ := rdO_some h1
  obtain ⟨h3, rfl⟩ := lft_some hh3
  obtain ⟨ad, vs, e1, _, _⟩ := own_at rel g1
  refine ⟨_, e1, ⟨vs0, P, _, fps, d2, _, rel, h2, fun P2 H2 fps2 y r2 s2 m2' dy => ?_⟩⟩
  obtain ⟨ad2, vs2, e2, ha2, dv2⟩ := own_at r2 g2
  rw [e1] at e2
  cases e2
  refine v P2 H2 _ y (.list xs) d2 (.bool d) _ r2.sub (.lst ha2 (dv2.mono r2.sub)) dy h3 fun P3 H3 w pp su hh fr dw => ?_
  exact ⟨d, dq_bl dw, q P3 H3 fps2 (r2.alloc pp su hh fr) (s2.trans (.alloc pp hh fr)) (fun hm => (m2' hm).trans hh)⟩
theorem px_eqO {k : Nat} (hr : Room k X.A) (ha : PE X a (tVar i)) (hb : PX X m2 p2 b fb) : PX X m2 true (.Compare a [.Eq] [b] pos) (binO i fb gEq) := px_op2O (pe_cmpR (op_eq.or (op_eqD hr.units)) ha hb (nomark _)) vo_eq
theorem px_neO {k : Nat} (hr : Room k X.A) (ha : PE X a (tVar i)) (hb : PX X m2 p2 b fb) : PX X m2 true (.Compare a [.NotEq] [b] pos) (binO i fb gNe) := px_op2O (pe_cmpR (op_ne.or (op_neD hr.units)) ha hb (nomark _)) vo_ne
theorem pt_eqO {k : Nat} (hr : Room k X.A) (ha : PE X a (tVar i)) (hb : PX X m2 p2 b fb) : PXT X m2 (.Compare a [.Eq] [b] pos) (toB (binO i fb gEq)) := pt_op2O (pt_cmpR (op_eq.or (op_eqD hr.units)) ha hb (nomark _)) vo_eq
theorem pt_neO {k : Nat} (hr : Room k X.A) (ha : PE X a (tVar i)) (hb : PX X m2 p2 b fb) : PXT X m2 (.Compare a [.NotEq] [b] pos) (toB (binO i fb gNe)) := pt_op2O (pt_cmpR (op_ne.or (op_neD hr.units)) ha hb (nomark _)) vo_ne
theorem ok_binO {E : En} {g : PyData → PyData → Option PyData} {Q : PyData → En → Prop} : Ok (binO i fb g E) Q = Ok (rdO i E) fun _ E1 => Ok (fb E1) fun e E2 => Ok (rdO i E2) fun d E3 => OkV (g d e) fun z => Q z E3 := by
  unfold binO
  simp only [ok_bnd, ok_lft]
end
end Fw
namespace Fw
open PySem PySem.Spec L2
open PyProof.Rows hiding St
def slO (i : Nat) (fl fh : SE (Option Int)) : SE PyData := bnd (rdO i) fun _ => bnd fl fun lo => bnd fh fun hi => bnd (rdO i) fun d => lft (gSl d lo hi)
section
variable {X : Cx} {m m1 m2 m3 p1 p2 : Bool} {e a b : Expr} {pos : Pos} {fa fb : SE PyData} {i : Nat}
theorem px_slO {lo hi : Option Expr} {p2' : Pos} {fl fh : SE (Option Int)} (ha : PE X a (tVar i)) (hl : PXO X m2 lo fl) (hh : PXO X m3 hi fh) : PX X (m2 || m3) true (.Subscript a (.Slice lo hi none p2') pos) (slO i fl fh) := pe_imp (pe_slice sl_any3 ha hl hh) fun σ H Q => by
  rintro ⟨vs0, P, E, fps, d, E', rel, h0, q⟩
  obtain ⟨d0, E1, k1, hh1⟩ := bnd_some h0
  clear h0
  obtain ⟨xs0, g1, rfl, rfl⟩ := rdO_some k1
  obtain ⟨l, E2, k2, hh2⟩ := bnd_some hh1
  clear hh1
  obtain ⟨u, E3, k3, hh3⟩ := bnd_some hh2
  clear hh2
  obtain ⟨d1, E4, k4, hh4⟩ := bnd_some hh3
  clear hh3
  obtain ⟨xs, g2, rfl, rfl⟩ := rdO_some k4
  obtain ⟨h4, rfl⟩ := lft_some hh4
  cases h4
  obtain ⟨ad, vs, e1, _, _⟩ := own_at rel g1
  refine ⟨_, e1, ⟨vs0, P, _, fps, l, E2, rel, k2, fun P2 H2 fps2 r2 s2 m2' => ⟨vs0, P2, E2, fps2, u, _, r2, k3, fun P3 H3 fps3 r3 s3 m3' => ?_⟩⟩⟩
  obtain ⟨ad2, vs2, e2, ha2, dv2⟩ := own_at r3 g2
  rw [e1] at e2
  cases e2
  have fin : After X.K P3 H3 (.list (cutL xs l u)) Q := fun P4 H4 w pp su hh fr dw => by
    refine q P4 H4 fps3 w (r3.alloc pp su hh fr) ((s2.trans s3).trans (.alloc pp hh fr)) (fun hm => ?_) dw
    rw [Bool.or_eq_false_iff] at hm
    exact ((m2' hm.1).trans (m3' hm.2)).trans hh
  refine .inr (.inr ⟨ad, vs2, rfl, SqL.of ha2, fun p0 hp => ?_⟩)
  exact fin.new r3.sub hp (.lst upd_same ((cut_dq dv2 l u).mono (Fw.same_upd (sub_none r3.sub hp))))
theorem ok_slO {E : En} {fl fh : SE (Option Int)} {Q : PyData → En → Prop} : Ok (slO i fl fh E) Q = Ok (rdO i E) fun _ E1 => Ok (fl E1) fun lo E2 => Ok (fh E2) fun hi E3 => Ok (rdO i E3) fun d E4 => OkV (gSl d lo hi) fun z => Q z E4 := by
  unfold slO
  simp only [ok_bnd, ok_lft]
end
end Fw
namespace Fw
open PySem PySem.Spec L2
open PyProof.Rows hiding St
def keysL : List PyData → Option (List Key)
  | [] => some []
  | d :: ds => match keyOf d, keysL ds with
    | some k, some l => some (k :: l)
    | _, _ => none
def keyT : PyData → Option (List Key)
  | .tuple ds => if okC ds = true then none else keysL ds
  | _ => none
theorem keysL_dq {K : PySem.W.Frag} {H : Hp} : ∀ {ds : List PyData} {ks : List Key} {vs : List V}, keysL ds = some ks → DqAll K H vs ds → vs = ks.map kV
  | [], ks, vs, h, r => by cases h; cases r; rfl
  | d :: ds, ks, vs, h, r => by
    unfold keysL at h
    split at h
    · rename_i k l h1 h2
      cases h
      cases r with
      | cons a b => rw [keyOf_dq h1 a, keysL_dq h2 b]; rfl
    · cases h
theorem keyT_dq {K : PySem.W.Frag} {P H : Hp} {p : Bool} {y : V} {d : PyData} {ks : List Key} (su : Same P H) (h : keyT d = some ks) (dy : Dq K (pick p P H) y d) : ∃ b, y = .ref b ∧ H b = some (.tup (ks.map kV)) := by
  have dy := Dq.pick su dy
  unfold keyT at h
  split at h
  · rename_i ds
    split at h
    · cases h
    · rename_i ho
      cases dy with
      | @tup a xs _ hx hv =>
        rw [keysL_dq h hv] at hx
        exact ⟨_, rfl, hx.elim id fun z => absurd z.1 ho⟩
  · cases h
theorem Rel.ditAt {K : PySem.W.Frag} {vs0 : List V} {P H : Hp} {E : En} {σ : L2.St} {fps : Nat → List Addr} {i : Nat} {p : Path} {r : List (List Key × PyData)} {v : V} (rl : Rel K vs0 P E σ H fps) (hn : nodeAt i p E = some (.dit r)) (hw : walkS σ H i p = some v) :
    ∃ ad l, v = .ref ad ∧ P ad = none ∧ H ad = some (.dT l) ∧ DqKV K P l r := by
  obtain ⟨vn, fpn, w1, w2, _, _⟩ := rl.focus hn
  rw [hw] at w1
  cases w1
  cases w2 with
  | dit pa ha d => exact ⟨_, _, rfl, pa, ha, d⟩
theorem Rel.pokeT {K : PySem.W.Frag} {vs0 : List V} {P H : Hp} {E : En} {σ : L2.St} {fps : Nat → List Addr} {i : Nat} {p : Path} {r r' : List (List Key × PyData)} {ad : Addr} {l' : List (List Key × V)} (rl : Rel K vs0 P E σ H fps) (hn : nodeAt i p E = some (.dit r)) (hw : walkS σ H i p = some (.ref ad))
    (d : DqKV K P l' r') : ∃ fps', Rel K vs0 P (putAt i p (.dit r') E) σ (upd H ad (.dT l')) fps' ∧ Step (In fps) P H (In fps') P (upd H ad (.dT l')) :=
  rl.pokeP hn hw (fun fp t => by cases t with | dit _ _ _ => rfl) fun pa => .dit pa upd_same d
section
variable {X : Cx} {m m1 m2 m3 p1 p2 p3 : Bool} {e a b o c : Expr} {es : List Expr} {pos px apos pos' tpos : Pos} {f fa fb fk fv fd : SE PyData} {fs : SE (List PyData)} {i n k j : Nat} {p : Path} {C fl x : Str} {fc : SE Sl}
/-- d[k] -/
def dgtT (i : Nat) (p : Path) (fk : SE PyData) : SE PyData := fun E => match nodeAt i p E with
  | some (.dit _) => (match fk E with
    | some (d, E1) => (match keyT d, nodeAt i p E1 with
      | some k, some (.dit r) => (match valD r k with
        | some x => some (x, E1)
        | none => none)
      | _, _ => none)
    | none => none)
  | _ => none
theorem px_dgtT (hu : X.A.units + 1 < cLine) (ho : PP X i p o) (hb : PX X m p2 b fk) (hs : NoSl b := by exact fun _ _ => rfl) (hst : p = [] ∨ m = false := by first | exact .inl rfl | exact .inr rfl) : PX X m true (.Subscript o b pos) (dgtT i p fk) := pe_imp (pe_dget hu ho hb hs) fun σ H Q => by
  rintro ⟨vs0, P, E, fps, d, E', r, hf, q⟩
  unfold dgtT at hf
  split at hf
  · rename_i r0 e0
    split at hf
    · rename_i dk E1 e1
      split at hf
      · rename_i kk r1 e2 e3
        split at hf
        · rename_i x e4
          cases hf
          refine ⟨vs0, P, E, fps, _, r, e0, fun w hw => ⟨vs0, P, E, fps, dk, _, r, e1, fun P1 H1 fps1 y rl s1 m1' dy => ?_⟩⟩
          have hw1 := walkS_keep (hst.imp id m1') hw
          obtain ⟨ad, l, rfl, pa, ha, dl⟩ := rl.ditAt e3 hw1
          obtain ⟨b0, rfl, eb⟩ := keyT_dq rl.sub e2 dy
          rcases dl.val kk with ⟨v, d', g1, g2, g3⟩ | ⟨_, g2⟩
          · rw [e4] at g2
            cases g2
            exact ⟨ad, v, rfl, by rw [← g1]; exact DGet.t ha eb, q P1 H1 fps1 v rl s1 m1' g3⟩
          · rw [e4] at g2
            cases g2
        · cases hf
      · cases hf
    · cases hf
  · cases hf
/-- k in d, k not in d -/
def dinT (neg : Bool) (i : Nat) (p : Path) (fk : SE PyData) : SE PyData := fun E => match fk E with
  | some (d, E1) => (match keyT d, nodeAt i p E1 with
    | some k, some (.dit r) => some (.bool (neg != (valD r k).isSome), E1)
    | _, _ => none)
  | none => none
theorem isSome_valT {K : PySem.W.Frag} {H : Hp} {l : List (List Key × V)} {r : List (List Key × PyData)} (h : DqKV K H l r) (k : List Key) : (valV l k).isSome = (valD r k).isSome := by
  rcases h.val k with ⟨v, d, g1, g2, _⟩ | ⟨g1, g2⟩ <;> rw [g1, g2] <;> rfl
theorem dinT_core {m : Bool} {neg : Bool} {σ : L2.St} {H : Hp} {Q : VK} (h : tX X.K m true (dinT neg i p fk) σ H Q) : tX X.K m p2 fk σ H fun y H1 => tP X.K i p σ H1 fun x H2 => ∃ a o, x = .ref a ∧ DGet H2 a y o ∧ Q (.bl (neg != o.isSome)) H2 := by
  obtain ⟨vs0, P, E, fps, d, E', r, hf, q⟩ := h
  unfold dinT at hf
  split at hf
  · rename_i dk E1 e1
    split at hf
    · rename_i kk r1 e2 e3
      cases hf
      refine ⟨vs0, P, E, fps, dk, _, r, e1, fun P1 H1 fps1 y rl s1 m1' dy => ⟨vs0, P1, _, fps1, _, rl, e3, fun w hw => ?_⟩⟩
      obtain ⟨ad, l, rfl, pa, ha, dl⟩ := rl.ditAt e3 hw
      obtain ⟨b0, rfl, eb⟩ := keyT_dq rl.sub e2 dy
      refine ⟨ad, _, rfl, DGet.t ha eb, ?_⟩
      rw [isSome_valT dl]
      exact q P1 H1 fps1 _ rl s1 m1' (.bl _)
    · cases hf
  · cases hf
theorem px_dinT (hu : X.A.units + 1 < cLine) (hb : PX X m p2 b fk) (ho : PP X i p o) (h1 : behindInMarks .In o = false := by first | exact nobehind _ (by decide) (by decide) | rfl) : PX X m true (.Compare b [.In] [o] pos) (dinT false i p fk) := pe_imp (pe_cmp (pc_din hu hb ho) h1) fun σ H Q h => by
  have := dinT_core (p2 := p2) h
  simp only [bnef] at this
  exact this
theorem px_dninT (hu : X.A.units + 1 < cLine) (hb : PX X m p2 b fk) (ho : PP X i p o) (h1 : behindInMarks .NotIn o = false := by first | exact nobehind _ (by decide) (by decide) | rfl) : PX X m true (.Compare b [.NotIn] [o] pos) (dinT true i p fk) := pe_imp (pe_cmp (pc_dnotin hu hb ho) h1) fun σ H Q h => by
  have := dinT_core (p2 := p2) h
  simp only [bnet] at this
  exact this
theorem pt_dinT (hu : X.A.units + 1 < cLine) (hb : PX X m p2 b fk) (ho : PP X i p o) (h1 : behindInMarks .In o = false := by first | exact nobehind _ (by decide) (by decide) | rfl) : PXT X m (.Compare b [.In] [o] pos) (toB (dinT false i p fk)) := pt_imp (pt_cmp (pc_din hu hb ho) h1) fun σ H Q => by
  rintro ⟨vs0, P, E, fps, d, E', r, hf, q⟩
  have hf := toB_some hf
  have := dinT_core (p2 := p2) (σ := σ) (Q := fun v H' => ∃ b : Bool, v = .bl b ∧ Q b H') ⟨vs0, P, E, fps, _, E', r, hf, fun P' H' fps' v r' st sm dv => ⟨d, dq_bl dv, q P' H' fps' r' st sm⟩⟩
  simp only [bnef] at this
  exact this
theorem pt_dninT (hu : X.A.units + 1 < cLine) (hb : PX X m p2 b fk) (ho : PP X i p o) (h1 : behindInMarks .NotIn o = false := by first | exact nobehind _ (by decide) (by decide) | rfl) : PXT X m (.Compare b [.NotIn] [o] pos) (toB (dinT true i p fk)) := pt_imp (pt_cmp (pc_dnotin hu hb ho) h1) fun σ H Q => by
  rintro ⟨vs0, P, E, fps, d, E', r, hf, q⟩
  have hf := toB_some hf
  have := dinT_core (p2 := p2) (σ := σ) (Q := fun v H' => ∃ b : Bool, v = .bl b ∧ Q b H') ⟨vs0, P, E, fps, _, E', r, hf, fun P' H' fps' v r' st sm dv => ⟨d, dq_bl dv, q P' H' fps' r' st sm⟩⟩
  simp only [bnet] at this
  exact this
/-- d[k] = v -/
def dptT (i : Nat) (p : Path) (fk fv : SE PyData) : SS := fun E => match fv E with
  | some (d, E1) => (match nodeAt i p E1 with
    | some (.dit _) => (match fk E1 with
      | some (kd, E2) => (match keyT kd, nodeAt i p E2 with
        | some k, some (.dit r) => if r.length < sizeLine then some (.nx, putAt i p (.dit (putD r k d)) E2) else none
        | _, _ => none)
      | none => none)
    | _ => none)
  | none => none
theorem pxs_dptT (hu : X.A.units + 1 < cLine) (ho : PP X i p o) (hb : PX X m p2 b fk) (hv : PX X m2 true e fv) (hs : swapsWith e (some (.Subscript o b pos')) pos.line X.env = pure false := by rfl) (hst : p = [] ∨ m = false := by first | exact .inl rfl | exact .inr rfl) :
    PXS1 X n (.Assign [.Subscript o b pos'] e pos) (dptT i p fk fv) := ps_imp (ps_dput hu ho hb hv hs) fun D σ H => by
  rintro ⟨vs0, P, E, fps, fl', E', hn, r, hf, q⟩
  unfold dptT at hf
  split at hf
  · rename_i d E1 e1
    split at hf
    · rename_i r0 e0
      split at hf
      · rename_i kd E2 e2
        split at hf
        · rename_i kk r1 e3 e4
          split at hf
          · rename_i hl
            cases hf
            refine ⟨vs0, P, E, fps, d, E1, r, e1, fun P1 H1 fps1 v rl1 s1 m1' dv => ⟨vs0, P1, E1, fps1, _, rl1, e0, fun w hw => ⟨vs0, P1, E1, fps1, kd, E2, rl1, e2, fun P2 H2 fps2 y rl2 s2 m2' dy => ?_⟩⟩⟩
            have hw2 := walkS_keep (hst.imp id m2') hw
            obtain ⟨ad, l, rfl, pa, ha, dl⟩ := rl2.ditAt e4 hw2
            obtain ⟨b0, rfl, eb⟩ := keyT_dq rl2.sub e3 dy
            obtain ⟨fps3, g1, g2⟩ := rl2.pokeT e4 hw2 (dl.put kk (dv.mono s2.pp))
            exact ⟨ad, _, rfl, DPut.t ha eb (by rw [dl.length]; exact hl), q _ _ _ _ g1 ((s1.trans s2).trans g2)⟩
          · cases hf
        · cases hf
      · cases hf
    · cases hf
  · cases hf
/-- d.get(k, x) -/
def dgxT (i : Nat) (p : Path) (fk fd : SE PyData) : SE PyData := fun E => match nodeAt i p E with
  | some (.dit _) => (match fk E with
    | some (d, E1) => (match fd E1 with
      | some (z, E2) => (match keyT d, nodeAt i p E2 with
        | some k, some (.dit r) => some ((valD r k).getD z, E2)
        | _, _ => none)
      | none => none)
    | none => none)
  | _ => none
theorem px_dgxT (hu : X.A.units + 1 < cLine) (ho : PP X i p o) (hb : PX X m true b fk) (hc : PX X m2 true c fd) (hm : M2 X o "get" apos b c pos := by exact ⟨rfl, rfl, rfl, rfl⟩) (hst : p = [] ∨ (m = false ∧ m2 = false) := by first | exact .inl rfl | exact .inr ⟨rfl, rfl⟩) : PX X (m || m2) true (.Call (.Attribute o "get" apos) [b, c] [] pos) (dgxT i p fk fd) := pe_imp (pe_dget2 hu ho hb hc hm) fun σ H Q => by
  rintro ⟨vs0, P, E, fps, d, E', r, hf, q⟩
  unfold dgxT at hf
  split at hf
  · rename_i r0 e0
    split at hf
    · rename_i dk E1 e1
      split at hf
      · rename_i z E2 e5
        split at hf
        · rename_i kk r1 e2 e3
          cases hf
          refine ⟨vs0, P, E, fps, _, r, e0, fun w hw => ?_⟩
          obtain ⟨ad0, l0, rfl, _, ha0, _⟩ := r.ditAt e0 hw
          refine ⟨ad0, rfl, .inr ⟨l0, .inl ha0⟩, vs0, P, E, fps, dk, _, r, e1, fun P1 H1 fps1 y rl1 s1 m1' dy => ⟨vs0, P1, _, fps1, z, _, rl1, e5, fun P2 H2 fps2 u rl s2 m2' du => ?_⟩⟩
          have hw1 := walkS_keep (hst.imp id fun h => (m1' h.1).trans (m2' h.2)) hw
          obtain ⟨ad, l, ea, pa, ha, dl⟩ := rl.ditAt e3 hw1
          cases ea
          have dy : Dq X.K (pick true P1 H1) y dk := dy
          obtain ⟨b0, rfl, eb⟩ := keyT_dq (p := true) (Same.refl P2) e2 (Dq.mono s2.pp dy)
          refine ⟨_, DGet.t ha (rl.sub _ _ eb), ?_⟩
          have mm : (m || m2) = false → Same H H2 := fun hm => by
            rw [Bool.or_eq_false_iff] at hm
            exact (m1' hm.1).trans (m2' hm.2)
          rcases dl.val kk with ⟨v, d', g1, g2, g3⟩ | ⟨g1, g2⟩
          · rw [g1]
            rw [g2] at q
            exact q P2 H2 fps2 v rl (s1.trans s2) mm g3
          · rw [g1]
            rw [g2] at q
            exact q P2 H2 fps2 u rl (s1.trans s2) mm du
        · cases hf
      · cases hf
    · cases hf
  · cases hf
/-- {} -/
def newT : SE Sl := ret (.tr (.dit []))
theorem pxc_newT : PXC X true (.Dict [] [] pos) newT := pe_imp pe_dnewT fun σ H Q => by
  rintro ⟨vs0, P, E, fps, d, E', r, hf, q⟩
  obtain ⟨rfl, rfl⟩ := ret_some hf
  intro z hz
  have s1 : Same H (upd H z (.dT [])) := Fw.same_upd hz
  have pz := sub_none r.sub hz
  refine q P (upd H z (.dT [])) fps (.ref z) [z] (r.keep (Same.refl P) (r.sub.trans s1) fun b hb => ?_) ⟨Same.refl P, fun a o h _ => s1 a o h, .same, fun a h => ?_, fun a o h => ⟨o, s1 a o h⟩⟩ (fun h => nomatch h) (.tr (.dit pz upd_same .nil)) fun a h hb => ?_
  · obtain ⟨pn, o, ho⟩ := r.foot hb
    exact ⟨(s1 b o ho).trans ho.symm, pn⟩
  · rcases h with h | h
    · exact .inl h
    · cases List.mem_singleton.mp h
      exact .inr hz
  · cases List.mem_singleton.mp h
    obtain ⟨_, o, ho⟩ := r.foot hb
    rw [hz] at ho
    cases ho
end
section
variable {fk fv fd : SE PyData} {i : Nat} {p : Path} {E : En} {Q : Fl → En → Prop} {QD : PyData → En → Prop} {QS : Sl → En → Prop}
theorem ok_newT : Ok (newT E) QS = QS (.tr (.dit [])) E := ok_ret
/-- the dict at a place -/
def ditAt (i : Nat) (p : Path) (E : En) : Option (List (List Key × PyData)) := match nodeAt i p E with
  | some (.dit r) => some r
  | _ => none
theorem ok_dgtT : Ok (dgtT i p fk E) QD = ((ditAt i p E).isSome = true ∧ Ok (fk E) fun d E1 => OkV (keyT d) fun k => OkV (ditAt i p E1) fun r => OkV (valD r k) fun x => QD x E1) := by
  unfold dgtT ditAt
  cases h0 : nodeAt i p E with
  | none => rw [ok_none]; exact propext ⟨False.elim, fun x => nomatch x.1⟩
  | some t =>
    cases t with
    | dit r0 =>
      dsimp only
      rw [show ∀ Z : Prop, ((some r0).isSome = true ∧ Z) = Z from fun Z => propext ⟨fun x => x.2, fun x => ⟨rfl, x⟩⟩]
      cases fk E with
      | none => exact ok_none.trans ok_none.symm
      | some r =>
        obtain ⟨d, E1⟩ := r
        rw [ok_some]
        dsimp only
        cases keyT d with
        | none => exact ok_none.trans okV_none.symm
        | some k =>
          rw [okV_some]
          cases nodeAt i p E1 with
          | none => exact ok_none.trans okV_none.symm
          | some n =>
            cases n with
            | dit r =>
              dsimp only
              rw [okV_some]
              cases valD r k with
              | none => exact ok_none.trans okV_none.symm
              | some x => rw [okV_some]; exact ok_some
            | _ => exact ok_none.trans okV_none.symm
    | _ => rw [ok_none]; exact propext ⟨False.elim, fun x => nomatch x.1⟩
theorem ok_dinT {neg : Bool} : Ok (dinT neg i p fk E) QD = Ok (fk E) fun d E1 => OkV (keyT d) fun k => OkV (ditAt i p E1) fun r => QD (.bool (neg != (valD r k).isSome)) E1 := by
  unfold dinT ditAt
  cases fk E with
  | none => exact ok_none.trans ok_none.symm
  | some r =>
    obtain ⟨d, E1⟩ := r
    rw [ok_some]
    dsimp only
    cases keyT d with
    | none => exact ok_none.trans okV_none.symm
    | some k =>
      rw [okV_some]
      cases nodeAt i p E1 with
      | none => exact ok_none.trans okV_none.symm
      | some n =>
        cases n with
        | dit r => dsimp only; rw [okV_some]; exact ok_some
        | _ => exact ok_none.trans okV_none.symm
theorem ok_dptT : Ok (dptT i p fk fv E) Q = Ok (fv E) fun d E1 => (ditAt i p E1).isSome = true ∧ Ok (fk E1) fun kd E2 => OkV (keyT kd) fun k => OkV (ditAt i p E2) fun r => r.length < sizeLine ∧ Q .nx (putAt i p (.dit (putD r k d)) E2) := by
  unfold dptT ditAt
  cases fv E with
  | none => exact ok_none.trans ok_none.symm
  | some r =>
    obtain ⟨d, E1⟩ := r
    rw [ok_some]
    dsimp only
    cases nodeAt i p E1 with
    | none => rw [ok_none]; exact propext ⟨False.elim, fun x => nomatch x.1⟩
    | some t =>
      cases t with
      | dit r0 =>
        dsimp only
        rw [show ∀ Z : Prop, ((some r0).isSome = true ∧ Z) = Z from fun Z => propext ⟨fun x => x.2, fun x => ⟨rfl, x⟩⟩]
        cases fk E1 with
        | none => exact ok_none.trans ok_none.symm
        | some r =>
          obtain ⟨kd, E2⟩ := r
          rw [ok_some]
          dsimp only
          cases keyT kd with
          | none => exact ok_none.trans okV_none.symm
          | some k =>
            rw [okV_some]
            cases nodeAt i p E2 with
            | none => exact ok_none.trans okV_none.symm
            | some n =>
              cases n with
              | dit r =>
                dsimp only
                rw [okV_some]
                by_cases h : r.length < sizeLine
                · rw [if_pos h, ok_some]
                  exact propext ⟨fun x => ⟨h, x⟩, fun x => x.2⟩
                · rw [if_neg h, ok_none]
                  exact propext ⟨False.elim, fun x => h x.1⟩
              | _ => exact ok_none.trans okV_none.symm
      | _ => rw [ok_none]; exact propext ⟨False.elim, fun x => nomatch x.1⟩
theorem ok_dgxT : Ok (dgxT i p fk fd E) QD = ((ditAt i p E).isSome = true ∧ Ok (fk E) fun d E1 => Ok (fd E1) fun z E2 => OkV (keyT d) fun k => OkV (ditAt i p E2) fun r => QD ((valD r k).getD z) E2) := by
  unfold dgxT ditAt
  cases h0 : nodeAt i p E with
  | none => rw [ok_none]; exact propext ⟨False.elim, fun x => nomatch x.1⟩
  | some t =>
    cases t with
    | dit r0 =>
      dsimp only
      rw [show ∀ Z : Prop, ((some r0).isSome = true ∧ Z) = Z from fun Z => propext ⟨fun x => x.2, fun x => ⟨rfl, x⟩⟩]
      cases fk E with
      | none => exact ok_none.trans ok_none.symm
      | some r =>
        obtain ⟨d, E1⟩ := r
        rw [ok_some]
        dsimp only
        cases fd E1 with
        | none => exact ok_none.trans ok_none.symm
        | some r =>
          obtain ⟨z, E2⟩ := r
          rw [ok_some]
          dsimp only
          cases keyT d with
          | none => exact ok_none.trans okV_none.symm
          | some k =>
            rw [okV_some]
            cases nodeAt i p E2 with
            | none => exact ok_none.trans okV_none.symm
            | some n =>
              cases n with
              | dit r => dsimp only; rw [okV_some]; exact ok_some
              | _ => exact ok_none.trans okV_none.symm
    | _ => rw [ok_none]; exact propext ⟨False.elim, fun x => nomatch x.1⟩
end
theorem keyT_pair {a b : Int} : keyT (.tuple [.int a, .int b]) = some [.inl a, .inl b] := rfl
end Fw
namespace Fw
open PySem PySem.Spec L2
open PyProof.Rows hiding St
mutual
def rawN : PyData → Option NestedKey
  | .int i => some (.num i)
  | .tuple ds => match rawNs ds with | some ks => some (.tup ks) | none => none
  | _ => none
def rawNs : List PyData → Option (List NestedKey)
  | [] => some []
  | d :: ds => match rawN d with | some k => (match rawNs ds with | some ks => some (k :: ks) | none => none) | none => none
end
mutual
theorem rawN_ok : ∀ {d : PyData} {k : NestedKey}, rawN d = some k → k.data = d ∧ flatN k = true
  | .int i, k, h => by unfold rawN at h; cases h; exact ⟨rfl, rfl⟩
  | .tuple ds, k, h => by
    unfold rawN at h
    split at h
    · rename_i ks e
      cases h
      obtain ⟨h1, h2⟩ := rawNs_ok e
      exact ⟨by unfold NestedKey.data; rw [h1], by unfold flatN; exact h2⟩
    · cases h
  | .none, _, h => by simp [rawN] at h
  | .bool _, _, h => by simp [rawN] at h
  | .str _, _, h => by simp [rawN] at h
  | .list _, _, h => by simp [rawN] at h
theorem rawNs_ok : ∀ {ds : List PyData} {ks : List NestedKey}, rawNs ds = some ks → NestedKey.datas ks = ds ∧ flatNs ks = true
  | [], ks, h => by unfold rawNs at h; cases h; exact ⟨rfl, rfl⟩
  | d :: ds, ks, h => by
    unfold rawNs at h
    split at h
    · rename_i k e
      split at h
      · rename_i ks' e2
        cases h
        obtain ⟨h1, h2⟩ := rawN_ok e
        obtain ⟨h3, h4⟩ := rawNs_ok e2
        exact ⟨by unfold NestedKey.datas; rw [h1, h3], by unfold flatNs; rw [h2, h4]; rfl⟩
      · cases h
    · cases h
end
def keyN : PyData → Option NestedKey
  | .tuple ds => match rawN (.tuple ds) with | some k => if k.depth ≤ 8 then some k else none | none => none
  | _ => none
theorem keyN_ok {d : PyData} {k : NestedKey} (h : keyN d = some k) : k.data = d ∧ flatN k = true ∧ k.depth ≤ 8 ∧ ∃ ds, d = .tuple ds := by
  unfold keyN at h
  split at h
  · split at h
    · rename_i e
      split at h
      · rename_i hd
        cases h
        obtain ⟨h1, h2⟩ := rawN_ok e
        exact ⟨h1, h2, hd, _, rfl⟩
      · cases h
    · cases h
  · cases h
section
variable {X : Cx} {pins : List (Addr × Obj)} {σ : St} {P H : Hp} {s : Shared}
mutual
theorem nested_of (I : Inv X pins σ H s) (su : Same P H) : ∀ {k : NestedKey} {v : V} {u : Value}, flatN k = true → Dq X.K P v k.data → RelV v u → NestedIs s.heap k u
  | .none, _, _, h, _, _ => by cases h
  | .text _, _, _, h, _, _ => by cases h
  | .num i, v, u, _, d, r => by
    unfold NestedKey.data at d
    cases d
    obtain ⟨t, rfl⟩ := r
    exact .int i t
  | .tup ks, v, u, h, d, r => by
    unfold NestedKey.data at d
    unfold flatN at h
    cases d with
    | @tup a xs _ hs hd =>
      cases r
      rcases hs with e | ⟨_, o, its, n, hk, hc, hdt, hz, rv⟩
      · obtain ⟨_, its, rv, ob, h1, h2, n, h3⟩ := (show ObjOk X.prog X.w H s.heap a (.tup xs) from I.hok a _ (su _ _ e))
        exact .tup h1 h2 h3 (by simpa using nesteds_of I su h hd rv)
      · exact .tup (I.kIn a o hk) hc hdt (nesteds_of I su h hd rv)
theorem nesteds_of (I : Inv X pins σ H s) (su : Same P H) : ∀ {ks : List NestedKey} {vs : List V} {us : List Value}, flatNs ks = true → DqAll X.K P vs (NestedKey.datas ks) → Vals vs us → NestedAll s.heap ks us
  | [], _, _, _, d, r => by
    unfold NestedKey.datas at d
    cases d
    cases r
    exact .nil
  | k :: ks, _, _, h, d, r => by
    unfold NestedKey.datas at d
    unfold flatNs at h
    rw [Bool.and_eq_true] at h
    cases d with
    | cons d1 d2 =>
      cases r with
      | cons r1 r2 => exact .cons (nested_of I su h.1 d1 r1) (nesteds_of I su h.2 d2 r2)
end
theorem key_is (I : Inv X pins σ H s) (su : Same P H) {x : NestedKey × Addr × V} (h : KeyOk X.K P x) : (nestedKind X.prog X.w).is s.heap x.1 x.2.1 := ⟨nested_of I su h.2.1 h.1 rfl, h.2.2⟩
end
def putN (l : List (NestedKey × Addr × V)) (k : NestedKey) (b : Addr) (v : V) : List (NestedKey × Addr × V) :=
  if (l.any fun x => decide (x.1 = k)) = true then l.map (fun x => if x.1 = k then (x.1, x.2.1, v) else x) else l ++ [(k, b, v)]
def dropN (l : List (NestedKey × Addr × V)) (k : NestedKey) : List (NestedKey × Addr × V) := l.filter fun x => decide (x.1 ≠ k)
theorem any_prN (l : List (NestedKey × Addr × V)) (k : NestedKey) : ((prN l).any fun kv => decide (kv.1 = k)) = l.any fun x => decide (x.1 = k) := by
  rw [List.any_map]
  rfl
theorem prN_put (l : List (NestedKey × Addr × V)) (k : NestedKey) (b : Addr) (v : V) : prN (putN l k b v) = putK (prN l) k v := by
  unfold putN putK
  rw [any_prN]
  split
  · show List.map _ (List.map _ l) = List.map _ (List.map _ l)
    rw [List.map_map, List.map_map]
    refine List.map_congr_left fun x _ => ?_
    by_cases h : x.1 = k <;> simp [h]
  · simp
theorem prN_drop (l : List (NestedKey × Addr × V)) (k : NestedKey) : prN (dropN l k) = dropK (prN l) k := by
  unfold dropN dropK
  rw [List.filter_map]
  rfl
theorem putN_mem {l : List (NestedKey × Addr × V)} {k : NestedKey} {b : Addr} {v : V} {x : NestedKey × Addr × V} (h : x ∈ putN l k b v) : (∃ y ∈ l, x.1 = y.1 ∧ x.2.1 = y.2.1) ∨ (x.1 = k ∧ x.2.1 = b) := by
  unfold putN at h
  split at h
  · obtain ⟨y, hy, rfl⟩ := List.mem_map.mp h
    refine .inl ⟨y, hy, ?_⟩
    split <;> exact ⟨rfl, rfl⟩
  · rcases List.mem_append.mp h with h | h
    · exact .inl ⟨x, h, rfl, rfl⟩
    · cases List.mem_singleton.mp h
      exact .inr ⟨rfl, rfl⟩
theorem length_putN (l : List (NestedKey × Addr × V)) (k : NestedKey) (b : Addr) (v : V) : (putN l k b v).length ≤ l.length + 1 := by
  unfold putN
  split
  · rw [List.length_map]; omega
  · rw [List.length_append]; exact Nat.le_refl _
theorem nodup_putN {l : List (NestedKey × Addr × V)} {k : NestedKey} {b : Addr} {v : V} (h : (l.map (·.1)).Nodup) : ((putN l k b v).map (·.1)).Nodup := by
  unfold putN
  split
  · rw [List.map_map]
    have : ((fun x : NestedKey × Addr × V => x.1) ∘ fun x => if x.1 = k then (x.1, x.2.1, v) else x) = fun x => x.1 := by
      funext x
      show (if x.1 = k then (x.1, x.2.1, v) else x).1 = x.1
      split <;> rfl
    rw [this]
    exact h
  · rename_i hn
    rw [List.map_append, List.nodup_append]
    refine ⟨h, List.nodup_cons.mpr ⟨(fun h => nomatch h), List.nodup_nil⟩, fun a ha c hc e => hn ?_⟩
    cases List.mem_singleton.mp hc
    obtain ⟨x, hx, hx2⟩ := List.mem_map.mp ha
    exact List.any_eq_true.mpr ⟨x, hx, decide_eq_true (hx2.trans e)⟩
theorem nodup_dropN {l : List (NestedKey × Addr × V)} {k : NestedKey} (h : (l.map (·.1)).Nodup) : ((dropN l k).map (·.1)).Nodup :=
  List.Nodup.sublist (List.Sublist.map _ List.filter_sublist) h
theorem NX.length {l : List (NestedKey × Addr × V)} {xs : List (NestedKey × Addr × Value)} (h : NX l xs) : l.length = xs.length := Paired.length h
theorem NX.keys {l : List (NestedKey × Addr × V)} {xs : List (NestedKey × Addr × Value)} (h : NX l xs) : l.map (·.1) = xs.map (·.1) := by
  unfold NX at h
  induction h with
  | nil => rfl
  | cons r _ ih => rw [List.map_cons, List.map_cons, ih, r.1]
theorem NX.val {l : List (NestedKey × Addr × V)} {xs : List (NestedKey × Addr × Value)} (h : NX l xs) (k : NestedKey) : RelO (valV (prN l) k) (valueAt (pairsH xs) k) := by
  unfold NX at h
  rw [valueAt_pairsH]
  induction h with
  | nil => exact True.intro
  | @cons p q ps qs h t ih =>
    obtain ⟨h1, _, h2⟩ := h
    by_cases e : p.1 = k
    · have e' : q.1 = k := h1.symm.trans e
      have b : atKey (q :: qs) k = some q.2 := by simp [atKey, List.find?_cons, e']
      rw [show valV (prN (p :: ps)) k = some p.2.2 from valV_pos (p := (p.1, p.2.2)) e, b]
      exact h2
    · have e' : ¬ q.1 = k := fun z => e (h1.trans z)
      have b : atKey (q :: qs) k = atKey qs k := by simp [atKey, List.find?_cons, e']
      rw [show valV (prN (p :: ps)) k = valV (prN ps) k from valV_neg (p := (p.1, p.2.2)) e, b]
      exact ih
theorem NX.any {l : List (NestedKey × Addr × V)} {xs : List (NestedKey × Addr × Value)} (h : NX l xs) (k : NestedKey) : (l.any fun x => decide (x.1 = k)) = (atKey xs k).isSome := by
  have q := (h.val k).isSome_eq
  rw [valueAt_pairsH, Option.isSome_map] at q
  rw [← q, ← valV_any, any_prN]
theorem NX.put {l : List (NestedKey × Addr × V)} {xs : List (NestedKey × Addr × Value)} (h : NX l xs) (k : NestedKey) (b : Addr) {v : V} {u : Value} (r : RelV v u) : NX (putN l k b v) (storedH xs k b u) := by
  unfold putN storedH
  rw [h.any k]
  split
  · unfold NX at h ⊢
    rename_i hh
    clear hh
    induction h with
    | nil => exact .nil
    | @cons p q ps qs h t ih =>
      rw [List.map_cons, List.map_cons]
      refine .cons ?_ ih
      obtain ⟨h1, h2, h3⟩ := h
      unfold PySem.putAt
      by_cases e : p.1 = k
      · rw [if_pos e, if_pos (h1.symm.trans e)]; exact ⟨h1, h2, r⟩
      · rw [if_neg e, if_neg (fun z => e (h1.trans z))]; exact ⟨h1, h2, h3⟩
  · exact Paired.snoc h ⟨rfl, rfl, r⟩
theorem NX.drop {l : List (NestedKey × Addr × V)} {xs : List (NestedKey × Addr × Value)} (h : NX l xs) (k : NestedKey) : NX (dropN l k) (withoutH xs k) := by
  unfold NX at h ⊢
  unfold dropN withoutH
  induction h with
  | nil => exact .nil
  | @cons p q ps qs h t ih =>
    obtain ⟨h1, h2⟩ := h
    rw [List.filter_cons, List.filter_cons]
    by_cases e : p.1 = k
    · have a : ¬ decide (p.1 ≠ k) = true := by simp [e]
      have b : ¬ decide (q.1 ≠ k) = true := by simp [h1.symm.trans e]
      rw [if_neg a, if_neg b]; exact ih
    · have e' : ¬ q.1 = k := fun z => e (h1.trans z)
      have a : decide (p.1 ≠ k) = true := by simp [e]
      have b : decide (q.1 ≠ k) = true := by simp [e']
      rw [if_pos a, if_pos b]; exact .cons ⟨h1, h2⟩ ih
section
variable {X : Cx} {pins : List (Addr × Obj)} {σ : St} {P H : Hp} {s : Shared} {a : Addr} {l : List (NestedKey × Addr × V)}
/-- what is known of such a dict at a place -/
structure NAt (X : Cx) (P H : Hp) (a : Addr) (l : List (NestedKey × Addr × V)) : Prop where
  at_ : H a = some (.ext (NDic a l))
  su : Same P H
  keys : ∀ x ∈ l, KeyOk X.K P x
theorem NAt.dict (n : NAt X P H a l) (I : Inv X pins σ H s) : (a == sysModules) = false ∧ l.length ≤ sizeLine ∧ ∃ xs, NX l xs ∧ s.heap.DictOfH (nestedKind X.prog X.w) a xs := by
  obtain ⟨⟨hd, hz, hn, hf, o, es, ep, xs, w, ho, hx, hdt, nx, he⟩, _⟩ := (show ObjOk X.prog X.w H s.heap a (.ext (NDic a l)) from I.hok a _ n.at_)
  refine ⟨hd, hz, xs, nx, o, es, ep, ho, hx, hdt, ?_, fun x hx => ?_, by rw [← nx.keys]; exact hn⟩
  · rw [he]
    refine List.map_congr_left fun x hx => ?_
    have : flatN x.1 = true := by
      obtain ⟨y, hy, e⟩ : ∃ y ∈ l, y.1 = x.1 := by
        have : x.1 ∈ l.map (·.1) := by rw [nx.keys]; exact List.mem_map_of_mem hx
        obtain ⟨y, hy, e⟩ := List.mem_map.mp this
        exact ⟨y, hy, e⟩
      rw [← e]
      exact hf y hy
    unfold entryOfKey
    show (⟨x.1.hash w, _, _⟩ : DictEntry) = ⟨x.1.hash X.w, _, _⟩
    rw [flatN_hash (w := w) (w' := X.w) x.1 this]
  · have all : ∀ {l : List (NestedKey × Addr × V)} {m : List (NestedKey × Addr × Value)}, NX l m → (∀ x ∈ l, KeyOk X.K P x) → ∀ x ∈ m, (nestedKind X.prog X.w).is s.heap x.1 x.2.1 := by
      intro l m q
      unfold NX at q
      induction q with
      | nil => intro _ x hx; exact nomatch hx
      | @cons p q ps qs hq t ih =>
        intro hk x hx
        rcases List.mem_cons.mp hx with e | hx
        · subst e
          have := key_is I n.su (hk p List.mem_cons_self)
          rw [hq.1, hq.2.1] at this
          exact this
        · exact ih (fun y hy => hk y (List.mem_cons_of_mem _ hy)) x hx
    exact all nx n.keys x hx
/-- a new state of the dict -/
theorem ndic_new {h' : Heap} {H' : Hp} {xs : List (NestedKey × Addr × Value)} (hd : (a == sysModules) = false) (hz : l.length ≤ sizeLine) (hf : ∀ x ∈ l, flatN x.1 = true) (nx : NX l xs) (dd : h'.DictOfH (nestedKind X.prog X.w) a xs) : ObjOk X.prog X.w H' h' a (.ext (NDic a l)) := by
  obtain ⟨o, es, ep, ho, hx, hdt, he, _, hn⟩ := dd
  refine ⟨⟨hd, hz, by rw [nx.keys]; exact hn, hf, o, es, ep, xs, X.w, ho, hx, hdt, nx, he⟩, ⟨o, ho⟩, fun h1 h2 p k => ?_⟩
  obtain ⟨a1, a2, a3, a4, o, es, ep, xs, w, b1, b2⟩ := p
  exact ⟨a1, a2, a3, a4, o, es, ep, xs, w, k o b1, b2⟩
theorem NAt.typeIs (n : NAt X P H a l) (I : Inv X pins σ H s) : s.TypeIs (.ref a) "dict" ∧ ∀ b, Value.ref a = .ref b → ∃ ob, s.heap.get? b = some ob ∧ ob.dict = none := by
  obtain ⟨_, _, xs, _, dd⟩ := n.dict I
  refine ⟨dd.typeIs, fun b q => ?_⟩
  cases q
  obtain ⟨o, _, _, h1, h2, _⟩ := dd
  exact ⟨o, h1, h2.2.1⟩
variable {A : Around} {E : Value → Shared → Prop} {k : NestedKey} {b : Addr} {v d : V} {r : Value}
theorem n_get {Q : Value → Shared → Prop} (hu : A.units + 9 < cLine) (I : Inv X pins σ H s) (n : NAt X P H a l) (hk : KeyOk X.K P (k, b, V.non)) (g : valV (prN l) k = some v) (h : ∀ w' s', Inv X pins σ H s' → RelV v w' → Q w' s') :
    wpAny (model X.prog X.w) A (getItem (.ref a) (.ref b)) Q E s := by
  obtain ⟨hd, hz, xs, nx, dd⟩ := n.dict I
  obtain ⟨w', hw, rw'⟩ := RelO.some_of (v := v) (o := valueAt (pairsH xs) k) (by rw [← g]; exact nx.val k)
  exact getItem_keyed (knd := nestedKind X.prog X.w) (A := A) (show A.units + 1 + 8 < cLine by omega) (key_is I n.su hk) ⟨xs, dd, rfl⟩ hw (h _ _ (I.tok _) rw')
theorem n_get1 {Q : Value → Shared → Prop} (hu : A.units + 9 < cLine) (I : Inv X pins σ H s) (n : NAt X P H a l) (hk : KeyOk X.K P (k, b, V.non)) (h : ∀ w' s', Inv X pins σ H s' → RelV ((valV (prN l) k).getD .non) w' → Q w' s') :
    wpAny (model X.prog X.w) A (call (.builtin "dict.get") [.ref a, .ref b]) Q E s := by
  obtain ⟨hd, hz, xs, nx, dd⟩ := n.dict I
  exact get_keyed (knd := nestedKind X.prog X.w) (A := A) (show A.units + 1 + 8 < cLine by omega) (key_is I n.su hk) hd ⟨xs, dd, rfl⟩ (h _ _ (I.tok _) ((nx.val k).getD rfl))
theorem n_write {h' : Heap} {t' : Nat} {l' : List (NestedKey × Addr × V)} {xs' : List (NestedKey × Addr × Value)} (I : Inv X pins σ H s) (n : NAt X P H a l) (hs : Heap.SameBut a s.heap h') (hd : (a == sysModules) = false) (hz : l'.length ≤ sizeLine) (hf : ∀ x ∈ l', flatN x.1 = true) (nx : NX l' xs') (dd : h'.DictOfH (nestedKind X.prog X.w) a xs') :
    Inv X pins σ (upd H a (.ext (NDic a l'))) { s with heap := h', toks := t' } :=
  d_write I (by rw [n.at_]; exact True.intro) hs (let ⟨o, _, _, ho, _⟩ := dd; ⟨o, ho⟩) (ndic_new hd hz hf nx dd)
theorem flat_put (n : NAt X P H a l) (hk : flatN k = true) : ∀ x ∈ putN l k b v, flatN x.1 = true := fun x hx => by
  rcases putN_mem hx with ⟨y, hy, e, _⟩ | ⟨e, _⟩
  · rw [e]; exact (n.keys y hy).2.1
  · rw [e]; exact hk
theorem n_set {Q : Unit → Shared → Prop} (hu : A.units + 9 < cLine) (I : Inv X pins σ H s) (n : NAt X P H a l) (hk : KeyOk X.K P (k, b, V.non)) (hl : l.length < sizeLine) (rv : RelV v r) (h : ∀ s', Inv X pins σ (upd H a (.ext (NDic a (putN l k b v)))) s' → Q () s') :
    wpAny (model X.prog X.w) A (setItem (.ref a) (.ref b) r) Q E s := by
  obtain ⟨hd, hz, xs, nx, dd⟩ := n.dict I
  refine wpAny_setItem_heap (knd := nestedKind X.prog X.w) (A := A) (hsz := by rw [← nx.length]; exact hz) (show A.units + 1 + 8 < cLine by omega) (key_is I n.su hk) dd fun h' dd' hs => h _ ?_
  exact n_write I n hs hd (by have := length_putN l k b v; omega) (flat_put n hk.2.1) (nx.put k b rv) dd'
theorem n_setd {Q : Value → Shared → Prop} (hu : A.units + 9 < cLine) (I : Inv X pins σ H s) (n : NAt X P H a l) (hk : KeyOk X.K P (k, b, V.non)) (hl : l.length < sizeLine) (rd : RelV d r)
    (h1 : ∀ v, valV (prN l) k = some v → ∀ (w' : Value) (s' : Shared), Inv X pins σ H s' → RelV v w' → Q w' s') (h2 : valV (prN l) k = none → ∀ (w' : Value) (s' : Shared), Inv X pins σ (upd H a (.ext (NDic a (putN l k b d)))) s' → RelV d w' → Q w' s') :
    wpAny (model X.prog X.w) A (call (.builtin "dict.setdefault") [.ref a, .ref b, r]) Q E s := by
  obtain ⟨hd, hz, xs, nx, dd⟩ := n.dict I
  have q := nx.val k
  rw [valueAt_pairsH] at q
  refine call_setdefault_heap (knd := nestedKind X.prog X.w) (A := A) (hsz := by rw [← nx.length]; exact hz) (show A.units + 1 + 8 < cLine by omega) (key_is I n.su hk) hd dd (fun p hp => ?_) fun hn h' dd' hs => ?_
  · rw [hp] at q
    cases q0 : valV (prN l) k with
    | none => rw [q0] at q; exact (show False from q).elim
    | some v0 => rw [q0] at q; exact h1 v0 q0 _ _ (I.tok _) q
  · rw [hn] at q
    cases q0 : valV (prN l) k with
    | some v0 => rw [q0] at q; exact (show False from q).elim
    | none => exact h2 q0 _ _ (n_write I n hs hd (by have := length_putN l k b d; omega) (flat_put n hk.2.1) (nx.put k b rd) dd') rd
theorem n_del {Q : Unit → Shared → Prop} (hu : A.units + 9 < cLine) (I : Inv X pins σ H s) (n : NAt X P H a l) (hk : KeyOk X.K P (k, b, V.non)) (g : (valV (prN l) k).isSome = true) (h : ∀ s', Inv X pins σ (upd H a (.ext (NDic a (dropN l k)))) s' → Q () s') :
    wpAny (model X.prog X.w) A (delItem (.ref a) (.ref b)) Q E s := by
  obtain ⟨hd, hz, xs, nx, dd⟩ := n.dict I
  have q := nx.val k
  rw [valueAt_pairsH] at q
  have : ((atKey xs k).map (·.2)).isSome = true := by rw [← q.isSome_eq]; exact g
  obtain ⟨p, hp⟩ := Option.isSome_iff_exists.mp (by rw [Option.isSome_map] at this; exact this)
  refine wpAny_delItem_heap (knd := nestedKind X.prog X.w) (A := A) (hsz := by rw [← nx.length]; exact hz) (show A.units + 1 + 8 < cLine by omega) (key_is I n.su hk) hd dd hp fun h' dd' hs => h _ ?_
  exact n_write I n hs hd (Nat.le_trans (List.length_filter_le _ _) hz) (fun x hx => (n.keys x (List.mem_filter.mp hx).1).2.1) (nx.drop k) dd'
end
def tNGet (X : Cx) (td ty : TE) : TE := fun σ H Q => td σ H fun x H1 => ty σ H1 fun y H2 => ∃ P a l k b v, x = .ref a ∧ NAt X P H2 a l ∧ y = .ref b ∧ KeyOk X.K P (k, b, V.non) ∧ valV (prN l) k = some v ∧ Q v H2
def tNGet1 (X : Cx) (td ty : TE) : TE := fun σ H Q => td σ H fun x H1 => ∃ P a l, x = .ref a ∧ NAt X P H1 a l ∧ ty σ H1 fun y H2 => ∃ P2 l2 k b, NAt X P2 H2 a l2 ∧ y = .ref b ∧ KeyOk X.K P2 (k, b, V.non) ∧ Q ((valV (prN l2) k).getD .non) H2
def tNSetd (X : Cx) (td ty tx : TE) : TE := fun σ H Q => td σ H fun x H1 => ∃ P a l, x = .ref a ∧ NAt X P H1 a l ∧ ty σ H1 fun y H2 => tx σ H2 fun z H3 => ∃ P2 l2 k b, NAt X P2 H3 a l2 ∧ y = .ref b ∧ KeyOk X.K P2 (k, b, V.non) ∧ l2.length < sizeLine ∧
  (∀ v, valV (prN l2) k = some v → Q v H3) ∧ (valV (prN l2) k = none → Q z (upd H3 a (.ext (NDic a (putN l2 k b z)))))
def sNPut (X : Cx) (td ty tv : TE) : TS := fun D σ H => tv σ H fun v H1 => td σ H1 fun x H2 => ty σ H2 fun y H3 => ∃ P a l k b, x = .ref a ∧ NAt X P H3 a l ∧ y = .ref b ∧ KeyOk X.K P (k, b, V.non) ∧ l.length < sizeLine ∧ D.nx σ (upd H3 a (.ext (NDic a (putN l k b v))))
def sNDel (X : Cx) (td ty : TE) : TS := fun D σ H => td σ H fun x H1 => ty σ H1 fun y H2 => ∃ P a l k b, x = .ref a ∧ NAt X P H2 a l ∧ y = .ref b ∧ KeyOk X.K P (k, b, V.non) ∧ (valV (prN l) k).isSome = true ∧ D.nx σ (upd H2 a (.ext (NDic a (dropN l k))))
section
variable {X : Cx} {o i e f value : Expr} {pos pos' tpos apos cpos : Pos} {td ty tv tx : TE}
theorem pe_nget (hu : X.A.units + 9 < cLine) (ho : PE X o td) (hi : PE X i ty) (hs : NoSl i) : PE X (.Subscript o i pos) (tNGet X td ty) := by
  refine ⟨fun pins s σ H Q I h => ?_⟩
  refine subD_of PySem.F.slot_dict_getitem.lookup hs (thn (ho.run pins s σ H _ I h) fun u s1 ⟨x, H1, I1, rx, q1⟩ => thn (hi.run pins s1 σ H1 _ I1 q1) fun iv s2 ⟨y, H2, I2, ry, P, a, l, k, b, v, ex, n, ey, hk, g, q2⟩ => ?_)
  subst ex ey
  obtain rfl : u = Value.ref a := rx
  obtain rfl : iv = Value.ref b := ry
  exact ⟨(n.typeIs I2).1, n_get hu I2 n hk g fun w' s3 I3 rw' => ⟨v, H2, I3, rw', q2⟩⟩
theorem pe_nget1 (hu : X.A.units + 9 < cLine) (ho : PE X o td) (he : PE X e ty) (m : M1 X o "get" apos e cpos) : PE X (.Call (.Attribute o "get" apos) [e] [] cpos) (tNGet1 X td ty) := by
  refine ⟨fun pins s σ H Q I h => ?_⟩
  refine wpAny_Call_method m.base m.few m.line PySem.F.plainAttrs_dict PySem.F.slot_dict_get PySem.F.type_dict_get (thn (ho.run pins s σ H _ I h) fun u s1 ⟨x, H1, I1, rx, P, a, l, ex, n, q1⟩ => ?_)
  subst ex
  obtain rfl : u = Value.ref a := rx
  refine ⟨(n.typeIs I1).1, (n.typeIs I1).2, ?_⟩
  rw [m.trees]
  refine Calls.callWith_builtin rfl (Calls.evalArgs_plain (Calls.spliced_cons (thn (he.run pins s1 σ H1 _ I1 q1) fun iv s2 ⟨y, H2, I2, ry, P2, l2, k, b, n2, ey, hk, q2⟩ => Calls.spliced_nil ?_)))
  subst ey
  obtain rfl : iv = Value.ref b := ry
  exact n_get1 hu I2 n2 hk fun w' s3 I3 rw' => ⟨_, H2, I3, rw', q2⟩
theorem pe_nsetd (hu : X.A.units + 9 < cLine) (ho : PE X o td) (he : PE X e ty) (hf : PE X f tx) (m : M2 X o "setdefault" apos e f cpos) : PE X (.Call (.Attribute o "setdefault" apos) [e, f] [] cpos) (tNSetd X td ty tx) := by
  refine ⟨fun pins s σ H Q I h => ?_⟩
  refine wpAny_Call_method m.base m.few m.line PySem.F.plainAttrs_dict PySem.F.slot_dict_setdefault PySem.F.type_dict_setdefault (thn (ho.run pins s σ H _ I h) fun u s1 ⟨x, H1, I1, rx, P, a, l, ex, n, q1⟩ => ?_)
  subst ex
  obtain rfl : u = Value.ref a := rx
  refine ⟨(n.typeIs I1).1, (n.typeIs I1).2, ?_⟩
  rw [m.trees]
  refine Calls.callWith_builtin rfl (Calls.evalArgs_plain (Calls.spliced_cons (thn (he.run pins s1 σ H1 _ I1 q1) fun iv s2 ⟨y, H2, I2, ry, q2⟩ =>
    Calls.spliced_cons (thn (hf.run pins s2 σ H2 _ I2 q2) fun fv s3 ⟨z, H3, I3, rz, P2, l2, k, b, n2, ey, hk, hl, q3, q4⟩ => Calls.spliced_nil ?_))))
  subst ey
  obtain rfl : iv = Value.ref b := ry
  exact n_setd hu I3 n2 hk hl rz (fun v hv w' s4 I4 rw' => ⟨v, _, I4, rw', q3 v hv⟩) fun hn w' s4 I4 rw' => ⟨z, _, I4, rw', q4 hn⟩
theorem ps_nput (hu : X.A.units + 9 < cLine) (ho : PE X o td) (hi : PE X i ty) (hv : PE X value tv) (hs : swapsWith value (some (.Subscript o i pos')) pos.line X.env = pure false) :
    PS X (.Assign [.Subscript o i pos'] value pos) (sNPut X td ty tv) := by
  refine ⟨fun pins s σ H D I h => ?_⟩
  refine wpAny_Assign_Subscript (thn (hv.run pins s σ H _ I h) fun r s1 ⟨v, H1, I1, rv, q1⟩ => thn (ho.run pins s1 σ H1 _ I1 q1) fun u s2 ⟨x, H2, I2, rx, q2⟩ => thn (hi.run pins s2 σ H2 _ I2 q2) fun iv s3 ⟨y, H3, I3, ry, P, a, l, k, b, ex, n, ey, hk, hl, q3⟩ => ?_) hs
  subst ex ey
  obtain rfl : u = Value.ref a := rx
  obtain rfl : iv = Value.ref b := ry
  exact n_set hu I3 n hk hl rv fun s4 I4 => ⟨σ, _, I4, q3⟩
theorem ps_ndel (hu : X.A.units + 9 < cLine) (ho : PE X o td) (hi : PE X i ty) : PS X (.Delete [.Subscript o i tpos] pos) (sNDel X td ty) := by
  refine ⟨fun pins s σ H D I h => ?_⟩
  refine wpAny_Delete (wpAny_deleteEach_cons (wpAny_delete_Subscript (thn (ho.run pins s σ H _ I h) fun u s1 ⟨x, H1, I1, rx, q1⟩ => thn (hi.run pins s1 σ H1 _ I1 q1) fun iv s2 ⟨y, H2, I2, ry, P, a, l, k, b, ex, n, ey, hk, g, q2⟩ => ?_)))
  subst ex ey
  obtain rfl : u = Value.ref a := rx
  obtain rfl : iv = Value.ref b := ry
  exact n_del hu I2 n hk g fun s3 I3 => wpAny_deleteEach_nil ⟨σ, _, I3, q2⟩
/-- {} -/
def tNNew : TE := fun _ H Q => ∀ p, H p = none → Q (.ref p) (upd H p (.ext (NDic p [])))
theorem pe_nnew : PE X (.Dict [] [] pos) tNNew := ⟨fun pins s σ H Q I h =>
  wpAny_Dict_empty ⟨.ref s.heap.objs.size, _, I.laid (a := s.heap.objs.size) (o := .ext (NDic s.heap.objs.size [])) (t' := s.toks) (fun _ _ q => Heap.get?_push_of_some _ q) (Nat.le_refl _)
    (ndic_new (beq_eq_false_iff_ne.mpr (Ne.symm (Nat.ne_of_lt I.big))) (Nat.zero_le _) (fun _ h => nomatch h) .nil (Heap.DictOfH.new s.heap)), rfl, h _ (I.hok.fresh (Nat.le_refl _))⟩⟩
end
end Fw
namespace Fw
open PySem PySem.Spec L2
open PyProof.Rows hiding St
theorem ok_bndE {α β : Type} {o : Option (α × En)} {f : α × En → Option (β × En)} {Q : β → En → Prop} : Ok (o.bind f) Q = Ok o fun a E => Ok (f (a, E)) Q := by
  cases o with
  | none => exact ok_none.trans ok_none.symm
  | some r => obtain ⟨a, E⟩ := r; rw [ok_some]; rfl
theorem ok_bndV {α β : Type} {o : Option α} {f : α → Option (β × En)} {Q : β → En → Prop} : Ok (o.bind f) Q = OkV o fun a => Ok (f a) Q := by
  cases o with
  | none => exact ok_none.trans okV_none.symm
  | some r => rw [okV_some]; rfl
theorem okV_pair {α : Type} {o : Option (α × En)} {R : α × En → Prop} : OkV o R = Ok o fun a E => R (a, E) := by
  cases o with
  | none => exact okV_none.trans ok_none.symm
  | some r => obtain ⟨a, E⟩ := r; rw [okV_some, ok_some]
/-- the dict at a place -/
def dinAt (i : Nat) (p : Path) (E : En) : Option (List (NestedKey × PyData)) := match nodeAt i p E with
  | some (.din r) => some r
  | _ => none
theorem dinAt_some {i : Nat} {p : Path} {E : En} {r : List (NestedKey × PyData)} (h : dinAt i p E = some r) : nodeAt i p E = some (.din r) := by
  unfold dinAt at h
  split at h
  · rename_i e
    cases h
    exact e
  · cases h
theorem keyN_dq {K : PySem.W.Frag} {P H : Hp} {p : Bool} {y : V} {d : PyData} {k : NestedKey} (h : keyN d = some k) (dy : Dq K (pick p P H) y d) : ∃ b, y = .ref b := by
  obtain ⟨_, _, _, ds, rfl⟩ := keyN_ok h
  cases dy with
  | tup _ _ => exact ⟨_, rfl⟩
theorem keyN_at {K : PySem.W.Frag} {P : Hp} {b : Addr} {d : PyData} {k : NestedKey} (h : keyN d = some k) (dy : Dq K P (.ref b) d) : KeyOk K P (k, b, V.non) := by
  obtain ⟨h1, h2, h3, _⟩ := keyN_ok h
  exact ⟨by rw [h1]; exact dy, h2, h3⟩
section
variable {K : PySem.W.Frag} {vs0 : List V} {P H : Hp} {E : En} {σ : L2.St} {fps : Nat → List Addr} {i : Nat} {p : Path} {r r' : List (NestedKey × PyData)} {v : V}
theorem Rel.ndicAt {X : Cx} (rl : Rel X.K vs0 P E σ H fps) (hn : dinAt i p E = some r) (hw : walkS σ H i p = some v) :
    ∃ ad l, v = .ref ad ∧ P ad = none ∧ NAt X P H ad l ∧ NKV X.K P l r := by
  obtain ⟨vn, fpn, w1, w2, _, _⟩ := rl.focus (dinAt_some hn)
  rw [hw] at w1
  cases w1
  cases w2 with
  | din pa ha d => exact ⟨_, _, rfl, pa, ⟨ha, rl.sub, d.2⟩, d⟩
theorem Rel.pokeN {ad : Addr} {l' : List (NestedKey × Addr × V)} (rl : Rel K vs0 P E σ H fps) (hn : dinAt i p E = some r) (hw : walkS σ H i p = some (.ref ad)) (d : NKV K P l' r') :
    ∃ fps', Rel K vs0 P (putAt i p (.din r') E) σ (upd H ad (.ext (NDic ad l'))) fps' ∧ Step (In fps) P H (In fps') P (upd H ad (.ext (NDic ad l'))) :=
  rl.pokeP (dinAt_some hn) hw (fun fp t => by cases t with | din _ _ _ => rfl) fun pa => .din pa upd_same d
theorem NKV.put {l : List (NestedKey × Addr × V)} (h : NKV K P l r) {k : NestedKey} {b : Addr} {w : V} {d : PyData} (hk : KeyOk K P (k, b, V.non)) (dw : Dq K P w d) : NKV K P (putN l k b w) (putD r k d) :=
  ⟨by rw [prN_put]; exact h.1.put k dw, fun x hx => by
    rcases putN_mem hx with ⟨y, hy, e1, e2⟩ | ⟨e1, e2⟩
    · have := h.2 y hy
      unfold KeyOk at this ⊢
      rw [e1, e2]
      exact this
    · unfold KeyOk at hk ⊢
      rw [e1, e2]
      exact hk⟩
theorem NKV.drop {l : List (NestedKey × Addr × V)} (h : NKV K P l r) (k : NestedKey) : NKV K P (dropN l k) (dropD r k) :=
  ⟨by rw [prN_drop]; exact h.1.drop k, fun x hx => h.2 x (List.mem_filter.mp hx).1⟩
theorem NKV.len {l : List (NestedKey × Addr × V)} (h : NKV K P l r) : l.length = r.length := by
  have := h.1.length
  rw [List.length_map] at this
  exact this
end
section
variable {X : Cx} {m m1 m2 p1 p2 : Bool} {e a b o c : Expr} {pos px apos pos' tpos : Pos} {fk fv fd : SE PyData} {i n : Nat} {p : Path}
/-- d[k] -/
def dgtN (i : Nat) (p : Path) (fk : SE PyData) : SE PyData := fun E => (dinAt i p E).bind fun _ => (fk E).bind fun x => (keyN x.1).bind fun k => (dinAt i p x.2).bind fun r => (valD r k).bind fun y => some (y, x.2)
theorem px_dgtN {kk : Nat} (hr : Room kk X.A) (ho : PP X i p o) (hb : PX X m true b fk) (hs : NoSl b := by exact fun _ _ => rfl) (hst : p = [] ∨ m = false := by first | exact .inl rfl | exact .inr rfl) : PX X m true (.Subscript o b pos) (dgtN i p fk) := pe_imp (pe_nget (by have := hr.units; omega) ho hb hs) fun σ H Q => by
  rintro ⟨vs0, P, E, fps, d, E', r, hf, q⟩
  obtain ⟨r0, e0, hf⟩ := Option.bind_eq_some_iff.mp hf
  obtain ⟨⟨dk, E1⟩, e1, hf⟩ := Option.bind_eq_some_iff.mp hf
  obtain ⟨k, e2, hf⟩ := Option.bind_eq_some_iff.mp hf
  obtain ⟨r1, e3, hf⟩ := Option.bind_eq_some_iff.mp hf
  obtain ⟨y0, e4, hf⟩ := Option.bind_eq_some_iff.mp hf
  cases hf
  refine ⟨vs0, P, E, fps, _, r, dinAt_some e0, fun w hw => ⟨vs0, P, E, fps, dk, _, r, e1, fun P1 H1 fps1 y rl s1 m1' dy => ?_⟩⟩
  have dy : Dq X.K P1 y dk := dy
  have hw1 := walkS_keep (hst.imp id m1') hw
  obtain ⟨ad, l, rfl, pa, na, dl⟩ := rl.ndicAt (X := X) e3 hw1
  obtain ⟨b0, rfl⟩ := keyN_dq (p := true) (H := H1) e2 dy
  rcases dl.1.val k with ⟨v, d', g1, g2, g3⟩ | ⟨_, g2⟩
  · rw [e4] at g2
    cases g2
    exact ⟨P1, ad, l, k, b0, v, rfl, na, rfl, keyN_at e2 dy, g1, q P1 H1 fps1 v rl s1 m1' g3⟩
  · rw [e4] at g2
    cases g2
/-- d.get(k) -/
def dgoN (i : Nat) (p : Path) (fk : SE PyData) : SE PyData := fun E => (dinAt i p E).bind fun _ => (fk E).bind fun x => (keyN x.1).bind fun k => (dinAt i p x.2).bind fun r => some ((valD r k).getD .none, x.2)
theorem px_dgoN {kk : Nat} (hr : Room kk X.A) (ho : PP X i p o) (hb : PX X m true b fk) (hm : M1 X o "get" apos b pos := by exact ⟨rfl, rfl, rfl, rfl⟩) (hst : p = [] ∨ m = false := by first | exact .inl rfl | exact .inr rfl) : PX X m true (.Call (.Attribute o "get" apos) [b] [] pos) (dgoN i p fk) := pe_imp (pe_nget1 (by have := hr.units; omega) ho hb hm) fun σ H Q => by
  rintro ⟨vs0, P, E, fps, d, E', r, hf, q⟩
  obtain ⟨r0, e0, hf⟩ := Option.bind_eq_some_iff.mp hf
  obtain ⟨⟨dk, E1⟩, e1, hf⟩ := Option.bind_eq_some_iff.mp hf
  obtain ⟨k, e2, hf⟩ := Option.bind_eq_some_iff.mp hf
  obtain ⟨r1, e3, hf⟩ := Option.bind_eq_some_iff.mp hf
  cases hf
  refine ⟨vs0, P, E, fps, _, r, dinAt_some e0, fun w hw => ?_⟩
  obtain ⟨ad0, l0, rfl, _, na0, _⟩ := r.ndicAt (X := X) e0 hw
  refine ⟨P, ad0, l0, rfl, na0, vs0, P, E, fps, dk, _, r, e1, fun P1 H1 fps1 y rl s1 m1' dy => ?_⟩
  have dy : Dq X.K P1 y dk := dy
  have hw1 := walkS_keep (hst.imp id m1') hw
  obtain ⟨ad, l, ea, pa, na, dl⟩ := rl.ndicAt (X := X) e3 hw1
  cases ea
  obtain ⟨b0, rfl⟩ := keyN_dq (p := true) (H := H1) e2 dy
  refine ⟨P1, l, k, b0, na, rfl, keyN_at e2 dy, ?_⟩
  rcases dl.1.val k with ⟨v, d', g1, g2, g3⟩ | ⟨g1, g2⟩
  · rw [g1]
    rw [g2] at q
    exact q P1 H1 fps1 v rl s1 m1' g3
  · rw [g1]
    rw [g2] at q
    exact q P1 H1 fps1 .non rl s1 m1' .non
/-- d.setdefault(k, x) -/
def dsdN (i : Nat) (p : Path) (fk fd : SE PyData) : SE PyData := fun E => (dinAt i p E).bind fun _ => (fk E).bind fun x => (fd x.2).bind fun z => (keyN x.1).bind fun k => (dinAt i p z.2).bind fun r =>
  if r.length < sizeLine then (match valD r k with
    | some y => some (y, z.2)
    | none => some (z.1, putAt i p (.din (putD r k z.1)) z.2)) else none
theorem px_dsdN {kk : Nat} (hr : Room kk X.A) (ho : PP X i p o) (hb : PX X m true b fk) (hc : PX X m2 true c fd) (hm : M2 X o "setdefault" apos b c pos := by exact ⟨rfl, rfl, rfl, rfl⟩) (hst : p = [] ∨ (m = false ∧ m2 = false) := by first | exact .inl rfl | exact .inr ⟨rfl, rfl⟩) : PX X true true (.Call (.Attribute o "setdefault" apos) [b, c] [] pos) (dsdN i p fk fd) := pe_imp (pe_nsetd (by have := hr.units; omega) ho hb hc hm) fun σ H Q => by
  rintro ⟨vs0, P, E, fps, d, E', r, hf, q⟩
  obtain ⟨r0, e0, hf⟩ := Option.bind_eq_some_iff.mp hf
  obtain ⟨⟨dk, E1⟩, e1, hf⟩ := Option.bind_eq_some_iff.mp hf
  obtain ⟨⟨z, E2⟩, e5, hf⟩ := Option.bind_eq_some_iff.mp hf
  obtain ⟨k, e2, hf⟩ := Option.bind_eq_some_iff.mp hf
  obtain ⟨r1, e3, hf⟩ := Option.bind_eq_some_iff.mp hf
  split at hf
  · rename_i hl
    refine ⟨vs0, P, E, fps, _, r, dinAt_some e0, fun w hw => ?_⟩
    obtain ⟨ad0, l0, rfl, _, na0, _⟩ := r.ndicAt (X := X) e0 hw
    refine ⟨P, ad0, l0, rfl, na0, vs0, P, E, fps, dk, _, r, e1, fun P1 H1 fps1 y rl1 s1 m1' dy => ⟨vs0, P1, _, fps1, z, _, rl1, e5, fun P2 H2 fps2 u rl s2 m2' du => ?_⟩⟩
    have dy : Dq X.K P2 y dk := Dq.mono s2.pp (show Dq X.K P1 y dk from dy)
    have hw1 := walkS_keep (hst.imp id fun h => (m1' h.1).trans (m2' h.2)) hw
    obtain ⟨ad, l, ea, pa, na, dl⟩ := rl.ndicAt (X := X) e3 hw1
    cases ea
    obtain ⟨b0, rfl⟩ := keyN_dq (p := true) (H := H2) e2 dy
    refine ⟨P2, l, k, b0, na, rfl, keyN_at e2 dy, by rw [dl.len]; exact hl, fun v hv => ?_, fun hv => ?_⟩
    · rcases dl.1.val k with ⟨v', d', g1, g2, g3⟩ | ⟨g1, g2⟩
      · rw [hv] at g1
        cases g1
        rw [g2] at hf
        cases hf
        exact q P2 H2 fps2 v rl (s1.trans s2) (fun h => nomatch h) g3
      · rw [hv] at g1; cases g1
    · rcases dl.1.val k with ⟨v', d', g1, g2, g3⟩ | ⟨g1, g2⟩
      · rw [hv] at g1; cases g1
      · rw [g2] at hf
        cases hf
        obtain ⟨fps3, g4, g5⟩ := rl.pokeN e3 hw1 (dl.put (keyN_at e2 dy) du)
        exact q _ _ _ _ g4 ((s1.trans s2).trans g5) (fun h => nomatch h) du
  · cases hf
/-- d[k] = v -/
def dptN (i : Nat) (p : Path) (fk fv : SE PyData) : SS := fun E => (fv E).bind fun x => (dinAt i p x.2).bind fun _ => (fk x.2).bind fun y => (keyN y.1).bind fun k => (dinAt i p y.2).bind fun r =>
  if r.length < sizeLine then some (.nx, putAt i p (.din (putD r k x.1)) y.2) else none
theorem pxs_dptN {kk : Nat} (hr : Room kk X.A) (ho : PP X i p o) (hb : PX X m true b fk) (hv : PX X m2 true e fv) (hs : swapsWith e (some (.Subscript o b pos')) pos.line X.env = pure false := by rfl) (hst : p = [] ∨ m = false := by first | exact .inl rfl | exact .inr rfl) :
    PXS1 X n (.Assign [.Subscript o b pos'] e pos) (dptN i p fk fv) := ps_imp (ps_nput (by have := hr.units; omega) ho hb hv hs) fun D σ H => by
  rintro ⟨vs0, P, E, fps, fl', E', hn, r, hf, q⟩
  obtain ⟨⟨d, E1⟩, e1, hf⟩ := Option.bind_eq_some_iff.mp hf
  obtain ⟨r0, e0, hf⟩ := Option.bind_eq_some_iff.mp hf
  obtain ⟨⟨kd, E2⟩, e2, hf⟩ := Option.bind_eq_some_iff.mp hf
  obtain ⟨k, e3, hf⟩ := Option.bind_eq_some_iff.mp hf
  obtain ⟨r1, e4, hf⟩ := Option.bind_eq_some_iff.mp hf
  split at hf
  · rename_i hl
    cases hf
    refine ⟨vs0, P, E, fps, d, E1, r, e1, fun P1 H1 fps1 v rl1 s1 m1' dv => ⟨vs0, P1, E1, fps1, _, rl1, dinAt_some e0, fun w hw => ⟨vs0, P1, E1, fps1, kd, E2, rl1, e2, fun P2 H2 fps2 y rl2 s2 m2' dy => ?_⟩⟩⟩
    have dy : Dq X.K P2 y kd := dy
    have hw2 := walkS_keep (hst.imp id m2') hw
    obtain ⟨ad, l, rfl, pa, na, dl⟩ := rl2.ndicAt (X := X) e4 hw2
    obtain ⟨b0, rfl⟩ := keyN_dq (p := true) (H := H2) e3 dy
    obtain ⟨fps3, g1, g2⟩ := rl2.pokeN e4 hw2 (dl.put (keyN_at e3 dy) (dv.mono s2.pp))
    exact ⟨P2, ad, l, k, b0, rfl, na, rfl, keyN_at e3 dy, by rw [dl.len]; exact hl, q _ _ _ _ g1 ((s1.trans s2).trans g2)⟩
  · cases hf
/-- del d[k] -/
def ddelN (i : Nat) (p : Path) (fk : SE PyData) : SS := fun E => (dinAt i p E).bind fun _ => (fk E).bind fun x => (keyN x.1).bind fun k => (dinAt i p x.2).bind fun r => if (valD r k).isSome = true then some (.nx, putAt i p (.din (dropD r k)) x.2) else none
theorem pxs_ddelN {kk : Nat} (hr : Room kk X.A) (ho : PP X i p o) (hb : PX X m true b fk) (hst : p = [] ∨ m = false := by first | exact .inl rfl | exact .inr rfl) : PXS1 X n (.Delete [.Subscript o b tpos] pos) (ddelN i p fk) := ps_imp (ps_ndel (by have := hr.units; omega) ho hb) fun D σ H => by
  rintro ⟨vs0, P, E, fps, fl', E', hn, r, hf, q⟩
  obtain ⟨r0, e0, hf⟩ := Option.bind_eq_some_iff.mp hf
  obtain ⟨⟨dk, E1⟩, e1, hf⟩ := Option.bind_eq_some_iff.mp hf
  obtain ⟨k, e2, hf⟩ := Option.bind_eq_some_iff.mp hf
  obtain ⟨r1, e3, hf⟩ := Option.bind_eq_some_iff.mp hf
  split at hf
  · rename_i hsm
    cases hf
    refine ⟨vs0, P, E, fps, _, r, dinAt_some e0, fun w hw => ⟨vs0, P, E, fps, dk, E1, r, e1, fun P1 H1 fps1 y rl1 s1 m1' dy => ?_⟩⟩
    have dy : Dq X.K P1 y dk := dy
    have hw1 := walkS_keep (hst.imp id m1') hw
    obtain ⟨ad, l, rfl, pa, na, dl⟩ := rl1.ndicAt (X := X) e3 hw1
    obtain ⟨b0, rfl⟩ := keyN_dq (p := true) (H := H1) e2 dy
    obtain ⟨fps3, g4, g5⟩ := rl1.pokeN e3 hw1 (dl.drop k)
    refine ⟨P1, ad, l, k, b0, rfl, na, rfl, keyN_at e2 dy, ?_, q _ _ _ _ g4 (s1.trans g5)⟩
    rcases dl.1.val k with ⟨v, d', g1, g2, _⟩ | ⟨_, g2⟩
    · rw [g1]; rfl
    · rw [g2] at hsm; cases hsm
  · cases hf
/-- {} -/
def newN : SE Sl := ret (.tr (.din []))
theorem pxc_newN : PXC X true (.Dict [] [] pos) newN := pe_imp pe_nnew fun σ H Q => by
  rintro ⟨vs0, P, E, fps, d, E', r, hf, q⟩
  obtain ⟨rfl, rfl⟩ := ret_some hf
  intro z hz
  have s1 : Same H (upd H z (.ext (NDic z []))) := Fw.same_upd hz
  have pz := sub_none r.sub hz
  refine q P (upd H z (.ext (NDic z []))) fps (.ref z) [z] (r.keep (Same.refl P) (r.sub.trans s1) fun b hb => ?_) ⟨Same.refl P, fun a o h _ => s1 a o h, .same, fun a h => ?_, fun a o h => ⟨o, s1 a o h⟩⟩ (fun h => nomatch h) (.tr (.din pz upd_same ⟨.nil, fun _ h => nomatch h⟩)) fun a h hb => ?_
  · obtain ⟨pn, o, ho⟩ := r.foot hb
    exact ⟨(s1 b o ho).trans ho.symm, pn⟩
  · rcases h with h | h
    · exact .inl h
    · cases List.mem_singleton.mp h
      exact .inr hz
  · cases List.mem_singleton.mp h
    obtain ⟨_, o, ho⟩ := r.foot hb
    rw [hz] at ho
    cases ho
variable {E : En} {Q : Fl → En → Prop} {QD : PyData → En → Prop} {QS : Sl → En → Prop}
theorem ok_newN : Ok (newN E) QS = QS (.tr (.din [])) E := ok_ret
theorem ok_ifN {α : Type} {c : Prop} [Decidable c] {x : Option (α × En)} {Q : α → En → Prop} : Ok (if c then x else none) Q = (c ∧ Ok x Q) := by
  by_cases h : c
  · rw [if_pos h]; exact propext ⟨fun z => ⟨h, z⟩, fun z => z.2⟩
  · rw [if_neg h, ok_none]; exact propext ⟨False.elim, fun z => h z.1⟩
theorem ok_dgtN : Ok (dgtN i p fk E) QD = OkV (dinAt i p E) fun _ => Ok (fk E) fun d E1 => OkV (keyN d) fun k => OkV (dinAt i p E1) fun r => OkV (valD r k) fun x => QD x E1 := by
  simp only [dgtN, ok_bndV, okV_pair, ok_some]
theorem ok_dgoN : Ok (dgoN i p fk E) QD = OkV (dinAt i p E) fun _ => Ok (fk E) fun d E1 => OkV (keyN d) fun k => OkV (dinAt i p E1) fun r => QD ((valD r k).getD .none) E1 := by
  simp only [dgoN, ok_bndV, okV_pair, ok_some]
theorem ok_dptN : Ok (dptN i p fk fv E) Q = Ok (fv E) fun d E1 => OkV (dinAt i p E1) fun _ => Ok (fk E1) fun kd E2 => OkV (keyN kd) fun k => OkV (dinAt i p E2) fun r => r.length < sizeLine ∧ Q .nx (putAt i p (.din (putD r k d)) E2) := by
  simp only [dptN, ok_bndV, okV_pair, ok_some, ok_ifN]
theorem ok_ddelN : Ok (ddelN i p fk E) Q = OkV (dinAt i p E) fun _ => Ok (fk E) fun d E1 => OkV (keyN d) fun k => OkV (dinAt i p E1) fun r => (valD r k).isSome = true ∧ Q .nx (putAt i p (.din (dropD r k)) E1) := by
  simp only [ddelN, ok_bndV, okV_pair, ok_some, ok_ifN]
theorem ok_dsdN : Ok (dsdN i p fk fd E) QD = OkV (dinAt i p E) fun _ => Ok (fk E) fun d E1 => Ok (fd E1) fun z E2 => OkV (keyN d) fun k => OkV (dinAt i p E2) fun r => r.length < sizeLine ∧ (valD r k).elim (QD z (putAt i p (.din (putD r k z)) E2)) (fun y => QD y E2) := by
  simp only [dsdN, ok_bndV, okV_pair, ok_ifN]
  have e : ∀ (r : List (NestedKey × PyData)) (k : NestedKey) (z : PyData) (E2 : En), Ok (match valD r k with | some y => some (y, E2) | none => some (z, putAt i p (.din (putD r k z)) E2)) QD = (valD r k).elim (QD z (putAt i p (.din (putD r k z)) E2)) (fun y => QD y E2) := fun r k z E2 => by
    cases valD r k with
    | none => exact ok_some
    | some y => exact ok_some
  simp only [e]
end
end Fw
namespace Fw
open PySem PySem.Spec L2
open PyProof.Rows hiding St
theorem bounds_hi {c n : Nat} (hc : c ≤ n) : sliceBounds none (some (c : Int)) none n = (0, (c : Int), 1) := by
  simp only [sliceBounds, Option.getD_none]
  have h2 : ¬ ((c : Int) < 0) := by omega
  simp only [h2, if_false, show (1 : Int) > 0 by decide, if_true]
  congr 1
  congr 1; omega
theorem sel_drop {α : Type} (p : Nat → Bool) (c : Nat) (h : ∀ i, p i = decide (i < c)) (xs : List α) : (xs.zipIdx.filterMap fun x => if p x.2 = true then none else some x.1) = xs.drop c := by
  have gen : ∀ (xs : List α) (k : Nat), ((xs.zipIdx k).filterMap fun x => if p x.2 = true then none else some x.1) = xs.drop (c - k) := by
    intro xs
    induction xs with
    | nil => intro k; simp
    | cons a r ih =>
      intro k
      rw [List.zipIdx_cons, List.filterMap_cons]
      simp only [h]
      by_cases hk : k < c
      · rw [if_pos (decide_eq_true hk)]
        dsimp only
        have e : c - k = (c - (k + 1)) + 1 := by omega
        rw [e, List.drop_succ_cons]
        have := ih (k + 1)
        simp only [h] at this
        exact this
      · rw [if_neg (by simpa using hk)]
        dsimp only
        have e : c - k = 0 := by omega
        have e2 : c - (k + 1) = 0 := by omega
        have := ih (k + 1)
        simp only [h] at this
        rw [this, e, e2, List.drop_zero, List.drop_zero]
  exact gen xs 0
section
variable {prog : Program} {w : World} {A : Around} {E : Value → Shared → Prop} {s : Shared}
/-- list.__delitem__ of [:c] -/
theorem delItem_slice {l sl : Addr} {its : List Value} {n : Nat} {vl vu : Value} {c : Nat} {Q : Unit → Shared → Prop}
    (e : s.heap.get? l = some { cls := .type "list", data := .seq its.toArray n })
    (hs : s.heap.IsSliceOf sl vl vu .none) (pl : IsPart vl none) (pu : IsPart vu (some (c : Int))) (hc : c ≤ its.length)
    (hsz : its.length ≤ sizeLine) (h : ∀ f : Array Value → Array Value, f its.toArray = (its.drop c).toArray → Q () { s with heap := s.heap.update l (Obj.mapSeq f) }) :
    wpAny (model prog w) A (delItem (.ref l) (.ref sl)) Q E s := by
  have hl : s.heap.IsList l its.toArray := PySem.IsL.isList e
  obtain ⟨os, hos, hcs, hds⟩ := id hs
  have hTs : s.TypeIs (.ref sl) "slice" := ⟨os, hos, hcs⟩
  have hstep : ¬ ((rawPart none == rawInt 0) = true) := Bool.false_ne_true
  refine wpAny_delItem_slot hl.typeIs (by decide) PySem.F.slot_list_delitem ?_
  refine wpAny_call_entry PySem.F.slot_list_delitem hl.typeIs PySem.F.entry_list_delitem ?_ (PySem.F.args_list_delitem_2 _ _)
  show wpAny _ _ (Builtin.List.listSubscript? (.ref sl) >>= _) _ _ s
  refine wpAny_bind ?_
  unfold Builtin.List.listSubscript?
  refine wpAny_bind (wpAny_specialOf hTs slice_no_index ?_)
  simp only [Option.isNone_none, if_true]
  refine wpAny_pure ?_
  show wpAny _ _ (typeOf (.ref sl) >>= _) _ _ s
  refine wpAny_bind (wpAny_typeOf hTs ?_)
  first
    | rw [if_neg (by decide)]
    | refine PySem.W.KFB.if_not (by decide) ?_
  rw [listSliceParts_eq]
  refine wpAny_bind (wpAny_bind (wpAny_field hos hds (x := .none) rfl (wpAny_bind (wpAny_listPart .none ?_))))
  rw [if_neg hstep]
  refine wpAny_bind (wpAny_field hos hds (x := vl) rfl (wpAny_bind (wpAny_listPart pl ?_)))
  refine wpAny_bind (wpAny_field hos hds (x := vu) rfl (wpAny_bind (wpAny_listPart pu (wpAny_pure ?_))))
  refine wpAny_bind (m := Builtin.List.listItems (.ref l)) ?_
  unfold Builtin.List.listItems
  refine wpAny_bind (wpAny_seqItems e rfl (wpAny_pure ?_))
  refine wpAny_bind (wpAny_of_eq ((sliceIndices_raw none (some (c : Int)) none its.toArray.size (by simp)).trans (congrArg (pure : Int × Int × Int → Sem (Int × Int × Int)) (bounds_hi (by rw [List.size_toArray]; exact hc)))) ?_)
  refine wpAny_bind (wpAny_rule ?_)
  have key : ∀ p : Nat → Bool, (∀ i, p i = decide (i < c)) → (its.zipIdx.filterMap fun x => if p x.2 = true then none else some x.1) = its.drop c := fun p hp => sel_drop p c hp its
  have sel : ∀ i : Nat, (if (1 : Int) > 0 then (decide ((0 : Int) ≤ (i : Int)) && decide ((i : Int) < (c : Int)) && ((((i : Int) - 0) % 1 : Int) == 0)) else (decide ((c : Int) < (i : Int)) && decide ((i : Int) ≤ (0 : Int)) && (((0 : Int) - (i : Int)) % (-1) == 0))) = decide (i < c) := fun i => by
    rw [if_pos (by decide)]
    simp [Int.emod_one]
  have key2 : (its.toArray.toList.zipIdx.filterMap fun x => if (if (1 : Int) > 0 then (decide ((0 : Int) ≤ (x.2 : Int)) && decide ((x.2 : Int) < (c : Int)) && ((((x.2 : Int) - 0) % 1 : Int) == 0)) else (decide ((c : Int) < (x.2 : Int)) && decide ((x.2 : Int) ≤ (0 : Int)) && (((0 : Int) - (x.2 : Int)) % (-1) == 0))) = true then none else some x.1).toArray = (its.drop c).toArray := congrArg List.toArray (key _ sel)
  refine wpAny_bind (m := updateSeq l _) ?_
  refine wpAny_updateSeq (hz := by rw [List.size_toArray]; exact hsz) (_hz' := ?_) e rfl ?_
  · refine wpAny_bind (wpAny_letGo ?_)
    exact wpAny_pure ⟨.none, rfl, h _ key2⟩
  · refine Nat.le_trans (Nat.le_of_eq (congrArg Array.size key2)) ?_
    rw [List.size_toArray, List.length_drop]
    omega
end
/-- del xs[:n] -/
def sDels (td ty : TE) : TS := fun D σ H => td σ H fun x H1 => tPart ty σ H1 fun po H2 => ∃ a xs c, x = .ref a ∧ H2 a = some (.lst xs) ∧ po = some c ∧ 0 ≤ c ∧ c ≤ xs.length ∧ D.nx σ (upd H2 a (.lst (xs.drop c.toNat)))
section
variable {X : Cx} {o e : Expr} {pos tpos p2 : Pos} {td ty : TE}
theorem ps_dels (ho : PE X o td) (hi : PE X e ty) : PS X (.Delete [.Subscript o (.Slice none (some e) none p2) tpos] pos) (sDels td ty) := by
  refine ⟨fun pins s σ H D I h => ?_⟩
  refine wpAny_Delete (wpAny_deleteEach_cons (wpAny_delete_Subscript (thn (ho.run pins s σ H _ I h) fun u s1 ⟨x, H1, I1, rx, q1⟩ => ?_)))
  refine wpAny_Slice (thn (po_none.run pins s1 σ H1 (fun o H2 => o = none ∧ H2 = H1) I1 ⟨rfl, rfl⟩) fun vl s2 ⟨l, H2, I2, pl, el, e2⟩ => ?_)
  subst el e2
  refine thn ((po_some hi).run pins s2 σ H2 _ I2 q1) fun vu s3 ⟨u2, H3, I3, pu, a, xs, c, ex, ha, ec, h0, hc, q2⟩ => ?_
  subst ex ec
  obtain rfl : u = Value.ref a := rx
  rw [evalPart_none]
  refine wpAny_pure ?_
  have I4 : Inv X pins σ H3 { s3 with heap := s3.heap.push { cls := .type "slice", data := .fields #[vl, vu, .none] } } := I3.kept (t' := s3.toks) fun b ob q => Heap.get?_push_of_some _ q
  obtain ⟨z, its, n, r, hl, e4⟩ := I4.lstM ha
  obtain ⟨c', rfl⟩ := Int.eq_ofNat_of_zero_le h0
  refine delItem_slice (c := c') e4 (Heap.IsSliceOf.new ..) pl pu (by omega) (by omega) fun f hf => ?_
  refine wpAny_deleteEach_nil ⟨σ, _, I4.lset (its' := its.drop c') (t' := s3.toks) ha e4 hf (r.drop c') (by rw [List.length_drop]; omega), ?_⟩
  exact q2
end
section
variable {X : Cx} {m m1 m2 p1 p2 : Bool} {e a b o c : Expr} {pos px apos pos' tpos q1 q2 q3 : Pos} {fe : SE PyData} {i n k : Nat} {p : Path}
/-- del l[:n] -/
def delS (i : Nat) (p : Path) (fe : SE PyData) : SS := fun E => (lstAt i p E).bind fun _ => (fe E).bind fun x => match x.1 with
  | .int c => (lstAt i p x.2).bind fun xs => if 0 ≤ c ∧ c ≤ xs.length then some (.nx, putAt i p (.lst (xs.drop c.toNat)) x.2) else none
  | _ => none
theorem pxs_delS (ho : PP X i p o) (hb : PX X m p2 b fe) (hst : p = [] ∨ m = false := by first | exact .inl rfl | exact .inr rfl) : PXS1 X n (.Delete [.Subscript o (.Slice none (some b) none q1) tpos] pos) (delS i p fe) := ps_imp (ps_dels ho hb) fun D σ H => by
  rintro ⟨vs0, P, E, fps, fl', E', hn, r, hf, q⟩
  obtain ⟨xs0, e0, hf⟩ := Option.bind_eq_some_iff.mp hf
  obtain ⟨⟨d, E1⟩, e1, hf⟩ := Option.bind_eq_some_iff.mp hf
  dsimp only at hf
  split at hf
  · rename_i c
    obtain ⟨xs, e2, hf⟩ := Option.bind_eq_some_iff.mp hf
    split at hf
    · rename_i hc
      cases hf
      refine ⟨vs0, P, E, fps, _, r, lstAt_some e0, fun w hw => ⟨vs0, P, E, fps, _, E1, r, e1, fun P1 H1 fps1 y rl1 s1 m1' dy => ?_⟩⟩
      have hw1 := walkS_keep (hst.imp id m1') hw
      obtain ⟨ad, vs, rfl, pa, ha, dx⟩ := rl1.lstAt (lstAt_some e2) hw1
      have ey : y = .int c := by cases p2 <;> exact dq_int dy
      subst ey
      obtain ⟨fps3, g4, g5⟩ := rl1.pokeL (lstAt_some e2) hw1 (dx.drop c.toNat)
      exact ⟨c, rfl, ad, vs, c, rfl, ha, rfl, hc.1, by rw [dx.length]; exact hc.2, q _ _ _ _ g4 (s1.trans g5)⟩
    · cases hf
  · cases hf
/-- l[::-1] -/
def revP (i : Nat) (p : Path) : SE (List PyData) := fun E => (lstAt i p E).bind fun xs => some (xs.reverse, E)
theorem dq_reverse {K : PySem.W.Frag} {H : Hp} : ∀ {vs : List V} {ds : List PyData}, DqAll K H vs ds → DqAll K H vs.reverse ds.reverse
  | _, _, .nil => .nil
  | _, _, .cons h r => by
    rw [List.reverse_cons, List.reverse_cons]
    exact (dq_reverse r).append (.one h)
theorem pl_revP (ho : PP X i p o) : PL X false (.Subscript o (.Slice none none (some (.UnaryOp .USub (.Constant (.int 1) k q1) q2)) q3) pos) (revP i p) := pe_imp (pe_revL ho) fun σ H Q => by
  rintro ⟨vs0, P, E, fps, d, E', rel, hh, q⟩
  obtain ⟨xs, e0, hh⟩ := Option.bind_eq_some_iff.mp hh
  cases hh
  refine ⟨vs0, P, E, fps, _, rel, lstAt_some e0, fun w hw => ?_⟩
  obtain ⟨ad, vs, rfl, pa, ha, dv⟩ := rel.lstAt (lstAt_some e0) hw
  exact ⟨ad, vs, rfl, SqL.of ha, fun p0 hp => (tXL_end rel (.refl _ _ _) (fun _ => Same.refl H) q).new rel.sub hp (dq_reverse dv)⟩
variable {E : En} {Q : Fl → En → Prop} {QL : List PyData → En → Prop}
theorem ok_delS : Ok (delS i p fe E) Q = OkV (lstAt i p E) fun _ => Ok (fe E) fun d E1 => match d with
    | .int c => OkV (lstAt i p E1) fun xs => (0 ≤ c ∧ c ≤ xs.length) ∧ Q .nx (putAt i p (.lst (xs.drop c.toNat)) E1)
    | _ => False := by
  simp only [delS, ok_bndV, okV_pair]
  congr 1; funext _; congr 1; funext d E1
  cases d with
  | int c => simp only [ok_bndV, ok_ifN, ok_some]
  | _ => exact ok_none
theorem ok_revP : Ok (revP i p E) QL = OkV (lstAt i p E) fun xs => QL xs.reverse E := by
  simp only [revP, ok_bndV, ok_some]
end
end Fw
namespace Fw
open PySem PySem.Spec L2
open PyProof.Rows hiding St
theorem Step.wide {F F' G : Addr → Prop} {P H P' H' : Hp} (s : Step F P H F' P' H') : Step (fun a => F a ∨ G a) P H (fun a => F' a ∨ G a) P' H' :=
  ⟨s.pp, fun a o h n => s.keep a o h fun z => n (.inl z), fun a o h => (s.fresh a o h).imp id fun z => z.imp id .inl, fun a h => h.elim (fun z => (s.foot a z).imp .inl id) fun z => .inl (.inr z), s.live⟩
def evR : List (Str × SE Sl) → SE (List (Str × Tr))
  | [] => ret []
  | (k, f) :: r => bnd f fun s => match trOf s with
    | some t => bnd (evR r) fun l => ret ((k, t) :: l)
    | none => fun _ => none
inductive PRs (X : Cx) : List (Option Expr) → List Expr → List (Str × SE Sl) → Prop where
  | nil : PRs X [] [] []
  | cons {k : Str} {j : Nat} {p : Pos} {e : Expr} {ks : List (Option Expr)} {vs : List Expr} {f : SE Sl} {fs : List (Str × SE Sl)} : PXC X true e f → PRs X ks vs fs → PRs X (some (.Constant (.str k) j p) :: ks) (e :: vs) ((k, f) :: fs)
def trsR (K : PySem.W.Frag) (fs : List (Str × SE Sl)) : List (TE × TE) := fs.map fun x => (tC (.str x.1), tXC K true x.2)
theorem prs_pps {X : Cx} {pos : Pos} {ks : List (Option Expr)} {vs : List Expr} {fs : List (Str × SE Sl)} (h : PRs X ks vs fs) : PPs X pos ks vs (trsR X.K fs) ∧ ks.length = fs.length ∧ vs.length = fs.length ∧ ks.all (·.isSome) = true := by
  induction h with
  | nil => exact ⟨pps_nil, rfl, rfl, rfl⟩
  | cons he _ ih => exact ⟨pps_cons pe_str he ih.1, congrArg (· + 1) ih.2.1, congrArg (· + 1) ih.2.2.1, by rw [List.all_cons, ih.2.2.2]; rfl⟩
theorem pairs_run {K : PySem.W.Frag} {vs0 : List V} {σ : L2.St} : ∀ {fs : List (Str × SE Sl)} {P H : Hp} {E E' : En} {fps : Nat → List Addr} {rs : List (Str × Tr)} {Q : List (V × V) → Hp → Prop}, evR fs E = some (rs, E') → Rel K vs0 P E σ H fps →
    (∀ (P' H' : Hp) (fps' : Nat → List Addr) (l : List (Str × V)) (fr : List Addr), Rel K vs0 P' E' σ H' fps' → Step (In fps) P H (fun a => In fps' a ∨ a ∈ fr) P' H' → TRs K P' H' rs l fr → (∀ a ∈ fr, ¬ In fps' a) → Q (l.map fun x => (.str x.1, x.2)) H') → tPairs (trsR K fs) σ H Q
  | [], P, H, E, E', fps, rs, Q, h, r, q => by
    obtain ⟨rfl, rfl⟩ := ret_some h
    exact q P H fps [] [] r ((Step.refl _ _ _).or fun a h => nomatch h) .nil (fun _ h => nomatch h)
  | (k, f) :: fs, P, H, E, E', fps, rs, Q, h, r, q => by
    obtain ⟨s, E1, h1, h⟩ := bnd_some h
    cases et : trOf s with
    | none => rw [et] at h; cases h
    | some t =>
      rw [et] at h
      obtain ⟨l0, E2, h2, h3⟩ := bnd_some h
      obtain ⟨rfl, rfl⟩ := ret_some h3
      refine ⟨vs0, P, E, fps, s, E1, r, h1, fun P1 H1 fps1 v fr1 r1 s1 _ sr nf => ?_⟩
      have t1 := trOf_rel et sr
      refine pairs_run h2 r1 fun P2 H2 fps2 l fr2 r2 s2 ts nf2 => ?_
      have kp : ∀ a ∈ fr1, H2 a = H1 a ∧ P2 a = none := fun a ha => by
        obtain ⟨pn, o, ho⟩ := t1.foot a ha
        exact ⟨(s2.keep a o ho (nf a ha)).trans ho.symm, s2.noneD ho (nf a ha) pn fun xs z => t1.footN a ha ⟨xs, by rw [ho, z]⟩⟩
      have old : ∀ a ∈ fr1, ∀ G : Addr → Prop, (G a → In fps1 a ∨ H1 a = none) → ¬ G a := fun a ha G hg z => by
        obtain ⟨_, o, ho⟩ := t1.foot a ha
        rcases hg z with y | y
        · exact nf a ha y
        · rw [ho] at y; cases y
      have t2 := t1.mono s2.pp kp
      refine q P2 H2 fps2 ((k, v) :: l) (fr1 ++ fr2) r2 ?_ (.cons t2 ts fun a ha => old a ha (· ∈ fr2) fun z => s2.foot a (.inr z)) fun a ha => ?_
      · have w := s1.trans (Step.wide (G := fun a => a ∈ fr1) s2)
        exact ⟨w.pp, w.keep, w.fresh, fun a h => w.foot a (by
          rcases h with h | h
          · exact .inl (.inl h)
          · rcases List.mem_append.mp h with h | h
            · exact .inr h
            · exact .inl (.inr h)), w.live⟩
      · rcases List.mem_append.mp ha with ha | ha
        · exact old a ha (In fps2) fun z => s2.foot a (.inl z)
        · exact nf2 a ha
/-- {'a': .., 'b': ..} -/
def distK : List Str → Bool
  | [] => true
  | k :: ks => !(ks.contains k) && distK ks
def dspR (fs : List (Str × SE Sl)) : SE Sl := bnd (evR fs) fun l => if distK (l.map (·.1)) = true then ret (.tr (.dst l)) else fun _ => none
theorem TRs.keys {K : PySem.W.Frag} {P H : Hp} : ∀ {fs : List (Str × Tr)} {l : List (Str × V)} {fp : List Addr}, TRs K P H fs l fp → l.map (·.1) = fs.map (·.1)
  | _, _, _, .nil => rfl
  | _, _, _, .cons _ r _ => by rw [List.map_cons, List.map_cons, TRs.keys r]
theorem look_none {k : Str} : ∀ {a : List (Str × V)}, k ∉ a.map (·.1) → a.lookup k = none
  | [], _ => rfl
  | x :: a, h => by
    obtain ⟨x1, x2⟩ := x
    rw [List.lookup_cons]
    have hx : ¬ k = x1 := fun z => h (by rw [z]; simp)
    have : (k == x1) = false := beq_eq_false_iff_ne.mpr hx
    rw [this]
    exact look_none fun z => h (by rw [List.map_cons]; exact List.mem_cons_of_mem _ z)
theorem merge_dist : ∀ (l a : List (Str × V)), distK (l.map (·.1)) = true → (∀ k ∈ l.map (·.1), k ∉ a.map (·.1)) → mergeK (dstL a) (dstL l) = dstL (a ++ l)
  | [], a, _, _ => by rw [List.append_nil]; rfl
  | (k, v) :: l, a, hd, hn => by
    unfold distK at hd
    rw [List.map_cons, Bool.and_eq_true] at hd
    have hk : valV (dstL a) (Sum.inr k) = none := by
      rw [dstL_val]
      exact look_none (hn k (by simp))
    show mergeK (putK (dstL a) (Sum.inr k) v) (dstL l) = _
    rw [putK_new v hk]
    have e : dstL a ++ [((Sum.inr k : Key), v)] = dstL (a ++ [(k, v)]) := by simp [dstL]
    rw [e, merge_dist l (a ++ [(k, v)]) hd.2 fun j hj hj2 => ?_, List.append_assoc]
    · rfl
    · rw [List.map_append] at hj2
      rcases List.mem_append.mp hj2 with h | h
      · exact hn j (by simp only [List.map_cons, List.mem_cons]; exact .inr hj) h
      · cases List.mem_singleton.mp h
        have := hd.1
        simp only [Bool.not_eq_true', List.contains_eq_mem, decide_eq_false_iff_not] at this
        exact this hj
theorem pxc_dspR {X : Cx} {pos : Pos} {ks : List (Option Expr)} {vs : List Expr} {fs : List (Str × SE Sl)} (h : PRs X ks vs fs) (h0 : ks ≠ []) (h15 : ks.length ≤ 15) : PXC X true (.Dict ks vs pos) (dspR fs) := by
  obtain ⟨h1, h2, h3, h4⟩ := prs_pps (pos := pos) h
  refine pe_imp (pe_disp h1 h4 (h2.trans h3.symm) h0 h15) fun σ H Q => ?_
  rintro ⟨vs0, P, E, fps, d, E', r, hf, q⟩
  obtain ⟨l, E1, g1, g2⟩ := bnd_some hf
  by_cases hdist : distK (l.map (·.1)) = true
  · rw [if_pos hdist] at g2
    obtain ⟨rfl, rfl⟩ := ret_some g2
    intro z hz
    have s0 : Same H (upd H z (.dK [])) := Fw.same_upd hz
    have pz := sub_none r.sub hz
    have nz : ¬ In fps z := fun hi => by
      obtain ⟨_, o, ho⟩ := r.foot hi
      rw [hz] at ho
      cases ho
    have r0 : Rel X.K vs0 P E σ (upd H z (.dK [])) fps := r.keep (Same.refl P) (r.sub.trans s0) fun b hb => by
      obtain ⟨pn, o, ho⟩ := r.foot hb
      exact ⟨(s0 b o ho).trans ho.symm, pn⟩
    have st0 : Step (In fps) P H (In fps) P (upd H z (.dK [])) := ⟨Same.refl P, fun a o h _ => s0 a o h, .same, fun a h => .inl h, fun a o h => ⟨o, s0 a o h⟩⟩
    refine pairs_run g1 r0 fun P1 H1 fps1 lv fr r1 s1 ts nf => ?_
    have hz1 : H1 z = some (.dK []) := s1.keep z _ upd_same nz
    have pz1 : P1 z = none := s1.noneD upd_same nz pz
    have nz1 : ¬ In fps1 z := fun hi => by
      rcases s1.foot z (.inl hi) with y | y
      · exact nz y
      · rw [upd_same] at y; cases y
    have nzf : z ∉ fr := fun hi => by
      rcases s1.foot z (.inr hi) with y | y
      · exact nz y
      · rw [upd_same] at y; cases y
    have hl : lv.length ≤ 15 := by
      have a1 := ts.length
      have a2 : ∀ {fs : List (Str × SE Sl)} {E E' : En} {rs : List (Str × Tr)}, evR fs E = some (rs, E') → rs.length = fs.length := by
        intro fs
        induction fs with
        | nil => intro E E' rs h; obtain ⟨rfl, _⟩ := ret_some h; rfl
        | cons x fs ih =>
          intro E E' rs h
          obtain ⟨k, f⟩ := x
          obtain ⟨s, E1, _, h⟩ := bnd_some h
          cases et : trOf s with
          | none => rw [et] at h; cases h
          | some t =>
            rw [et] at h
            obtain ⟨l0, E2, h2, h3⟩ := bnd_some h
            obtain ⟨rfl, _⟩ := ret_some h3
            rw [List.length_cons, List.length_cons, ih h2]
      have a3 := a2 g1
      omega
    refine ⟨hz1, dstL lv, by simp [dstL, kV], by simpa using hl, ?_⟩
    have em : mergeK [] (dstL lv) = dstL lv := merge_dist lv [] (by rw [ts.keys]; exact hdist) fun _ _ h => nomatch h
    rw [em]
    have tr := st0.trans s1
    have ts' : TRs X.K P1 (upd H1 z (.dK (dstL lv))) l lv fr := ts.mono (Same.refl P1) fun a ha => ⟨upd_ne fun e => nzf (e ▸ ha), (ts.foot a ha).1⟩
    refine q P1 _ fps1 (.ref z) (z :: fr) (r1.poke pz1 nz1) ⟨tr.pp, fun a o h na => ?_, tr.fresh, fun a h => ?_, fun a o h => ?_⟩ (fun h => nomatch h) (.tr (.dst pz1 upd_same ts' nzf)) fun a h => ?_
    · rw [upd_ne (ne_of_none h hz)]
      exact tr.keep a o h na
    · rcases h with h | h
      · exact tr.foot a (.inl h)
      · rcases List.mem_cons.mp h with rfl | h
        · exact .inr hz
        · exact tr.foot a (.inr h)
    · rw [upd_ne (ne_of_none h hz)]
      exact tr.live a o h
    · rcases List.mem_cons.mp h with rfl | h
      · exact nz1
      · exact nf a h
  · rw [if_neg hdist] at g2; cases g2
section
variable {X : Cx} {m m1 m2 p1 p2 : Bool} {e a b o c : Expr} {pos px apos pos' tpos kpos : Pos} {fc : SE Sl} {i n kk j : Nat} {p : Path} {k : Str}
theorem pp_key (hR : PySem.W.nsIn X.K mainGlobals "{}" = some none) (hu : X.A.units + 1 < cLine) (h : PP X i p o) (hs : NoSl (.Constant (.str k) j kpos) := by exact fun _ _ => rfl) : PP X i (p ++ ([("{}", k)] : Path)) (.Subscript o (.Constant (.str k) j kpos) pos) := pe_imp (pe_dget hu h pe_str hs) fun σ H Q => by
  rintro ⟨vs0, P, E, fps, n, r, hn, q⟩
  obtain ⟨t, h1, h2⟩ := nodeAt_app hn
  refine ⟨vs0, P, E, fps, t, r, h1, fun v hv => ?_⟩
  obtain ⟨vn, fpn, w1, w2, _, _⟩ := r.focus h1
  rw [hv] at w1
  cases w1
  unfold getP at h2
  cases w2 with
  | @dst ad fs0 l fpi pa ha s _ =>
    dsimp only at h2
    rw [if_pos rfl] at h2
    obtain ⟨fp1, _, i2, _, _⟩ := TRs.at_ (x := k) s
    cases e1 : getF k fs0 with
    | none => rw [e1] at h2; cases h2
    | some t1 =>
      obtain ⟨v1, h3, _⟩ := i2 t1 e1
      refine ⟨ad, v1, rfl, ?_, q v1 (walkS_app hv ?_)⟩
      · have := DGet.k (k := Sum.inr k) ha
        rw [dstL_val, h3] at this
        exact this
      · unfold walkH
        rw [ha]
        dsimp only
        rw [dstL_val, h3]
        cases v1 <;> rfl
  | @ins D c' ad dx fs0 l fpi pa pd ha hd hc s _ _ _ =>
    dsimp only at h2
    split at h2
    · rename_i eD
      subst eD
      unfold clsK at hc
      rw [hR] at hc
      cases hc
    · cases h2
  | _ => cases h2
end
section
variable {K : PySem.W.Frag} {vs0 : List V} {P H P1 H1 : Hp} {E E1 : En} {σ : L2.St} {fps fps1 : Nat → List Addr} {i : Nat} {p : Path} {fs : List (Str × Tr)}
theorem map_no {x : Str} {v : V} : ∀ {l : List (Str × V)}, x ∉ l.map (·.1) → (dstL l).map (fun kv => if kv.1 = Sum.inr x then (kv.1, v) else kv) = dstL l
  | [], _ => rfl
  | (y, u) :: r, h => by
    have hy : ¬ (Sum.inr y : Key) = Sum.inr x := fun z => h (by rw [← Sum.inr.inj z]; simp)
    rw [show dstL ((y, u) :: r) = ((Sum.inr y : Key), u) :: dstL r from rfl, List.map_cons, if_neg hy, map_no fun z => h (by rw [List.map_cons]; exact List.mem_cons_of_mem _ z)]
theorem map_put {x : Str} {v : V} : ∀ {l : List (Str × V)}, distK (l.map (·.1)) = true → (l.lookup x).isSome = true → (dstL l).map (fun kv => if kv.1 = Sum.inr x then (kv.1, v) else kv) = dstL (putF x v l)
  | [], _, h => by cases h
  | (y, u) :: r, hd, h => by
    unfold distK at hd
    rw [List.map_cons, Bool.and_eq_true] at hd
    rw [show dstL ((y, u) :: r) = ((Sum.inr y : Key), u) :: dstL r from rfl, List.map_cons]
    unfold putF
    by_cases e : y = x
    · subst e
      have hn : y ∉ r.map (·.1) := by
        have := hd.1
        simpa only [Bool.not_eq_true', List.contains_eq_mem, decide_eq_false_iff_not] using this
      rw [if_pos rfl, if_pos rfl, map_no hn]
      rfl
    · have hy : ¬ (Sum.inr y : Key) = Sum.inr x := fun z => e (Sum.inr.inj z)
      have hb : (x == y) = false := beq_eq_false_iff_ne.mpr (Ne.symm e)
      rw [List.lookup_cons, hb] at h
      rw [if_neg hy, if_neg e, map_put hd.2 h]
      rfl
theorem putF_dst {x : Str} {v : V} {l : List (Str × V)} (hd : distK (l.map (·.1)) = true) (h : (l.lookup x).isSome = true) : putK (dstL l) (Sum.inr x) v = dstL (putF x v l) := by
  unfold putK
  rw [if_pos, map_put hd h]
  rw [valV_any, dstL_val]
  exact h
theorem Rel.storeR (r1 : Rel K vs0 P1 E1 σ H1 fps1) (hn : nodeAt i p E1 = some (.dst fs)) {x : Str} {t : Tr} {v : V} {fpt : List Addr} (hx : (getF x fs).isSome = true) (ht : TR K P1 H1 t v fpt) (nf : ∀ a ∈ fpt, ¬ In fps1 a) :
    ∃ (ad : Addr) (l : List (Str × V)), walkS σ H1 i p = some (.ref ad) ∧ H1 ad = some (.dK (dstL l)) ∧ l.length = fs.length ∧ l.map (·.1) = fs.map (·.1) ∧ (l.lookup x).isSome = true ∧
      ∃ fps', Rel K vs0 P1 (putAt i p (.dst (setF x t fs)) E1) σ (upd H1 ad (.dK (dstL (putF x v l)))) fps' ∧ Step (fun b => In fps1 b ∨ b ∈ fpt) P1 H1 (In fps') P1 (upd H1 ad (.dK (dstL (putF x v l)))) := by
  obtain ⟨vn, fpn, w1, w2, w3, w4⟩ := r1.focus hn
  cases w2 with
  | @dst ad fs0 l fpi pa ha s n1 =>
    obtain ⟨fp1, i1, i2, _, i4⟩ := TRs.at_ (x := x) s
    obtain ⟨t0, ht0⟩ := Option.isSome_iff_exists.mp hx
    obtain ⟨v0, hv0, _⟩ := i2 t0 ht0
    refine ⟨ad, l, w1, ha, s.length, s.keys, by rw [hv0]; rfl, ?_⟩
    have inA : In fps1 ad := w3 ad List.mem_cons_self
    have inI : ∀ b ∈ fpi, In fps1 b := fun b hb => w3 b (List.mem_cons_of_mem _ hb)
    have neA : ∀ b, b ≠ ad → upd H1 ad (.dK (dstL (putF x v l))) b = H1 b := fun b hb => upd_ne hb
    have tA : ∀ b ∈ fpt, b ≠ ad := fun b hb z => nf b hb (z ▸ inA)
    have ht' : TR K P1 (upd H1 ad (.dK (dstL (putF x v l)))) t v fpt := ht.mono (Same.refl P1) fun b hb => ⟨neA b (tA b hb), (ht.foot b hb).1⟩
    obtain ⟨fpi', j1, j2⟩ := i4 P1 (upd H1 ad (.dK (dstL (putF x v l)))) t v fpt (Same.refl P1) ht' (fun b hb _ => ⟨neA b fun z => n1 (z ▸ hb), (r1.foot (inI b hb)).1⟩) fun b hb hb2 => absurd (inI b hb2) (nf b hb)
    have out : ∀ b, In fps1 b → b ∉ fpi → b ∉ fpi' := fun b hb nb z => by
      rcases (j2 b).mp z with z | z
      · exact nb z.1
      · exact nf b z hb
    have nd : TR K P1 (upd H1 ad (.dK (dstL (putF x v l)))) (.dst (setF x t fs)) (.ref ad) (ad :: fpi') := .dst pa upd_same j1 (out ad inA n1)
    obtain ⟨fps', g1, g2⟩ := w4 P1 (upd H1 ad (.dK (dstL (putF x v l)))) (.dst (setF x t fs)) (ad :: fpi') (Same.refl P1) (fun y u hy => by
      rw [neA y fun z => by rw [z, pa] at hy; cases hy]
      exact r1.sub y u hy) nd (fun b hb nb => ⟨neA b fun z => nb (z ▸ List.mem_cons_self), (r1.foot hb).1⟩) (fun b hb hb2 => by
      rcases List.mem_cons.mp hb with rfl | hb
      · exact List.mem_cons_self
      · rcases (j2 b).mp hb with z | z
        · exact List.mem_cons_of_mem _ z.1
        · exact absurd hb2 (nf b z))
    refine ⟨fps', g1, Same.refl P1, fun a o h1 na => ?_, .same, fun a h => ?_, fun a o h1 => ?_⟩
    · rw [neA a fun z => na (.inl (z ▸ inA))]
      exact h1
    · rcases (g2 a).mp h with z | z
      · exact .inl (.inl z.1)
      · rcases List.mem_cons.mp z with rfl | z
        · exact .inl (.inl inA)
        · rcases (j2 a).mp z with y | y
          · exact .inl (.inl (inI a y.1))
          · exact .inl (.inr y)
    · by_cases e : a = ad
      · subst e
        exact ⟨_, upd_same⟩
      · exact ⟨o, (neA a e).trans h1⟩
end
section
variable {X : Cx} {m : Bool} {e o : Expr} {pos pos' kpos : Pos} {fc : SE Sl} {i n j : Nat} {p : Path} {k : Str}
/-- d['k'] = e -/
def setR (i : Nat) (p : Path) (k : Str) (fc : SE Sl) : SS := fun E => (fc E).bind fun x => (trOf x.1).bind fun t => match nodeAt i p x.2 with
  | some (.dst fs) => if (getF k fs).isSome = true ∧ fs.length < 900 ∧ distK (fs.map (·.1)) = true then some (.nx, putAt i p (.dst (setF k t fs)) x.2) else none
  | _ => none
theorem pxs_setR (hu : X.A.units + 1 < cLine) (ho : PP X i p o) (h1 : PXC X m e fc) (hs : swapsWith e (some (.Subscript o (.Constant (.str k) j kpos) pos')) pos.line X.env = pure false := by rfl) :
    PXS1 X n (.Assign [.Subscript o (.Constant (.str k) j kpos) pos'] e pos) (setR i p k fc) := ps_imp (ps_dput hu ho pe_str h1 hs) fun D σ H => by
  rintro ⟨vs0, P, E, fps, fl', E', hn, r, hf, q⟩
  obtain ⟨⟨s, E1⟩, e1, hf⟩ := Option.bind_eq_some_iff.mp hf
  obtain ⟨t, e2, hf⟩ := Option.bind_eq_some_iff.mp hf
  dsimp only at hf
  split at hf
  · rename_i fs e3
    split at hf
    · rename_i hc
      cases hf
      refine ⟨vs0, P, E, fps, s, E1, r, e1, fun P1 H1 fps1 v fr r1 s1 _ sr nf => ⟨vs0, P1, E1, fps1, _, r1, e3, fun w hw => ?_⟩⟩
      obtain ⟨ad, l, g1, g2, g3, gk, g4, fps', g5, g6⟩ := r1.storeR e3 (x := k) hc.1 (trOf_rel e2 sr) nf
      rw [hw] at g1
      cases g1
      have hz := sizeLine_eq
      refine ⟨ad, upd H1 ad (.dK (dstL (putF k v l))), rfl, ?_, q _ _ _ _ g5 (s1.trans g6)⟩
      have := DPut.k (k := Sum.inr k) (v := v) g2 (by simp only [dstL, List.length_map]; omega)
      rw [putF_dst (by rw [gk]; exact hc.2.2) g4] at this
      exact this
    · cases hf
  · cases hf
variable {E : En} {Q : Fl → En → Prop} {QS : Sl → En → Prop} {QR : List (Str × Tr) → En → Prop} {f : SE Sl} {r : List (Str × SE Sl)}
/-- the record at a place -/
def dstAt (i : Nat) (p : Path) (E : En) : Option (List (Str × Tr)) := match nodeAt i p E with
  | some (.dst fs) => some fs
  | _ => none
theorem ok_setR : Ok (setR i p k fc E) Q = Ok (fc E) fun s E1 => OkV (trOf s) fun t => OkV (dstAt i p E1) fun fs => ((getF k fs).isSome = true ∧ fs.length < 900 ∧ distK (fs.map (·.1)) = true) ∧ Q .nx (putAt i p (.dst (setF k t fs)) E1) := by
  simp only [setR, ok_bndV, okV_pair]
  congr 1; funext s E1; congr 1; funext t
  unfold dstAt
  cases nodeAt i p E1 with
  | none => exact ok_none.trans okV_none.symm
  | some nd =>
    cases nd with
    | dst fs => dsimp only; rw [okV_some, ok_ifN, ok_some]
    | _ => exact ok_none.trans okV_none.symm
theorem ok_evR_nil : Ok (evR [] E) QR = QR [] E := ok_ret
theorem ok_evR_cons : Ok (evR ((k, f) :: r) E) QR = Ok (f E) fun s E1 => OkV (trOf s) fun t => Ok (evR r E1) fun l E2 => QR ((k, t) :: l) E2 := by
  rw [show evR ((k, f) :: r) = bnd f fun s => match trOf s with
    | some t => bnd (evR r) fun l => ret ((k, t) :: l)
    | none => fun _ => none from rfl, ok_bnd]
  congr 1; funext s E1
  cases trOf s with
  | none => exact ok_none.trans okV_none.symm
  | some t => rw [okV_some, ok_bnd]; congr 1; funext l E2; exact ok_ret
theorem ok_dspR : Ok (dspR r E) QS = Ok (evR r E) fun l E1 => distK (l.map (·.1)) = true ∧ QS (.tr (.dst l)) E1 := by
  unfold dspR
  rw [ok_bnd]
  congr 1; funext l E1
  by_cases h : distK (l.map (·.1)) = true
  · rw [if_pos h, ok_ret]; exact propext ⟨fun x => ⟨h, x⟩, fun x => x.2⟩
  · rw [if_neg h, ok_none]; exact propext ⟨False.elim, fun x => h x.1⟩
end
end Fw
namespace Fw
open PySem PySem.Spec L2
open PyProof.Rows hiding St
theorem getF_set {x : Str} {t : Tr} : ∀ {fs : List (Str × Tr)}, getF x (setF x t fs) = some t
  | [] => by unfold setF getF; rw [if_pos rfl]
  | (y, u) :: r => by
    unfold setF
    split
    · rename_i e; unfold getF; rw [if_pos e]
    · rename_i e; unfold getF; rw [if_neg e]; exact getF_set
theorem setF_set {x : Str} {t u : Tr} : ∀ {fs : List (Str × Tr)}, setF x u (setF x t fs) = setF x u fs
  | [] => by show setF x u [(x, t)] = [(x, u)]; rw [setF, if_pos rfl]
  | (y, w) :: r => by
    by_cases e : y = x
    · have h1 : ∀ z, setF x z ((y, w) :: r) = (y, z) :: r := fun z => by rw [setF, if_pos e]
      have h2 : ∀ z z', setF x z' ((y, z) :: r) = (y, z') :: r := fun z z' => by rw [setF, if_pos e]
      rw [h1, h2, h1]
    · have h1 : ∀ z (r' : List (Str × Tr)), setF x z ((y, w) :: r') = (y, w) :: setF x z r' := fun z r' => by rw [setF, if_neg e]
      rw [h1, h1, h1, setF_set]
theorem setF_same {x : Str} {t : Tr} : ∀ {fs : List (Str × Tr)}, getF x fs = some t → setF x t fs = fs
  | [], h => by cases h
  | (y, w) :: r, h => by
    unfold getF at h
    unfold setF
    split at h
    · rename_i e; cases h; rw [if_pos e]
    · rename_i e; rw [if_neg e, setF_same h]
section
variable {C x D : Str} {p : Path} {fs : List (Str × Tr)} {t n : Tr}
theorem putP_ins (e : getF x fs = some t) : putP ((C, x) :: p) n (.ins D fs) = .ins D (setF x (putP p n t) fs) := by
  show (match getF x fs with | some t => Tr.ins D (setF x (putP p n t) fs) | none => .ins D fs) = _
  rw [e]
theorem putP_dst (e : getF x fs = some t) : putP ((C, x) :: p) n (.dst fs) = .dst (setF x (putP p n t) fs) := by
  show (match getF x fs with | some t => Tr.dst (setF x (putP p n t) fs) | none => .dst fs) = _
  rw [e]
theorem getP_ins (eD : D = C) (e : getF x fs = some t) : getP ((C, x) :: p) (.ins D fs) = getP p t := by
  show (if D = C then (match getF x fs with | some t => getP p t | none => none) else none) = _
  rw [if_pos eD, e]
theorem getP_dst (eD : "{}" = C) (e : getF x fs = some t) : getP ((C, x) :: p) (.dst fs) = getP p t := by
  show (if "{}" = C then (match getF x fs with | some t => getP p t | none => none) else none) = _
  rw [if_pos eD, e]
end
theorem put_back : ∀ {p : Path} {t n h : Tr}, getP p t = some n → getP p (putP p h t) = some h ∧ putP p n (putP p h t) = t
  | [], t, n, h, g => by cases g; exact ⟨rfl, rfl⟩
  | (C, x) :: p, t, n, h, g => by
    cases t with
    | ins D fs =>
      have g0 := g
      unfold getP at g0
      split at g0
      · rename_i eD
        cases e1 : getF x fs with
        | none => rw [e1] at g0; cases g0
        | some t1 =>
          rw [e1] at g0
          obtain ⟨h1, h2⟩ := put_back (h := h) g0
          rw [putP_ins e1]
          exact ⟨by rw [getP_ins eD getF_set]; exact h1, by rw [putP_ins getF_set, h2, setF_set, setF_same e1]⟩
      · cases g0
    | dst fs =>
      have g0 := g
      unfold getP at g0
      split at g0
      · rename_i eD
        cases e1 : getF x fs with
        | none => rw [e1] at g0; cases g0
        | some t1 =>
          rw [e1] at g0
          obtain ⟨h1, h2⟩ := put_back (h := h) g0
          rw [putP_dst e1]
          exact ⟨by rw [getP_dst eD getF_set]; exact h1, by rw [putP_dst getF_set, h2, setF_set, setF_same e1]⟩
      · cases g0
    | _ => cases g
/-- the part at j, p is lent to slot m -/
def injA (m j : Nat) (p : Path) (a : Addr) (E : En) : En := match nodeAt j p E with
  | some n => (match slOf n with
    | some s => (putAt j p (.hol a) E).set m s
    | none => E)
  | none => E
def undoA (m j : Nat) (p : Path) (E : En) : En := match E[m]? with
  | some s => (match unSl s with
    | some n => putAt j p n (E.set m .un)
    | none => E)
  | none => E
structure LendOk (m j : Nat) (p : Path) (E : En) : Prop where
  ne : j ≠ m
  un : E[m]? = some .un
  nd : ∃ n s, nodeAt j p E = some n ∧ slOf n = some s
theorem unSl_slOf {n : Tr} {s : Sl} (h : slOf n = some s) : unSl s = some n := by
  cases n <;> cases h <;> rfl
theorem nodeAt_set {j m : Nat} {p : Path} {E : En} {s : Sl} (h : j ≠ m) : nodeAt j p (E.set m s) = nodeAt j p E := by
  unfold nodeAt
  rw [List.getElem?_set_ne (Ne.symm h)]
theorem putAt_set {j m : Nat} {p : Path} {E : En} {s : Sl} {n : Tr} (h : j ≠ m) : putAt j p n (E.set m s) = (putAt j p n E).set m s := by
  unfold putAt
  rw [List.getElem?_set_ne (Ne.symm h)]
  cases E[j]? with
  | none => rfl
  | some s' => cases s' <;> first | rfl | (dsimp only; rw [List.set_comm _ _ (Ne.symm h)])
theorem putAt_len {j : Nat} {p : Path} {E : En} {n : Tr} : (putAt j p n E).length = E.length := by
  unfold putAt
  split
  · rw [List.length_set]
  · rfl
theorem putAt_ne {j m : Nat} {p : Path} {E : En} {n : Tr} (h : j ≠ m) : (putAt j p n E)[m]? = E[m]? := by
  unfold putAt
  split
  · rw [List.getElem?_set_ne h]
  · rfl
theorem put_backE {j : Nat} {p : Path} {E : En} {n h : Tr} (hn : nodeAt j p E = some n) : nodeAt j p (putAt j p h E) = some h ∧ putAt j p n (putAt j p h E) = E := by
  unfold nodeAt at hn
  split at hn
  · rename_i t e1
    have hj := (List.getElem?_eq_some_iff.mp e1).1
    obtain ⟨h1, h2⟩ := put_back (h := h) hn
    have e2 : putAt j p h E = E.set j (.tr (putP p h t)) := by unfold putAt; rw [e1]
    rw [e2]
    have e3 : (E.set j (.tr (putP p h t)))[j]? = some (.tr (putP p h t)) := List.getElem?_set_self hj
    refine ⟨by unfold nodeAt; rw [e3]; exact h1, ?_⟩
    unfold putAt
    rw [e3]
    dsimp only
    rw [h2, List.set_set]
    exact List.ext_getElem? fun k => by
      by_cases ek : j = k
      · subst ek; rw [List.getElem?_set_self hj, e1]
      · rw [List.getElem?_set_ne ek]
  · cases hn
theorem undo_inj {m j : Nat} {p : Path} {a : Addr} {E : En} (h : LendOk m j p E) : undoA m j p (injA m j p a E) = E := by
  obtain ⟨n, s, h1, h2⟩ := h.nd
  have hm := (List.getElem?_eq_some_iff.mp h.un).1
  have e1 : injA m j p a E = (putAt j p (.hol a) E).set m s := by unfold injA; rw [h1]; dsimp only; rw [h2]
  rw [e1]
  unfold undoA
  rw [List.getElem?_set_self (by rw [putAt_len]; exact hm)]
  dsimp only
  rw [unSl_slOf h2]
  dsimp only
  rw [List.set_set, putAt_set h.ne, (put_backE h1).2]
  exact List.ext_getElem? fun k => by
    by_cases ek : m = k
    · subst ek; rw [List.getElem?_set_self hm, h.un]
    · rw [List.getElem?_set_ne ek]
/-- an end that hands on nothing that is owned -/
def flatFl : Fl → Bool
  | .rt (.dat _) => true
  | .rt _ => false
  | _ => true
open Classical in
/-- x = a part; .. : the part is lent to x's slot for these statements -/
noncomputable def withAl (m j : Nat) (p : Path) (R : SS) : SS := fun E => match R (injA m j p 0 E) with
  | some (fl, E2) => if LendOk m j p (undoA m j p E2) ∧ LendOk m j p (E.set m .un) ∧ (∃ s, E[m]? = some s ∧ s.ow = false) ∧ flatFl fl = true ∧ (∀ a, R (injA m j p a E) = some (fl, injA m j p a (undoA m j p E2))) then some (fl, undoA m j p E2) else none
  | none => none
section
variable {K : PySem.W.Frag} {vs0 : List V} {P H : Hp} {E : En} {σ : L2.St} {fps : Nat → List Addr} {m j : Nat} {p : Path} {n : Tr} {s : Sl} {v : V}
theorem slOf_ow {n : Tr} {s : Sl} (h : slOf n = some s) : s.ow = true := by cases n <;> cases h <;> rfl
theorem slOf_ref {n : Tr} {s : Sl} {v : V} {fp : List Addr} (h : slOf n = some s) (r : TR K P H n v fp) : ∃ a, v = .ref a := by
  cases r <;> first | exact ⟨_, rfl⟩ | cases h
theorem Rel.lend (r : Rel K vs0 P E σ H fps) (hne : j ≠ m) (hn : nodeAt j p E = some n) (hs : slOf n = some s) (hm : vs0.length ≤ m) (hl : m < E.length) : ∃ ad, walkS σ H j p = some (.ref ad) ∧
    ∃ fps1, Rel K vs0 P (injA m j p ad E) (σ.set m (some (.ref ad))) H fps1 ∧ Step (In fps) P H (In fps1) P H := by
  obtain ⟨vn, fpn, w1, w2, w3, w4⟩ := r.focus hn
  obtain ⟨ad, rfl⟩ := slOf_ref hs w2
  refine ⟨ad, w1, ?_⟩
  obtain ⟨fps2, r2, i2⟩ := w4 P H (.hol ad) [] (Same.refl P) r.sub .hol (fun b hb _ => ⟨rfl, (r.foot hb).1⟩) fun b hb => nomatch hb
  have r3 := r2.put (i := m) (s := s) (ov := some (.ref ad)) (l := fpn) (slOf_rel hs w2) (fun a ha k _ hk => by
    rcases (i2 a).mp ⟨k, hk⟩ with z | z
    · exact z.2 ha
    · cases z) fun v hv _ => by
      have := (List.getElem?_eq_some_iff.mp hv).1
      omega
  rw [if_pos (by rw [putAt_len]; exact hl)] at r3
  have e1 : injA m j p ad E = (putAt j p (.hol ad) E).set m s := by unfold injA; rw [hn]; dsimp only; rw [hs]
  rw [e1]
  refine ⟨_, r3, Same.refl P, fun a o h _ => h, .same, fun a h => ?_, fun a o h => ⟨o, h⟩⟩
  rcases in_clr h with z | z
  · exact .inl (w3 a z)
  · rcases (i2 a).mp z with z | z
    · exact .inl z.1
    · cases z
theorem Rel.unlend {ad : Addr} (h : LendOk m j p E) (hv : vs0[m]? = some (.ref ad)) (r : Rel K vs0 P (injA m j p ad E) σ H fps) : ∃ fps1, Rel K vs0 P E σ H fps1 ∧ Step (In fps) P H (In fps1) P H := by
  obtain ⟨n, s, h1, h2⟩ := h.nd
  have hm := (List.getElem?_eq_some_iff.mp h.un).1
  have e1 : injA m j p ad E = (putAt j p (.hol ad) E).set m s := by unfold injA; rw [h1]; dsimp only; rw [h2]
  rw [e1] at r
  have es : ((putAt j p (.hol ad) E).set m s)[m]? = some s := List.getElem?_set_self (by rw [putAt_len]; exact hm)
  have hp := r.par m s _ hv es (slOf_ow h2)
  obtain ⟨ov, e2, sr⟩ := r.sl m s es
  rw [hp] at e2
  cases e2
  have tn := unSl_rel (unSl_slOf h2) sr
  have eσ : σ.set m (some (.ref ad)) = σ := List.ext_getElem? fun k => by
    by_cases ek : m = k
    · subst ek; rw [List.getElem?_set_self (List.getElem?_eq_some_iff.mp hp).1, hp]
    · rw [List.getElem?_set_ne ek]
  have r2 := r.put (i := m) (s := .un) (ov := some (.ref ad)) (l := []) .un (fun _ h => nomatch h) fun _ _ h => by cases h
  rw [eσ] at r2
  rw [if_pos (by rw [List.length_set, putAt_len]; exact hm), List.set_set] at r2
  have hh : nodeAt j p ((putAt j p (.hol ad) E).set m .un) = some (.hol ad) := by rw [nodeAt_set h.ne]; exact (put_backE h1).1
  obtain ⟨vn, fpn, w1, w2, w3, w4⟩ := r2.focus hh
  cases w2
  have nin : ∀ b ∈ fps m, ¬ In (clr fps m []) b := fun b hb ⟨k, hk⟩ => by
    unfold clr at hk
    split at hk
    · cases hk
    · rename_i ek; exact ek (r.dj k m b hk hb)
  obtain ⟨fps2, r3, i3⟩ := w4 P H n (fps m) (Same.refl P) r.sub tn (fun b hb _ => ⟨rfl, (r2.foot hb).1⟩) fun b hb hb2 => absurd hb2 (nin b hb)
  rw [putAt_set h.ne, (put_backE h1).2] at r3
  have e3 : E.set m .un = E := List.ext_getElem? fun k => by
    by_cases ek : m = k
    · subst ek; rw [List.getElem?_set_self hm, h.un]
    · rw [List.getElem?_set_ne ek]
  rw [e3] at r3
  refine ⟨fps2, r3, Same.refl P, fun a o h _ => h, .same, fun a h => ?_, fun a o h => ⟨o, h⟩⟩
  rcases (i3 a).mp h with z | z
  · rcases in_clr z.1 with y | y
    · cases y
    · exact .inl y
  · exact .inl ⟨m, z⟩
end
section
variable {X : Cx} {m j n n' : Nat} {p : Path} {e : Expr} {x : Str} {pos pos' : Pos} {sts : List Stmt} {R : SS}
theorem pxs_al (hn1 : n ≤ m) (hn2 : n' = m + 1) (hN : X.N.Nodup) (hi : X.N[m]? = some x) (hx : Loc X.env.scope x) (he : PP X j p e) (hb : PXS X n' sts R) (hs : swapsWith e (some (.Name x pos')) pos.line X.env = pure false := by rfl) (hf : X.fn x = true ∨ X.env.scope.names.lookup x = some .local := by first | exact .inl rfl | exact .inr rfl | assumption) :
    PXS X n (.Assign [.Name x pos'] e pos :: sts) (withAl m j p R) := pss_imp (pss_cons (ps_set hN hi hx he hs hf) hb) fun D σ H => by
  rintro ⟨vs0, P, E, fps, fl, E', hn, r, hf, q⟩
  unfold withAl at hf
  split at hf
  · rename_i fl0 E2 e2
    split at hf
    · rename_i hc
      have hf1 := (Prod.mk.inj (Option.some.inj hf)).1
      have hf2 := (Prod.mk.inj (Option.some.inj hf)).2
      rw [← hf1, ← hf2] at q
      clear hf hf1 hf2
      obtain ⟨l1, l0, ⟨s0, hs0, how⟩, hfl, hall⟩ := hc
      obtain ⟨nd, s, g1, g2⟩ := l0.nd
      rw [nodeAt_set l0.ne] at g1
      have hm : m < E.length := by have := (List.getElem?_eq_some_iff.mp hs0).1; exact this
      obtain ⟨ad, w0, fps1, r1, st1⟩ := r.lend l0.ne g1 g2 (by omega) hm
      refine ⟨vs0, P, E, fps, nd, r, g1, fun v hv => ?_⟩
      rw [w0] at hv
      cases hv
      have em : (injA m j p ad E)[m]? = some s := by
        have e1 : injA m j p ad E = (putAt j p (.hol ad) E).set m s := by unfold injA; rw [g1]; dsimp only; rw [g2]
        rw [e1]
        exact List.getElem?_set_self (by rw [putAt_len]; exact hm)
      have hσ : (σ.set m (some (.ref ad)))[m]? = some (some (.ref ad)) := List.getElem?_set_self (by rw [← r.len]; exact hm)
      have hown : (ownV (m + 1) (injA m j p ad E) (σ.set m (some (.ref ad))))[m]? = some (.ref ad) := by
        rw [ownV_get (by omega), em, hσ]
        cases nd <;> cases g2 <;> rfl
      have ro := r1.toOwn (m + 1)
      have back : ∀ {P2 H2 : Hp} {σ2 : L2.St} {fps2 : Nat → List Addr}, Rel X.K (ownV (m + 1) (injA m j p ad E) (σ.set m (some (.ref ad)))) P2 (injA m j p ad (undoA m j p E2)) σ2 H2 fps2 → ∃ fps4, Rel X.K vs0 P2 (undoA m j p E2) σ2 H2 fps4 ∧ Step (In fps2) P2 H2 (In fps4) P2 H2 := fun r2 => by
        obtain ⟨fps4, r4, s4⟩ := r2.unlend l1 hown
        exact ⟨fps4, r1.ofOwn (by omega) r4, s4⟩
      refine ⟨ownV (m + 1) (injA m j p ad E) (σ.set m (some (.ref ad))), P, injA m j p ad E, fps1, fl0, _, by rw [ownV_len, hn2], ro, hall ad, ?_⟩
      cases fl0 with
      | nx => exact fun P' H' fps' σ' r2 st2 => let ⟨fps4, r4, s4⟩ := back r2; q P' H' fps4 σ' r4 ((st1.trans st2).trans s4)
      | bk => exact fun P' H' fps' σ' r2 st2 => let ⟨fps4, r4, s4⟩ := back r2; q P' H' fps4 σ' r4 ((st1.trans st2).trans s4)
      | ct => exact fun P' H' fps' σ' r2 st2 => let ⟨fps4, r4, s4⟩ := back r2; q P' H' fps4 σ' r4 ((st1.trans st2).trans s4)
      | rt s' =>
        cases s' with
        | dat d =>
          intro P' H' fps' σ' v fr r2 st2 sv nf
          cases sv with
          | dat dv =>
            obtain ⟨fps4, r4, s4⟩ := back r2
            have st3 : Step (In fps1) P H (In fps') P' H' := ⟨st2.pp, st2.keep, st2.fresh, fun a h => st2.foot a (.inl h), st2.live⟩
            exact q P' H' fps4 σ' v [] r4 (((st1.trans st3).trans s4).or fun _ h => nomatch h) (.dat dv) fun _ h => nomatch h
        | _ => cases hfl
    · cases hf
  · cases hf
theorem wp_app {M : Model} {Γ : PySem.Ctx} {env : Env} {Q : Flow → Pos → Shared → Prop} {E : Value → Pos → Shared → Prop} {l2 : List Stmt} : ∀ (l1 : List Stmt) (p : Pos) (s : Shared), Sem.wp M Γ (execs (l1 ++ l2) env) Q E p s = Sem.wp M Γ (execs l1 env) (fun f p' s' => match f with
    | .next => Sem.wp M Γ (execs l2 env) Q E p' s'
    | f => Q f p' s') E p s
  | [], p, s => by
    rw [List.nil_append, execs_nil]
    rfl
  | st :: r, p, s => by
    rw [List.cons_append, execs_cons, execs_cons, Sem.wp_bind', Sem.wp_bind']
    congr 1
    funext f p' s'
    cases f with
    | next => exact wp_app r p' s'
    | _ => rfl
theorem wpAny_app {M : Model} {A : Around} {env : Env} {Q : Flow → Shared → Prop} {E : Value → Shared → Prop} {s : Shared} {l1 l2 : List Stmt} (h : wpAny M A (execs l1 env) (fun f s' => match f with | .next => wpAny M A (execs l2 env) Q E s' | f => Q f s') E s) : wpAny M A (execs (l1 ++ l2) env) Q E s := fun Γ p hΓ => by
  rw [wp_app]
  refine Sem.wp_mono M Γ _ (fun f p' s' h' => ?_) (fun _ _ _ h' => h') _ _ (h Γ p hΓ)
  cases f <;> first | exact h' Γ p' hΓ | exact h'
theorem pss_app {t u : TS} {l1 l2 : List Stmt} (h1 : PSs X l1 t) (h2 : PSs X l2 u) : PSs X (l1 ++ l2) (tSeq t u) := by
  refine ⟨fun pins s σ H D I h => ?_⟩
  refine wpAny_app (thn (h1.run pins s σ H { D with nx := u D } I h) fun f s1 q => ?_)
  cases f with
  | next =>
    obtain ⟨σ', H', I', q⟩ := q
    exact h2.run pins s1 σ' H' D I' q
  | ret v => exact q
  | brk => exact q
  | cont => exact q
/-- the first k statements, then the rest -/
theorem pxs_cut {g h : SS} {l : List Stmt} (k : Nat) (h1 : PXS X n (l.take k) g) (h2 : PXS X n (l.drop k) h) : PXS X n l (seqS g h) := by
  have e : l.take k ++ l.drop k = l := List.take_append_drop k l
  refine e ▸ pss_imp (pss_app h1 h2) fun D σ H => ?_
  rintro ⟨vs0, P, E, fps, fl, E', hn, r, hf, q⟩
  unfold seqS at hf
  split at hf
  · rename_i E1 e1
    exact ⟨vs0, P, E, fps, .nx, E1, hn, r, e1, fun P1 H1 fps1 σ1 r1 s1 => ⟨vs0, P1, E1, fps1, fl, E', hn, r1, hf, q.on s1⟩⟩
  · rename_i hne
    refine ⟨vs0, P, E, fps, fl, E', hn, r, hf, ?_⟩
    cases fl with
    | nx => exact absurd hf (hne E')
    | bk => exact q
    | ct => exact q
    | rt s => exact q
theorem ok_withAl {E E' : En} {fl : Fl} {Q : Fl → En → Prop} (h0 : LendOk m j p (E.set m .un)) (hs : ∃ s, E[m]? = some s ∧ s.ow = false) (hf : flatFl fl = true) (h1 : LendOk m j p E') (h : ∀ a, Ok (R (injA m j p a E)) fun fl2 E2 => fl2 = fl ∧ E2 = injA m j p a E') (q : Q fl E') : Ok (withAl m j p R E) Q := by
  have hr : ∀ a, R (injA m j p a E) = some (fl, injA m j p a E') := fun a => by
    obtain ⟨fl2, E2, e, rfl, rfl⟩ := h a
    exact e
  refine ⟨fl, E', ?_, q⟩
  unfold withAl
  rw [hr 0]
  dsimp only
  rw [undo_inj h1, if_pos ⟨h1, h0, hs, hf, hr⟩]
end
end Fw
namespace ownanswer_k33_turns_by_marks
open PySem Fw
noncomputable section
def T_Turns___init___1 : SS := (setS 0 [] "Turns" "_marks" newD)
def T_Turns___init___2 : SS := (seqS (setS 0 [] "Turns" "_strides" newD) T_Turns___init___1)
def Y_Turns___init__ : SS := (seqS (setS 0 [] "Turns" "_clock" (datS (ret (.int 0)))) T_Turns___init___2)
abbrev N_Turns___init__ : List Str := ["self"]
def S_Turns___init__ : Fn := runF 1 1 Y_Turns___init__
def T_Turns_remove_1 : SS := (ddelP 0 [("Turns", "_strides")] (rdD 1))
def Y_Turns_remove : SS := (seqS (ddelP 0 [("Turns", "_marks")] (rdD 1)) T_Turns_remove_1)
abbrev N_Turns_remove : List Str := ["self", "stream"]
def S_Turns_remove : Fn := runF 2 2 Y_Turns_remove
def Y_Turns_set_weight : SS := (dptP 0 [("Turns", "_strides")] (rdD 1) (bin (ret (.int 65536)) (rdD 2) gDiv))
abbrev N_Turns_set_weight : List Str := ["self", "stream", "weight"]
def S_Turns_set_weight : Fn := runF 3 3 Y_Turns_set_weight
def L_Turns_choose_1 : SS := (dptP 0 [("Turns", "_marks")] (rdD 2) (mny (sCons (dgtP 0 [("Turns", "_marks")] (rdD 2)) (sCons (rdP 0 [("Turns", "_clock")]) sNil)) gMax))
def L_Turns_choose_2 : SS := (ifS (toB (bin (dgtP 0 [("Turns", "_marks")] (rdD 2)) (dgtP 0 [("Turns", "_marks")] (rdD 3)) gLt)) (asg 3 (rdD 2)) nxt)
def T_Turns_choose_1 : SS := (retD (rdD 3))
def T_Turns_choose_2 : SS := (seqS (daugP 0 [("Turns", "_marks")] (fun i j => i + j) (rdD 3) (dgtP 0 [("Turns", "_strides")] (rdD 3))) T_Turns_choose_1)
def T_Turns_choose_3 : SS := (seqS (setS 0 [] "Turns" "_clock" (datS (dgtP 0 [("Turns", "_marks")] (rdD 3)))) T_Turns_choose_2)
def T_Turns_choose_4 : SS := (seqS (forS (sItems (rdD 1)) (toN 2) L_Turns_choose_2) T_Turns_choose_3)
def T_Turns_choose_5 : SS := (seqS (asg 3 (bin (rdD 1) (ret (.int 0)) gIx)) T_Turns_choose_4)
def Y_Turns_choose : SS := (seqS (forS (sItems (rdD 1)) (toN 2) L_Turns_choose_1) T_Turns_choose_5)
abbrev N_Turns_choose : List Str := ["self", "ready", "stream", "chosen"]
def S_Turns_choose : Fn := runF 2 4 Y_Turns_choose
def Y_Turns_mark : SS := (retD (dgtP 0 [("Turns", "_marks")] (rdD 1)))
abbrev N_Turns_mark : List Str := ["self", "stream"]
def S_Turns_mark : Fn := runF 2 2 Y_Turns_mark
def Y_Turns_known : SS := (retL (dsoP 0 [("Turns", "_marks")]))
abbrev N_Turns_known : List Str := ["self"]
def S_Turns_known : Fn := runF 1 1 Y_Turns_known
def Y_Turns_clock : SS := (retD (rdP 0 [("Turns", "_clock")]))
abbrev N_Turns_clock : List Str := ["self"]
def S_Turns_clock : Fn := runF 1 1 Y_Turns_clock
def L__law_draw_1 : SS := (asg 1 (bin (una (bin (bin (bin (rdD 1) (ret (.int 48271)) gMul) (bin (una (una (rdD 2) gInt) gAbs) (ret (.int 65521)) gMod) gAdd) (ret (.int 1)) gAdd) gInt) (ret (.int 2147483647)) gMod))
def C__law_draw_1 : SE PyData := (una (una (rdD 2) gInt) gAbs)
def T__law_draw_1 : SS := (retL (dLst (sCons (bnd (lcS (sScr 0) [2] (toN 2) yesS C__law_draw_1) fun ds => ret (.list ds)) (sCons (una (ret (.int 1)) gNeg) (sCons (ret (.int 0)) (sCons (rdD 1) sNil))))))
def T__law_draw_2 : SS := (seqS (forS (sScr 0) (toN 2) L__law_draw_1) T__law_draw_1)
def Y__law_draw : SS := (seqS (asg 1 (ret (.int 7))) T__law_draw_2)
abbrev N__law_draw : List Str := ["script", "seed", "cell"]
def S__law_draw : Fn := runF 1 3 Y__law_draw
def T__law_take_1 : SS := (setO 0 (ixO 0 (ret (.int 3))) (ret (.int 2)))
def T__law_take_2 : SS := (ifS (toB (bin (ixO 0 (ret (.int 2))) (ret (.int 0)) gEq)) (seqS (setO 0 (bin (una (bin (bin (ixO 0 (ret (.int 3))) (ret (.int 48271)) gMul) (ret (.int 11)) gAdd) gInt) (ret (.int 2147483647)) gMod) (ret (.int 3))) T__law_take_1) nxt)
def T__law_take_3 : SS := (seqS (ifS (toB (bin (ixO 0 (ret (.int 1))) (una (ixO 0 (ret (.int 0))) gLen) gLt)) (setO 0 (bin (ixO 0 (ret (.int 0))) (ixO 0 (ret (.int 1))) gIx) (ret (.int 2))) nxt) T__law_take_2)
def T__law_take_4 : SS := (retD (rdD 2))
def T__law_take_5 : SS := (seqS (setO 0 (bin (ixO 0 (ret (.int 2))) (rdD 1) gDiv) (ret (.int 2))) T__law_take_4)
def T__law_take_6 : SS := (seqS (asg 2 (bin (una (ixO 0 (ret (.int 2))) gInt) (rdD 1) gMod)) T__law_take_5)
def Y__law_take : SS := (seqS (ifS (toB (bin (ixO 0 (ret (.int 2))) (ret (.int 0)) gEq)) (seqS (setO 0 (bin (ixO 0 (ret (.int 1))) (ret (.int 1)) gAdd) (ret (.int 1))) T__law_take_3) nxt) T__law_take_6)
abbrev N__law_take : List Str := ["draw", "many", "found"]
def S__law_take : Fn := runF 2 3 Y__law_take
def L__law_choose_1 : SS := (ifS (toB (bin (rdD 3) (rdP 0 [("{}", "before")]) gNin)) (dptP 2 [] (rdD 3) (mny (sCons (dgtP 2 [] (rdD 3)) (sCons (rdP 0 [("{}", "clock")]) sNil)) gMax)) nxt)
def L__law_choose_2 : SS := (ifS (toB (bin (dgtP 2 [] (rdD 3)) (dgtP 2 [] (rdD 4)) gLt)) (asg 4 (rdD 3)) nxt)
def T__law_choose_1 : SS := (dptP 2 [] (rdD 4) (bin (dgtP 2 [] (rdD 4)) (bin (ret (.int 65536)) (dgtP 0 [("{}", "weights")] (rdD 4)) gDiv) gAdd))
def T__law_choose_2 : SS := (seqS (setR 0 [] "clock" (datS (dgtP 2 [] (rdD 4)))) T__law_choose_1)
def T__law_choose_3 : SS := (seqS (forS (sItems (rdD 1)) (toN 3) L__law_choose_2) T__law_choose_2)
def T__law_choose_4 : SS := (seqS (asg 4 (bin (rdD 1) (ret (.int 0)) gIx)) T__law_choose_3)
def T__law_choose_5 : SS := (seqS (setR 0 [] "before" (datS (rdD 1))) T__law_choose_4)
def A__law_choose_1 : SS := (seqS (forS (sItems (rdD 1)) (toN 3) L__law_choose_1) T__law_choose_5)
def T__law_choose_6 : SS := (retD (rdD 4))
def Y__law_choose : SS := (seqS (withAl 2 0 [("{}", "marks")] A__law_choose_1) T__law_choose_6)
abbrev N__law_choose : List Str := ["state", "ready", "marks", "stream", "found"]
def S__law_choose : Fn := runF 2 5 Y__law_choose
def T_Turns_add_1 : SS := (drpC (callMt "Turns" "set_weight" 0 [] S_Turns_set_weight [.ex (rdD 1), .ex (rdD 2)]))
def Y_Turns_add : SS := (seqS (dptP 0 [("Turns", "_marks")] (rdD 1) (rdP 0 [("Turns", "_clock")])) T_Turns_add_1)
abbrev N_Turns_add : List Str := ["self", "stream", "weight"]
def S_Turns_add : Fn := runF 3 3 Y_Turns_add
def Y__law_weight : SS := (retD (bin (bnd (dLst (sCons (ret (.int 16)) (sCons (ret (.int 1)) (sCons (ret (.int 256)) (sCons (bin (ret (.int 1)) (asD (callM 0 S__law_take (sCons (ret (.int 256)) sNil))) gAdd) sNil))))) fun ds => ret (.list ds)) (asD (callM 0 S__law_take (sCons (ret (.int 4)) sNil))) gIx))
abbrev N__law_weight : List Str := ["draw"]
def S__law_weight : Fn := runF 1 1 Y__law_weight
def T__law_turn_1 : SS := (drpC (callMt "Turns" "add" 1 [] S_Turns_add [.ex (rdD 7), .ex (dgtP 5 [] (rdD 7))]))
def T__law_turn_2 : SS := (seqS (dptP 6 [] (rdD 7) (rdP 2 [("{}", "clock")])) T__law_turn_1)
def T__law_turn_3 : SS := (retD (ret (.bool true)))
def T__law_turn_4 : SS := (seqS (ifS (toB (bin (rdD 7) (rdD 3) gNin)) (seqS (dptP 5 [] (rdD 7) (asD (callM 0 S__law_weight sNil))) T__law_turn_2) nxt) T__law_turn_3)
def C__law_turn_1 : SE PyData := (rdD 9)
def C__law_turn_2 : SE Bool := (toB (bin (rdD 9) (rdD 7) gNe))
def T__law_turn_5 : SS := (retD (ret (.bool true)))
def T__law_turn_6 : SS := (seqS (drpC (callMt "Turns" "remove" 1 [] S_Turns_remove [.ex (rdD 7)])) T__law_turn_5)
def T__law_turn_7 : SS := (seqS (setR 2 [] "before" (datS (una (bnd (lcS (sItems (rdP 2 [("{}", "before")])) [9] (toN 9) C__law_turn_2 C__law_turn_1) fun ds => ret (.list ds)) gTuple))) T__law_turn_6)
def T__law_turn_8 : SS := (seqS (drpS (dpoP 6 [] (rdD 7))) T__law_turn_7)
def T__law_turn_9 : SS := (ifS (toB (bin (rdD 4) (ret (.int 1)) gEq)) (seqS (drpS (dpoP 5 [] (rdD 7))) T__law_turn_8) nxt)
def T__law_turn_10 : SS := (seqS (asg 7 (bin (rdD 3) (asD (callM 0 S__law_take (sCons (una (rdD 3) gLen) sNil))) gIx)) T__law_turn_9)
def A__law_turn_1 : SS := (seqS (ifS (sOr (toB (bin (una (rdD 3) gLen) (ret (.int 0)) gEq)) (sAnd (toB (bin (rdD 4) (ret (.int 0)) gEq)) (toB (bin (una (rdD 3) gLen) (ret (.int 6)) gLt)))) (seqS (asg 7 (bin (ret (.int 1)) (asD (callM 0 S__law_take (sCons (ret (.int 40)) sNil))) gAdd)) T__law_turn_4) nxt) T__law_turn_10)
def T__law_turn_11 : SS := (retD (ret (.bool true)))
def T__law_turn_12 : SS := (seqS (drpC (callMt "Turns" "set_weight" 1 [] S_Turns_set_weight [.ex (rdD 7), .ex (dgtP 5 [] (rdD 7))])) T__law_turn_11)
def T__law_turn_13 : SS := (ifS (toB (bin (rdD 4) (ret (.int 2)) gEq)) (seqS (dptP 5 [] (rdD 7) (asD (callM 0 S__law_weight sNil))) T__law_turn_12) nxt)
def A__law_turn_2 : SS := (seqS (withAl 6 2 [("{}", "marks")] A__law_turn_1) T__law_turn_13)
def C__law_turn_3 : SE PyData := (rdD 9)
def C__law_turn_4 : SE Bool := (sOr (toB (bin (asD (callM 0 S__law_take (sCons (ret (.int 4)) sNil))) (ret (.int 0)) gGt)) (toB (bin (rdD 9) (rdD 7) gEq)))
def T__law_turn_14 : SS := (retD (bin (asD (callMt "Turns" "choose" 1 [] S_Turns_choose [.ex (rdD 8)])) (asD (callA S__law_choose [.pl 2 [], .ex (rdD 8)])) gEq))
def T__law_turn_15 : SS := (seqS (asg 8 (una (bnd (lcS (sItems (rdD 3)) [9] (toN 9) C__law_turn_4 C__law_turn_3) fun ds => ret (.list ds)) gTuple)) T__law_turn_14)
def T__law_turn_16 : SS := (seqS (withAl 5 2 [("{}", "weights")] A__law_turn_2) T__law_turn_15)
def T__law_turn_17 : SS := (seqS (asg 4 (asD (callM 0 S__law_take (sCons (ret (.int 8)) sNil)))) T__law_turn_16)
def Y__law_turn : SS := (seqS (asg 3 (bnd (dsoP 2 [("{}", "weights")]) fun ds => ret (.list ds))) T__law_turn_17)
abbrev N__law_turn : List Str := ["draw", "turns", "state", "there", "k", "weights", "marks", "stream", "ready", "other"]
def S__law_turn : Fn := runF 3 10 Y__law_turn
def L_law_1 : SS := (ifS (toB (bin (asD (callMt "Turns" "mark" 2 [] S_Turns_mark [.ex (rdD 6)])) (dgtP 3 [("{}", "marks")] (rdD 6)) gNe)) (retD (ret (.bool false))) nxt)
def T_law_1 : SS := (forS (sItems (rdD 5)) (toN 6) L_law_1)
def T_law_2 : SS := (seqS (ifS (sOr (toB (bin (asD (callMt "Turns" "known" 2 [] S_Turns_known [])) (rdD 5) gNe)) (toB (bin (asD (callMt "Turns" "clock" 2 [] S_Turns_clock [])) (rdP 3 [("{}", "clock")]) gNe))) (retD (ret (.bool false))) nxt) T_law_1)
def T_law_3 : SS := (seqS (asg 5 (bnd (dsoP 3 [("{}", "weights")]) fun ds => ret (.list ds))) T_law_2)
def L_law_2 : SS := (seqS (ifS (sNot (toB (asD (callA S__law_turn [.pl 1 [], .pl 2 [], .pl 3 []])))) (retD (ret (.bool false))) nxt) T_law_3)
def T_law_4 : SS := (retD (ret (.bool true)))
def T_law_5 : SS := (seqS (forS (sRng1 (asD (callM 1 S__law_take (sCons (ret (.int 31)) sNil)))) (toN 4) L_law_2) T_law_4)
def T_law_6 : SS := (seqS (asgS 3 (dspR [("weights", newD), ("marks", newD), ("clock", (datS (ret (.int 0)))), ("before", (datS (dTup sNil)))])) T_law_5)
def T_law_7 : SS := (seqS (asgS 2 (makeA "Turns" S_Turns___init__ (ret []))) T_law_6)
def Y_law : SS := (seqS (asgL 1 (callS 0 S__law_draw)) T_law_7)
abbrev N_law : List Str := ["script", "draw", "turns", "state", "call", "there", "stream"]
def S_law : Fn := runF 1 7 Y_law
theorem lt_0 : Str.ofString "law_ownanswer_k33_turns_by_marks" = T [108, 97, 119, 95, 111, 119, 110, 97, 110, 115, 119, 101, 114, 95, 107, 51, 51, 95, 116, 117, 114, 110, 115, 95, 98, 121, 95, 109, 97, 114, 107, 115] := by decide +kernel
end
end ownanswer_k33_turns_by_marks
namespace ownanswer_k33_turns_by_marks
open PySem PySem.Spec L2 Fw
open PyProof.Rows hiding St
def topS (i : Nat) : Stmt := PySem.Challenge.pw_ownanswer_k33_turns_by_marks.main.body.getD i (.Pass ⟨0, 0, 0, 0⟩)
structure Blt (mg : Str → Option Value) : Prop where
  z : True
  b_abs : mg "abs" = none
  b_int : mg "int" = none
  b_len : mg "len" = none
  b_max : mg "max" = none
  b_range : mg "range" = none
  b_sorted : mg "sorted" = none
  b_tuple : mg "tuple" = none
structure Cns (K : PySem.W.Frag) (mg : Str → Option Value) : Prop where
  z : True
  c_WHOLE_STRIDE : Cn K mg "WHOLE_STRIDE" (.int 65536)
structure Flds (K : PySem.W.Frag) : Prop where
  z : True
  norec : PySem.W.nsIn K mainGlobals "{}" = some none
  f_Turns__clock : FldC K "Turns" "_clock"
  f_Turns__marks : FldC K "Turns" "_marks"
  f_Turns__strides : FldC K "Turns" "_strides"
section
variable {P : Program} {w : World} {K : PySem.W.Frag} {mg : Str → Option Value} {base : Heap}
abbrev s_Turns___init__ : Stmt := inClass (topS 2) 0
theorem sc_Turns___init__ : FnScope N_Turns___init__ ["self"] (defScope s_Turns___init__) := ⟨rfl, rfl, rfl, by decide +kernel, rfl, by decide +kernel, by decide +kernel⟩
theorem body_Turns___init__ (B : Blt mg) (C : Cns K mg) (FC : Flds K) (f : Addr) (cdv : Value) (A : Around) (outer : List Env) (s : Shared) (H : Hp) (E : XK) (hr : Room 0 (A.deeper (envOfC "Turns.__init__" (defScope s_Turns___init__) s.heap.objs.size f cdv))) : PXS (cxOf CX0 P w K mg base N_Turns___init__ "Turns.__init__" (defScope s_Turns___init__) f cdv A outer s H E).nox 1 (defBody s_Turns___init__) Y_Turns___init__ :=
  (pxs_cons (pxs_setS FC.f_Turns__clock (pp_var (pv 0)) (pxc_px px_int))
  (pxs_cons (pxs_setS FC.f_Turns__strides (pp_var (pv 0)) pxc_newD)
  (pxs_one (pxs_setS FC.f_Turns__marks (pp_var (pv 0)) pxc_newD))))
theorem cl_Turns___init__ (B : Blt mg) (C : Cns K mg) (FC : Flds K) (h : Fk K mg "Turns" "Turns.__init__" s_Turns___init__ ["self"]) : Mkr P w K mg base 1 "Turns" 1 S_Turns___init__ :=
  h.to fun f fd F => fn_ok F sc_Turns___init__ fun cdv A outer s H E hr => body_Turns___init__ B C FC  f cdv A outer s H E hr
abbrev s_Turns_remove : Stmt := inClass (topS 2) 2
theorem sc_Turns_remove : FnScope N_Turns_remove ["self", "stream"] (defScope s_Turns_remove) := ⟨rfl, rfl, rfl, by decide +kernel, rfl, by decide +kernel, by decide +kernel⟩
theorem body_Turns_remove (B : Blt mg) (C : Cns K mg) (FC : Flds K) (f : Addr) (cdv : Value) (A : Around) (outer : List Env) (s : Shared) (H : Hp) (E : XK) (hr : Room 0 (A.deeper (envOfC "Turns.remove" (defScope s_Turns_remove) s.heap.objs.size f cdv))) : PXS (cxOf CX0 P w K mg base N_Turns_remove "Turns.remove" (defScope s_Turns_remove) f cdv A outer s H E).nox 2 (defBody s_Turns_remove) Y_Turns_remove :=
  (pxs_cons (pxs_ddel (pp_fld FC.f_Turns__marks (pp_var (pv 0))) (px_var (pv 1)))
  (pxs_one (pxs_ddel (pp_fld FC.f_Turns__strides (pp_var (pv 0))) (px_var (pv 1)))))
theorem cl_Turns_remove (B : Blt mg) (C : Cns K mg) (FC : Flds K) (h : Fm K "Turns" "remove" "Turns.remove" s_Turns_remove ["self", "stream"]) : Mt P w K mg base 1 "Turns" "remove" 2 S_Turns_remove :=
  h.to fun f fd F => fn_ok F sc_Turns_remove fun cdv A outer s H E hr => body_Turns_remove B C FC  f cdv A outer s H E hr
abbrev s_Turns_set_weight : Stmt := inClass (topS 2) 3
theorem sc_Turns_set_weight : FnScope N_Turns_set_weight ["self", "stream", "weight"] (defScope s_Turns_set_weight) := ⟨rfl, rfl, rfl, by decide +kernel, rfl, by decide +kernel, by decide +kernel⟩
theorem body_Turns_set_weight (B : Blt mg) (C : Cns K mg) (FC : Flds K) (f : Addr) (cdv : Value) (A : Around) (outer : List Env) (s : Shared) (H : Hp) (E : XK) (hr : Room 0 (A.deeper (envOfC "Turns.set_weight" (defScope s_Turns_set_weight) s.heap.objs.size f cdv))) : PXS (cxOf CX0 P w K mg base N_Turns_set_weight "Turns.set_weight" (defScope s_Turns_set_weight) f cdv A outer s H E).nox 3 (defBody s_Turns_set_weight) Y_Turns_set_weight :=
  (pxs_one (pxs_dpt (hu_of hr) (pp_fld FC.f_Turns__strides (pp_var (pv 0))) (px_var (pv 1)) (px_div (px_gc (by rfl) C.c_WHOLE_STRIDE) (px_var (pv 2)))))
theorem cl_Turns_set_weight (B : Blt mg) (C : Cns K mg) (FC : Flds K) (h : Fm K "Turns" "set_weight" "Turns.set_weight" s_Turns_set_weight ["self", "stream", "weight"]) : Mt P w K mg base 1 "Turns" "set_weight" 3 S_Turns_set_weight :=
  h.to fun f fd F => fn_ok F sc_Turns_set_weight fun cdv A outer s H E hr => body_Turns_set_weight B C FC  f cdv A outer s H E hr
abbrev s_Turns_choose : Stmt := inClass (topS 2) 4
theorem sc_Turns_choose : FnScope N_Turns_choose ["self", "ready"] (defScope s_Turns_choose) := ⟨rfl, rfl, rfl, by decide +kernel, rfl, by decide +kernel, by decide +kernel⟩
theorem body_Turns_choose (B : Blt mg) (C : Cns K mg) (FC : Flds K) (f : Addr) (cdv : Value) (A : Around) (outer : List Env) (s : Shared) (H : Hp) (E : XK) (hr : Room 0 (A.deeper (envOfC "Turns.choose" (defScope s_Turns_choose) s.heap.objs.size f cdv))) : PXS (cxOf CX0 P w K mg base N_Turns_choose "Turns.choose" (defScope s_Turns_choose) f cdv A outer s H E).nox 2 (defBody s_Turns_choose) Y_Turns_choose :=
  (pxs_cons (pxs_for (ts := [2]) PassesOwn.never rfl (pxi_data (px_var (pv 1))) (pxg_name sc_Turns_choose.nd rfl (by first | exact Or.inl rfl | exact Or.inr rfl)) (pxs_one (pxs_dpt (hu_of hr) (pp_fld FC.f_Turns__marks (pp_var (pv 0))) (px_var (pv 2)) (px_callN (call_max2 rfl) va_max (by rfl) B.b_max Fw.boot_max (pxa_cons (px_dgt (hu_of hr) (pp_fld FC.f_Turns__marks (pp_var (pv 0))) (px_var (pv 2))) (pxa_cons (px_rdP (pp_fld FC.f_Turns__clock (pp_var (pv 0)))) pxa_nil))))))
  (pxs_cons (pxs_asg sc_Turns_choose.nd rfl (by first | exact Or.inl rfl | exact Or.inr rfl) (px_ix (px_var (pv 1)) px_int))
  (pxs_cons (pxs_for (ts := [2]) PassesOwn.never rfl (pxi_data (px_var (pv 1))) (pxg_name sc_Turns_choose.nd rfl (by first | exact Or.inl rfl | exact Or.inr rfl)) (pxs_one (pxs_if (pt_lt' (px_dgt (hu_of hr) (pp_fld FC.f_Turns__marks (pp_var (pv 0))) (px_var (pv 2))) (px_dgt (hu_of hr) (pp_fld FC.f_Turns__marks (pp_var (pv 0))) (px_var (pv 3))) (.inl rfl)) (pxs_one (pxs_asg sc_Turns_choose.nd rfl (by first | exact Or.inl rfl | exact Or.inr rfl) (px_var (pv 2)))) pxs_nil)))
  (pxs_cons (pxs_setS FC.f_Turns__clock (pp_var (pv 0)) (pxc_px (px_dgt (hu_of hr) (pp_fld FC.f_Turns__marks (pp_var (pv 0))) (px_var (pv 3)))))
  (pxs_cons (pxs_daug in_add (fun _ _ _ _ => hrd_add) (hu_of hr) (pp_fld FC.f_Turns__marks (pp_var (pv 0))) (px_var (pv 3)) (px_dgt (hu_of hr) (pp_fld FC.f_Turns__strides (pp_var (pv 0))) (px_var (pv 3))))
  (pxs_one (pxs_ret (px_var (pv 3)))))))))
theorem cl_Turns_choose (B : Blt mg) (C : Cns K mg) (FC : Flds K) (h : Fm K "Turns" "choose" "Turns.choose" s_Turns_choose ["self", "ready"]) : Mt P w K mg base 1 "Turns" "choose" 2 S_Turns_choose :=
  h.to fun f fd F => fn_ok F sc_Turns_choose fun cdv A outer s H E hr => body_Turns_choose B C FC  f cdv A outer s H E hr
abbrev s_Turns_mark : Stmt := inClass (topS 2) 5
theorem sc_Turns_mark : FnScope N_Turns_mark ["self", "stream"] (defScope s_Turns_mark) := ⟨rfl, rfl, rfl, by decide +kernel, rfl, by decide +kernel, by decide +kernel⟩
theorem body_Turns_mark (B : Blt mg) (C : Cns K mg) (FC : Flds K) (f : Addr) (cdv : Value) (A : Around) (outer : List Env) (s : Shared) (H : Hp) (E : XK) (hr : Room 0 (A.deeper (envOfC "Turns.mark" (defScope s_Turns_mark) s.heap.objs.size f cdv))) : PXS (cxOf CX0 P w K mg base N_Turns_mark "Turns.mark" (defScope s_Turns_mark) f cdv A outer s H E).nox 2 (defBody s_Turns_mark) Y_Turns_mark :=
  (pxs_one (pxs_ret (px_dgt (hu_of hr) (pp_fld FC.f_Turns__marks (pp_var (pv 0))) (px_var (pv 1)))))
theorem cl_Turns_mark (B : Blt mg) (C : Cns K mg) (FC : Flds K) (h : Fm K "Turns" "mark" "Turns.mark" s_Turns_mark ["self", "stream"]) : Mt P w K mg base 1 "Turns" "mark" 2 S_Turns_mark :=
  h.to fun f fd F => fn_ok F sc_Turns_mark fun cdv A outer s H E hr => body_Turns_mark B C FC  f cdv A outer s H E hr
abbrev s_Turns_known : Stmt := inClass (topS 2) 6
theorem sc_Turns_known : FnScope N_Turns_known ["self"] (defScope s_Turns_known) := ⟨rfl, rfl, rfl, by decide +kernel, rfl, by decide +kernel, by decide +kernel⟩
theorem body_Turns_known (B : Blt mg) (C : Cns K mg) (FC : Flds K) (f : Addr) (cdv : Value) (A : Around) (outer : List Env) (s : Shared) (H : Hp) (E : XK) (hr : Room 0 (A.deeper (envOfC "Turns.known" (defScope s_Turns_known) s.heap.objs.size f cdv))) : PXS (cxOf CX0 P w K mg base N_Turns_known "Turns.known" (defScope s_Turns_known) f cdv A outer s H E).nox 1 (defBody s_Turns_known) Y_Turns_known :=
  (pxs_one (pxs_retL (pl_dso rfl (by rfl) B.b_sorted (pp_fld FC.f_Turns__marks (pp_var (pv 0))))))
theorem cl_Turns_known (B : Blt mg) (C : Cns K mg) (FC : Flds K) (h : Fm K "Turns" "known" "Turns.known" s_Turns_known ["self"]) : Mt P w K mg base 1 "Turns" "known" 1 S_Turns_known :=
  h.to fun f fd F => fn_ok F sc_Turns_known fun cdv A outer s H E hr => body_Turns_known B C FC  f cdv A outer s H E hr
abbrev s_Turns_clock : Stmt := inClass (topS 2) 7
theorem sc_Turns_clock : FnScope N_Turns_clock ["self"] (defScope s_Turns_clock) := ⟨rfl, rfl, rfl, by decide +kernel, rfl, by decide +kernel, by decide +kernel⟩
theorem body_Turns_clock (B : Blt mg) (C : Cns K mg) (FC : Flds K) (f : Addr) (cdv : Value) (A : Around) (outer : List Env) (s : Shared) (H : Hp) (E : XK) (hr : Room 0 (A.deeper (envOfC "Turns.clock" (defScope s_Turns_clock) s.heap.objs.size f cdv))) : PXS (cxOf CX0 P w K mg base N_Turns_clock "Turns.clock" (defScope s_Turns_clock) f cdv A outer s H E).nox 1 (defBody s_Turns_clock) Y_Turns_clock :=
  (pxs_one (pxs_ret (px_rdP (pp_fld FC.f_Turns__clock (pp_var (pv 0))))))
theorem cl_Turns_clock (B : Blt mg) (C : Cns K mg) (FC : Flds K) (h : Fm K "Turns" "clock" "Turns.clock" s_Turns_clock ["self"]) : Mt P w K mg base 1 "Turns" "clock" 1 S_Turns_clock :=
  h.to fun f fd F => fn_ok F sc_Turns_clock fun cdv A outer s H E hr => body_Turns_clock B C FC  f cdv A outer s H E hr
abbrev s__law_draw : Stmt := topS 4
theorem sc__law_draw : FnScope N__law_draw ["script"] (defScope s__law_draw) := ⟨rfl, rfl, rfl, by decide +kernel, rfl, by decide +kernel, by decide +kernel⟩
theorem body__law_draw (B : Blt mg) (C : Cns K mg) (FC : Flds K) (f : Addr) (cdv : Value) (A : Around) (outer : List Env) (s : Shared) (H : Hp) (E : XK) (hr : Room 0 (A.deeper (envOfC "_law_draw" (defScope s__law_draw) s.heap.objs.size f cdv))) : PXS (cxOf CX0 P w K mg base N__law_draw "_law_draw" (defScope s__law_draw) f cdv A outer s H E).nox 1 (defBody s__law_draw) Y__law_draw :=
  (pxs_cons (pxs_asg sc__law_draw.nd rfl (by first | exact Or.inl rfl | exact Or.inr rfl) px_int)
  (pxs_cons (pxs_for (ts := [2]) PassesOwn.never rfl (pxi_scr (pv 0)) (pxg_name sc__law_draw.nd rfl (by first | exact Or.inl rfl | exact Or.inr rfl)) (pxs_one (pxs_asg sc__law_draw.nd rfl (by first | exact Or.inl rfl | exact Or.inr rfl) (px_mod (px_callT1 cr_intA vu_int (by rfl) B.b_int Fw.boot_int (px_add (px_add (px_mul (px_var (pv 1)) px_int) (px_mod (px_call1 call_abs vu_abs (by rfl) B.b_abs Fw.boot_abs (px_callT1 cr_intA vu_int (by rfl) B.b_int Fw.boot_int (px_var (pv 2)))) px_int)) px_int)) px_int))))
  (pxs_one (pxs_retL (pl_lst (pxa_cons (PL.px (pl_lc (own := [("cell", 2)]) (ts := [2]) rfl sc__law_draw.nd (blkOk_by (N := N__law_draw) (sc := defScope s__law_draw) (by decide +kernel)) (pxi_scr (pv 0)) (fun _ _ _ _ _ => (pxg_name sc__law_draw.nd rfl (by first | exact Or.inl rfl | exact Or.inr rfl))) (fun _ _ _ _ _ => pts_nil') (fun _ _ _ _ _ => (px_call1 call_abs vu_abs (by rfl) B.b_abs Fw.boot_abs (px_callT1 cr_intA vu_int (by rfl) B.b_int Fw.boot_int (px_var (pv 2))))) (by decide))) (pxa_cons (px_neg px_int) (pxa_cons px_int (pxa_cons (px_var (pv 1)) pxa_nil)))))))))
theorem cl__law_draw (B : Blt mg) (C : Cns K mg) (FC : Flds K) (h : Fx K mg "_law_draw" s__law_draw ["script"]) : Cl P w K mg base 1 "_law_draw" 1 S__law_draw :=
  h.cl fun f fd F => fn_ok F sc__law_draw fun cdv A outer s H E hr => body__law_draw B C FC  f cdv A outer s H E hr
abbrev s__law_take : Stmt := topS 5
theorem sc__law_take : FnScope N__law_take ["draw", "many"] (defScope s__law_take) := ⟨rfl, rfl, rfl, by decide +kernel, rfl, by decide +kernel, by decide +kernel⟩
theorem body__law_take (B : Blt mg) (C : Cns K mg) (FC : Flds K) (f : Addr) (cdv : Value) (A : Around) (outer : List Env) (s : Shared) (H : Hp) (E : XK) (hr : Room 0 (A.deeper (envOfC "_law_take" (defScope s__law_take) s.heap.objs.size f cdv))) : PXS (cxOf CX0 P w K mg base N__law_take "_law_take" (defScope s__law_take) f cdv A outer s H E).nox 2 (defBody s__law_take) Y__law_take :=
  (pxs_cons (pxs_if (pt_eq' hr (px_ixO (pv 0) px_int) px_int (.inl rfl)) (pxs_cons (pxs_setO (px_add (px_ixO (pv 0) px_int) px_int) (pv 0) px_int)
  (pxs_cons (pxs_if (pt_lt' (px_ixO (pv 0) px_int) (px_call1 call_len vu_len (by rfl) B.b_len Fw.boot_len (px_ixO (pv 0) px_int)) (.inl rfl)) (pxs_one (pxs_setO (px_ix (px_ixO (pv 0) px_int) (px_ixO (pv 0) px_int)) (pv 0) px_int)) pxs_nil)
  (pxs_one (pxs_if (pt_eq' hr (px_ixO (pv 0) px_int) px_int (.inl rfl)) (pxs_cons (pxs_setO (px_mod (px_callT1 cr_intA vu_int (by rfl) B.b_int Fw.boot_int (px_add (px_mul (px_ixO (pv 0) px_int) px_int) px_int)) px_int) (pv 0) px_int)
  (pxs_one (pxs_setO (px_ixO (pv 0) px_int) (pv 0) px_int))) pxs_nil)))) pxs_nil)
  (pxs_cons (pxs_asg sc__law_take.nd rfl (by first | exact Or.inl rfl | exact Or.inr rfl) (px_mod (px_callT1 cr_intA vu_int (by rfl) B.b_int Fw.boot_int (px_ixO (pv 0) px_int)) (px_var (pv 1))))
  (pxs_cons (pxs_setO (px_div (px_ixO (pv 0) px_int) (px_var (pv 1))) (pv 0) px_int)
  (pxs_one (pxs_ret (px_var (pv 2)))))))
theorem cl__law_take (B : Blt mg) (C : Cns K mg) (FC : Flds K) (h : Fx K mg "_law_take" s__law_take ["draw", "many"]) : Cl P w K mg base 1 "_law_take" 2 S__law_take :=
  h.cl fun f fd F => fn_ok F sc__law_take fun cdv A outer s H E hr => body__law_take B C FC  f cdv A outer s H E hr
abbrev s__law_choose : Stmt := topS 6
theorem sc__law_choose : FnScope N__law_choose ["state", "ready"] (defScope s__law_choose) := ⟨rfl, rfl, rfl, by decide +kernel, rfl, by decide +kernel, by decide +kernel⟩
theorem body__law_choose (B : Blt mg) (C : Cns K mg) (FC : Flds K) (f : Addr) (cdv : Value) (A : Around) (outer : List Env) (s : Shared) (H : Hp) (E : XK) (hr : Room 0 (A.deeper (envOfC "_law_choose" (defScope s__law_choose) s.heap.objs.size f cdv))) : PXS (cxOf CX0 P w K mg base N__law_choose "_law_choose" (defScope s__law_choose) f cdv A outer s H E).nox 2 (defBody s__law_choose) Y__law_choose :=
  (pxs_cut 7 (pxs_al (by decide) rfl sc__law_choose.nd rfl (by first | exact Or.inl rfl | exact Or.inr rfl) (pp_key FC.norec (hu_of hr) (pp_var (pv 0))) (pxs_cons (pxs_for (ts := [3]) PassesOwn.never rfl (pxi_data (px_var (pv 1))) (pxg_name sc__law_choose.nd rfl (by first | exact Or.inl rfl | exact Or.inr rfl)) (pxs_one (pxs_if (pt_nin' hr (px_var (pv 3)) (px_rdP (pp_key FC.norec (hu_of hr) (pp_var (pv 0)))) (.inl rfl)) (pxs_one (pxs_dpt (hu_of hr) (pp_var (pv 2)) (px_var (pv 3)) (px_callN (call_max2 rfl) va_max (by rfl) B.b_max Fw.boot_max (pxa_cons (px_dgt (hu_of hr) (pp_var (pv 2)) (px_var (pv 3))) (pxa_cons (px_rdP (pp_key FC.norec (hu_of hr) (pp_var (pv 0)))) pxa_nil))))) pxs_nil)))
  (pxs_cons (pxs_setR (hu_of hr) (pp_var (pv 0)) (pxc_px (px_var (pv 1))))
  (pxs_cons (pxs_asg sc__law_choose.nd rfl (by first | exact Or.inl rfl | exact Or.inr rfl) (px_ix (px_var (pv 1)) px_int))
  (pxs_cons (pxs_for (ts := [3]) PassesOwn.never rfl (pxi_data (px_var (pv 1))) (pxg_name sc__law_choose.nd rfl (by first | exact Or.inl rfl | exact Or.inr rfl)) (pxs_one (pxs_if (pt_lt' (px_dgt (hu_of hr) (pp_var (pv 2)) (px_var (pv 3))) (px_dgt (hu_of hr) (pp_var (pv 2)) (px_var (pv 4))) (.inl rfl)) (pxs_one (pxs_asg sc__law_choose.nd rfl (by first | exact Or.inl rfl | exact Or.inr rfl) (px_var (pv 3)))) pxs_nil)))
  (pxs_cons (pxs_setR (hu_of hr) (pp_var (pv 0)) (pxc_px (px_dgt (hu_of hr) (pp_var (pv 2)) (px_var (pv 4)))))
  (pxs_one (pxs_dpt (hu_of hr) (pp_var (pv 2)) (px_var (pv 4)) (px_add (px_dgt (hu_of hr) (pp_var (pv 2)) (px_var (pv 4))) (px_div px_int (px_dgt (hu_of hr) (pp_key FC.norec (hu_of hr) (pp_var (pv 0))) (px_var (pv 4)))))))))))))
  (pxs_one (pxs_ret (px_var (pv 4)))))
theorem cl__law_choose (B : Blt mg) (C : Cns K mg) (FC : Flds K) (h : Fx K mg "_law_choose" s__law_choose ["state", "ready"]) : Cl P w K mg base 1 "_law_choose" 2 S__law_choose :=
  h.cl fun f fd F => fn_ok F sc__law_choose fun cdv A outer s H E hr => body__law_choose B C FC  f cdv A outer s H E hr
abbrev s_Turns_add : Stmt := inClass (topS 2) 1
theorem sc_Turns_add : FnScope N_Turns_add ["self", "stream", "weight"] (defScope s_Turns_add) := ⟨rfl, rfl, rfl, by decide +kernel, rfl, by decide +kernel, by decide +kernel⟩
theorem body_Turns_add (B : Blt mg) (C : Cns K mg) (FC : Flds K) (m_Turns_set_weight : Mt P w K mg base 1 "Turns" "set_weight" 3 S_Turns_set_weight) (f : Addr) (cdv : Value) (A : Around) (outer : List Env) (s : Shared) (H : Hp) (E : XK) (hr : Room 1 (A.deeper (envOfC "Turns.add" (defScope s_Turns_add) s.heap.objs.size f cdv))) : PXS (cxOf CX0 P w K mg base N_Turns_add "Turns.add" (defScope s_Turns_add) f cdv A outer s H E).nox 3 (defBody s_Turns_add) Y_Turns_add :=
  (pxs_cons (pxs_dpt (hu_of hr) (pp_fld FC.f_Turns__marks (pp_var (pv 0))) (px_var (pv 1)) (px_rdP (pp_fld FC.f_Turns__clock (pp_var (pv 0)))))
  (pxs_one (pxs_drpC (pxc_meth m_Turns_set_weight (fun _ _ => run_len) hr (by decide) (pp_var (pv 0)) (pas_ex (px_var (pv 1)) (pas_ex (px_var (pv 2)) pas_nil))))))
theorem cl_Turns_add (B : Blt mg) (C : Cns K mg) (FC : Flds K) (h : Fm K "Turns" "add" "Turns.add" s_Turns_add ["self", "stream", "weight"]) (m_Turns_set_weight : Mt P w K mg base 1 "Turns" "set_weight" 3 S_Turns_set_weight) : Mt P w K mg base 2 "Turns" "add" 3 S_Turns_add :=
  h.to fun f fd F => fn_ok F sc_Turns_add fun cdv A outer s H E hr => body_Turns_add B C FC m_Turns_set_weight f cdv A outer s H E hr
abbrev s__law_weight : Stmt := topS 7
theorem sc__law_weight : FnScope N__law_weight ["draw"] (defScope s__law_weight) := ⟨rfl, rfl, rfl, by decide +kernel, rfl, by decide +kernel, by decide +kernel⟩
theorem body__law_weight (B : Blt mg) (C : Cns K mg) (FC : Flds K) (c__law_take : Cl P w K mg base 1 "_law_take" 2 S__law_take) (f : Addr) (cdv : Value) (A : Around) (outer : List Env) (s : Shared) (H : Hp) (E : XK) (hr : Room 1 (A.deeper (envOfC "_law_weight" (defScope s__law_weight) s.heap.objs.size f cdv))) : PXS (cxOf CX0 P w K mg base N__law_weight "_law_weight" (defScope s__law_weight) f cdv A outer s H E).nox 1 (defBody s__law_weight) Y__law_weight :=
  (pxs_one (pxs_ret (px_ix (PL.px (pl_lst (pxa_cons px_int (pxa_cons px_int (pxa_cons px_int (pxa_cons (px_add px_int (px_callM c__law_take (fun _ _ => run_len) hr (by decide) (by rfl) (pv 0) (pxa_cons px_int pxa_nil))) pxa_nil)))))) (px_callM c__law_take (fun _ _ => run_len) hr (by decide) (by rfl) (pv 0) (pxa_cons px_int pxa_nil)))))
theorem cl__law_weight (B : Blt mg) (C : Cns K mg) (FC : Flds K) (h : Fx K mg "_law_weight" s__law_weight ["draw"]) (c__law_take : Cl P w K mg base 1 "_law_take" 2 S__law_take) : Cl P w K mg base 2 "_law_weight" 1 S__law_weight :=
  h.cl fun f fd F => fn_ok F sc__law_weight fun cdv A outer s H E hr => body__law_weight B C FC c__law_take f cdv A outer s H E hr
abbrev s__law_turn : Stmt := topS 8
theorem sc__law_turn : FnScope N__law_turn ["draw", "turns", "state"] (defScope s__law_turn) := ⟨rfl, rfl, rfl, by decide +kernel, rfl, by decide +kernel, by decide +kernel⟩
theorem body__law_turn (B : Blt mg) (C : Cns K mg) (FC : Flds K) (c__law_take : Cl P w K mg base 1 "_law_take" 2 S__law_take) (m_Turns_remove : Mt P w K mg base 1 "Turns" "remove" 2 S_Turns_remove) (c__law_weight : Cl P w K mg base 2 "_law_weight" 1 S__law_weight) (m_Turns_set_weight : Mt P w K mg base 1 "Turns" "set_weight" 3 S_Turns_set_weight) (m_Turns_choose : Mt P w K mg base 1 "Turns" "choose" 2 S_Turns_choose) (c__law_choose : Cl P w K mg base 1 "_law_choose" 2 S__law_choose) (m_Turns_add : Mt P w K mg base 2 "Turns" "add" 3 S_Turns_add) (f : Addr) (cdv : Value) (A : Around) (outer : List Env) (s : Shared) (H : Hp) (E : XK) (hr : Room 2 (A.deeper (envOfC "_law_turn" (defScope s__law_turn) s.heap.objs.size f cdv))) : PXS (cxOf CX0 P w K mg base N__law_turn "_law_turn" (defScope s__law_turn) f cdv A outer s H E).nox 3 (defBody s__law_turn) Y__law_turn :=
  (pxs_cons (pxs_asg sc__law_turn.nd rfl (by first | exact Or.inl rfl | exact Or.inr rfl) (PL.px (pl_dso rfl (by rfl) B.b_sorted (pp_key FC.norec (hu_of hr) (pp_var (pv 2))))))
  (pxs_cons (pxs_asg sc__law_turn.nd rfl (by first | exact Or.inl rfl | exact Or.inr rfl) (px_callM c__law_take (fun _ _ => run_len) hr (by decide) (by rfl) (pv 0) (pxa_cons px_int pxa_nil)))
  (pxs_cut 6 (pxs_al (by decide) rfl sc__law_turn.nd rfl (by first | exact Or.inl rfl | exact Or.inr rfl) (pp_key FC.norec (hu_of hr) (pp_var (pv 2))) (pxs_cut 4 (pxs_al (by decide) rfl sc__law_turn.nd rfl (by first | exact Or.inl rfl | exact Or.inr rfl) (pp_key FC.norec (hu_of hr) (pp_var (pv 2))) (pxs_cons (pxs_if (PXW.pt (pw_or' (pt_eq' hr (px_call1 call_len vu_len (by rfl) B.b_len Fw.boot_len (px_var (pv 3))) px_int (.inl rfl)) (pw_or1' (PXW.pt (pw_and' (pt_eq' hr (px_var (pv 4)) px_int (.inl rfl)) (pw_and1' (pt_lt' (px_call1 call_len vu_len (by rfl) B.b_len Fw.boot_len (px_var (pv 3))) px_int (.inl rfl)))))))) (pxs_cons (pxs_asg sc__law_turn.nd rfl (by first | exact Or.inl rfl | exact Or.inr rfl) (px_add px_int (px_callM c__law_take (fun _ _ => run_len) hr (by decide) (by rfl) (pv 0) (pxa_cons px_int pxa_nil))))
  (pxs_cons (pxs_if (pt_nin' hr (px_var (pv 7)) (px_var (pv 3)) (.inl rfl)) (pxs_cons (pxs_dpt (hu_of hr) (pp_var (pv 5)) (px_var (pv 7)) (px_callM c__law_weight (fun _ _ => run_len) hr (by decide) (by rfl) (pv 0) pxa_nil))
  (pxs_cons (pxs_dpt (hu_of hr) (pp_var (pv 6)) (px_var (pv 7)) (px_rdP (pp_key FC.norec (hu_of hr) (pp_var (pv 2)))))
  (pxs_one (pxs_drpC (pxc_meth m_Turns_add (fun _ _ => run_len) hr (by decide) (pp_var (pv 1)) (pas_ex (px_var (pv 7)) (pas_ex (px_dgt (hu_of hr) (pp_var (pv 5)) (px_var (pv 7))) pas_nil))))))) pxs_nil)
  (pxs_one (pxs_ret px_bl)))) pxs_nil)
  (pxs_cons (pxs_asg sc__law_turn.nd rfl (by first | exact Or.inl rfl | exact Or.inr rfl) (px_ix (px_var (pv 3)) (px_callM c__law_take (fun _ _ => run_len) hr (by decide) (by rfl) (pv 0) (pxa_cons (px_call1 call_len vu_len (by rfl) B.b_len Fw.boot_len (px_var (pv 3))) pxa_nil))))
  (pxs_one (pxs_if (pt_eq' hr (px_var (pv 4)) px_int (.inl rfl)) (pxs_cons (pxs_drop (px_dpo (pp_var (pv 5)) (px_var (pv 7))))
  (pxs_cons (pxs_drop (px_dpo (pp_var (pv 6)) (px_var (pv 7))))
  (pxs_cons (pxs_setR (hu_of hr) (pp_var (pv 2)) (pxc_px (px_callT1 call_tuple_of vu_tuple (by rfl) B.b_tuple Fw.boot_tuple (PL.px (pl_lc (own := [("other", 9)]) (ts := [9]) rfl sc__law_turn.nd (blkOk_by (N := N__law_turn) (sc := defScope s__law_turn) (by decide +kernel)) (pxi_data (px_rdP (pp_key FC.norec (hu_of hr) (pp_var (pv 2))))) (fun _ _ _ _ _ => (pxg_name sc__law_turn.nd rfl (by first | exact Or.inl rfl | exact Or.inr rfl))) (fun _ _ _ _ _ => pts_one' (pt_ne' hr (px_var (pv 9)) (px_var (pv 7)) (.inl rfl))) (fun _ _ _ _ _ => (px_var (pv 9))) (by decide))))))
  (pxs_cons (pxs_drpC (pxc_meth m_Turns_remove (fun _ _ => run_len) hr (by decide) (pp_var (pv 1)) (pas_ex (px_var (pv 7)) pas_nil)))
  (pxs_one (pxs_ret px_bl)))))) pxs_nil)))))
  (pxs_one (pxs_if (pt_eq' hr (px_var (pv 4)) px_int (.inl rfl)) (pxs_cons (pxs_dpt (hu_of hr) (pp_var (pv 5)) (px_var (pv 7)) (px_callM c__law_weight (fun _ _ => run_len) hr (by decide) (by rfl) (pv 0) pxa_nil))
  (pxs_cons (pxs_drpC (pxc_meth m_Turns_set_weight (fun _ _ => run_len) hr (by decide) (pp_var (pv 1)) (pas_ex (px_var (pv 7)) (pas_ex (px_dgt (hu_of hr) (pp_var (pv 5)) (px_var (pv 7))) pas_nil))))
  (pxs_one (pxs_ret px_bl)))) pxs_nil))))
  (pxs_cons (pxs_asg sc__law_turn.nd rfl (by first | exact Or.inl rfl | exact Or.inr rfl) (px_callT1 call_tuple_of vu_tuple (by rfl) B.b_tuple Fw.boot_tuple (PL.px (pl_lc (own := [("other", 9)]) (ts := [9]) rfl sc__law_turn.nd (blkOk_by (N := N__law_turn) (sc := defScope s__law_turn) (by decide +kernel)) (pxi_data (px_var (pv 3))) (fun _ _ _ _ _ => (pxg_name sc__law_turn.nd rfl (by first | exact Or.inl rfl | exact Or.inr rfl))) (fun _ _ _ _ _ => pts_one' (PXW.pt (pw_or' (pt_gt' (px_callM c__law_take (fun _ _ => run_len) hr (by decide) (by rfl) (pv 0) (pxa_cons px_int pxa_nil)) px_int (.inl rfl)) (pw_or1' (pt_eq' hr (px_var (pv 9)) (px_var (pv 7)) (.inl rfl)))))) (fun _ _ _ _ _ => (px_var (pv 9))) (by decide)))))
  (pxs_one (pxs_ret (px_eq hr (px_pxc (pxc_meth m_Turns_choose (fun _ _ => run_len) hr (by decide) (pp_var (pv 1)) (pas_ex (px_var (pv 8)) pas_nil))) (px_pxc (pxc_call c__law_choose (fun _ _ => run_len) hr (by decide) (by rfl) (pas_pl (pv_var (pv 2)) (pas_ex (px_var (pv 8)) pas_nil)))) (.inl rfl))))))))
theorem cl__law_turn (B : Blt mg) (C : Cns K mg) (FC : Flds K) (h : Fx K mg "_law_turn" s__law_turn ["draw", "turns", "state"]) (c__law_take : Cl P w K mg base 1 "_law_take" 2 S__law_take) (m_Turns_remove : Mt P w K mg base 1 "Turns" "remove" 2 S_Turns_remove) (c__law_weight : Cl P w K mg base 2 "_law_weight" 1 S__law_weight) (m_Turns_set_weight : Mt P w K mg base 1 "Turns" "set_weight" 3 S_Turns_set_weight) (m_Turns_choose : Mt P w K mg base 1 "Turns" "choose" 2 S_Turns_choose) (c__law_choose : Cl P w K mg base 1 "_law_choose" 2 S__law_choose) (m_Turns_add : Mt P w K mg base 2 "Turns" "add" 3 S_Turns_add) : Cl P w K mg base 3 "_law_turn" 3 S__law_turn :=
  h.cl fun f fd F => fn_ok F sc__law_turn fun cdv A outer s H E hr => body__law_turn B C FC c__law_take m_Turns_remove c__law_weight m_Turns_set_weight m_Turns_choose c__law_choose m_Turns_add f cdv A outer s H E hr
abbrev s_law : Stmt := topS 9
theorem sc_law : FnScope N_law ["script"] (defScope s_law) := ⟨rfl, rfl, rfl, by decide +kernel, rfl, by decide +kernel, by decide +kernel⟩
theorem body_law (B : Blt mg) (C : Cns K mg) (FC : Flds K) (c__law_draw : Cl P w K mg base 1 "_law_draw" 1 S__law_draw) (k_Turns : Mkr P w K mg base 1 "Turns" 1 S_Turns___init__) (c__law_take : Cl P w K mg base 1 "_law_take" 2 S__law_take) (c__law_turn : Cl P w K mg base 3 "_law_turn" 3 S__law_turn) (m_Turns_known : Mt P w K mg base 1 "Turns" "known" 1 S_Turns_known) (m_Turns_clock : Mt P w K mg base 1 "Turns" "clock" 1 S_Turns_clock) (m_Turns_mark : Mt P w K mg base 1 "Turns" "mark" 2 S_Turns_mark) (f : Addr) (cdv : Value) (A : Around) (outer : List Env) (s : Shared) (H : Hp) (E : XK) (hr : Room 3 (A.deeper (envOfC "law" (defScope s_law) s.heap.objs.size f cdv))) : PXS (cxOf CX0 P w K mg base N_law "law" (defScope s_law) f cdv A outer s H E).nox 1 (defBody s_law) Y_law :=
  (pxs_cons (pxs_asgL (by decide) sc_law.nd rfl (by first | exact Or.inl rfl | exact Or.inr rfl) (pl_callS c__law_draw hr (by decide) (by rfl) (pv 0)))
  (pxs_cons (pxs_asgS (by decide) sc_law.nd rfl (by first | exact Or.inl rfl | exact Or.inr rfl) (pxc_make0 k_Turns (fun _ _ => run_len) hr (by decide) (by rfl)))
  (pxs_cons (pxs_asgS (by decide) sc_law.nd rfl (by first | exact Or.inl rfl | exact Or.inr rfl) (pxc_dspR (.cons pxc_newD (.cons pxc_newD (.cons (pxc_px (PX.eff px_int)) (.cons (pxc_px (PX.eff (px_tup pxa_nil))) .nil)))) (by simp) (by decide)))
  (pxs_cons (pxs_for (ts := [4]) PassesOwn.never rfl (pxi_rng1 (by rfl) B.b_range (px_callM c__law_take (fun _ _ => run_len) hr (by decide) (by rfl) (pv 1) (pxa_cons px_int pxa_nil))) (pxg_name sc_law.nd rfl (by first | exact Or.inl rfl | exact Or.inr rfl)) (pxs_cons (pxs_if (pt_not' (pt_of_px (px_pxc (pxc_call c__law_turn (fun _ _ => run_len) hr (by decide) (by rfl) (pas_pl (pv_var (pv 1)) (pas_pl (pv_var (pv 2)) (pas_pl (pv_var (pv 3)) pas_nil))))))) (pxs_one (pxs_ret px_bl)) pxs_nil)
  (pxs_cons (pxs_asg sc_law.nd rfl (by first | exact Or.inl rfl | exact Or.inr rfl) (PL.px (pl_dso rfl (by rfl) B.b_sorted (pp_key FC.norec (hu_of hr) (pp_var (pv 3))))))
  (pxs_cons (pxs_if (PXW.pt (pw_or' (pt_ne' hr (px_pxc (pxc_meth0 m_Turns_known (fun _ _ => run_len) hr (by decide) (pp_var (pv 2)))) (px_var (pv 5)) (.inl rfl)) (pw_or1' (pt_ne' hr (px_pxc (pxc_meth0 m_Turns_clock (fun _ _ => run_len) hr (by decide) (pp_var (pv 2)))) (px_rdP (pp_key FC.norec (hu_of hr) (pp_var (pv 3)))) (.inl rfl))))) (pxs_one (pxs_ret px_bl)) pxs_nil)
  (pxs_one (pxs_for (ts := [6]) PassesOwn.never rfl (pxi_data (px_var (pv 5))) (pxg_name sc_law.nd rfl (by first | exact Or.inl rfl | exact Or.inr rfl)) (pxs_one (pxs_if (pt_ne' hr (px_pxc (pxc_meth m_Turns_mark (fun _ _ => run_len) hr (by decide) (pp_var (pv 2)) (pas_ex (px_var (pv 6)) pas_nil))) (px_dgt (hu_of hr) (pp_key FC.norec (hu_of hr) (pp_var (pv 3))) (px_var (pv 6))) (.inl rfl)) (pxs_one (pxs_ret px_bl)) pxs_nil))))))))
  (pxs_one (pxs_ret px_bl))))))
theorem cl_law (B : Blt mg) (C : Cns K mg) (FC : Flds K) (h : Fx K mg "law" s_law ["script"]) (c__law_draw : Cl P w K mg base 1 "_law_draw" 1 S__law_draw) (k_Turns : Mkr P w K mg base 1 "Turns" 1 S_Turns___init__) (c__law_take : Cl P w K mg base 1 "_law_take" 2 S__law_take) (c__law_turn : Cl P w K mg base 3 "_law_turn" 3 S__law_turn) (m_Turns_known : Mt P w K mg base 1 "Turns" "known" 1 S_Turns_known) (m_Turns_clock : Mt P w K mg base 1 "Turns" "clock" 1 S_Turns_clock) (m_Turns_mark : Mt P w K mg base 1 "Turns" "mark" 2 S_Turns_mark) : Cl P w K mg base 4 "law" 1 S_law :=
  h.cl fun f fd F => fn_ok F sc_law fun cdv A outer s H E hr => body_law B C FC c__law_draw k_Turns c__law_take c__law_turn m_Turns_known m_Turns_clock m_Turns_mark f cdv A outer s H E hr
end
end ownanswer_k33_turns_by_marks
namespace ownanswer_k35_shares_by_weight
open PySem Fw
def T_Turns___init___1 : SS := (setS 0 [] "Turns" "_marks" newD)
def T_Turns___init___2 : SS := (seqS (setS 0 [] "Turns" "_strides" newD) T_Turns___init___1)
def Y_Turns___init__ : SS := (seqS (setS 0 [] "Turns" "_clock" (datS (ret (.int 0)))) T_Turns___init___2)
abbrev N_Turns___init__ : List Str := ["self"]
def S_Turns___init__ : Fn := runF 1 1 Y_Turns___init__
def Y_Turns_set_weight : SS := (dptP 0 [("Turns", "_strides")] (rdD 1) (bin (ret (.int 65536)) (rdD 2) gDiv))
abbrev N_Turns_set_weight : List Str := ["self", "stream", "weight"]
def S_Turns_set_weight : Fn := runF 3 3 Y_Turns_set_weight
def L_Turns_choose_1 : SS := (dptP 0 [("Turns", "_marks")] (rdD 2) (mny (sCons (dgtP 0 [("Turns", "_marks")] (rdD 2)) (sCons (rdP 0 [("Turns", "_clock")]) sNil)) gMax))
def L_Turns_choose_2 : SS := (ifS (toB (bin (dgtP 0 [("Turns", "_marks")] (rdD 2)) (dgtP 0 [("Turns", "_marks")] (rdD 3)) gLt)) (asg 3 (rdD 2)) nxt)
def T_Turns_choose_1 : SS := (retD (rdD 3))
def T_Turns_choose_2 : SS := (seqS (daugP 0 [("Turns", "_marks")] (fun i j => i + j) (rdD 3) (dgtP 0 [("Turns", "_strides")] (rdD 3))) T_Turns_choose_1)
def T_Turns_choose_3 : SS := (seqS (setS 0 [] "Turns" "_clock" (datS (dgtP 0 [("Turns", "_marks")] (rdD 3)))) T_Turns_choose_2)
def T_Turns_choose_4 : SS := (seqS (forS (sItems (rdD 1)) (toN 2) L_Turns_choose_2) T_Turns_choose_3)
def T_Turns_choose_5 : SS := (seqS (asg 3 (bin (rdD 1) (ret (.int 0)) gIx)) T_Turns_choose_4)
def Y_Turns_choose : SS := (seqS (forS (sItems (rdD 1)) (toN 2) L_Turns_choose_1) T_Turns_choose_5)
abbrev N_Turns_choose : List Str := ["self", "ready", "stream", "chosen"]
def S_Turns_choose : Fn := runF 2 4 Y_Turns_choose
def L__law_draw_1 : SS := (asg 1 (bin (una (bin (bin (bin (rdD 1) (ret (.int 48271)) gMul) (bin (una (una (rdD 2) gInt) gAbs) (ret (.int 65521)) gMod) gAdd) (ret (.int 1)) gAdd) gInt) (ret (.int 2147483647)) gMod))
def C__law_draw_1 : SE PyData := (una (una (rdD 2) gInt) gAbs)
def T__law_draw_1 : SS := (retL (dLst (sCons (bnd (lcS (sScr 0) [2] (toN 2) yesS C__law_draw_1) fun ds => ret (.list ds)) (sCons (una (ret (.int 1)) gNeg) (sCons (ret (.int 0)) (sCons (rdD 1) sNil))))))
def T__law_draw_2 : SS := (seqS (forS (sScr 0) (toN 2) L__law_draw_1) T__law_draw_1)
def Y__law_draw : SS := (seqS (asg 1 (ret (.int 7))) T__law_draw_2)
abbrev N__law_draw : List Str := ["script", "seed", "cell"]
def S__law_draw : Fn := runF 1 3 Y__law_draw
def T__law_take_1 : SS := (setO 0 (ixO 0 (ret (.int 3))) (ret (.int 2)))
def T__law_take_2 : SS := (ifS (toB (bin (ixO 0 (ret (.int 2))) (ret (.int 0)) gEq)) (seqS (setO 0 (bin (una (bin (bin (ixO 0 (ret (.int 3))) (ret (.int 48271)) gMul) (ret (.int 11)) gAdd) gInt) (ret (.int 2147483647)) gMod) (ret (.int 3))) T__law_take_1) nxt)
def T__law_take_3 : SS := (seqS (ifS (toB (bin (ixO 0 (ret (.int 1))) (una (ixO 0 (ret (.int 0))) gLen) gLt)) (setO 0 (bin (ixO 0 (ret (.int 0))) (ixO 0 (ret (.int 1))) gIx) (ret (.int 2))) nxt) T__law_take_2)
def T__law_take_4 : SS := (retD (rdD 2))
def T__law_take_5 : SS := (seqS (setO 0 (bin (ixO 0 (ret (.int 2))) (rdD 1) gDiv) (ret (.int 2))) T__law_take_4)
def T__law_take_6 : SS := (seqS (asg 2 (bin (una (ixO 0 (ret (.int 2))) gInt) (rdD 1) gMod)) T__law_take_5)
def Y__law_take : SS := (seqS (ifS (toB (bin (ixO 0 (ret (.int 2))) (ret (.int 0)) gEq)) (seqS (setO 0 (bin (ixO 0 (ret (.int 1))) (ret (.int 1)) gAdd) (ret (.int 1))) T__law_take_3) nxt) T__law_take_6)
abbrev N__law_take : List Str := ["draw", "many", "found"]
def S__law_take : Fn := runF 2 3 Y__law_take
def T_Turns_add_1 : SS := (drpC (callMt "Turns" "set_weight" 0 [] S_Turns_set_weight [.ex (rdD 1), .ex (rdD 2)]))
def Y_Turns_add : SS := (seqS (dptP 0 [("Turns", "_marks")] (rdD 1) (rdP 0 [("Turns", "_clock")])) T_Turns_add_1)
abbrev N_Turns_add : List Str := ["self", "stream", "weight"]
def S_Turns_add : Fn := runF 3 3 Y_Turns_add
def T_law_1 : SS := (drpC (callMt "Turns" "add" 2 [] S_Turns_add [.ex (rdD 9), .ex (rdD 8)]))
def T_law_2 : SS := (seqS (dptP 4 [] (rdD 9) (ret (.int 0))) T_law_1)
def T_law_3 : SS := (seqS (dptP 3 [] (rdD 9) (bin (ret (.int 65536)) (rdD 8) gDiv)) T_law_2)
def T_law_4 : SS := (seqS (asg 9 (bin (bin (ret (.int 1)) (bin (ret (.int 3)) (rdD 5) gMul) gAdd) (asD (callM 1 S__law_take (sCons (ret (.int 3)) sNil))) gAdd)) T_law_3)
def L_law_1 : SS := (seqS (asg 8 (bin (bnd (dLst (sCons (ret (.int 16)) (sCons (ret (.int 1)) (sCons (ret (.int 256)) (sCons (bin (ret (.int 1)) (asD (callM 1 S__law_take (sCons (ret (.int 256)) sNil))) gAdd) sNil))))) fun ds => ret (.list ds)) (asD (callM 1 S__law_take (sCons (ret (.int 4)) sNil))) gIx)) T_law_4)
def T_law_5 : SS := (ifS (toB (bin (rdD 13) (mny (sCons (dgtP 3 [] (rdD 11)) (sCons (dgtP 3 [] (rdD 12)) sNil)) gMax) gGt)) (retD (ret (.bool false))) nxt)
def L_law_2 : SS := (seqS (asg 13 (una (bin (bin (dgtP 4 [] (rdD 11)) (dgtP 3 [] (rdD 11)) gMul) (bin (dgtP 4 [] (rdD 12)) (dgtP 3 [] (rdD 12)) gMul) gSub) gAbs)) T_law_5)
def L_law_3 : SS := (forS (sItems (rdD 6)) (toN 12) L_law_2)
def T_law_6 : SS := (forS (sItems (rdD 6)) (toN 11) L_law_3)
def T_law_7 : SS := (seqS (dptP 4 [] (rdD 10) (bin (dgtP 4 [] (rdD 10)) (ret (.int 1)) gAdd)) T_law_6)
def L_law_4 : SS := (seqS (asg 10 (asD (callMt "Turns" "choose" 2 [] S_Turns_choose [.ex (rdD 6)]))) T_law_7)
def T_law_8 : SS := (retD (ret (.bool true)))
def T_law_9 : SS := (seqS (forS (sRng1 (ret (.int 60))) (toN 7) L_law_4) T_law_8)
def T_law_10 : SS := (seqS (asg 6 (una (bnd (dsoP 3 []) fun ds => ret (.list ds)) gTuple)) T_law_9)
def T_law_11 : SS := (seqS (forS (sRng1 (bin (ret (.int 2)) (asD (callM 1 S__law_take (sCons (ret (.int 5)) sNil))) gAdd)) (toN 5) L_law_1) T_law_10)
def T_law_12 : SS := (seqS (asgS 4 newD) T_law_11)
def T_law_13 : SS := (seqS (asgS 3 newD) T_law_12)
def T_law_14 : SS := (seqS (asgS 2 (makeA "Turns" S_Turns___init__ (ret []))) T_law_13)
def Y_law : SS := (seqS (asgL 1 (callS 0 S__law_draw)) T_law_14)
abbrev N_law : List Str := ["script", "draw", "turns", "strides", "counts", "k", "streams", "call", "weight", "stream", "chosen", "one", "two", "apart"]
def S_law : Fn := runF 1 14 Y_law
theorem lt_0 : Str.ofString "law_ownanswer_k35_shares_by_weight" = T [108, 97, 119, 95, 111, 119, 110, 97, 110, 115, 119, 101, 114, 95, 107, 51, 53, 95, 115, 104, 97, 114, 101, 115, 95, 98, 121, 95, 119, 101, 105, 103, 104, 116] := by decide +kernel
end ownanswer_k35_shares_by_weight
-- FwP
namespace ownanswer_k35_shares_by_weight
open PySem PySem.Spec L2 Fw
local macro_rules | `(tactic| simp only [walkA, $xs,*] $[$l:location]?) => `(tactic| simp only [ok_some, ok_none, okV_some, okV_none, ↓okV_if, ↓ok_if, ↓ok_ret, ↓ok_bnd, ↓ok_lft, ↓ok_bin, ↓ok_una, ↓ok_binL, ↓ok_unaL, ↓ok_mny, ↓ok_rdD, ↓ok_rdO, ↓ok_rdA, ↓ok_toB, ↓ok_sAnd, ↓ok_sOr, ↓ok_sNot, ↓ok_vAnd, ↓ok_vOr, ↓ok_sIf, ↓ok_chn, ↓ok_sNil, ↓ok_sCons, ↓ok_dTup, ↓ok_dLst, ↓ok_m0S, ↓ok_m1S, ↓ok_m1L, ↓ok_ixO, ↓ok_sPart, ↓ok_sSl, ↓ok_tupO, ↓ok_sItems, ↓ok_sScr, ↓ok_sEnum, ↓ok_sRng1, ↓ok_sRng2, ↓ok_seqS, ↓ok_nxt, ↓ok_brkS, ↓ok_cntS, ↓ok_retN, ↓ok_drpS, ↓ok_asg, ↓ok_asgL, ↓ok_asgG, ↓ok_augS, ↓ok_ifS, ↓ok_retD, ↓ok_retL, ↓ok_retO, ↓ok_appO, ↓ok_setO, ↓ok_extO, ↓ok_popS, ↓ok_forS, ↓ok_forL_nil, ↓ok_lcS, ↓ok_lcL_nil, ↓okV_callD, ↓okV_callV, ↓ok_callM, ↓ok_asD, ↓ok_asL, ↓ok_callS, ↓ok_runF, ↓ok_rdP, ↓ok_rdB, ↓ok_rdZ, ↓ok_datS, ↓ok_ownS, ↓ok_asgS, ↓ok_retS, ↓ok_drpC, ↓ok_evA_nil, ↓ok_evA_ex, ↓ok_evA_pl, ↓ok_callA, ↓ok_callMt, ↓ok_makeA, ↓ok_setS, ↓ok_augF, ↓ok_newD, ↓ok_dgt, ↓ok_din, ↓ok_dpt, ↓ok_daug, ↓ok_ddel, ↓ok_dgo, ↓ok_dpo, ↓ok_dln, ↓ok_dso, ↓ok_appP, ↓ok_extP, ↓ok_ixP, ↓ok_tupP, ↓ok_dsp_nil, ↓ok_dsp_cons, ↓ok_dsp, ↓ok_mvS, ↓ok_sIfC, ↓ok_isNT, ↓ok_sRngD, ↓ok_sEnumL, ↓ok_rplS, ↓ok_tupA, ↓ok_strM, ↓ok_chn3, own?, toN, toT, toNs, wipE, bakE, stp_nx, stp_ct, stp_bk, stp_rt, Fw.collect, ok_yesS, List.getElem?_cons_zero, List.getElem?_cons_succ, List.set_cons_zero, List.set_cons_succ, List.map_cons, List.map_nil, List.length_cons, List.length_nil, List.cons_append, List.nil_append, List.replicate_succ, List.replicate_zero, Nat.reduceAdd, Nat.reduceSub, Nat.reduceLeDiff, Nat.reduceLT, Nat.reduceEqDiff, Int.reduceLT, Int.reduceLE, Int.reduceNeg, Int.reducePow, Int.reduceEq, Option.isSome_some, Option.map_some, Option.map_none, true_and, and_true, if_true, if_false, ite_true, ite_false, Bool.false_eq_true, reduceIte, reduceCtorEq, nodeAt, Fw.putAt, getP, putP, getF, setF, argSl, slsOf, slOf, unSl, newSl, putB, noTwice, trOf, dicAt, lstAt, Fw.keyOf, Option.isSome_some, Option.map_some, List.all_cons, List.all_nil, bnef, bnet, Bool.and_true, Bool.and_self, gAdd_ii, gAdd_ss, gAdd_tt, gSub_ii, gMul_ii, gDiv_ii, gMod_ii, gNeg_i, gLt_ii, gGt_ii, gGe_ii, gLe_ii, eqv_ii, eqv_ss, eqv_bb, eqv_nn, eqv_ni, eqv_in, eqv_ns, eqv_sn, eqv_nb, eqv_bn, eqv_is, eqv_si, eqv_nt, eqv_tn, eqv_nl, eqv_ln, eqv_tt, eqv_ll, eqvA_nn, eqvA_cc, eqvA_nc, eqvA_cn, gEq_ii, gEq_ss, gEq_bb, gEq_nn, gEq_in, gEq_ni, gEq_sn, gEq_ns, gEq_si, gEq_is, gNe_ii, gNe_ss, gNe_bb, gNe_nn, gNot_b, gIsN_n, gIsN_i, gIsN_b, gIsN_s, gIsN_t, gIsN_l, gNotN_n, gNotN_i, gNotN_b, gNotN_s, gNotN_t, gNotN_l, gIx_l, gIx_t, gIx_s, gLen_s, gLen_l, gLen_t, gAbs_i, gInt_i, gInt_b, gInt_s, gOrd_sign, gDivmod_ii, gStr_i, gStr_s, gTuple_l, gTuple_t, gStrip_s, gLstrip_s, gSplit_s, gPartition_s, gJoin_m, gCat_ll, gSl_s, gSl_t, gSl_l, itemsOf_l, itemsOf_t, itemsOf_s, ofString_inj, cMul_r, cMul_l, ixN_lit, atI_lit, atI_m1, cast_lit, String.reduceEq, decide_true, decide_false, Int.reduceSub, Int.reduceAdd, Int.reduceMul, Int.reduceToNat, T_toList, T_len, T_app, T_inj, T_sign, T_cut, T_signs, T_strip, T_empty, gIn_T, gNin_T, gLjust_T, lt_0, $xs,*] $[$l:location]?)
local macro_rules | `(tactic| simp only [walkA] $[$l:location]?) => `(tactic| simp only [ok_some, ok_none, okV_some, okV_none, ↓okV_if, ↓ok_if, ↓ok_ret, ↓ok_bnd, ↓ok_lft, ↓ok_bin, ↓ok_una, ↓ok_binL, ↓ok_unaL, ↓ok_mny, ↓ok_rdD, ↓ok_rdO, ↓ok_rdA, ↓ok_toB, ↓ok_sAnd, ↓ok_sOr, ↓ok_sNot, ↓ok_vAnd, ↓ok_vOr, ↓ok_sIf, ↓ok_chn, ↓ok_sNil, ↓ok_sCons, ↓ok_dTup, ↓ok_dLst, ↓ok_m0S, ↓ok_m1S, ↓ok_m1L, ↓ok_ixO, ↓ok_sPart, ↓ok_sSl, ↓ok_tupO, ↓ok_sItems, ↓ok_sScr, ↓ok_sEnum, ↓ok_sRng1, ↓ok_sRng2, ↓ok_seqS, ↓ok_nxt, ↓ok_brkS, ↓ok_cntS, ↓ok_retN, ↓ok_drpS, ↓ok_asg, ↓ok_asgL, ↓ok_asgG, ↓ok_augS, ↓ok_ifS, ↓ok_retD, ↓ok_retL, ↓ok_retO, ↓ok_appO, ↓ok_setO, ↓ok_extO, ↓ok_popS, ↓ok_forS, ↓ok_forL_nil, ↓ok_lcS, ↓ok_lcL_nil, ↓okV_callD, ↓okV_callV, ↓ok_callM, ↓ok_asD, ↓ok_asL, ↓ok_callS, ↓ok_runF, ↓ok_rdP, ↓ok_rdB, ↓ok_rdZ, ↓ok_datS, ↓ok_ownS, ↓ok_asgS, ↓ok_retS, ↓ok_drpC, ↓ok_evA_nil, ↓ok_evA_ex, ↓ok_evA_pl, ↓ok_callA, ↓ok_callMt, ↓ok_makeA, ↓ok_setS, ↓ok_augF, ↓ok_newD, ↓ok_dgt, ↓ok_din, ↓ok_dpt, ↓ok_daug, ↓ok_ddel, ↓ok_dgo, ↓ok_dpo, ↓ok_dln, ↓ok_dso, ↓ok_appP, ↓ok_extP, ↓ok_ixP, ↓ok_tupP, ↓ok_dsp_nil, ↓ok_dsp_cons, ↓ok_dsp, ↓ok_mvS, ↓ok_sIfC, ↓ok_isNT, ↓ok_sRngD, ↓ok_sEnumL, ↓ok_rplS, ↓ok_tupA, ↓ok_strM, ↓ok_chn3, own?, toN, toT, toNs, wipE, bakE, stp_nx, stp_ct, stp_bk, stp_rt, Fw.collect, ok_yesS, List.getElem?_cons_zero, List.getElem?_cons_succ, List.set_cons_zero, List.set_cons_succ, List.map_cons, List.map_nil, List.length_cons, List.length_nil, List.cons_append, List.nil_append, List.replicate_succ, List.replicate_zero, Nat.reduceAdd, Nat.reduceSub, Nat.reduceLeDiff, Nat.reduceLT, Nat.reduceEqDiff, Int.reduceLT, Int.reduceLE, Int.reduceNeg, Int.reducePow, Int.reduceEq, Option.isSome_some, Option.map_some, Option.map_none, true_and, and_true, if_true, if_false, ite_true, ite_false, Bool.false_eq_true, reduceIte, reduceCtorEq, nodeAt, Fw.putAt, getP, putP, getF, setF, argSl, slsOf, slOf, unSl, newSl, putB, noTwice, trOf, dicAt, lstAt, Fw.keyOf, Option.isSome_some, Option.map_some, List.all_cons, List.all_nil, bnef, bnet, Bool.and_true, Bool.and_self, gAdd_ii, gAdd_ss, gAdd_tt, gSub_ii, gMul_ii, gDiv_ii, gMod_ii, gNeg_i, gLt_ii, gGt_ii, gGe_ii, gLe_ii, eqv_ii, eqv_ss, eqv_bb, eqv_nn, eqv_ni, eqv_in, eqv_ns, eqv_sn, eqv_nb, eqv_bn, eqv_is, eqv_si, eqv_nt, eqv_tn, eqv_nl, eqv_ln, eqv_tt, eqv_ll, eqvA_nn, eqvA_cc, eqvA_nc, eqvA_cn, gEq_ii, gEq_ss, gEq_bb, gEq_nn, gEq_in, gEq_ni, gEq_sn, gEq_ns, gEq_si, gEq_is, gNe_ii, gNe_ss, gNe_bb, gNe_nn, gNot_b, gIsN_n, gIsN_i, gIsN_b, gIsN_s, gIsN_t, gIsN_l, gNotN_n, gNotN_i, gNotN_b, gNotN_s, gNotN_t, gNotN_l, gIx_l, gIx_t, gIx_s, gLen_s, gLen_l, gLen_t, gAbs_i, gInt_i, gInt_b, gInt_s, gOrd_sign, gDivmod_ii, gStr_i, gStr_s, gTuple_l, gTuple_t, gStrip_s, gLstrip_s, gSplit_s, gPartition_s, gJoin_m, gCat_ll, gSl_s, gSl_t, gSl_l, itemsOf_l, itemsOf_t, itemsOf_s, ofString_inj, cMul_r, cMul_l, ixN_lit, atI_lit, atI_m1, cast_lit, String.reduceEq, decide_true, decide_false, Int.reduceSub, Int.reduceAdd, Int.reduceMul, Int.reduceToNat, T_toList, T_len, T_app, T_inj, T_sign, T_cut, T_signs, T_strip, T_empty, gIn_T, gNin_T, gLjust_T, lt_0] $[$l:location]?)

abbrev trG (c : Int) (ks : List Int) (st : Int → Int) (js : List Int) (mk : Int → Int) : Tr := .ins "Turns" [("_clock", .dat (.int c)), ("_strides", .dic (dF ks st)), ("_marks", .dic (dF js mk))]
abbrev trn (c : Int) (ks : List Int) (st mk : Int → Int) : Tr := trG c ks st ks mk
theorem init_ok {f g : Int → Int} {Q : Sl → En → Prop} (q : Q (.dat .none) [.tr (trn 0 [] f g)]) : Ok (S_Turns___init__ [.tr (.ins "Turns" [])]) Q := by
  unfold S_Turns___init__
  rw [ok_runF]
  refine ⟨rfl, ?_⟩
  simp only [walkA, Y_Turns___init__, T_Turns___init___2, T_Turns___init___1]
  exact q
theorem setw_new {c s w : Int} {ks js : List Int} {st mk : Int → Int} (hw : 0 < w ∧ w < 18446744073709551616) (hs : s ∉ ks) (hl : ks.length < 1000) {Q : Sl → En → Prop} (q : Q (.dat .none) [.tr (trG c (ks ++ [s]) (upF st s (65536 / w)) js mk), .un, .un]) :
    Ok (S_Turns_set_weight [.tr (trG c ks st js mk), .dat (.int s), .dat (.int w)]) Q := by
  have hz := sizeLine_eq
  unfold S_Turns_set_weight
  rw [ok_runF]
  refine ⟨rfl, ?_⟩
  simp only [walkA, Y_Turns_set_weight]
  refine ⟨hw, ?_⟩
  simp only [dF_len, dF_new hs]
  refine ⟨by omega, ?_⟩
  exact q
theorem setw_old {c s w : Int} {ks js : List Int} {st mk : Int → Int} (hw : 0 < w ∧ w < 18446744073709551616) (hs : s ∈ ks) (hl : ks.length < 1000) {Q : Sl → En → Prop} (q : Q (.dat .none) [.tr (trG c ks (upF st s (65536 / w)) js mk), .un, .un]) :
    Ok (S_Turns_set_weight [.tr (trG c ks st js mk), .dat (.int s), .dat (.int w)]) Q := by
  have hz := sizeLine_eq
  unfold S_Turns_set_weight
  rw [ok_runF]
  refine ⟨rfl, ?_⟩
  simp only [walkA, Y_Turns_set_weight]
  refine ⟨hw, ?_⟩
  simp only [dF_len, dF_put hs]
  refine ⟨by omega, ?_⟩
  exact q
theorem add_ok {c s w : Int} {ks : List Int} {st mk : Int → Int} (hw : 0 < w ∧ w < 18446744073709551616) (hs : s ∉ ks) (hl : ks.length < 1000) {Q : Sl → En → Prop} (q : Q (.dat .none) [.tr (trn c (ks ++ [s]) (upF st s (65536 / w)) (upF mk s c)), .un, .un]) :
    Ok (S_Turns_add [.tr (trn c ks st mk), .dat (.int s), .dat (.int w)]) Q := by
  have hz := sizeLine_eq
  unfold S_Turns_add
  rw [ok_runF]
  refine ⟨rfl, ?_⟩
  simp only [walkA, Y_Turns_add, T_Turns_add_1]
  simp only [dF_len, dF_new hs]
  refine ⟨by omega, ?_⟩
  refine setw_new hw hs hl ?_
  simp only [walkA]
  exact q
def mk1 (c : Int) (rs : List Int) (mk : Int → Int) : Int → Int := fun x => if x ∈ rs then max (mk x) c else mk x
theorem mk1_nil {c : Int} {mk : Int → Int} : mk1 c [] mk = mk := by funext x; simp [mk1]
theorem mk1_cons {c r : Int} {rs : List Int} {mk : Int → Int} : mk1 c rs (upF mk r (max (mk r) c)) = mk1 c (r :: rs) mk := by
  funext x
  unfold mk1 upF
  by_cases h : x = r
  · subst h
    simp only [if_true, List.mem_cons, true_or]
    split <;> omega
  · simp only [h, if_false, List.mem_cons, false_or]
theorem loop1 {c : Int} {ks : List Int} {st : Int → Int} {rd a3 : Sl} {Q : Fl → En → Prop} (hl : ks.length < 1000) : ∀ (rs : List Int) (mk : Int → Int) (a2 : Sl), (∀ r ∈ rs, r ∈ ks) → (∀ a2, Q .nx [.tr (trn c ks st (mk1 c rs mk)), rd, a2, a3]) →
    Ok (forL (toN 2) L_Turns_choose_1 (rs.map .int) [.tr (trn c ks st mk), rd, a2, a3]) Q
  | [], mk, a2, _, q => by
    rw [List.map_nil, ok_forL_nil]
    rw [mk1_nil] at q
    exact q a2
  | r :: rs, mk, a2, hr, q => by
    have hz := sizeLine_eq
    have h0 := hr r (List.mem_cons_self ..)
    rw [List.map_cons, ok_forL_cons]
    simp only [walkA, L_Turns_choose_1, dF_val h0, gMax_ii, dF_len, dF_put h0]
    refine ⟨by omega, ?_⟩
    refine loop1 hl rs _ _ (fun x hx => hr x (List.mem_cons_of_mem _ hx)) fun a2 => ?_
    rw [mk1_cons]
    exact q a2
def argm (f : Int → Int) (rs : List Int) (c : Int) : Int := rs.foldl (fun c r => if f r < f c then r else c) c
theorem argm_le {f : Int → Int} : ∀ (rs : List Int) (c : Int), (argm f rs c = c ∨ argm f rs c ∈ rs) ∧ f (argm f rs c) ≤ f c ∧ ∀ r ∈ rs, f (argm f rs c) ≤ f r
  | [], c => ⟨.inl rfl, Int.le_refl _, fun _ h => nomatch h⟩
  | r :: rs, c => by
    obtain ⟨h1, h2, h3⟩ := argm_le rs (if f r < f c then r else c) (f := f)
    have e : argm f (r :: rs) c = argm f rs (if f r < f c then r else c) := rfl
    rw [e]
    by_cases h : f r < f c
    · rw [if_pos h] at h1 h2 h3 ⊢
      refine ⟨.inr (h1.elim (fun z => by rw [z]; exact List.mem_cons_self ..) (fun z => List.mem_cons_of_mem _ z)), by omega, fun x hx => ?_⟩
      rcases List.mem_cons.mp hx with rfl | hx
      · exact h2
      · exact h3 x hx
    · rw [if_neg h] at h1 h2 h3 ⊢
      refine ⟨h1.imp id fun z => List.mem_cons_of_mem _ z, h2, fun x hx => ?_⟩
      rcases List.mem_cons.mp hx with rfl | hx
      · omega
      · exact h3 x hx
theorem loop2 {c : Int} {ks : List Int} {st mk : Int → Int} {rd : Sl} {Q : Fl → En → Prop} : ∀ (rs : List Int) (ch : Int) (a2 : Sl), (∀ r ∈ rs, r ∈ ks) → ch ∈ ks → (∀ a2, Q .nx [.tr (trn c ks st mk), rd, a2, .dat (.int (argm mk rs ch))]) →
    Ok (forL (toN 2) L_Turns_choose_2 (rs.map .int) [.tr (trn c ks st mk), rd, a2, .dat (.int ch)]) Q
  | [], ch, a2, _, _, q => by
    rw [List.map_nil, ok_forL_nil]
    exact q a2
  | r :: rs, ch, a2, hr, hc, q => by
    have h0 := hr r (List.mem_cons_self ..)
    rw [List.map_cons, ok_forL_cons]
    simp only [walkA, L_Turns_choose_2, dF_val h0, dF_val hc]
    have e : argm mk (r :: rs) ch = argm mk rs (if mk r < mk ch then r else ch) := rfl
    rw [e] at q
    by_cases h : mk r < mk ch
    · rw [if_pos h] at q
      simp only [walkA, h]
      exact loop2 rs r _ (fun x hx => hr x (List.mem_cons_of_mem _ hx)) h0 q
    · rw [if_neg h] at q
      simp only [walkA, h]
      exact loop2 rs ch _ (fun x hx => hr x (List.mem_cons_of_mem _ hx)) hc q
/-- what choose answers and leaves -/
theorem choose_ok {c r : Int} {ks rs : List Int} {st mk : Int → Int} (hl : ks.length < 1000) (hr : ∀ x ∈ r :: rs, x ∈ ks) {Q : Sl → En → Prop}
    (q : ∀ (ch : Int) (m : Int → Int), m = mk1 c (r :: rs) mk → ch ∈ r :: rs → (∀ x ∈ r :: rs, m ch ≤ m x) → ch = argm m (r :: rs) r → Q (.dat (.int ch)) [.tr (trn (m ch) ks st (upF m ch (m ch + st ch))), .un]) :
    Ok (S_Turns_choose [.tr (trn c ks st mk), .dat (.tuple ((r :: rs).map .int))]) Q := by
  have hz := sizeLine_eq
  unfold S_Turns_choose
  rw [ok_runF]
  refine ⟨rfl, ?_⟩
  simp only [Y_Turns_choose, ok_some, ok_none, okV_some, okV_none, ↓okV_if, ↓ok_if, ↓ok_ret, ↓ok_bnd, ↓ok_lft, ↓ok_bin, ↓ok_una, ↓ok_binL, ↓ok_unaL, ↓ok_mny, ↓ok_rdD, ↓ok_rdO, ↓ok_rdA, ↓ok_toB, ↓ok_sAnd, ↓ok_sOr, ↓ok_sNot, ↓ok_vAnd, ↓ok_vOr, ↓ok_sIf, ↓ok_chn, ↓ok_sNil, ↓ok_sCons, ↓ok_dTup, ↓ok_dLst, ↓ok_m0S, ↓ok_m1S, ↓ok_m1L, ↓ok_ixO, ↓ok_sPart, ↓ok_sSl, ↓ok_tupO, ↓ok_sItems, ↓ok_sScr, ↓ok_sEnum, ↓ok_sRng1, ↓ok_sRng2, ↓ok_seqS, ↓ok_nxt, ↓ok_brkS, ↓ok_cntS, ↓ok_retN, ↓ok_drpS, ↓ok_asg, ↓ok_asgL, ↓ok_asgG, ↓ok_augS, ↓ok_ifS, ↓ok_retD, ↓ok_retL, ↓ok_retO, ↓ok_appO, ↓ok_setO, ↓ok_extO, ↓ok_popS, ↓ok_forS, ↓ok_forL_nil, ↓ok_lcS, ↓ok_lcL_nil, ↓okV_callD, ↓okV_callV, ↓ok_callM, ↓ok_asD, ↓ok_asL, ↓ok_callS, ↓ok_runF, ↓ok_rdP, ↓ok_rdB, ↓ok_rdZ, ↓ok_datS, ↓ok_ownS, ↓ok_asgS, ↓ok_retS, ↓ok_drpC, ↓ok_evA_nil, ↓ok_evA_ex, ↓ok_evA_pl, ↓ok_callA, ↓ok_callMt, ↓ok_makeA, ↓ok_setS, ↓ok_augF, ↓ok_newD, ↓ok_dgt, ↓ok_din, ↓ok_dpt, ↓ok_daug, ↓ok_ddel, ↓ok_dgo, ↓ok_dpo, ↓ok_dln, ↓ok_dso, ↓ok_appP, ↓ok_extP, ↓ok_ixP, ↓ok_tupP, ↓ok_dsp_nil, ↓ok_dsp_cons, ↓ok_dsp, ↓ok_mvS, ↓ok_sIfC, ↓ok_isNT, ↓ok_sRngD, ↓ok_sEnumL, ↓ok_rplS, ↓ok_tupA, ↓ok_strM, ↓ok_chn3, own?, toN, toT, toNs, wipE, bakE, stp_nx, stp_ct, stp_bk, stp_rt, Fw.collect, ok_yesS, List.getElem?_cons_zero, List.getElem?_cons_succ, List.set_cons_zero, List.set_cons_succ, List.map_cons, List.map_nil, List.length_cons, List.length_nil, List.cons_append, List.nil_append, List.replicate_succ, List.replicate_zero, Nat.reduceAdd, Nat.reduceSub, Nat.reduceLeDiff, Nat.reduceLT, Nat.reduceEqDiff, Int.reduceLT, Int.reduceLE, Int.reduceNeg, Int.reducePow, Int.reduceEq, Option.isSome_some, Option.map_some, Option.map_none, true_and, and_true, if_true, if_false, ite_true, ite_false, Bool.false_eq_true, reduceIte, reduceCtorEq, nodeAt, Fw.putAt, getP, putP, getF, setF, argSl, slsOf, slOf, unSl, newSl, putB, noTwice, trOf, dicAt, lstAt, Fw.keyOf, Option.isSome_some, Option.map_some, List.all_cons, List.all_nil, bnef, bnet, Bool.and_true, Bool.and_self, itemsOf_t]
  rw [show PyData.int r :: rs.map PyData.int = (r :: rs).map PyData.int from rfl]
  refine loop1 hl (r :: rs) mk _ hr fun a2 => ?_
  have hr0 := hr r (List.mem_cons_self ..)
  generalize hm : mk1 c (r :: rs) mk = m
  simp only [walkA, T_Turns_choose_5, List.map_cons]
  rw [show PyData.int r :: rs.map PyData.int = (r :: rs).map PyData.int from rfl]
  simp only [T_Turns_choose_4, ok_some, ok_none, okV_some, okV_none, ↓okV_if, ↓ok_if, ↓ok_ret, ↓ok_bnd, ↓ok_lft, ↓ok_bin, ↓ok_una, ↓ok_binL, ↓ok_unaL, ↓ok_mny, ↓ok_rdD, ↓ok_rdO, ↓ok_rdA, ↓ok_toB, ↓ok_sAnd, ↓ok_sOr, ↓ok_sNot, ↓ok_vAnd, ↓ok_vOr, ↓ok_sIf, ↓ok_chn, ↓ok_sNil, ↓ok_sCons, ↓ok_dTup, ↓ok_dLst, ↓ok_m0S, ↓ok_m1S, ↓ok_m1L, ↓ok_ixO, ↓ok_sPart, ↓ok_sSl, ↓ok_tupO, ↓ok_sItems, ↓ok_sScr, ↓ok_sEnum, ↓ok_sRng1, ↓ok_sRng2, ↓ok_seqS, ↓ok_nxt, ↓ok_brkS, ↓ok_cntS, ↓ok_retN, ↓ok_drpS, ↓ok_asg, ↓ok_asgL, ↓ok_asgG, ↓ok_augS, ↓ok_ifS, ↓ok_retD, ↓ok_retL, ↓ok_retO, ↓ok_appO, ↓ok_setO, ↓ok_extO, ↓ok_popS, ↓ok_forS, ↓ok_forL_nil, ↓ok_lcS, ↓ok_lcL_nil, ↓okV_callD, ↓okV_callV, ↓ok_callM, ↓ok_asD, ↓ok_asL, ↓ok_callS, ↓ok_runF, ↓ok_rdP, ↓ok_rdB, ↓ok_rdZ, ↓ok_datS, ↓ok_ownS, ↓ok_asgS, ↓ok_retS, ↓ok_drpC, ↓ok_evA_nil, ↓ok_evA_ex, ↓ok_evA_pl, ↓ok_callA, ↓ok_callMt, ↓ok_makeA, ↓ok_setS, ↓ok_augF, ↓ok_newD, ↓ok_dgt, ↓ok_din, ↓ok_dpt, ↓ok_daug, ↓ok_ddel, ↓ok_dgo, ↓ok_dpo, ↓ok_dln, ↓ok_dso, ↓ok_appP, ↓ok_extP, ↓ok_ixP, ↓ok_tupP, ↓ok_dsp_nil, ↓ok_dsp_cons, ↓ok_dsp, ↓ok_mvS, ↓ok_sIfC, ↓ok_isNT, ↓ok_sRngD, ↓ok_sEnumL, ↓ok_rplS, ↓ok_tupA, ↓ok_strM, ↓ok_chn3, own?, toN, toT, toNs, wipE, bakE, stp_nx, stp_ct, stp_bk, stp_rt, Fw.collect, ok_yesS, List.getElem?_cons_zero, List.getElem?_cons_succ, List.set_cons_zero, List.set_cons_succ, List.map_cons, List.map_nil, List.length_cons, List.length_nil, List.cons_append, List.nil_append, List.replicate_succ, List.replicate_zero, Nat.reduceAdd, Nat.reduceSub, Nat.reduceLeDiff, Nat.reduceLT, Nat.reduceEqDiff, Int.reduceLT, Int.reduceLE, Int.reduceNeg, Int.reducePow, Int.reduceEq, Option.isSome_some, Option.map_some, Option.map_none, true_and, and_true, if_true, if_false, ite_true, ite_false, Bool.false_eq_true, reduceIte, reduceCtorEq, nodeAt, Fw.putAt, getP, putP, getF, setF, argSl, slsOf, slOf, unSl, newSl, putB, noTwice, trOf, dicAt, lstAt, Fw.keyOf, Option.isSome_some, Option.map_some, List.all_cons, List.all_nil, bnef, bnet, Bool.and_true, Bool.and_self, itemsOf_t]
  rw [show PyData.int r :: rs.map PyData.int = (r :: rs).map PyData.int from rfl]
  refine loop2 (r :: rs) r _ hr hr0 fun a2 => ?_
  obtain ⟨h1, h2, h3⟩ := argm_le (f := m) (r :: rs) r
  have hin : argm m (r :: rs) r ∈ r :: rs := h1.elim (fun z => by rw [z]; exact List.mem_cons_self ..) id
  have q := q _ m hm.symm hin h3 rfl
  generalize argm m (r :: rs) r = ch at *
  have hk := hr ch hin
  simp only [walkA, T_Turns_choose_3, T_Turns_choose_2, T_Turns_choose_1, dF_val hk, dF_len, dF_put hk]
  refine ⟨by omega, ?_⟩
  exact q
end ownanswer_k35_shares_by_weight
namespace Fw
open PySem PySem.Spec L2
open PyProof.Rows hiding St
mutual
theorem eqv_self : ∀ (d : PyData), d.canLay0 = true → PyData.eqv d d = true
  | .none, _ => by simp only [PyData.eqv]
  | .bool b, _ => by simp only [PyData.eqv, beq_self_eq_true]
  | .int i, _ => by simp only [PyData.eqv, beq_self_eq_true]
  | .str x, _ => by simp [PyData.eqv]
  | .list xs, h => by
    simp only [PyData.eqv]
    exact eqvAll_self xs (by simpa only [PyData.canLay0] using h)
  | .tuple xs, h => by
    simp only [PyData.eqv]
    exact eqvAll_self xs (by simpa only [PyData.canLay0] using h)
  | .dict _, h => by simp [PyData.canLay0] at h
theorem eqvAll_self : ∀ (ds : List PyData), PyData.canLayAll0 ds = true → PyData.eqvAll ds ds = true
  | [], _ => by simp only [PyData.eqvAll]
  | d :: ds, h => by
    simp only [PyData.canLayAll0, Bool.and_eq_true] at h
    simp only [PyData.eqvAll, eqv_self d h.1, eqvAll_self ds h.2, Bool.and_self]
end
/-- laid flat, at most so deep -/
structure Sh (k : Nat) (d : PyData) : Prop where
  can : d.canLay0 = true
  dep : d.depth ≤ k
structure ShA (k : Nat) (ds : List PyData) : Prop where
  can : PyData.canLayAll0 ds = true
  dep : PyData.depthAll ds ≤ k
theorem ShA.nil {k : Nat} : ShA k [] := ⟨rfl, by simp [PyData.depthAll]⟩
theorem ShA.cons {k : Nat} {d : PyData} {ds : List PyData} (h : Sh k d) (r : ShA k ds) : ShA k (d :: ds) := by
  refine ⟨by simp only [PyData.canLayAll0, h.can, r.can, Bool.and_self], ?_⟩
  have h1 := h.dep
  have h2 := r.dep
  simp only [PyData.depthAll]
  omega
theorem ShA.map {k : Nat} {α : Type} {f : α → PyData} : ∀ {xs : List α}, (∀ x ∈ xs, Sh k (f x)) → ShA k (xs.map f)
  | [], _ => .nil
  | x :: xs, h => by
    rw [List.map_cons]
    exact .cons (h x (List.mem_cons_self ..)) (ShA.map fun y hy => h y (List.mem_cons_of_mem _ hy))
theorem Sh.int {k : Nat} {i : Int} : Sh k (.int i) := ⟨by simp only [PyData.canLay0], by simp [PyData.depth]⟩
theorem Sh.non {k : Nat} : Sh k .none := ⟨by simp only [PyData.canLay0], by simp [PyData.depth]⟩
theorem Sh.bl {k : Nat} {b : Bool} : Sh k (.bool b) := ⟨by simp only [PyData.canLay0], by simp [PyData.depth]⟩
theorem Sh.str {k : Nat} {x : Str} (h : PyData.strOk x = true) : Sh k (.str x) := ⟨by simp only [PyData.canLay0, h], by simp [PyData.depth]⟩
theorem Sh.tup {k : Nat} {ds : List PyData} (h : ShA k ds) : Sh (k + 1) (.tuple ds) := by
  refine ⟨by simp only [PyData.canLay0, h.can], ?_⟩
  have := h.dep
  simp only [PyData.depth]
  omega
theorem Sh.lst {k : Nat} {ds : List PyData} (h : ShA k ds) : Sh (k + 1) (.list ds) := by
  refine ⟨by simp only [PyData.canLay0, h.can], ?_⟩
  have := h.dep
  simp only [PyData.depth]
  omega
theorem Sh.shaped {k : Nat} {d : PyData} (h : Sh k d) (hk : k ≤ 64) : SeqAt.shaped d = true := by
  unfold SeqAt.shaped
  rw [h.can, Bool.true_and]
  exact decide_eq_true (Nat.le_trans h.dep hk)
theorem okEq_sh {d e : PyData} (h1 : SeqAt.shaped d = true) (h2 : SeqAt.shaped e = true) : okEq d e = true := by
  unfold okEq
  split <;> first
    | rfl
    | rw [h1, h2]; rfl
theorem gNe_sh {d e : PyData} (h1 : SeqAt.shaped d = true) (h2 : SeqAt.shaped e = true) : gNe d e = some (.bool (!PyData.eqv d e)) := by unfold gNe; rw [if_pos (okEq_sh h1 h2)]
theorem gEq_shp {d e : PyData} (h1 : SeqAt.shaped d = true) (h2 : SeqAt.shaped e = true) : gEq d e = some (.bool (PyData.eqv d e)) := by unfold gEq; rw [if_pos (okEq_sh h1 h2)]
theorem gNe_self {k : Nat} {d : PyData} (h : Sh k d) (hk : k ≤ 64) : gNe d d = some (.bool false) := by rw [gNe_sh (h.shaped hk) (h.shaped hk), eqv_self d h.can]; rfl
theorem gEq_self {k : Nat} {d : PyData} (h : Sh k d) (hk : k ≤ 64) : gEq d d = some (.bool true) := by rw [gEq_shp (h.shaped hk) (h.shaped hk), eqv_self d h.can]
end Fw
-- FwP
-- Ne
namespace ownanswer_k33_turns_by_marks
open PySem PySem.Spec L2 Fw
local macro_rules | `(tactic| simp only [walkA, $xs,*] $[$l:location]?) => `(tactic| simp only [ok_some, ok_none, okV_some, okV_none, ↓okV_if, ↓ok_if, ↓ok_ret, ↓ok_bnd, ↓ok_lft, ↓ok_bin, ↓ok_una, ↓ok_binL, ↓ok_unaL, ↓ok_mny, ↓ok_rdD, ↓ok_rdO, ↓ok_rdA, ↓ok_toB, ↓ok_sAnd, ↓ok_sOr, ↓ok_sNot, ↓ok_vAnd, ↓ok_vOr, ↓ok_sIf, ↓ok_chn, ↓ok_sNil, ↓ok_sCons, ↓ok_dTup, ↓ok_dLst, ↓ok_m0S, ↓ok_m1S, ↓ok_m1L, ↓ok_ixO, ↓ok_sPart, ↓ok_sSl, ↓ok_tupO, ↓ok_sItems, ↓ok_sScr, ↓ok_sEnum, ↓ok_sRng1, ↓ok_sRng2, ↓ok_seqS, ↓ok_nxt, ↓ok_brkS, ↓ok_cntS, ↓ok_retN, ↓ok_drpS, ↓ok_asg, ↓ok_asgL, ↓ok_asgG, ↓ok_augS, ↓ok_ifS, ↓ok_retD, ↓ok_retL, ↓ok_retO, ↓ok_appO, ↓ok_setO, ↓ok_extO, ↓ok_popS, ↓ok_forS, ↓ok_forL_nil, ↓ok_lcS, ↓ok_lcL_nil, ↓okV_callD, ↓okV_callV, ↓ok_callM, ↓ok_asD, ↓ok_asL, ↓ok_callS, ↓ok_runF, ↓ok_rdP, ↓ok_rdB, ↓ok_rdZ, ↓ok_datS, ↓ok_ownS, ↓ok_asgS, ↓ok_retS, ↓ok_drpC, ↓ok_evA_nil, ↓ok_evA_ex, ↓ok_evA_pl, ↓ok_callA, ↓ok_callMt, ↓ok_makeA, ↓ok_setS, ↓ok_augF, ↓ok_newD, ↓ok_dgt, ↓ok_din, ↓ok_dpt, ↓ok_daug, ↓ok_ddel, ↓ok_dgo, ↓ok_dpo, ↓ok_dln, ↓ok_dso, ↓ok_appP, ↓ok_extP, ↓ok_ixP, ↓ok_tupP, ↓ok_dsp_nil, ↓ok_dsp_cons, ↓ok_dsp, ↓ok_mvS, ↓ok_sIfC, ↓ok_isNT, ↓ok_sRngD, ↓ok_sEnumL, ↓ok_setR, ↓ok_dspR, ↓ok_evR_nil, ↓ok_evR_cons, ↓ok_rplS, ↓ok_tupA, ↓ok_strM, ↓ok_chn3, own?, toN, toT, toNs, wipE, bakE, stp_nx, stp_ct, stp_bk, stp_rt, Fw.collect, ok_yesS, List.getElem?_cons_zero, List.getElem?_cons_succ, List.set_cons_zero, List.set_cons_succ, List.map_cons, List.map_nil, List.length_cons, List.length_nil, List.cons_append, List.nil_append, List.replicate_succ, List.replicate_zero, Nat.reduceAdd, Nat.reduceSub, Nat.reduceLeDiff, Nat.reduceLT, Nat.reduceEqDiff, Int.reduceLT, Int.reduceLE, Int.reduceNeg, Int.reducePow, Int.reduceEq, Option.isSome_some, Option.map_some, Option.map_none, true_and, and_true, if_true, if_false, ite_true, ite_false, Bool.false_eq_true, reduceIte, reduceCtorEq, nodeAt, Fw.putAt, getP, putP, getF, setF, argSl, slsOf, slOf, unSl, newSl, putB, noTwice, trOf, dicAt, lstAt, Fw.keyOf, Option.isSome_some, Option.map_some, List.all_cons, List.all_nil, bnef, bnet, Bool.and_true, Bool.and_self, dstAt, gAdd_ii, gAdd_ss, gAdd_tt, gSub_ii, gMul_ii, gDiv_ii, gMod_ii, gNeg_i, gLt_ii, gGt_ii, gGe_ii, gLe_ii, eqv_ii, eqv_ss, eqv_bb, eqv_nn, eqv_ni, eqv_in, eqv_ns, eqv_sn, eqv_nb, eqv_bn, eqv_is, eqv_si, eqv_nt, eqv_tn, eqv_nl, eqv_ln, eqv_tt, eqv_ll, eqvA_nn, eqvA_cc, eqvA_nc, eqvA_cn, gEq_ii, gEq_ss, gEq_bb, gEq_nn, gEq_in, gEq_ni, gEq_sn, gEq_ns, gEq_si, gEq_is, gNe_ii, gNe_ss, gNe_bb, gNe_nn, gNot_b, gIsN_n, gIsN_i, gIsN_b, gIsN_s, gIsN_t, gIsN_l, gNotN_n, gNotN_i, gNotN_b, gNotN_s, gNotN_t, gNotN_l, gIx_l, gIx_t, gIx_s, gLen_s, gLen_l, gLen_t, gAbs_i, gInt_i, gInt_b, gInt_s, gOrd_sign, gDivmod_ii, gStr_i, gStr_s, gTuple_l, gTuple_t, gStrip_s, gLstrip_s, gSplit_s, gPartition_s, gJoin_m, gCat_ll, gSl_s, gSl_t, gSl_l, itemsOf_l, itemsOf_t, itemsOf_s, ofString_inj, cMul_r, cMul_l, ixN_lit, atI_lit, atI_m1, cast_lit, String.reduceEq, decide_true, decide_false, Int.reduceSub, Int.reduceAdd, Int.reduceMul, Int.reduceToNat, T_toList, T_len, T_app, T_inj, T_sign, T_cut, T_signs, T_strip, T_empty, gIn_T, gNin_T, gLjust_T, lt_0, $xs,*] $[$l:location]?)
local macro_rules | `(tactic| simp only [walkA] $[$l:location]?) => `(tactic| simp only [ok_some, ok_none, okV_some, okV_none, ↓okV_if, ↓ok_if, ↓ok_ret, ↓ok_bnd, ↓ok_lft, ↓ok_bin, ↓ok_una, ↓ok_binL, ↓ok_unaL, ↓ok_mny, ↓ok_rdD, ↓ok_rdO, ↓ok_rdA, ↓ok_toB, ↓ok_sAnd, ↓ok_sOr, ↓ok_sNot, ↓ok_vAnd, ↓ok_vOr, ↓ok_sIf, ↓ok_chn, ↓ok_sNil, ↓ok_sCons, ↓ok_dTup, ↓ok_dLst, ↓ok_m0S, ↓ok_m1S, ↓ok_m1L, ↓ok_ixO, ↓ok_sPart, ↓ok_sSl, ↓ok_tupO, ↓ok_sItems, ↓ok_sScr, ↓ok_sEnum, ↓ok_sRng1, ↓ok_sRng2, ↓ok_seqS, ↓ok_nxt, ↓ok_brkS, ↓ok_cntS, ↓ok_retN, ↓ok_drpS, ↓ok_asg, ↓ok_asgL, ↓ok_asgG, ↓ok_augS, ↓ok_ifS, ↓ok_retD, ↓ok_retL, ↓ok_retO, ↓ok_appO, ↓ok_setO, ↓ok_extO, ↓ok_popS, ↓ok_forS, ↓ok_forL_nil, ↓ok_lcS, ↓ok_lcL_nil, ↓okV_callD, ↓okV_callV, ↓ok_callM, ↓ok_asD, ↓ok_asL, ↓ok_callS, ↓ok_runF, ↓ok_rdP, ↓ok_rdB, ↓ok_rdZ, ↓ok_datS, ↓ok_ownS, ↓ok_asgS, ↓ok_retS, ↓ok_drpC, ↓ok_evA_nil, ↓ok_evA_ex, ↓ok_evA_pl, ↓ok_callA, ↓ok_callMt, ↓ok_makeA, ↓ok_setS, ↓ok_augF, ↓ok_newD, ↓ok_dgt, ↓ok_din, ↓ok_dpt, ↓ok_daug, ↓ok_ddel, ↓ok_dgo, ↓ok_dpo, ↓ok_dln, ↓ok_dso, ↓ok_appP, ↓ok_extP, ↓ok_ixP, ↓ok_tupP, ↓ok_dsp_nil, ↓ok_dsp_cons, ↓ok_dsp, ↓ok_mvS, ↓ok_sIfC, ↓ok_isNT, ↓ok_sRngD, ↓ok_sEnumL, ↓ok_setR, ↓ok_dspR, ↓ok_evR_nil, ↓ok_evR_cons, ↓ok_rplS, ↓ok_tupA, ↓ok_strM, ↓ok_chn3, own?, toN, toT, toNs, wipE, bakE, stp_nx, stp_ct, stp_bk, stp_rt, Fw.collect, ok_yesS, List.getElem?_cons_zero, List.getElem?_cons_succ, List.set_cons_zero, List.set_cons_succ, List.map_cons, List.map_nil, List.length_cons, List.length_nil, List.cons_append, List.nil_append, List.replicate_succ, List.replicate_zero, Nat.reduceAdd, Nat.reduceSub, Nat.reduceLeDiff, Nat.reduceLT, Nat.reduceEqDiff, Int.reduceLT, Int.reduceLE, Int.reduceNeg, Int.reducePow, Int.reduceEq, Option.isSome_some, Option.map_some, Option.map_none, true_and, and_true, if_true, if_false, ite_true, ite_false, Bool.false_eq_true, reduceIte, reduceCtorEq, nodeAt, Fw.putAt, getP, putP, getF, setF, argSl, slsOf, slOf, unSl, newSl, putB, noTwice, trOf, dicAt, lstAt, Fw.keyOf, Option.isSome_some, Option.map_some, List.all_cons, List.all_nil, bnef, bnet, Bool.and_true, Bool.and_self, dstAt, gAdd_ii, gAdd_ss, gAdd_tt, gSub_ii, gMul_ii, gDiv_ii, gMod_ii, gNeg_i, gLt_ii, gGt_ii, gGe_ii, gLe_ii, eqv_ii, eqv_ss, eqv_bb, eqv_nn, eqv_ni, eqv_in, eqv_ns, eqv_sn, eqv_nb, eqv_bn, eqv_is, eqv_si, eqv_nt, eqv_tn, eqv_nl, eqv_ln, eqv_tt, eqv_ll, eqvA_nn, eqvA_cc, eqvA_nc, eqvA_cn, gEq_ii, gEq_ss, gEq_bb, gEq_nn, gEq_in, gEq_ni, gEq_sn, gEq_ns, gEq_si, gEq_is, gNe_ii, gNe_ss, gNe_bb, gNe_nn, gNot_b, gIsN_n, gIsN_i, gIsN_b, gIsN_s, gIsN_t, gIsN_l, gNotN_n, gNotN_i, gNotN_b, gNotN_s, gNotN_t, gNotN_l, gIx_l, gIx_t, gIx_s, gLen_s, gLen_l, gLen_t, gAbs_i, gInt_i, gInt_b, gInt_s, gOrd_sign, gDivmod_ii, gStr_i, gStr_s, gTuple_l, gTuple_t, gStrip_s, gLstrip_s, gSplit_s, gPartition_s, gJoin_m, gCat_ll, gSl_s, gSl_t, gSl_l, itemsOf_l, itemsOf_t, itemsOf_s, ofString_inj, cMul_r, cMul_l, ixN_lit, atI_lit, atI_m1, cast_lit, String.reduceEq, decide_true, decide_false, Int.reduceSub, Int.reduceAdd, Int.reduceMul, Int.reduceToNat, T_toList, T_len, T_app, T_inj, T_sign, T_cut, T_signs, T_strip, T_empty, gIn_T, gNin_T, gLjust_T, lt_0] $[$l:location]?)

open ownanswer_k35_shares_by_weight (trG trn mk1 argm choose_ok add_ok init_ok setw_old mk1_cons mk1_nil argm_le)
theorem tk : S__law_take = S_take := rfl
theorem ec : S_Turns_choose = ownanswer_k35_shares_by_weight.S_Turns_choose := rfl
theorem ea : S_Turns_add = ownanswer_k35_shares_by_weight.S_Turns_add := rfl
theorem ei : S_Turns___init__ = ownanswer_k35_shares_by_weight.S_Turns___init__ := rfl
theorem es : S_Turns_set_weight = ownanswer_k35_shares_by_weight.S_Turns_set_weight := rfl
def stW (wt : Int → Int) (s : Int) : Int := 65536 / wt s
theorem st_up {wt : Int → Int} {s w : Int} : upF (stW wt) s (65536 / w) = stW (upF wt s w) := by
  funext x
  by_cases h : x = s
  · subst h
    unfold stW
    rw [upF_same, upF_same]
  · unfold stW
    rw [upF_ne h, upF_ne h]
abbrev stt (c : Int) (ks : List Int) (wt mk : Int → Int) (bf : List Int) : Tr := .dst [("weights", .dic (dF ks wt)), ("marks", .dic (dF ks mk)), ("clock", .dat (.int c)), ("before", .dat (.tuple (bf.map .int)))]
theorem any_ints {x : Int} : ∀ {rs : List Int}, ((rs.map PyData.int).any fun y => PyData.eqv y (.int x)) = decide (x ∈ rs)
  | [] => rfl
  | r :: rs => by
    rw [List.map_cons, List.any_cons, eqv_ii, any_ints]
    by_cases h : r = x
    · simp [h]
    · have : ¬ x = r := fun z => h z.symm
      simp [h, this]
theorem all_ints {rs : List Int} : (rs.map PyData.int).all flatD = true := by
  rw [List.all_eq_true]
  intro y hy
  obtain ⟨n, _, rfl⟩ := List.mem_map.mp hy
  rfl
theorem nin_ints {x : Int} {rs : List Int} : gNin (.int x) (.tuple (rs.map .int)) = some (.bool (!decide (x ∈ rs))) := by
  unfold gNin gInB
  dsimp only
  rw [all_ints]
  simp only [flatD, Bool.and_self, if_true, Option.map_some, any_ints]
theorem nin_intsL {x : Int} {rs : List Int} : gNin (.int x) (.list (rs.map .int)) = some (.bool (!decide (x ∈ rs))) := by
  unfold gNin gInB
  dsimp only
  rw [all_ints]
  simp only [flatD, Bool.and_self, if_true, Option.map_some, any_ints]
section
variable {c : Int} {ks bf : List Int} {wt mk : Int → Int}
theorem clock_ok {st : Int → Int} {Q : Sl → En → Prop} (q : Q (.dat (.int c)) [.tr (trn c ks st mk)]) : Ok (S_Turns_clock [.tr (trn c ks st mk)]) Q := by
  unfold S_Turns_clock
  rw [ok_runF]
  refine ⟨rfl, ?_⟩
  simp only [walkA, Y_Turns_clock]
  exact q
theorem mark_ok {s : Int} {st : Int → Int} (hs : s ∈ ks) {Q : Sl → En → Prop} (q : Q (.dat (.int (mk s))) [.tr (trn c ks st mk), .un]) : Ok (S_Turns_mark [.tr (trn c ks st mk), .dat (.int s)]) Q := by
  unfold S_Turns_mark
  rw [ok_runF]
  refine ⟨rfl, ?_⟩
  simp only [walkA, Y_Turns_mark, dF_val hs]
  exact q
theorem known_ok {st : Int → Int} (hl : ks.length < 64) {Q : Sl → En → Prop} (q : Q (.own ((srtI ks).map .int)) [.tr (trn c ks st mk)]) : Ok (S_Turns_known [.tr (trn c ks st mk)]) Q := by
  unfold S_Turns_known
  rw [ok_runF]
  refine ⟨rfl, ?_⟩
  simp only [walkA, Y_Turns_known, dF_ints]
  exact ⟨hl, q⟩
theorem remove_ok {s : Int} {st : Int → Int} (hs : s ∈ ks) {Q : Sl → En → Prop} (q : Q (.dat .none) [.tr (trn c (ks.filter fun j => decide (j ≠ s)) st mk), .un]) : Ok (S_Turns_remove [.tr (trn c ks st mk), .dat (.int s)]) Q := by
  unfold S_Turns_remove
  rw [ok_runF]
  refine ⟨rfl, ?_⟩
  simp only [walkA, Y_Turns_remove, T_Turns_remove_1, dF_val hs, dF_drop]
  exact q
theorem inj_m {a : Addr} {y s2 : Sl} {l : En} : injA 2 0 [("{}", "marks")] a (.tr (stt c ks wt mk bf) :: y :: s2 :: l) = .tr (.dst [("weights", .dic (dF ks wt)), ("marks", .hol a), ("clock", .dat (.int c)), ("before", .dat (.tuple (bf.map .int)))]) :: y :: .tr (.dic (dF ks mk)) :: l := by
  simp only [walkA, injA]
theorem nd_m {y s2 : Sl} {l : En} : ∃ n s, nodeAt 0 [("{}", "marks")] (.tr (stt c ks wt mk bf) :: y :: s2 :: l) = some n ∧ slOf n = some s := by
  refine ⟨.dic (dF ks mk), .tr (.dic (dF ks mk)), ?_, rfl⟩
  simp only [walkA]
theorem dist4 : distK ["weights", "marks", "clock", "before"] = true := by decide +kernel
/-- the last of a row that was walked -/
def lastS (rs : List Int) (a : Sl) : Sl := rs.foldl (fun _ x => .dat (.int x)) a
theorem lastS_ow : ∀ {rs : List Int} {a : Sl}, a.ow = false → (lastS rs a).ow = false
  | [], _, h => h
  | r :: rs, a, _ => lastS_ow (rs := rs) (a := .dat (.int r)) rfl
theorem lloop1 {a : Addr} {rd a4 : Sl} {w : Tr} {Q : Fl → En → Prop} (hl : ks.length < 1000) : ∀ (rs : List Int) (mk : Int → Int) (a3 : Sl), a3.ow = false → (∀ r ∈ rs, r ∈ ks) → (∀ s ∈ bf, c ≤ mk s) → Q .nx [.tr (.dst [("weights", w), ("marks", .hol a), ("clock", .dat (.int c)), ("before", .dat (.tuple (bf.map .int)))]), rd, .tr (.dic (dF ks (mk1 c rs mk))), lastS rs a3, a4] →
    Ok (forL (toN 3) L__law_choose_1 (rs.map .int) [.tr (.dst [("weights", w), ("marks", .hol a), ("clock", .dat (.int c)), ("before", .dat (.tuple (bf.map .int)))]), rd, .tr (.dic (dF ks mk)), a3, a4]) Q
  | [], mk, a3, _, _, _, q => by
    rw [List.map_nil, ok_forL_nil]
    rw [mk1_nil] at q
    exact q
  | r :: rs, mk, a3, h3, hr, hb, q => by
    have hz := sizeLine_eq
    have h0 := hr r (List.mem_cons_self ..)
    have hr' := fun x hx => hr x (List.mem_cons_of_mem r hx)
    have hb' : ∀ s ∈ bf, c ≤ upF mk r (max (mk r) c) s := fun s hs => by
      by_cases e : s = r
      · subst e; rw [upF_same]; omega
      · rw [upF_ne e]; exact hb s hs
    rw [List.map_cons, ok_forL_cons]
    rw [← mk1_cons] at q
    simp only [walkA, L__law_choose_1, h3]
    rw [nin_ints]
    by_cases hin : r ∈ bf
    · have e : upF mk r (max (mk r) c) = mk := by
        have := hb r hin
        rw [show max (mk r) c = mk r by omega]
        exact upF_id
      rw [e] at q
      simp only [walkA, hin, Bool.not_true]
      exact lloop1 hl rs mk _ rfl hr' hb q
    · simp only [walkA, hin, Bool.not_false, dF_val h0, gMax_ii, dF_len, dF_put h0]
      refine ⟨by omega, ?_⟩
      exact lloop1 hl rs _ _ rfl hr' hb' q
theorem lloop2 {t0 rd : Sl} {Q : Fl → En → Prop} : ∀ (rs : List Int) (ch : Int) (a3 : Sl), a3.ow = false → (∀ r ∈ rs, r ∈ ks) → ch ∈ ks → Q .nx [t0, rd, .tr (.dic (dF ks mk)), lastS rs a3, .dat (.int (argm mk rs ch))] →
    Ok (forL (toN 3) L__law_choose_2 (rs.map .int) [t0, rd, .tr (.dic (dF ks mk)), a3, .dat (.int ch)]) Q
  | [], ch, a3, _, _, _, q => by
    rw [List.map_nil, ok_forL_nil]
    exact q
  | r :: rs, ch, a3, h3, hr, hc, q => by
    have h0 := hr r (List.mem_cons_self ..)
    rw [List.map_cons, ok_forL_cons]
    simp only [walkA, L__law_choose_2, h3, dF_val h0, dF_val hc]
    have e : argm mk (r :: rs) ch = argm mk rs (if mk r < mk ch then r else ch) := rfl
    rw [e] at q
    by_cases h : mk r < mk ch
    · rw [if_pos h] at q
      simp only [walkA, h]
      exact lloop2 rs r _ rfl (fun x hx => hr x (List.mem_cons_of_mem _ hx)) h0 q
    · rw [if_neg h] at q
      simp only [walkA, h]
      exact lloop2 rs ch _ rfl (fun x hx => hr x (List.mem_cons_of_mem _ hx)) hc q
theorem lchoose_ok {r : Int} {rs : List Int} {m : Int → Int} {ch : Int} (hl : ks.length < 1000) (hw : ∀ s ∈ ks, 1 ≤ wt s ∧ wt s ≤ 256) (hr : ∀ x ∈ r :: rs, x ∈ ks) (hb : ∀ s ∈ bf, c ≤ mk s) (hm : m = mk1 c (r :: rs) mk) (hch : ch = argm m (r :: rs) r) {Q : Sl → En → Prop}
    (q : Q (.dat (.int ch)) [.tr (stt (m ch) ks wt (upF m ch (m ch + stW wt ch)) (r :: rs)), .un]) : Ok (S__law_choose [.tr (stt c ks wt mk bf), .dat (.tuple ((r :: rs).map .int))]) Q := by
  have hz := sizeLine_eq
  have hr0 := hr r (List.mem_cons_self ..)
  have hin : ch ∈ r :: rs := by
    obtain ⟨h1, _, _⟩ := argm_le (f := m) (r :: rs) r
    rw [hch]
    exact h1.elim (fun z => by rw [z]; exact List.mem_cons_self ..) id
  have hk := hr ch hin
  have hwc := hw ch hk
  unfold S__law_choose
  rw [ok_runF]
  refine ⟨rfl, ?_⟩
  simp only [Y__law_choose, ok_seqS]
  refine ok_withAl (fl := .nx) (E' := [.tr (stt (m ch) ks wt (upF m ch (m ch + stW wt ch)) (r :: rs)), .dat (.tuple ((r :: rs).map .int)), .un, lastS (r :: rs) (lastS (r :: rs) .un), .dat (.int ch)]) ⟨by decide, rfl, nd_m⟩ ⟨.un, rfl, rfl⟩ rfl ⟨by decide, rfl, nd_m⟩ (fun a => ?_) ?_
  · rw [inj_m]
    have e0 : injA 2 0 [("{}", "marks")] a ([.tr (stt c ks wt mk bf), .dat (.tuple ((r :: rs).map .int))] ++ List.replicate (5 - 2) .un) = [.tr (.dst [("weights", .dic (dF ks wt)), ("marks", .hol a), ("clock", .dat (.int c)), ("before", .dat (.tuple (bf.map .int)))]), .dat (.tuple ((r :: rs).map .int)), .tr (.dic (dF ks mk)), .un, .un] := inj_m
    rw [e0]
    simp only [A__law_choose_1, ok_some, ok_none, okV_some, okV_none, ↓okV_if, ↓ok_if, ↓ok_ret, ↓ok_bnd, ↓ok_lft, ↓ok_bin, ↓ok_una, ↓ok_binL, ↓ok_unaL, ↓ok_mny, ↓ok_rdD, ↓ok_rdO, ↓ok_rdA, ↓ok_toB, ↓ok_sAnd, ↓ok_sOr, ↓ok_sNot, ↓ok_vAnd, ↓ok_vOr, ↓ok_sIf, ↓ok_chn, ↓ok_sNil, ↓ok_sCons, ↓ok_dTup, ↓ok_dLst, ↓ok_m0S, ↓ok_m1S, ↓ok_m1L, ↓ok_ixO, ↓ok_sPart, ↓ok_sSl, ↓ok_tupO, ↓ok_sItems, ↓ok_sScr, ↓ok_sEnum, ↓ok_sRng1, ↓ok_sRng2, ↓ok_seqS, ↓ok_nxt, ↓ok_brkS, ↓ok_cntS, ↓ok_retN, ↓ok_drpS, ↓ok_asg, ↓ok_asgL, ↓ok_asgG, ↓ok_augS, ↓ok_ifS, ↓ok_retD, ↓ok_retL, ↓ok_retO, ↓ok_appO, ↓ok_setO, ↓ok_extO, ↓ok_popS, ↓ok_forS, ↓ok_forL_nil, ↓ok_lcS, ↓ok_lcL_nil, ↓okV_callD, ↓okV_callV, ↓ok_callM, ↓ok_asD, ↓ok_asL, ↓ok_callS, ↓ok_runF, ↓ok_rdP, ↓ok_rdB, ↓ok_rdZ, ↓ok_datS, ↓ok_ownS, ↓ok_asgS, ↓ok_retS, ↓ok_drpC, ↓ok_evA_nil, ↓ok_evA_ex, ↓ok_evA_pl, ↓ok_callA, ↓ok_callMt, ↓ok_makeA, ↓ok_setS, ↓ok_augF, ↓ok_newD, ↓ok_dgt, ↓ok_din, ↓ok_dpt, ↓ok_daug, ↓ok_ddel, ↓ok_dgo, ↓ok_dpo, ↓ok_dln, ↓ok_dso, ↓ok_appP, ↓ok_extP, ↓ok_ixP, ↓ok_tupP, ↓ok_dsp_nil, ↓ok_dsp_cons, ↓ok_dsp, ↓ok_mvS, ↓ok_sIfC, ↓ok_isNT, ↓ok_sRngD, ↓ok_sEnumL, ↓ok_setR, ↓ok_dspR, ↓ok_evR_nil, ↓ok_evR_cons, ↓ok_rplS, ↓ok_tupA, ↓ok_strM, ↓ok_chn3, own?, toN, toT, toNs, wipE, bakE, stp_nx, stp_ct, stp_bk, stp_rt, Fw.collect, ok_yesS, List.getElem?_cons_zero, List.getElem?_cons_succ, List.set_cons_zero, List.set_cons_succ, List.map_cons, List.map_nil, List.length_cons, List.length_nil, List.cons_append, List.nil_append, List.replicate_succ, List.replicate_zero, Nat.reduceAdd, Nat.reduceSub, Nat.reduceLeDiff, Nat.reduceLT, Nat.reduceEqDiff, Int.reduceLT, Int.reduceLE, Int.reduceNeg, Int.reducePow, Int.reduceEq, Option.isSome_some, Option.map_some, Option.map_none, true_and, and_true, if_true, if_false, ite_true, ite_false, Bool.false_eq_true, reduceIte, reduceCtorEq, nodeAt, Fw.putAt, getP, putP, getF, setF, argSl, slsOf, slOf, unSl, newSl, putB, noTwice, trOf, dicAt, lstAt, Fw.keyOf, Option.isSome_some, Option.map_some, List.all_cons, List.all_nil, bnef, bnet, Bool.and_true, Bool.and_self, dstAt, itemsOf_t]
    rw [show PyData.int r :: rs.map PyData.int = (r :: rs).map PyData.int from rfl]
    refine lloop1 hl (r :: rs) mk _ rfl hr hb ?_
    rw [← hm]
    simp only [walkA, T__law_choose_5, List.map_cons, dist4, T__law_choose_4]
    rw [show PyData.int r :: rs.map PyData.int = (r :: rs).map PyData.int from rfl]
    simp only [T__law_choose_3, ok_some, ok_none, okV_some, okV_none, ↓okV_if, ↓ok_if, ↓ok_ret, ↓ok_bnd, ↓ok_lft, ↓ok_bin, ↓ok_una, ↓ok_binL, ↓ok_unaL, ↓ok_mny, ↓ok_rdD, ↓ok_rdO, ↓ok_rdA, ↓ok_toB, ↓ok_sAnd, ↓ok_sOr, ↓ok_sNot, ↓ok_vAnd, ↓ok_vOr, ↓ok_sIf, ↓ok_chn, ↓ok_sNil, ↓ok_sCons, ↓ok_dTup, ↓ok_dLst, ↓ok_m0S, ↓ok_m1S, ↓ok_m1L, ↓ok_ixO, ↓ok_sPart, ↓ok_sSl, ↓ok_tupO, ↓ok_sItems, ↓ok_sScr, ↓ok_sEnum, ↓ok_sRng1, ↓ok_sRng2, ↓ok_seqS, ↓ok_nxt, ↓ok_brkS, ↓ok_cntS, ↓ok_retN, ↓ok_drpS, ↓ok_asg, ↓ok_asgL, ↓ok_asgG, ↓ok_augS, ↓ok_ifS, ↓ok_retD, ↓ok_retL, ↓ok_retO, ↓ok_appO, ↓ok_setO, ↓ok_extO, ↓ok_popS, ↓ok_forS, ↓ok_forL_nil, ↓ok_lcS, ↓ok_lcL_nil, ↓okV_callD, ↓okV_callV, ↓ok_callM, ↓ok_asD, ↓ok_asL, ↓ok_callS, ↓ok_runF, ↓ok_rdP, ↓ok_rdB, ↓ok_rdZ, ↓ok_datS, ↓ok_ownS, ↓ok_asgS, ↓ok_retS, ↓ok_drpC, ↓ok_evA_nil, ↓ok_evA_ex, ↓ok_evA_pl, ↓ok_callA, ↓ok_callMt, ↓ok_makeA, ↓ok_setS, ↓ok_augF, ↓ok_newD, ↓ok_dgt, ↓ok_din, ↓ok_dpt, ↓ok_daug, ↓ok_ddel, ↓ok_dgo, ↓ok_dpo, ↓ok_dln, ↓ok_dso, ↓ok_appP, ↓ok_extP, ↓ok_ixP, ↓ok_tupP, ↓ok_dsp_nil, ↓ok_dsp_cons, ↓ok_dsp, ↓ok_mvS, ↓ok_sIfC, ↓ok_isNT, ↓ok_sRngD, ↓ok_sEnumL, ↓ok_setR, ↓ok_dspR, ↓ok_evR_nil, ↓ok_evR_cons, ↓ok_rplS, ↓ok_tupA, ↓ok_strM, ↓ok_chn3, own?, toN, toT, toNs, wipE, bakE, stp_nx, stp_ct, stp_bk, stp_rt, Fw.collect, ok_yesS, List.getElem?_cons_zero, List.getElem?_cons_succ, List.set_cons_zero, List.set_cons_succ, List.map_cons, List.map_nil, List.length_cons, List.length_nil, List.cons_append, List.nil_append, List.replicate_succ, List.replicate_zero, Nat.reduceAdd, Nat.reduceSub, Nat.reduceLeDiff, Nat.reduceLT, Nat.reduceEqDiff, Int.reduceLT, Int.reduceLE, Int.reduceNeg, Int.reducePow, Int.reduceEq, Option.isSome_some, Option.map_some, Option.map_none, true_and, and_true, if_true, if_false, ite_true, ite_false, Bool.false_eq_true, reduceIte, reduceCtorEq, nodeAt, Fw.putAt, getP, putP, getF, setF, argSl, slsOf, slOf, unSl, newSl, putB, noTwice, trOf, dicAt, lstAt, Fw.keyOf, Option.isSome_some, Option.map_some, List.all_cons, List.all_nil, bnef, bnet, Bool.and_true, Bool.and_self, dstAt, itemsOf_t]
    rw [show PyData.int r :: rs.map PyData.int = (r :: rs).map PyData.int from rfl]
    refine lloop2 (r :: rs) r (lastS (r :: rs) .un) (lastS_ow (by rfl)) hr hr0 ?_
    rw [← hch]
    simp only [walkA, T__law_choose_2, T__law_choose_1, dist4, dF_val hk, dF_len, dF_put hk]
    refine ⟨⟨by omega, by omega⟩, by omega, ?_⟩
    rfl
  · simp only [walkA, T__law_choose_6]
    exact q
end
end ownanswer_k33_turns_by_marks
-- FwP
-- Ne
namespace ownanswer_k33_turns_by_marks
open PySem PySem.Spec L2 Fw
local macro_rules | `(tactic| simp only [walkA, $xs,*] $[$l:location]?) => `(tactic| simp only [ok_some, ok_none, okV_some, okV_none, ↓okV_if, ↓ok_if, ↓ok_ret, ↓ok_bnd, ↓ok_lft, ↓ok_bin, ↓ok_una, ↓ok_binL, ↓ok_unaL, ↓ok_mny, ↓ok_rdD, ↓ok_rdO, ↓ok_rdA, ↓ok_toB, ↓ok_sAnd, ↓ok_sOr, ↓ok_sNot, ↓ok_vAnd, ↓ok_vOr, ↓ok_sIf, ↓ok_chn, ↓ok_sNil, ↓ok_sCons, ↓ok_dTup, ↓ok_dLst, ↓ok_m0S, ↓ok_m1S, ↓ok_m1L, ↓ok_ixO, ↓ok_sPart, ↓ok_sSl, ↓ok_tupO, ↓ok_sItems, ↓ok_sScr, ↓ok_sEnum, ↓ok_sRng1, ↓ok_sRng2, ↓ok_seqS, ↓ok_nxt, ↓ok_brkS, ↓ok_cntS, ↓ok_retN, ↓ok_drpS, ↓ok_asg, ↓ok_asgL, ↓ok_asgG, ↓ok_augS, ↓ok_ifS, ↓ok_retD, ↓ok_retL, ↓ok_retO, ↓ok_appO, ↓ok_setO, ↓ok_extO, ↓ok_popS, ↓ok_forS, ↓ok_forL_nil, ↓ok_lcS, ↓ok_lcL_nil, ↓okV_callD, ↓okV_callV, ↓ok_callM, ↓ok_asD, ↓ok_asL, ↓ok_callS, ↓ok_runF, ↓ok_rdP, ↓ok_rdB, ↓ok_rdZ, ↓ok_datS, ↓ok_ownS, ↓ok_asgS, ↓ok_retS, ↓ok_drpC, ↓ok_evA_nil, ↓ok_evA_ex, ↓ok_evA_pl, ↓ok_callA, ↓ok_callMt, ↓ok_makeA, ↓ok_setS, ↓ok_augF, ↓ok_newD, ↓ok_dgt, ↓ok_din, ↓ok_dpt, ↓ok_daug, ↓ok_ddel, ↓ok_dgo, ↓ok_dpo, ↓ok_dln, ↓ok_dso, ↓ok_appP, ↓ok_extP, ↓ok_ixP, ↓ok_tupP, ↓ok_dsp_nil, ↓ok_dsp_cons, ↓ok_dsp, ↓ok_mvS, ↓ok_sIfC, ↓ok_isNT, ↓ok_sRngD, ↓ok_sEnumL, ↓ok_setR, ↓ok_dspR, ↓ok_evR_nil, ↓ok_evR_cons, ↓ok_rplS, ↓ok_tupA, ↓ok_strM, ↓ok_chn3, own?, toN, toT, toNs, wipE, bakE, stp_nx, stp_ct, stp_bk, stp_rt, Fw.collect, ok_yesS, List.getElem?_cons_zero, List.getElem?_cons_succ, List.set_cons_zero, List.set_cons_succ, List.map_cons, List.map_nil, List.length_cons, List.length_nil, List.cons_append, List.nil_append, List.replicate_succ, List.replicate_zero, Nat.reduceAdd, Nat.reduceSub, Nat.reduceLeDiff, Nat.reduceLT, Nat.reduceEqDiff, Int.reduceLT, Int.reduceLE, Int.reduceNeg, Int.reducePow, Int.reduceEq, Option.isSome_some, Option.map_some, Option.map_none, true_and, and_true, if_true, if_false, ite_true, ite_false, Bool.false_eq_true, reduceIte, reduceCtorEq, nodeAt, Fw.putAt, getP, putP, getF, setF, argSl, slsOf, slOf, unSl, newSl, putB, noTwice, trOf, dicAt, lstAt, Fw.keyOf, Option.isSome_some, Option.map_some, List.all_cons, List.all_nil, bnef, bnet, Bool.and_true, Bool.and_self, dstAt, gAdd_ii, gAdd_ss, gAdd_tt, gSub_ii, gMul_ii, gDiv_ii, gMod_ii, gNeg_i, gLt_ii, gGt_ii, gGe_ii, gLe_ii, eqv_ii, eqv_ss, eqv_bb, eqv_nn, eqv_ni, eqv_in, eqv_ns, eqv_sn, eqv_nb, eqv_bn, eqv_is, eqv_si, eqv_nt, eqv_tn, eqv_nl, eqv_ln, eqv_tt, eqv_ll, eqvA_nn, eqvA_cc, eqvA_nc, eqvA_cn, gEq_ii, gEq_ss, gEq_bb, gEq_nn, gEq_in, gEq_ni, gEq_sn, gEq_ns, gEq_si, gEq_is, gNe_ii, gNe_ss, gNe_bb, gNe_nn, gNot_b, gIsN_n, gIsN_i, gIsN_b, gIsN_s, gIsN_t, gIsN_l, gNotN_n, gNotN_i, gNotN_b, gNotN_s, gNotN_t, gNotN_l, gIx_l, gIx_t, gIx_s, gLen_s, gLen_l, gLen_t, gAbs_i, gInt_i, gInt_b, gInt_s, gOrd_sign, gDivmod_ii, gStr_i, gStr_s, gTuple_l, gTuple_t, gStrip_s, gLstrip_s, gSplit_s, gPartition_s, gJoin_m, gCat_ll, gSl_s, gSl_t, gSl_l, itemsOf_l, itemsOf_t, itemsOf_s, ofString_inj, cMul_r, cMul_l, ixN_lit, atI_lit, atI_m1, cast_lit, String.reduceEq, decide_true, decide_false, Int.reduceSub, Int.reduceAdd, Int.reduceMul, Int.reduceToNat, T_toList, T_len, T_app, T_inj, T_sign, T_cut, T_signs, T_strip, T_empty, gIn_T, gNin_T, gLjust_T, lt_0, $xs,*] $[$l:location]?)
local macro_rules | `(tactic| simp only [walkA] $[$l:location]?) => `(tactic| simp only [ok_some, ok_none, okV_some, okV_none, ↓okV_if, ↓ok_if, ↓ok_ret, ↓ok_bnd, ↓ok_lft, ↓ok_bin, ↓ok_una, ↓ok_binL, ↓ok_unaL, ↓ok_mny, ↓ok_rdD, ↓ok_rdO, ↓ok_rdA, ↓ok_toB, ↓ok_sAnd, ↓ok_sOr, ↓ok_sNot, ↓ok_vAnd, ↓ok_vOr, ↓ok_sIf, ↓ok_chn, ↓ok_sNil, ↓ok_sCons, ↓ok_dTup, ↓ok_dLst, ↓ok_m0S, ↓ok_m1S, ↓ok_m1L, ↓ok_ixO, ↓ok_sPart, ↓ok_sSl, ↓ok_tupO, ↓ok_sItems, ↓ok_sScr, ↓ok_sEnum, ↓ok_sRng1, ↓ok_sRng2, ↓ok_seqS, ↓ok_nxt, ↓ok_brkS, ↓ok_cntS, ↓ok_retN, ↓ok_drpS, ↓ok_asg, ↓ok_asgL, ↓ok_asgG, ↓ok_augS, ↓ok_ifS, ↓ok_retD, ↓ok_retL, ↓ok_retO, ↓ok_appO, ↓ok_setO, ↓ok_extO, ↓ok_popS, ↓ok_forS, ↓ok_forL_nil, ↓ok_lcS, ↓ok_lcL_nil, ↓okV_callD, ↓okV_callV, ↓ok_callM, ↓ok_asD, ↓ok_asL, ↓ok_callS, ↓ok_runF, ↓ok_rdP, ↓ok_rdB, ↓ok_rdZ, ↓ok_datS, ↓ok_ownS, ↓ok_asgS, ↓ok_retS, ↓ok_drpC, ↓ok_evA_nil, ↓ok_evA_ex, ↓ok_evA_pl, ↓ok_callA, ↓ok_callMt, ↓ok_makeA, ↓ok_setS, ↓ok_augF, ↓ok_newD, ↓ok_dgt, ↓ok_din, ↓ok_dpt, ↓ok_daug, ↓ok_ddel, ↓ok_dgo, ↓ok_dpo, ↓ok_dln, ↓ok_dso, ↓ok_appP, ↓ok_extP, ↓ok_ixP, ↓ok_tupP, ↓ok_dsp_nil, ↓ok_dsp_cons, ↓ok_dsp, ↓ok_mvS, ↓ok_sIfC, ↓ok_isNT, ↓ok_sRngD, ↓ok_sEnumL, ↓ok_setR, ↓ok_dspR, ↓ok_evR_nil, ↓ok_evR_cons, ↓ok_rplS, ↓ok_tupA, ↓ok_strM, ↓ok_chn3, own?, toN, toT, toNs, wipE, bakE, stp_nx, stp_ct, stp_bk, stp_rt, Fw.collect, ok_yesS, List.getElem?_cons_zero, List.getElem?_cons_succ, List.set_cons_zero, List.set_cons_succ, List.map_cons, List.map_nil, List.length_cons, List.length_nil, List.cons_append, List.nil_append, List.replicate_succ, List.replicate_zero, Nat.reduceAdd, Nat.reduceSub, Nat.reduceLeDiff, Nat.reduceLT, Nat.reduceEqDiff, Int.reduceLT, Int.reduceLE, Int.reduceNeg, Int.reducePow, Int.reduceEq, Option.isSome_some, Option.map_some, Option.map_none, true_and, and_true, if_true, if_false, ite_true, ite_false, Bool.false_eq_true, reduceIte, reduceCtorEq, nodeAt, Fw.putAt, getP, putP, getF, setF, argSl, slsOf, slOf, unSl, newSl, putB, noTwice, trOf, dicAt, lstAt, Fw.keyOf, Option.isSome_some, Option.map_some, List.all_cons, List.all_nil, bnef, bnet, Bool.and_true, Bool.and_self, dstAt, gAdd_ii, gAdd_ss, gAdd_tt, gSub_ii, gMul_ii, gDiv_ii, gMod_ii, gNeg_i, gLt_ii, gGt_ii, gGe_ii, gLe_ii, eqv_ii, eqv_ss, eqv_bb, eqv_nn, eqv_ni, eqv_in, eqv_ns, eqv_sn, eqv_nb, eqv_bn, eqv_is, eqv_si, eqv_nt, eqv_tn, eqv_nl, eqv_ln, eqv_tt, eqv_ll, eqvA_nn, eqvA_cc, eqvA_nc, eqvA_cn, gEq_ii, gEq_ss, gEq_bb, gEq_nn, gEq_in, gEq_ni, gEq_sn, gEq_ns, gEq_si, gEq_is, gNe_ii, gNe_ss, gNe_bb, gNe_nn, gNot_b, gIsN_n, gIsN_i, gIsN_b, gIsN_s, gIsN_t, gIsN_l, gNotN_n, gNotN_i, gNotN_b, gNotN_s, gNotN_t, gNotN_l, gIx_l, gIx_t, gIx_s, gLen_s, gLen_l, gLen_t, gAbs_i, gInt_i, gInt_b, gInt_s, gOrd_sign, gDivmod_ii, gStr_i, gStr_s, gTuple_l, gTuple_t, gStrip_s, gLstrip_s, gSplit_s, gPartition_s, gJoin_m, gCat_ll, gSl_s, gSl_t, gSl_l, itemsOf_l, itemsOf_t, itemsOf_s, ofString_inj, cMul_r, cMul_l, ixN_lit, atI_lit, atI_m1, cast_lit, String.reduceEq, decide_true, decide_false, Int.reduceSub, Int.reduceAdd, Int.reduceMul, Int.reduceToNat, T_toList, T_len, T_app, T_inj, T_sign, T_cut, T_signs, T_strip, T_empty, gIn_T, gNin_T, gLjust_T, lt_0] $[$l:location]?)

open ownanswer_k35_shares_by_weight (trG trn mk1 argm choose_ok add_ok init_ok setw_old mk1_cons mk1_nil argm_le)
theorem take_ex {d : List PyData} (hd : DrawOk d) {m : Int} (hm : 0 < m) (hm2 : m < 18446744073709551616) : ∃ r d', S__law_take [.own d, .dat (.int m)] = some (.dat (.int r), [.own d', .un]) ∧ 0 ≤ r ∧ r < m ∧ DrawOk d' := by
  obtain ⟨s, o, h, r, d', rfl, rfl, h2⟩ := take_ok (Q := fun s o => ∃ r d', s = .dat (.int r) ∧ o = [.own d', .un] ∧ 0 ≤ r ∧ r < m ∧ DrawOk d') hd hm hm2 fun r d' h0 h1 hd' => ⟨r, d', rfl, rfl, h0, h1, hd'⟩
  exact ⟨r, d', h, h2⟩
theorem weight_ok {d : List PyData} (hd : DrawOk d) {Q : Sl → En → Prop} (q : ∀ w d', 1 ≤ w → w ≤ 256 → DrawOk d' → Q (.dat (.int w)) [.own d']) : Ok (S__law_weight [.own d]) Q := by
  unfold S__law_weight
  rw [ok_runF]
  refine ⟨rfl, ?_⟩
  simp only [walkA, Y__law_weight]
  refine take_ok hd (by omega) (by omega) fun x d1 x0 x1 hd1 => ?_
  simp only [walkA]
  have hz := sizeLine_eq
  refine ⟨by omega, ?_⟩
  refine take_ok hd1 (by omega) (by omega) fun y d2 y0 y1 hd2 => ?_
  have hy : y = 0 ∨ y = 1 ∨ y = 2 ∨ y = 3 := by omega
  rcases hy with rfl | rfl | rfl | rfl <;> simp only [walkA] <;> exact q _ _ (by omega) (by omega) hd2
theorem weight_ex {d : List PyData} (hd : DrawOk d) : ∃ w d', S__law_weight [.own d] = some (.dat (.int w), [.own d']) ∧ 1 ≤ w ∧ w ≤ 256 ∧ DrawOk d' := by
  obtain ⟨s, o, h, r, d', rfl, rfl, h2⟩ := weight_ok (Q := fun s o => ∃ r d', s = .dat (.int r) ∧ o = [.own d'] ∧ 1 ≤ r ∧ r ≤ 256 ∧ DrawOk d') hd fun r d' h0 h1 hd' => ⟨r, d', rfl, rfl, h0, h1, hd'⟩
  exact ⟨r, d', h, h2⟩
abbrev stA (a : Addr) (c : Int) (ks : List Int) (mk : Int → Int) (bf : List Int) : Tr := .dst [("weights", .hol a), ("marks", .dic (dF ks mk)), ("clock", .dat (.int c)), ("before", .dat (.tuple (bf.map .int)))]
abbrev stB (a b : Addr) (c : Int) (bf : List Int) : Tr := .dst [("weights", .hol a), ("marks", .hol b), ("clock", .dat (.int c)), ("before", .dat (.tuple (bf.map .int)))]
section
variable {c : Int} {ks bf : List Int} {wt mk : Int → Int} {s0 s1 s3 s4 s5 s6 s7 s8 s9 : Sl}
theorem inj5 {a : Addr} : injA 5 2 [("{}", "weights")] a [s0, s1, .tr (stt c ks wt mk bf), s3, s4, s5, s6, s7, s8, s9] = [s0, s1, .tr (stA a c ks mk bf), s3, s4, .tr (.dic (dF ks wt)), s6, s7, s8, s9] := by
  simp only [walkA, injA]
theorem inj6 {a b : Addr} : injA 6 2 [("{}", "marks")] b [s0, s1, .tr (stA a c ks mk bf), s3, s4, s5, s6, s7, s8, s9] = [s0, s1, .tr (stB a b c bf), s3, s4, s5, .tr (.dic (dF ks mk)), s7, s8, s9] := by
  simp only [walkA, injA]
theorem nd5 : ∃ n s, nodeAt 2 [("{}", "weights")] [s0, s1, .tr (stt c ks wt mk bf), s3, s4, s5, s6, s7, s8, s9] = some n ∧ slOf n = some s := by
  refine ⟨.dic (dF ks wt), .tr (.dic (dF ks wt)), ?_, rfl⟩
  simp only [walkA]
theorem nd6 {a : Addr} : ∃ n s, nodeAt 2 [("{}", "marks")] [s0, s1, .tr (stA a c ks mk bf), s3, s4, s5, s6, s7, s8, s9] = some n ∧ slOf n = some s := by
  refine ⟨.dic (dF ks mk), .tr (.dic (dF ks mk)), ?_, rfl⟩
  simp only [walkA]
/-- both names, over a run that comes to one end whatever the addresses are -/
theorem two_ok {c' : Int} {ks' bf' : List Int} {wt' mk' : Int → Int} {t0 t1 t3 t4 t7 t8 t9 : Sl} {fl : Fl} {Q : Fl → En → Prop} (hf : flatFl fl = true)
    (h : ∀ a b, Ok (A__law_turn_1 [s0, s1, .tr (stB a b c bf), s3, s4, .tr (.dic (dF ks wt)), .tr (.dic (dF ks mk)), s7, s8, s9]) fun fl2 E2 => fl2 = fl ∧ E2 = [t0, t1, .tr (stB a b c' bf'), t3, t4, .tr (.dic (dF ks' wt')), .tr (.dic (dF ks' mk')), t7, t8, t9])
    {a : Addr} (q : Ok (match fl with | .nx => T__law_turn_13 [t0, t1, .tr (stA a c' ks' mk' bf'), t3, t4, .tr (.dic (dF ks' wt')), .un, t7, t8, t9] | fl => some (fl, [t0, t1, .tr (stA a c' ks' mk' bf'), t3, t4, .tr (.dic (dF ks' wt')), .un, t7, t8, t9])) Q) :
    Ok (A__law_turn_2 [s0, s1, .tr (stA a c ks mk bf), s3, s4, .tr (.dic (dF ks wt)), .un, s7, s8, s9]) Q := by
  simp only [A__law_turn_2, ok_seqS]
  refine ok_withAl (fl := fl) (E' := [t0, t1, .tr (stA a c' ks' mk' bf'), t3, t4, .tr (.dic (dF ks' wt')), .un, t7, t8, t9]) ⟨by decide, rfl, nd6⟩ ⟨.un, rfl, rfl⟩ hf ⟨by decide, rfl, nd6⟩ (fun b => ?_) ?_
  · rw [inj6, inj6]
    exact h a b
  · cases fl with
    | nx => exact q
    | _ => simpa only [ok_some] using q
end
end ownanswer_k33_turns_by_marks
-- FwP
-- Ne
namespace ownanswer_k33_turns_by_marks
open PySem PySem.Spec L2 Fw
local macro_rules | `(tactic| simp only [walkA, $xs,*] $[$l:location]?) => `(tactic| simp only [ok_some, ok_none, okV_some, okV_none, ↓okV_if, ↓ok_if, ↓ok_ret, ↓ok_bnd, ↓ok_lft, ↓ok_bin, ↓ok_una, ↓ok_binL, ↓ok_unaL, ↓ok_mny, ↓ok_rdD, ↓ok_rdO, ↓ok_rdA, ↓ok_toB, ↓ok_sAnd, ↓ok_sOr, ↓ok_sNot, ↓ok_vAnd, ↓ok_vOr, ↓ok_sIf, ↓ok_chn, ↓ok_sNil, ↓ok_sCons, ↓ok_dTup, ↓ok_dLst, ↓ok_m0S, ↓ok_m1S, ↓ok_m1L, ↓ok_ixO, ↓ok_sPart, ↓ok_sSl, ↓ok_tupO, ↓ok_sItems, ↓ok_sScr, ↓ok_sEnum, ↓ok_sRng1, ↓ok_sRng2, ↓ok_seqS, ↓ok_nxt, ↓ok_brkS, ↓ok_cntS, ↓ok_retN, ↓ok_drpS, ↓ok_asg, ↓ok_asgL, ↓ok_asgG, ↓ok_augS, ↓ok_ifS, ↓ok_retD, ↓ok_retL, ↓ok_retO, ↓ok_appO, ↓ok_setO, ↓ok_extO, ↓ok_popS, ↓ok_forS, ↓ok_forL_nil, ↓ok_lcS, ↓ok_lcL_nil, ↓okV_callD, ↓okV_callV, ↓ok_callM, ↓ok_asD, ↓ok_asL, ↓ok_callS, ↓ok_runF, ↓ok_rdP, ↓ok_rdB, ↓ok_rdZ, ↓ok_datS, ↓ok_ownS, ↓ok_asgS, ↓ok_retS, ↓ok_drpC, ↓ok_evA_nil, ↓ok_evA_ex, ↓ok_evA_pl, ↓ok_callA, ↓ok_callMt, ↓ok_makeA, ↓ok_setS, ↓ok_augF, ↓ok_newD, ↓ok_dgt, ↓ok_din, ↓ok_dpt, ↓ok_daug, ↓ok_ddel, ↓ok_dgo, ↓ok_dpo, ↓ok_dln, ↓ok_dso, ↓ok_appP, ↓ok_extP, ↓ok_ixP, ↓ok_tupP, ↓ok_dsp_nil, ↓ok_dsp_cons, ↓ok_dsp, ↓ok_mvS, ↓ok_sIfC, ↓ok_isNT, ↓ok_sRngD, ↓ok_sEnumL, ↓ok_setR, ↓ok_dspR, ↓ok_evR_nil, ↓ok_evR_cons, ↓ok_rplS, ↓ok_tupA, ↓ok_strM, ↓ok_chn3, own?, toN, toT, toNs, wipE, bakE, stp_nx, stp_ct, stp_bk, stp_rt, Fw.collect, ok_yesS, List.getElem?_cons_zero, List.getElem?_cons_succ, List.set_cons_zero, List.set_cons_succ, List.map_cons, List.map_nil, List.length_cons, List.length_nil, List.cons_append, List.nil_append, List.replicate_succ, List.replicate_zero, Nat.reduceAdd, Nat.reduceSub, Nat.reduceLeDiff, Nat.reduceLT, Nat.reduceEqDiff, Int.reduceLT, Int.reduceLE, Int.reduceNeg, Int.reducePow, Int.reduceEq, Option.isSome_some, Option.map_some, Option.map_none, true_and, and_true, if_true, if_false, ite_true, ite_false, Bool.false_eq_true, reduceIte, reduceCtorEq, nodeAt, Fw.putAt, getP, putP, getF, setF, argSl, slsOf, slOf, unSl, newSl, putB, noTwice, trOf, dicAt, lstAt, Fw.keyOf, Option.isSome_some, Option.map_some, List.all_cons, List.all_nil, bnef, bnet, Bool.and_true, Bool.and_self, dstAt, gAdd_ii, gAdd_ss, gAdd_tt, gSub_ii, gMul_ii, gDiv_ii, gMod_ii, gNeg_i, gLt_ii, gGt_ii, gGe_ii, gLe_ii, eqv_ii, eqv_ss, eqv_bb, eqv_nn, eqv_ni, eqv_in, eqv_ns, eqv_sn, eqv_nb, eqv_bn, eqv_is, eqv_si, eqv_nt, eqv_tn, eqv_nl, eqv_ln, eqv_tt, eqv_ll, eqvA_nn, eqvA_cc, eqvA_nc, eqvA_cn, gEq_ii, gEq_ss, gEq_bb, gEq_nn, gEq_in, gEq_ni, gEq_sn, gEq_ns, gEq_si, gEq_is, gNe_ii, gNe_ss, gNe_bb, gNe_nn, gNot_b, gIsN_n, gIsN_i, gIsN_b, gIsN_s, gIsN_t, gIsN_l, gNotN_n, gNotN_i, gNotN_b, gNotN_s, gNotN_t, gNotN_l, gIx_l, gIx_t, gIx_s, gLen_s, gLen_l, gLen_t, gAbs_i, gInt_i, gInt_b, gInt_s, gOrd_sign, gDivmod_ii, gStr_i, gStr_s, gTuple_l, gTuple_t, gStrip_s, gLstrip_s, gSplit_s, gPartition_s, gJoin_m, gCat_ll, gSl_s, gSl_t, gSl_l, itemsOf_l, itemsOf_t, itemsOf_s, ofString_inj, cMul_r, cMul_l, ixN_lit, atI_lit, atI_m1, cast_lit, String.reduceEq, decide_true, decide_false, Int.reduceSub, Int.reduceAdd, Int.reduceMul, Int.reduceToNat, T_toList, T_len, T_app, T_inj, T_sign, T_cut, T_signs, T_strip, T_empty, gIn_T, gNin_T, gLjust_T, lt_0, $xs,*] $[$l:location]?)
local macro_rules | `(tactic| simp only [walkA] $[$l:location]?) => `(tactic| simp only [ok_some, ok_none, okV_some, okV_none, ↓okV_if, ↓ok_if, ↓ok_ret, ↓ok_bnd, ↓ok_lft, ↓ok_bin, ↓ok_una, ↓ok_binL, ↓ok_unaL, ↓ok_mny, ↓ok_rdD, ↓ok_rdO, ↓ok_rdA, ↓ok_toB, ↓ok_sAnd, ↓ok_sOr, ↓ok_sNot, ↓ok_vAnd, ↓ok_vOr, ↓ok_sIf, ↓ok_chn, ↓ok_sNil, ↓ok_sCons, ↓ok_dTup, ↓ok_dLst, ↓ok_m0S, ↓ok_m1S, ↓ok_m1L, ↓ok_ixO, ↓ok_sPart, ↓ok_sSl, ↓ok_tupO, ↓ok_sItems, ↓ok_sScr, ↓ok_sEnum, ↓ok_sRng1, ↓ok_sRng2, ↓ok_seqS, ↓ok_nxt, ↓ok_brkS, ↓ok_cntS, ↓ok_retN, ↓ok_drpS, ↓ok_asg, ↓ok_asgL, ↓ok_asgG, ↓ok_augS, ↓ok_ifS, ↓ok_retD, ↓ok_retL, ↓ok_retO, ↓ok_appO, ↓ok_setO, ↓ok_extO, ↓ok_popS, ↓ok_forS, ↓ok_forL_nil, ↓ok_lcS, ↓ok_lcL_nil, ↓okV_callD, ↓okV_callV, ↓ok_callM, ↓ok_asD, ↓ok_asL, ↓ok_callS, ↓ok_runF, ↓ok_rdP, ↓ok_rdB, ↓ok_rdZ, ↓ok_datS, ↓ok_ownS, ↓ok_asgS, ↓ok_retS, ↓ok_drpC, ↓ok_evA_nil, ↓ok_evA_ex, ↓ok_evA_pl, ↓ok_callA, ↓ok_callMt, ↓ok_makeA, ↓ok_setS, ↓ok_augF, ↓ok_newD, ↓ok_dgt, ↓ok_din, ↓ok_dpt, ↓ok_daug, ↓ok_ddel, ↓ok_dgo, ↓ok_dpo, ↓ok_dln, ↓ok_dso, ↓ok_appP, ↓ok_extP, ↓ok_ixP, ↓ok_tupP, ↓ok_dsp_nil, ↓ok_dsp_cons, ↓ok_dsp, ↓ok_mvS, ↓ok_sIfC, ↓ok_isNT, ↓ok_sRngD, ↓ok_sEnumL, ↓ok_setR, ↓ok_dspR, ↓ok_evR_nil, ↓ok_evR_cons, ↓ok_rplS, ↓ok_tupA, ↓ok_strM, ↓ok_chn3, own?, toN, toT, toNs, wipE, bakE, stp_nx, stp_ct, stp_bk, stp_rt, Fw.collect, ok_yesS, List.getElem?_cons_zero, List.getElem?_cons_succ, List.set_cons_zero, List.set_cons_succ, List.map_cons, List.map_nil, List.length_cons, List.length_nil, List.cons_append, List.nil_append, List.replicate_succ, List.replicate_zero, Nat.reduceAdd, Nat.reduceSub, Nat.reduceLeDiff, Nat.reduceLT, Nat.reduceEqDiff, Int.reduceLT, Int.reduceLE, Int.reduceNeg, Int.reducePow, Int.reduceEq, Option.isSome_some, Option.map_some, Option.map_none, true_and, and_true, if_true, if_false, ite_true, ite_false, Bool.false_eq_true, reduceIte, reduceCtorEq, nodeAt, Fw.putAt, getP, putP, getF, setF, argSl, slsOf, slOf, unSl, newSl, putB, noTwice, trOf, dicAt, lstAt, Fw.keyOf, Option.isSome_some, Option.map_some, List.all_cons, List.all_nil, bnef, bnet, Bool.and_true, Bool.and_self, dstAt, gAdd_ii, gAdd_ss, gAdd_tt, gSub_ii, gMul_ii, gDiv_ii, gMod_ii, gNeg_i, gLt_ii, gGt_ii, gGe_ii, gLe_ii, eqv_ii, eqv_ss, eqv_bb, eqv_nn, eqv_ni, eqv_in, eqv_ns, eqv_sn, eqv_nb, eqv_bn, eqv_is, eqv_si, eqv_nt, eqv_tn, eqv_nl, eqv_ln, eqv_tt, eqv_ll, eqvA_nn, eqvA_cc, eqvA_nc, eqvA_cn, gEq_ii, gEq_ss, gEq_bb, gEq_nn, gEq_in, gEq_ni, gEq_sn, gEq_ns, gEq_si, gEq_is, gNe_ii, gNe_ss, gNe_bb, gNe_nn, gNot_b, gIsN_n, gIsN_i, gIsN_b, gIsN_s, gIsN_t, gIsN_l, gNotN_n, gNotN_i, gNotN_b, gNotN_s, gNotN_t, gNotN_l, gIx_l, gIx_t, gIx_s, gLen_s, gLen_l, gLen_t, gAbs_i, gInt_i, gInt_b, gInt_s, gOrd_sign, gDivmod_ii, gStr_i, gStr_s, gTuple_l, gTuple_t, gStrip_s, gLstrip_s, gSplit_s, gPartition_s, gJoin_m, gCat_ll, gSl_s, gSl_t, gSl_l, itemsOf_l, itemsOf_t, itemsOf_s, ofString_inj, cMul_r, cMul_l, ixN_lit, atI_lit, atI_m1, cast_lit, String.reduceEq, decide_true, decide_false, Int.reduceSub, Int.reduceAdd, Int.reduceMul, Int.reduceToNat, T_toList, T_len, T_app, T_inj, T_sign, T_cut, T_signs, T_strip, T_empty, gIn_T, gNin_T, gLjust_T, lt_0] $[$l:location]?)

open ownanswer_k35_shares_by_weight (trG trn mk1 argm choose_ok add_ok init_ok setw_old mk1_cons mk1_nil argm_le)
structure Iv (c : Int) (ks bf : List Int) (wt mk : Int → Int) : Prop where
  nd : ks.Nodup
  len : ks.length ≤ 6
  wt1 : ∀ s ∈ ks, 1 ≤ wt s ∧ wt s ≤ 256
  bf1 : ∀ s ∈ bf, c ≤ mk s
  bl : bf.length ≤ 6
section
variable {c : Int} {ks bf : List Int} {wt mk : Int → Int}
theorem Iv.add (h : Iv c ks bf wt mk) {s w : Int} (hs : s ∉ ks) (hl : ks.length ≤ 5) (hw : 1 ≤ w ∧ w ≤ 256) : Iv c (ks ++ [s]) bf (upF wt s w) (upF mk s c) := by
  refine ⟨List.nodup_append.mpr ⟨h.nd, by simp, fun a ha b hb => ?_⟩, by simp; omega, fun x hx => ?_, fun x hx => ?_, h.bl⟩
  · cases List.mem_singleton.mp hb
    exact fun e => hs (e ▸ ha)
  · rcases List.mem_append.mp hx with hx | hx
    · rw [upF_ne fun z => hs (by rw [← z]; exact hx)]
      exact h.wt1 x hx
    · cases List.mem_singleton.mp hx
      rw [upF_same]; exact hw
  · by_cases e : x = s
    · rw [e, upF_same]; omega
    · rw [upF_ne e]; exact h.bf1 x hx
theorem Iv.drop (h : Iv c ks bf wt mk) {s : Int} : Iv c (ks.filter fun j => decide (j ≠ s)) (bf.filter fun j => decide (j ≠ s)) wt mk := by
  refine ⟨h.nd.filter _, ?_, fun x hx => h.wt1 x (List.mem_filter.mp hx).1, fun x hx => h.bf1 x (List.mem_filter.mp hx).1, Nat.le_trans (List.length_filter_le _ _) h.bl⟩
  have := List.length_filter_le (fun j => decide (j ≠ s)) ks
  have := h.len
  omega
theorem Iv.wgt (h : Iv c ks bf wt mk) {s w : Int} (hw : 1 ≤ w ∧ w ≤ 256) : Iv c ks bf (upF wt s w) mk := by
  refine ⟨h.nd, h.len, fun x hx => ?_, h.bf1, h.bl⟩
  by_cases e : x = s
  · rw [e, upF_same]; exact hw
  · rw [upF_ne e]; exact h.wt1 x hx
theorem Iv.run (h : Iv c ks bf wt mk) {rs : List Int} {m : Int → Int} {ch v : Int} (hle : ∀ x ∈ rs, m ch ≤ m x) (hv : 0 ≤ v) (hrl : rs.length ≤ 6) : Iv (m ch) ks rs wt (upF m ch (m ch + v)) := by
  refine ⟨h.nd, h.len, h.wt1, fun x hx => ?_, hrl⟩
  by_cases e : x = ch
  · rw [e, upF_same]; omega
  · rw [upF_ne e]; exact hle x hx
theorem al5_ok {c' : Int} {ks' bf' : List Int} {wt' mk' : Int → Int} {s0 s1 s3 s4 s5 s6 s7 s8 s9 t0 t1 t3 t4 t7 t8 t9 : Sl} {fl : Fl} {Q : Fl → En → Prop} (hf : flatFl fl = true)
    (h : ∀ a, Ok (A__law_turn_2 [s0, s1, .tr (stA a c ks mk bf), s3, s4, .tr (.dic (dF ks wt)), .un, s7, s8, s9]) fun fl2 E2 => fl2 = fl ∧ E2 = [t0, t1, .tr (stA a c' ks' mk' bf'), t3, t4, .tr (.dic (dF ks' wt')), .un, t7, t8, t9])
    (q : Q fl [t0, t1, .tr (stt c' ks' wt' mk' bf'), t3, t4, .un, .un, t7, t8, t9]) : Ok (withAl 5 2 [("{}", "weights")] A__law_turn_2 [s0, s1, .tr (stt c ks wt mk bf), s3, s4, .un, .un, s7, s8, s9]) Q := by
  refine ok_withAl (fl := fl) (E' := [t0, t1, .tr (stt c' ks' wt' mk' bf'), t3, t4, .un, .un, t7, t8, t9]) ⟨by decide, rfl, nd5⟩ ⟨.un, rfl, rfl⟩ hf ⟨by decide, rfl, nd5⟩ (fun a => ?_) q
  rw [inj5, inj5]
  exact h a
theorem both_rt {c' : Int} {ks' bf' : List Int} {wt' mk' : Int → Int} {s0 s1 s3 s4 s7 s8 s9 t0 t1 t3 t4 t7 t8 t9 : Sl} {x : PyData} {Q : Fl → En → Prop}
    (h : ∀ a b, Ok (A__law_turn_1 [s0, s1, .tr (stB a b c bf), s3, s4, .tr (.dic (dF ks wt)), .tr (.dic (dF ks mk)), s7, s8, s9]) fun fl2 E2 => fl2 = .rt (.dat x) ∧ E2 = [t0, t1, .tr (stB a b c' bf'), t3, t4, .tr (.dic (dF ks' wt')), .tr (.dic (dF ks' mk')), t7, t8, t9])
    (q : Q (.rt (.dat x)) [t0, t1, .tr (stt c' ks' wt' mk' bf'), t3, t4, .un, .un, t7, t8, t9]) : Ok (withAl 5 2 [("{}", "weights")] A__law_turn_2 [s0, s1, .tr (stt c ks wt mk bf), s3, s4, .un, .un, s7, s8, s9]) Q :=
  al5_ok (s5 := .un) (s6 := .un) (t0 := t0) (t1 := t1) (t3 := t3) (t4 := t4) (t7 := t7) (t8 := t8) (t9 := t9) (c' := c') (ks' := ks') (bf' := bf') (wt' := wt') (mk' := mk') (fl := .rt (.dat x)) rfl (fun a => two_ok rfl h ⟨_, _, rfl, rfl, rfl⟩) q
theorem both_nx {c' : Int} {ks' bf' : List Int} {wt' mk' : Int → Int} {s0 s1 s3 s4 s7 s8 s9 t0 t1 t3 t4 t7 t8 t9 u0 u1 u3 u4 u7 u8 u9 : Sl} {fl : Fl} {Q : Fl → En → Prop} (hf : flatFl fl = true)
    (h : ∀ a b, Ok (A__law_turn_1 [s0, s1, .tr (stB a b c bf), s3, s4, .tr (.dic (dF ks wt)), .tr (.dic (dF ks mk)), s7, s8, s9]) fun fl2 E2 => fl2 = .nx ∧ E2 = [u0, u1, .tr (stB a b c bf), u3, u4, .tr (.dic (dF ks wt)), .tr (.dic (dF ks mk)), u7, u8, u9])
    (h2 : ∀ a, Ok (T__law_turn_13 [u0, u1, .tr (stA a c ks mk bf), u3, u4, .tr (.dic (dF ks wt)), .un, u7, u8, u9]) fun fl2 E2 => fl2 = fl ∧ E2 = [t0, t1, .tr (stA a c' ks' mk' bf'), t3, t4, .tr (.dic (dF ks' wt')), .un, t7, t8, t9])
    (q : Q fl [t0, t1, .tr (stt c' ks' wt' mk' bf'), t3, t4, .un, .un, t7, t8, t9]) : Ok (withAl 5 2 [("{}", "weights")] A__law_turn_2 [s0, s1, .tr (stt c ks wt mk bf), s3, s4, .un, .un, s7, s8, s9]) Q :=
  al5_ok (s5 := .un) (s6 := .un) (t0 := t0) (t1 := t1) (t3 := t3) (t4 := t4) (t7 := t7) (t8 := t8) (t9 := t9) (c' := c') (ks' := ks') (bf' := bf') (wt' := wt') (mk' := mk') hf (fun a => two_ok (fl := .nx) rfl h (h2 a)) q
theorem srt_len : (srtI ks).length = ks.length := (srtI_perm ks).length_eq
theorem srt_mem {x : Int} : x ∈ srtI ks ↔ x ∈ ks := (srtI_perm ks).mem_iff
theorem cond_ok {k : Int} {s0 s1 s2 s5 s6 s7 s8 s9 : Sl} {Q : Bool → En → Prop} (q : Q (decide (ks = [] ∨ (k = 0 ∧ ks.length < 6))) [s0, s1, s2, .dat (.list ((srtI ks).map .int)), .dat (.int k), s5, s6, s7, s8, s9]) :
    Ok (sOr (toB (bin (una (rdD 3) gLen) (ret (.int 0)) gEq)) (sAnd (toB (bin (rdD 4) (ret (.int 0)) gEq)) (toB (bin (una (rdD 3) gLen) (ret (.int 6)) gLt))) [s0, s1, s2, .dat (.list ((srtI ks).map .int)), .dat (.int k), s5, s6, s7, s8, s9]) Q := by
  simp only [walkA, List.length_map, srt_len]
  by_cases h1 : ks = []
  · have e : ((ks.length : Nat) : Int) = 0 := by rw [h1]; rfl
    simp only [h1, true_or, decide_true] at q
    simp only [walkA, h1, List.length_nil, Int.ofNat_zero, decide_true]
    exact q
  · have e : ¬ ((ks.length : Nat) : Int) = 0 := fun z => h1 (List.eq_nil_of_length_eq_zero (by omega))
    simp only [h1, false_or] at q
    simp only [walkA, e, decide_false]
    by_cases h2 : k = 0
    · subst h2
      simp only [true_and] at q
      simp only [walkA]
      have e2 : decide (((ks.length : Nat) : Int) < 6) = decide (ks.length < 6) := by
        by_cases h : ks.length < 6
        · rw [decide_eq_true h, decide_eq_true (by omega)]
        · rw [decide_eq_false h, decide_eq_false (by omega)]
      rw [e2]
      exact q
    · simp only [h2, false_and, decide_false] at q
      simp only [walkA, h2, decide_false]
      exact q
theorem add_case {d d1 d2 : List PyData} {k r w : Int} (h : Iv c ks bf wt mk) (hA : ks = [] ∨ (k = 0 ∧ ks.length < 6)) (hr : S__law_take [.own d, .dat (.int 40)] = some (.dat (.int r), [.own d1, .un])) (hw : S__law_weight [.own d1] = some (.dat (.int w), [.own d2])) (hs : 1 + r ∉ ks) (hw1 : 1 ≤ w) (hw2 : w ≤ 256) (a b : Addr) :
    Ok (A__law_turn_1 [.own d, .tr (trn c ks (stW wt) mk), .tr (stB a b c bf), .dat (.list ((srtI ks).map .int)), .dat (.int k), .tr (.dic (dF ks wt)), .tr (.dic (dF ks mk)), .un, .un, .un]) fun fl2 E2 => fl2 = .rt (.dat (.bool true)) ∧ E2 = [.own d2, .tr (trn c (ks ++ [1 + r]) (stW (upF wt (1 + r) w)) (upF mk (1 + r) c)), .tr (stB a b c bf), .dat (.list ((srtI ks).map .int)), .dat (.int k), .tr (.dic (dF (ks ++ [1 + r]) (upF wt (1 + r) w))), .tr (.dic (dF (ks ++ [1 + r]) (upF mk (1 + r) c))), .dat (.int (1 + r)), .un, .un] := by
  have hz := sizeLine_eq
  have hl := h.len
  simp only [A__law_turn_1, ↓ok_seqS, ↓ok_ifS]
  refine cond_ok ?_
  have hk5 : ks.length ≤ 5 := by
    rcases hA with z | z
    · rw [z]; decide
    · omega
  rw [decide_eq_true hA, if_pos rfl]
  simp only [walkA, hr, T__law_turn_4]
  rw [nin_intsL]
  simp only [walkA, srt_mem, hs, decide_false, Bool.not_false, hw]
  simp only [dF_len, dF_new hs]
  refine ⟨by omega, ?_⟩
  simp only [walkA, T__law_turn_2, dF_len, dF_new hs]
  refine ⟨by omega, ?_⟩
  have hin : 1 + r ∈ ks ++ [1 + r] := List.mem_append_right _ (List.mem_singleton_self _)
  simp only [walkA, T__law_turn_1, dF_val hin, upF_same]
  refine add_ok ⟨by omega, by omega⟩ hs (by omega) ?_
  simp only [walkA, T__law_turn_3, st_up]
theorem old_case {d d1 : List PyData} {k r : Int} (hA : ks = [] ∨ (k = 0 ∧ ks.length < 6)) (hr : S__law_take [.own d, .dat (.int 40)] = some (.dat (.int r), [.own d1, .un])) (hs : 1 + r ∈ ks) (a b : Addr) :
    Ok (A__law_turn_1 [.own d, .tr (trn c ks (stW wt) mk), .tr (stB a b c bf), .dat (.list ((srtI ks).map .int)), .dat (.int k), .tr (.dic (dF ks wt)), .tr (.dic (dF ks mk)), .un, .un, .un]) fun fl2 E2 => fl2 = .rt (.dat (.bool true)) ∧ E2 = [.own d1, .tr (trn c ks (stW wt) mk), .tr (stB a b c bf), .dat (.list ((srtI ks).map .int)), .dat (.int k), .tr (.dic (dF ks wt)), .tr (.dic (dF ks mk)), .dat (.int (1 + r)), .un, .un] := by
  have hz := sizeLine_eq
  simp only [A__law_turn_1, ↓ok_seqS, ↓ok_ifS]
  refine cond_ok ?_
  rw [decide_eq_true hA, if_pos rfl]
  simp only [walkA, hr, T__law_turn_4]
  rw [nin_intsL]
  simp only [walkA, srt_mem, hs, decide_true, Bool.not_true, T__law_turn_3]
theorem pick_ok {d d1 : List PyData} {k r : Int} {t u : Tr} {s5 s6 : Sl} (hA : ¬ (ks = [] ∨ (k = 0 ∧ ks.length < 6))) (hr : S__law_take [.own d, .dat (.int (ks.length : Nat))] = some (.dat (.int r), [.own d1, .un])) {x : Int} (hx : gIx (.list ((srtI ks).map .int)) (.int r) = some (.int x)) {Q : Fl → En → Prop}
    (q : Ok (T__law_turn_9 [.own d1, .tr t, .tr u, .dat (.list ((srtI ks).map .int)), .dat (.int k), s5, s6, .dat (.int x), .un, .un]) Q) :
    Ok (A__law_turn_1 [.own d, .tr t, .tr u, .dat (.list ((srtI ks).map .int)), .dat (.int k), s5, s6, .un, .un, .un]) Q := by
  simp only [A__law_turn_1, ↓ok_seqS, ↓ok_ifS]
  refine cond_ok ?_
  rw [decide_eq_false hA, if_neg Bool.false_ne_true]
  simp only [walkA, T__law_turn_10, List.length_map, srt_len, hr, hx]
  exact q
theorem drop_case {d d1 : List PyData} {k r : Int} (hA : ¬ (ks = [] ∨ (k = 0 ∧ ks.length < 6))) (hr : S__law_take [.own d, .dat (.int (ks.length : Nat))] = some (.dat (.int r), [.own d1, .un])) {x : Int} (hx : gIx (.list ((srtI ks).map .int)) (.int r) = some (.int x)) (hin : x ∈ ks) (hk : k = 1) (hb : bf.length < 100) (a b : Addr) :
    Ok (A__law_turn_1 [.own d, .tr (trn c ks (stW wt) mk), .tr (stB a b c bf), .dat (.list ((srtI ks).map .int)), .dat (.int k), .tr (.dic (dF ks wt)), .tr (.dic (dF ks mk)), .un, .un, .un]) fun fl2 E2 => fl2 = .rt (.dat (.bool true)) ∧ E2 = [.own d1, .tr (trn c (ks.filter fun j => decide (j ≠ x)) (stW wt) mk), .tr (stB a b c (bf.filter fun j => decide (j ≠ x))), .dat (.list ((srtI ks).map .int)), .dat (.int k), .tr (.dic (dF (ks.filter fun j => decide (j ≠ x)) wt)), .tr (.dic (dF (ks.filter fun j => decide (j ≠ x)) mk)), .dat (.int x), .un, .un] := by
  have hz := sizeLine_eq
  refine pick_ok hA hr hx ?_
  subst hk
  simp only [walkA, T__law_turn_9, dF_val hin, dF_drop, T__law_turn_8, T__law_turn_7, itemsOf_t, List.length_map]
  refine ⟨by omega, ?_⟩
  refine lcL_map (fun j : Int => .int j) (fun j : Int => .int j) (fun j => decide (j ≠ x)) bf _ (fun y hy => ?_) ?_
  · simp only [walkA, turn, C__law_turn_2, C__law_turn_1]
    by_cases e : y = x <;> simp [e]
  · simp only [walkA, T__law_turn_6, dist4]
    refine remove_ok hin ?_
    simp only [walkA, T__law_turn_5]
theorem keep_case {d d1 : List PyData} {k r : Int} {t u : Tr} {s5 s6 : Sl} (hA : ¬ (ks = [] ∨ (k = 0 ∧ ks.length < 6))) (hr : S__law_take [.own d, .dat (.int (ks.length : Nat))] = some (.dat (.int r), [.own d1, .un])) {x : Int} (hx : gIx (.list ((srtI ks).map .int)) (.int r) = some (.int x)) (hk : ¬ k = 1) :
    Ok (A__law_turn_1 [.own d, .tr t, .tr u, .dat (.list ((srtI ks).map .int)), .dat (.int k), s5, s6, .un, .un, .un]) fun fl2 E2 => fl2 = .nx ∧ E2 = [.own d1, .tr t, .tr u, .dat (.list ((srtI ks).map .int)), .dat (.int k), s5, s6, .dat (.int x), .un, .un] := by
  refine pick_ok hA hr hx ?_
  simp only [walkA, T__law_turn_9, hk, decide_false]
theorem wgt_case {d d1 : List PyData} {x w : Int} {s3 s6 s8 s9 : Sl} (h : Iv c ks bf wt mk) (hin : x ∈ ks) (hw : S__law_weight [.own d] = some (.dat (.int w), [.own d1])) (hw1 : 1 ≤ w) (hw2 : w ≤ 256) (a : Addr) :
    Ok (T__law_turn_13 [.own d, .tr (trn c ks (stW wt) mk), .tr (stA a c ks mk bf), s3, .dat (.int 2), .tr (.dic (dF ks wt)), s6, .dat (.int x), s8, s9]) fun fl2 E2 => fl2 = .rt (.dat (.bool true)) ∧ E2 = [.own d1, .tr (trn c ks (stW (upF wt x w)) mk), .tr (stA a c ks mk bf), s3, .dat (.int 2), .tr (.dic (dF ks (upF wt x w))), s6, .dat (.int x), s8, s9] := by
  have hz := sizeLine_eq
  have hl := h.len
  simp only [walkA, T__law_turn_13, hw, dF_len, dF_put hin, T__law_turn_12, dF_val hin, upF_same]
  refine ⟨by omega, ?_⟩
  refine setw_old ⟨by omega, by omega⟩ hin (by omega) ?_
  simp only [walkA, T__law_turn_11, st_up]
theorem rest_case {k : Int} {s0 s1 s3 s5 s6 s7 s8 s9 : Sl} (hk : ¬ k = 2) (a : Addr) : Ok (T__law_turn_13 [s0, s1, .tr (stA a c ks mk bf), s3, .dat (.int k), s5, s6, s7, s8, s9]) fun fl2 E2 => fl2 = .nx ∧ E2 = [s0, s1, .tr (stA a c ks mk bf), s3, .dat (.int k), s5, s6, s7, s8, s9] := by
  simp only [walkA, T__law_turn_13, hk, decide_false]
/-- the row of those that are ready -/
theorem ready_ok {x : Int} {s1 s2 s3 s4 s5 s6 s8 : Sl} : ∀ (ys : List Int) (d : List PyData) {Q : List PyData → En → Prop}, DrawOk d → (∀ (rs : List Int) (d' : List PyData), DrawOk d' → rs.length ≤ ys.length → (∀ r ∈ rs, r ∈ ys) → (x ∈ ys → x ∈ rs) → Q (rs.map .int) [.own d', s1, s2, s3, s4, s5, s6, .dat (.int x), s8, .un]) →
    Ok (lcL [9] (toN 9) C__law_turn_4 C__law_turn_3 (ys.map .int) [.own d, s1, s2, s3, s4, s5, s6, .dat (.int x), s8, .un]) Q
  | [], d, Q, hd, q => by
    rw [List.map_nil, ok_lcL_nil]
    exact q [] d hd (Nat.le_refl _) (fun _ h => nomatch h) fun h => nomatch h
  | y :: ys, d, Q, hd, q => by
    rw [List.map_cons]
    refine lcL_turn (R := fun o E' => ∃ d', DrawOk d' ∧ E' = [.own d', s1, s2, s3, s4, s5, s6, .dat (.int x), s8, .un] ∧ (o = some (.int y) ∨ (o = none ∧ ¬ y = x))) ?_ (fun z E' r => ?_) (fun E' r => ?_)
    · simp only [walkA, turn, C__law_turn_4, C__law_turn_3]
      refine take_ok hd (by omega) (by omega) fun k d1 k0 k1 hd1 => ?_
      simp only [walkA]
      by_cases h1 : k > 0
      · simp only [walkA, h1]
        exact ⟨_, hd1, rfl, .inl trivial⟩
      · simp only [walkA, h1]
        by_cases h2 : y = x
        · simp only [walkA, h2]
          exact ⟨_, hd1, rfl, .inl trivial⟩
        · simp only [walkA, h2]
          exact ⟨_, hd1, rfl, .inr id⟩
    · obtain ⟨d', hd', rfl, h | h⟩ := r
      · cases h
        refine ready_ok ys d' hd' fun rs d2 hd2 hl hm hx => ?_
        refine q (y :: rs) d2 hd2 (by simp only [List.length_cons]; omega) (fun r hr => ?_) fun hr => ?_
        · rcases List.mem_cons.mp hr with rfl | hr
          · exact List.mem_cons_self ..
          · exact List.mem_cons_of_mem _ (hm r hr)
        · rcases List.mem_cons.mp hr with rfl | hr
          · exact List.mem_cons_self ..
          · exact List.mem_cons_of_mem _ (hx hr)
      · cases h.1
    · obtain ⟨d', hd', rfl, h | h⟩ := r
      · cases h
      · refine ready_ok ys d' hd' fun rs d2 hd2 hl hm hx => ?_
        refine q rs d2 hd2 (by simp only [List.length_cons]; omega) (fun r hr => List.mem_cons_of_mem _ (hm r hr)) fun hr => ?_
        rcases List.mem_cons.mp hr with e | hr
        · exact absurd e.symm h.2
        · exact hx hr
theorem at_ok {r : Int} (h0 : 0 ≤ r) (h1 : r < (ks.length : Nat)) : ∃ x, gIx (.list ((srtI ks).map .int)) (.int r) = some (.int x) ∧ x ∈ ks := by
  obtain ⟨x, hx, e⟩ := atI_ints (cs := srtI ks) h0 (by rw [srt_len]; exact h1)
  exact ⟨x, e, srt_mem.mp hx⟩
/-- the end of a turn: those that are ready, and both choose -/
theorem end_ok {d : List PyData} {x : Int} (hd : DrawOk d) (h : Iv c ks bf wt mk) (hx : x ∈ ks) {s4 s5 s6 : Sl} {Q : Fl → En → Prop}
    (q : ∀ d' c' bf' mk' s8 s9, DrawOk d' → Iv c' ks bf' wt mk' → Q (.rt (.dat (.bool true))) [.own d', .tr (trn c' ks (stW wt) mk'), .tr (stt c' ks wt mk' bf'), .dat (.list ((srtI ks).map .int)), s4, s5, s6, .dat (.int x), s8, s9]) :
    Ok (T__law_turn_15 [.own d, .tr (trn c ks (stW wt) mk), .tr (stt c ks wt mk bf), .dat (.list ((srtI ks).map .int)), s4, s5, s6, .dat (.int x), .un, .un]) Q := by
  have hz := sizeLine_eq
  have hl := h.len
  simp only [walkA, T__law_turn_15, List.length_map, srt_len]
  refine ⟨by omega, ?_⟩
  refine ready_ok (srtI ks) d hd fun rs d2 hd2 hrl hm hxr => ?_
  have hxr := hxr (srt_mem.mpr hx)
  have hm : ∀ r ∈ rs, r ∈ ks := fun r hr => srt_mem.mp (hm r hr)
  rw [srt_len] at hrl
  cases rs with
  | nil => cases hxr
  | cons r rs =>
    simp only [walkA]
    rw [show PyData.int r :: rs.map PyData.int = (r :: rs).map PyData.int from rfl]
    simp only [walkA, T__law_turn_14]
    rw [show PyData.int r :: rs.map PyData.int = (r :: rs).map PyData.int from rfl]
    refine choose_ok (by omega) hm fun ch m em hin hle ech => ?_
    simp only [walkA]
    refine lchoose_ok (by omega) h.wt1 hm h.bf1 em ech ?_
    simp only [walkA]
    refine q _ _ _ _ _ _ hd2 (h.run hle ?_ (by omega))
    have := h.wt1 ch (hm ch hin)
    unfold stW
    exact Int.ediv_nonneg (by decide) (by omega)
theorem turn_ok {d : List PyData} (hd : DrawOk d) (h : Iv c ks bf wt mk) {Q : Sl → En → Prop}
    (q : ∀ d' c' ks' bf' wt' mk', DrawOk d' → Iv c' ks' bf' wt' mk' → Q (.dat (.bool true)) [.own d', .tr (trn c' ks' (stW wt') mk'), .tr (stt c' ks' wt' mk' bf')]) :
    Ok (S__law_turn [.own d, .tr (trn c ks (stW wt) mk), .tr (stt c ks wt mk bf)]) Q := by
  have hz := sizeLine_eq
  have hl := h.len
  unfold S__law_turn
  rw [ok_runF]
  refine ⟨rfl, ?_⟩
  simp only [walkA, Y__law_turn, dF_ints]
  refine ⟨by omega, ?_⟩
  simp only [walkA, T__law_turn_17]
  refine take_ok hd (by omega) (by omega) fun k d1 k0 k1 hd1 => ?_
  simp only [walkA, T__law_turn_16]
  by_cases hA : ks = [] ∨ (k = 0 ∧ ks.length < 6)
  · obtain ⟨r, d2, hr, r0, r1, hd2⟩ := take_ex hd1 (m := 40) (by omega) (by omega)
    by_cases hs : 1 + r ∈ ks
    · refine both_rt (old_case hA hr hs) ?_
      simp only [walkA]
      exact q _ _ _ _ _ _ hd2 h
    · obtain ⟨w, d3, hw, w0, w1, hd3⟩ := weight_ex hd2
      have hk5 : ks.length ≤ 5 := by
        rcases hA with z | z
        · rw [z]; decide
        · omega
      refine both_rt (add_case h hA hr hw hs w0 w1) ?_
      simp only [walkA]
      exact q _ _ _ _ _ _ hd3 (h.add hs hk5 ⟨w0, w1⟩)
  · have hne : 0 < ks.length := List.length_pos_iff.mpr fun z => hA (.inl z)
    obtain ⟨r, d2, hr, r0, r1, hd2⟩ := take_ex hd1 (m := (ks.length : Nat)) (by omega) (by omega)
    obtain ⟨x, hx, hin⟩ := at_ok r0 r1
    have hbl : bf.length < 100 := by have := h.bl; omega
    by_cases hk1 : k = 1
    · refine both_rt (drop_case hA hr hx hin hk1 hbl) ?_
      simp only [walkA]
      exact q _ _ _ _ _ _ hd2 h.drop
    · by_cases hk2 : k = 2
      · obtain ⟨w, d3, hw, w0, w1, hd3⟩ := weight_ex hd2
        subst hk2
        refine both_nx rfl (fun a b => keep_case hA hr hx hk1) (wgt_case h hin hw w0 w1) ?_
        simp only [walkA]
        exact q _ _ _ _ _ _ hd3 (h.wgt ⟨w0, w1⟩)
      · refine both_nx (fl := .nx) rfl (fun a b => keep_case hA hr hx hk1) (rest_case hk2) ?_
        simp only [walkA]
        refine end_ok hd2 h hin fun d' c' bf' mk' s8 s9 hd' hi => ?_
        simp only [walkA]
        exact q _ _ _ _ _ _ hd' hi
end
end ownanswer_k33_turns_by_marks
-- FwP
-- Ne
namespace ownanswer_k33_turns_by_marks
open PySem PySem.Spec L2 Fw
local macro_rules | `(tactic| simp only [walkA, $xs,*] $[$l:location]?) => `(tactic| simp only [ok_some, ok_none, okV_some, okV_none, ↓okV_if, ↓ok_if, ↓ok_ret, ↓ok_bnd, ↓ok_lft, ↓ok_bin, ↓ok_una, ↓ok_binL, ↓ok_unaL, ↓ok_mny, ↓ok_rdD, ↓ok_rdO, ↓ok_rdA, ↓ok_toB, ↓ok_sAnd, ↓ok_sOr, ↓ok_sNot, ↓ok_vAnd, ↓ok_vOr, ↓ok_sIf, ↓ok_chn, ↓ok_sNil, ↓ok_sCons, ↓ok_dTup, ↓ok_dLst, ↓ok_m0S, ↓ok_m1S, ↓ok_m1L, ↓ok_ixO, ↓ok_sPart, ↓ok_sSl, ↓ok_tupO, ↓ok_sItems, ↓ok_sScr, ↓ok_sEnum, ↓ok_sRng1, ↓ok_sRng2, ↓ok_seqS, ↓ok_nxt, ↓ok_brkS, ↓ok_cntS, ↓ok_retN, ↓ok_drpS, ↓ok_asg, ↓ok_asgL, ↓ok_asgG, ↓ok_augS, ↓ok_ifS, ↓ok_retD, ↓ok_retL, ↓ok_retO, ↓ok_appO, ↓ok_setO, ↓ok_extO, ↓ok_popS, ↓ok_forS, ↓ok_forL_nil, ↓ok_lcS, ↓ok_lcL_nil, ↓okV_callD, ↓okV_callV, ↓ok_callM, ↓ok_asD, ↓ok_asL, ↓ok_callS, ↓ok_runF, ↓ok_rdP, ↓ok_rdB, ↓ok_rdZ, ↓ok_datS, ↓ok_ownS, ↓ok_asgS, ↓ok_retS, ↓ok_drpC, ↓ok_evA_nil, ↓ok_evA_ex, ↓ok_evA_pl, ↓ok_callA, ↓ok_callMt, ↓ok_makeA, ↓ok_setS, ↓ok_augF, ↓ok_newD, ↓ok_dgt, ↓ok_din, ↓ok_dpt, ↓ok_daug, ↓ok_ddel, ↓ok_dgo, ↓ok_dpo, ↓ok_dln, ↓ok_dso, ↓ok_appP, ↓ok_extP, ↓ok_ixP, ↓ok_tupP, ↓ok_dsp_nil, ↓ok_dsp_cons, ↓ok_dsp, ↓ok_mvS, ↓ok_sIfC, ↓ok_isNT, ↓ok_sRngD, ↓ok_sEnumL, ↓ok_setR, ↓ok_dspR, ↓ok_evR_nil, ↓ok_evR_cons, ↓ok_rplS, ↓ok_tupA, ↓ok_strM, ↓ok_chn3, own?, toN, toT, toNs, wipE, bakE, stp_nx, stp_ct, stp_bk, stp_rt, Fw.collect, ok_yesS, List.getElem?_cons_zero, List.getElem?_cons_succ, List.set_cons_zero, List.set_cons_succ, List.map_cons, List.map_nil, List.length_cons, List.length_nil, List.cons_append, List.nil_append, List.replicate_succ, List.replicate_zero, Nat.reduceAdd, Nat.reduceSub, Nat.reduceLeDiff, Nat.reduceLT, Nat.reduceEqDiff, Int.reduceLT, Int.reduceLE, Int.reduceNeg, Int.reducePow, Int.reduceEq, Option.isSome_some, Option.map_some, Option.map_none, true_and, and_true, if_true, if_false, ite_true, ite_false, Bool.false_eq_true, reduceIte, reduceCtorEq, nodeAt, Fw.putAt, getP, putP, getF, setF, argSl, slsOf, slOf, unSl, newSl, putB, noTwice, trOf, dicAt, lstAt, Fw.keyOf, Option.isSome_some, Option.map_some, List.all_cons, List.all_nil, bnef, bnet, Bool.and_true, Bool.and_self, dstAt, gAdd_ii, gAdd_ss, gAdd_tt, gSub_ii, gMul_ii, gDiv_ii, gMod_ii, gNeg_i, gLt_ii, gGt_ii, gGe_ii, gLe_ii, eqv_ii, eqv_ss, eqv_bb, eqv_nn, eqv_ni, eqv_in, eqv_ns, eqv_sn, eqv_nb, eqv_bn, eqv_is, eqv_si, eqv_nt, eqv_tn, eqv_nl, eqv_ln, eqv_tt, eqv_ll, eqvA_nn, eqvA_cc, eqvA_nc, eqvA_cn, gEq_ii, gEq_ss, gEq_bb, gEq_nn, gEq_in, gEq_ni, gEq_sn, gEq_ns, gEq_si, gEq_is, gNe_ii, gNe_ss, gNe_bb, gNe_nn, gNot_b, gIsN_n, gIsN_i, gIsN_b, gIsN_s, gIsN_t, gIsN_l, gNotN_n, gNotN_i, gNotN_b, gNotN_s, gNotN_t, gNotN_l, gIx_l, gIx_t, gIx_s, gLen_s, gLen_l, gLen_t, gAbs_i, gInt_i, gInt_b, gInt_s, gOrd_sign, gDivmod_ii, gStr_i, gStr_s, gTuple_l, gTuple_t, gStrip_s, gLstrip_s, gSplit_s, gPartition_s, gJoin_m, gCat_ll, gSl_s, gSl_t, gSl_l, itemsOf_l, itemsOf_t, itemsOf_s, ofString_inj, cMul_r, cMul_l, ixN_lit, atI_lit, atI_m1, cast_lit, String.reduceEq, decide_true, decide_false, Int.reduceSub, Int.reduceAdd, Int.reduceMul, Int.reduceToNat, T_toList, T_len, T_app, T_inj, T_sign, T_cut, T_signs, T_strip, T_empty, gIn_T, gNin_T, gLjust_T, lt_0, $xs,*] $[$l:location]?)
local macro_rules | `(tactic| simp only [walkA] $[$l:location]?) => `(tactic| simp only [ok_some, ok_none, okV_some, okV_none, ↓okV_if, ↓ok_if, ↓ok_ret, ↓ok_bnd, ↓ok_lft, ↓ok_bin, ↓ok_una, ↓ok_binL, ↓ok_unaL, ↓ok_mny, ↓ok_rdD, ↓ok_rdO, ↓ok_rdA, ↓ok_toB, ↓ok_sAnd, ↓ok_sOr, ↓ok_sNot, ↓ok_vAnd, ↓ok_vOr, ↓ok_sIf, ↓ok_chn, ↓ok_sNil, ↓ok_sCons, ↓ok_dTup, ↓ok_dLst, ↓ok_m0S, ↓ok_m1S, ↓ok_m1L, ↓ok_ixO, ↓ok_sPart, ↓ok_sSl, ↓ok_tupO, ↓ok_sItems, ↓ok_sScr, ↓ok_sEnum, ↓ok_sRng1, ↓ok_sRng2, ↓ok_seqS, ↓ok_nxt, ↓ok_brkS, ↓ok_cntS, ↓ok_retN, ↓ok_drpS, ↓ok_asg, ↓ok_asgL, ↓ok_asgG, ↓ok_augS, ↓ok_ifS, ↓ok_retD, ↓ok_retL, ↓ok_retO, ↓ok_appO, ↓ok_setO, ↓ok_extO, ↓ok_popS, ↓ok_forS, ↓ok_forL_nil, ↓ok_lcS, ↓ok_lcL_nil, ↓okV_callD, ↓okV_callV, ↓ok_callM, ↓ok_asD, ↓ok_asL, ↓ok_callS, ↓ok_runF, ↓ok_rdP, ↓ok_rdB, ↓ok_rdZ, ↓ok_datS, ↓ok_ownS, ↓ok_asgS, ↓ok_retS, ↓ok_drpC, ↓ok_evA_nil, ↓ok_evA_ex, ↓ok_evA_pl, ↓ok_callA, ↓ok_callMt, ↓ok_makeA, ↓ok_setS, ↓ok_augF, ↓ok_newD, ↓ok_dgt, ↓ok_din, ↓ok_dpt, ↓ok_daug, ↓ok_ddel, ↓ok_dgo, ↓ok_dpo, ↓ok_dln, ↓ok_dso, ↓ok_appP, ↓ok_extP, ↓ok_ixP, ↓ok_tupP, ↓ok_dsp_nil, ↓ok_dsp_cons, ↓ok_dsp, ↓ok_mvS, ↓ok_sIfC, ↓ok_isNT, ↓ok_sRngD, ↓ok_sEnumL, ↓ok_setR, ↓ok_dspR, ↓ok_evR_nil, ↓ok_evR_cons, ↓ok_rplS, ↓ok_tupA, ↓ok_strM, ↓ok_chn3, own?, toN, toT, toNs, wipE, bakE, stp_nx, stp_ct, stp_bk, stp_rt, Fw.collect, ok_yesS, List.getElem?_cons_zero, List.getElem?_cons_succ, List.set_cons_zero, List.set_cons_succ, List.map_cons, List.map_nil, List.length_cons, List.length_nil, List.cons_append, List.nil_append, List.replicate_succ, List.replicate_zero, Nat.reduceAdd, Nat.reduceSub, Nat.reduceLeDiff, Nat.reduceLT, Nat.reduceEqDiff, Int.reduceLT, Int.reduceLE, Int.reduceNeg, Int.reducePow, Int.reduceEq, Option.isSome_some, Option.map_some, Option.map_none, true_and, and_true, if_true, if_false, ite_true, ite_false, Bool.false_eq_true, reduceIte, reduceCtorEq, nodeAt, Fw.putAt, getP, putP, getF, setF, argSl, slsOf, slOf, unSl, newSl, putB, noTwice, trOf, dicAt, lstAt, Fw.keyOf, Option.isSome_some, Option.map_some, List.all_cons, List.all_nil, bnef, bnet, Bool.and_true, Bool.and_self, dstAt, gAdd_ii, gAdd_ss, gAdd_tt, gSub_ii, gMul_ii, gDiv_ii, gMod_ii, gNeg_i, gLt_ii, gGt_ii, gGe_ii, gLe_ii, eqv_ii, eqv_ss, eqv_bb, eqv_nn, eqv_ni, eqv_in, eqv_ns, eqv_sn, eqv_nb, eqv_bn, eqv_is, eqv_si, eqv_nt, eqv_tn, eqv_nl, eqv_ln, eqv_tt, eqv_ll, eqvA_nn, eqvA_cc, eqvA_nc, eqvA_cn, gEq_ii, gEq_ss, gEq_bb, gEq_nn, gEq_in, gEq_ni, gEq_sn, gEq_ns, gEq_si, gEq_is, gNe_ii, gNe_ss, gNe_bb, gNe_nn, gNot_b, gIsN_n, gIsN_i, gIsN_b, gIsN_s, gIsN_t, gIsN_l, gNotN_n, gNotN_i, gNotN_b, gNotN_s, gNotN_t, gNotN_l, gIx_l, gIx_t, gIx_s, gLen_s, gLen_l, gLen_t, gAbs_i, gInt_i, gInt_b, gInt_s, gOrd_sign, gDivmod_ii, gStr_i, gStr_s, gTuple_l, gTuple_t, gStrip_s, gLstrip_s, gSplit_s, gPartition_s, gJoin_m, gCat_ll, gSl_s, gSl_t, gSl_l, itemsOf_l, itemsOf_t, itemsOf_s, ofString_inj, cMul_r, cMul_l, ixN_lit, atI_lit, atI_m1, cast_lit, String.reduceEq, decide_true, decide_false, Int.reduceSub, Int.reduceAdd, Int.reduceMul, Int.reduceToNat, T_toList, T_len, T_app, T_inj, T_sign, T_cut, T_signs, T_strip, T_empty, gIn_T, gNin_T, gLjust_T, lt_0] $[$l:location]?)

open ownanswer_k35_shares_by_weight (trG trn mk1 argm choose_ok add_ok init_ok setw_old mk1_cons mk1_nil argm_le)
theorem law_true (ns : List Int) (h : ns.length ≤ 63) : ∃ outs, S_law [.scr ns] = some (.dat (.bool true), outs) := by
  have main : Ok (S_law [.scr ns]) fun r _ => r = .dat (.bool true) := by
    have hz := sizeLine_eq
    unfold S_law
    rw [ok_runF]
    refine ⟨rfl, ?_⟩
    simp only [walkA, Y_law]
    refine draw_ok h fun d hd => ?_
    simp only [walkA, T_law_7]
    refine init_ok (f := stW fun _ => 1) (g := fun _ => 0) ?_
    simp only [walkA, T_law_6, dist4, T_law_5]
    refine ⟨by omega, ?_⟩
    refine take_ok hd (by omega) (by omega) fun n d1 n0 n1 hd1 => ?_
    simp only [walkA]
    refine ⟨⟨by omega, by omega⟩, ?_⟩
    have i0 : Iv 0 [] [] (fun _ => 1) fun _ => 0 := ⟨.nil, by decide, (fun _ h => nomatch h), (fun _ h => nomatch h), by decide⟩
    refine forL_inv' (fun E => ∃ d c ks bf wt mk a4 a5 a6, E = [.scr ns, .own d, .tr (trn c ks (stW wt) mk), .tr (stt c ks wt mk bf), a4, a5, a6] ∧ DrawOk d ∧ Iv c ks bf wt mk ∧ a5.ow = false ∧ a6.ow = false) _ _ _ ⟨d1, 0, [], [], fun _ => 1, fun _ => 0, .un, .un, .un, rfl, hd1, i0, rfl, rfl⟩ (fun x hx E hE => ?_) fun E hE => ?_
    · obtain ⟨d, c, ks, bf, wt, mk, a4, a5, a6, rfl, hd, hi, h5, h6⟩ := hE
      simp only [walkA, L_law_2]
      refine ⟨by decide, ?_⟩
      refine turn_ok hd hi fun d c ks bf wt mk hd hi => ?_
      have hl := hi.len
      simp only [walkA, Bool.not_true, T_law_3, dF_ints, h5]
      refine ⟨by omega, ?_⟩
      simp only [walkA, T_law_2]
      refine known_ok (by omega) ?_
      simp only [walkA]
      rw [gNe_self (k := 1) (.lst (.map fun x _ => .int)) (by decide)]
      simp only [walkA]
      refine clock_ok ?_
      simp only [walkA, ne_eq, not_true, decide_false, T_law_1]
      refine forL_inv' (fun E => ∃ a6, E = [.scr ns, .own d, .tr (trn c ks (stW wt) mk), .tr (stt c ks wt mk bf), .dat x, .dat (.list ((srtI ks).map .int)), a6] ∧ a6.ow = false) _ _ _ ⟨a6, rfl, h6⟩ (fun y hy E hE => ?_) fun E hE => ?_
      · obtain ⟨a6, rfl, h6⟩ := hE
        obtain ⟨y, hy2, rfl⟩ := List.mem_map.mp hy
        have hy := srt_mem.mp hy2
        simp only [walkA, L_law_1, h6]
        refine mark_ok hy ?_
        simp only [walkA, dF_val hy, ne_eq, not_true, decide_false]
        exact ⟨_, rfl, rfl⟩
      · obtain ⟨a6, rfl, h6⟩ := hE
        exact ⟨_, _, _, _, _, _, _, _, _, rfl, hd, hi, rfl, h6⟩
    · obtain ⟨d, c, ks, bf, wt, mk, a4, a5, a6, rfl, hd, hi, h5, h6⟩ := hE
      simp only [walkA, T_law_4]
  obtain ⟨r, outs, h1, rfl⟩ := main
  exact ⟨outs, h1⟩
end ownanswer_k33_turns_by_marks
open PySem PySem.W
open PyProof.Rows hiding St
namespace ownanswer_k33_turns_by_marks
open PySem PySem.Spec L2 Fw
theorem all_mk {P : Program} {w : World} {K : PySem.W.Frag} {h : Heap} {mg : Str → Option Value} {fa : Addr} (X : K.In h) (G : h.Ns mainGlobals mg) (hfa : mg "law" = some (.ref fa))
    {C0 : Addr}
    {f0 : Addr} {oc0 : Value} {od0 an0 : Option Addr} {sl0 : Array (Option Value)} {kV0 dc0 pm0 cd0 ct0 : Value}
    {f1 : Addr} {oc1 : Value} {od1 an1 : Option Addr} {sl1 : Array (Option Value)} {kV1 dc1 pm1 cd1 ct1 : Value}
    {f2 : Addr} {oc2 : Value} {od2 an2 : Option Addr} {sl2 : Array (Option Value)} {kV2 dc2 pm2 cd2 ct2 : Value}
    {f3 : Addr} {oc3 : Value} {od3 an3 : Option Addr} {sl3 : Array (Option Value)} {kV3 dc3 pm3 cd3 ct3 : Value}
    {f4 : Addr} {oc4 : Value} {od4 an4 : Option Addr} {sl4 : Array (Option Value)} {kV4 dc4 pm4 cd4 ct4 : Value}
    {f5 : Addr} {oc5 : Value} {od5 an5 : Option Addr} {sl5 : Array (Option Value)} {kV5 dc5 pm5 cd5 ct5 : Value}
    {f6 : Addr} {oc6 : Value} {od6 an6 : Option Addr} {sl6 : Array (Option Value)} {kV6 dc6 pm6 cd6 ct6 : Value}
    {f7 : Addr} {oc7 : Value} {od7 an7 : Option Addr} {sl7 : Array (Option Value)} {kV7 dc7 pm7 cd7 ct7 : Value}
    {f8 : Addr} {oc8 : Value} {od8 an8 : Option Addr} {sl8 : Array (Option Value)} {kV8 dc8 pm8 cd8 ct8 : Value}
    {f9 : Addr} {oc9 : Value} {od9 an9 : Option Addr} {sl9 : Array (Option Value)} {kV9 dc9 pm9 cd9 ct9 : Value}
    {f10 : Addr} {oc10 : Value} {od10 an10 : Option Addr} {sl10 : Array (Option Value)} {kV10 dc10 pm10 cd10 ct10 : Value}
    {f11 : Addr} {oc11 : Value} {od11 an11 : Option Addr} {sl11 : Array (Option Value)} {kV11 dc11 pm11 cd11 ct11 : Value}
    {f12 : Addr} {oc12 : Value} {od12 an12 : Option Addr} {sl12 : Array (Option Value)} {kV12 dc12 pm12 cd12 ct12 : Value}
    {f13 : Addr} {oc13 : Value} {od13 an13 : Option Addr} {sl13 : Array (Option Value)} {kV13 dc13 pm13 cd13 ct13 : Value}
    {t0 : Tok}
    (ca0 : PySem.W.nsIn K mainGlobals "Turns" = some (some (.ref C0))) (cg0 : PySem.W.plainGet K C0 Str.empty = true) (ch0 : PySem.W.hasDictIn K C0 = true) (co0 : PySem.W.plainOver K C0 = true) (cs0 : PySem.W.findIn K (.ref C0) "__setattr__" = some (some (.builtin "object.__setattr__"))) (cm0 : PySem.W.makesIn K C0 = true) (ck0 : PySem.W.keepIn K (.ref C0) = true)
    (cf0_0 : PySem.W.findIn K (.ref C0) "_clock" = some none)
    (cf0_1 : PySem.W.findIn K (.ref C0) "_marks" = some none)
    (cf0_2 : PySem.W.findIn K (.ref C0) "_strides" = some none)
    (a0 : PySem.W.findIn K (.ref C0) "__init__" = some (some (.ref f0))) (i0 : PySem.W.isFn K (.ref f0) = true) (l0 : K.lookup f0 = some ⟨oc0, od0, .func (PySem.W.fnOf "__init__" "Turns.__init__" (defArgs s_Turns___init__) (defBody s_Turns___init__) (defScope s_Turns___init__) .none kV0 dc0 pm0 an0 cd0 ct0), sl0⟩) (c0 : PySem.W.codeIn K cd0 "Turns.__init__" = true) (k0 : PySem.W.keepIn K (.ref f0) = true)
    (a1 : PySem.W.findIn K (.ref C0) "remove" = some (some (.ref f1))) (i1 : PySem.W.isFn K (.ref f1) = true) (l1 : K.lookup f1 = some ⟨oc1, od1, .func (PySem.W.fnOf "remove" "Turns.remove" (defArgs s_Turns_remove) (defBody s_Turns_remove) (defScope s_Turns_remove) .none kV1 dc1 pm1 an1 cd1 ct1), sl1⟩) (c1 : PySem.W.codeIn K cd1 "Turns.remove" = true) (k1 : PySem.W.keepIn K (.ref f1) = true)
    (a2 : PySem.W.findIn K (.ref C0) "set_weight" = some (some (.ref f2))) (i2 : PySem.W.isFn K (.ref f2) = true) (l2 : K.lookup f2 = some ⟨oc2, od2, .func (PySem.W.fnOf "set_weight" "Turns.set_weight" (defArgs s_Turns_set_weight) (defBody s_Turns_set_weight) (defScope s_Turns_set_weight) .none kV2 dc2 pm2 an2 cd2 ct2), sl2⟩) (c2 : PySem.W.codeIn K cd2 "Turns.set_weight" = true) (k2 : PySem.W.keepIn K (.ref f2) = true)
    (a3 : PySem.W.findIn K (.ref C0) "choose" = some (some (.ref f3))) (i3 : PySem.W.isFn K (.ref f3) = true) (l3 : K.lookup f3 = some ⟨oc3, od3, .func (PySem.W.fnOf "choose" "Turns.choose" (defArgs s_Turns_choose) (defBody s_Turns_choose) (defScope s_Turns_choose) .none kV3 dc3 pm3 an3 cd3 ct3), sl3⟩) (c3 : PySem.W.codeIn K cd3 "Turns.choose" = true) (k3 : PySem.W.keepIn K (.ref f3) = true)
    (a4 : PySem.W.findIn K (.ref C0) "mark" = some (some (.ref f4))) (i4 : PySem.W.isFn K (.ref f4) = true) (l4 : K.lookup f4 = some ⟨oc4, od4, .func (PySem.W.fnOf "mark" "Turns.mark" (defArgs s_Turns_mark) (defBody s_Turns_mark) (defScope s_Turns_mark) .none kV4 dc4 pm4 an4 cd4 ct4), sl4⟩) (c4 : PySem.W.codeIn K cd4 "Turns.mark" = true) (k4 : PySem.W.keepIn K (.ref f4) = true)
    (a5 : PySem.W.findIn K (.ref C0) "known" = some (some (.ref f5))) (i5 : PySem.W.isFn K (.ref f5) = true) (l5 : K.lookup f5 = some ⟨oc5, od5, .func (PySem.W.fnOf "known" "Turns.known" (defArgs s_Turns_known) (defBody s_Turns_known) (defScope s_Turns_known) .none kV5 dc5 pm5 an5 cd5 ct5), sl5⟩) (c5 : PySem.W.codeIn K cd5 "Turns.known" = true) (k5 : PySem.W.keepIn K (.ref f5) = true)
    (a6 : PySem.W.findIn K (.ref C0) "clock" = some (some (.ref f6))) (i6 : PySem.W.isFn K (.ref f6) = true) (l6 : K.lookup f6 = some ⟨oc6, od6, .func (PySem.W.fnOf "clock" "Turns.clock" (defArgs s_Turns_clock) (defBody s_Turns_clock) (defScope s_Turns_clock) .none kV6 dc6 pm6 an6 cd6 ct6), sl6⟩) (c6 : PySem.W.codeIn K cd6 "Turns.clock" = true) (k6 : PySem.W.keepIn K (.ref f6) = true)
    (a7 : PySem.W.nsIn K mainGlobals "_law_draw" = some (some (.ref f7))) (l7 : K.lookup f7 = some ⟨oc7, od7, .func (PySem.W.fnOf "_law_draw" "_law_draw" (defArgs s__law_draw) (defBody s__law_draw) (defScope s__law_draw) .none kV7 dc7 pm7 an7 cd7 ct7), sl7⟩) (c7 : PySem.W.codeIn K cd7 "_law_draw" = true) (k7 : PySem.W.keepIn K (.ref f7) = true)
    (a8 : PySem.W.nsIn K mainGlobals "_law_take" = some (some (.ref f8))) (l8 : K.lookup f8 = some ⟨oc8, od8, .func (PySem.W.fnOf "_law_take" "_law_take" (defArgs s__law_take) (defBody s__law_take) (defScope s__law_take) .none kV8 dc8 pm8 an8 cd8 ct8), sl8⟩) (c8 : PySem.W.codeIn K cd8 "_law_take" = true) (k8 : PySem.W.keepIn K (.ref f8) = true)
    (a9 : PySem.W.nsIn K mainGlobals "_law_choose" = some (some (.ref f9))) (l9 : K.lookup f9 = some ⟨oc9, od9, .func (PySem.W.fnOf "_law_choose" "_law_choose" (defArgs s__law_choose) (defBody s__law_choose) (defScope s__law_choose) .none kV9 dc9 pm9 an9 cd9 ct9), sl9⟩) (c9 : PySem.W.codeIn K cd9 "_law_choose" = true) (k9 : PySem.W.keepIn K (.ref f9) = true)
    (a10 : PySem.W.findIn K (.ref C0) "add" = some (some (.ref f10))) (i10 : PySem.W.isFn K (.ref f10) = true) (l10 : K.lookup f10 = some ⟨oc10, od10, .func (PySem.W.fnOf "add" "Turns.add" (defArgs s_Turns_add) (defBody s_Turns_add) (defScope s_Turns_add) .none kV10 dc10 pm10 an10 cd10 ct10), sl10⟩) (c10 : PySem.W.codeIn K cd10 "Turns.add" = true) (k10 : PySem.W.keepIn K (.ref f10) = true)
    (a11 : PySem.W.nsIn K mainGlobals "_law_weight" = some (some (.ref f11))) (l11 : K.lookup f11 = some ⟨oc11, od11, .func (PySem.W.fnOf "_law_weight" "_law_weight" (defArgs s__law_weight) (defBody s__law_weight) (defScope s__law_weight) .none kV11 dc11 pm11 an11 cd11 ct11), sl11⟩) (c11 : PySem.W.codeIn K cd11 "_law_weight" = true) (k11 : PySem.W.keepIn K (.ref f11) = true)
    (a12 : PySem.W.nsIn K mainGlobals "_law_turn" = some (some (.ref f12))) (l12 : K.lookup f12 = some ⟨oc12, od12, .func (PySem.W.fnOf "_law_turn" "_law_turn" (defArgs s__law_turn) (defBody s__law_turn) (defScope s__law_turn) .none kV12 dc12 pm12 an12 cd12 ct12), sl12⟩) (c12 : PySem.W.codeIn K cd12 "_law_turn" = true) (k12 : PySem.W.keepIn K (.ref f12) = true)
    (a13 : PySem.W.nsIn K mainGlobals "law" = some (some (.ref f13))) (l13 : K.lookup f13 = some ⟨oc13, od13, .func (PySem.W.fnOf "law" "law" (defArgs s_law) (defBody s_law) (defScope s_law) .none kV13 dc13 pm13 an13 cd13 ct13), sl13⟩) (c13 : PySem.W.codeIn K cd13 "law" = true) (k13 : PySem.W.keepIn K (.ref f13) = true)
    (b0 : PySem.W.nsIn K mainGlobals "abs" = some none)
    (b1 : PySem.W.nsIn K mainGlobals "int" = some none)
    (b2 : PySem.W.nsIn K mainGlobals "len" = some none)
    (b3 : PySem.W.nsIn K mainGlobals "max" = some none)
    (b4 : PySem.W.nsIn K mainGlobals "range" = some none)
    (b5 : PySem.W.nsIn K mainGlobals "sorted" = some none)
    (b6 : PySem.W.nsIn K mainGlobals "tuple" = some none)
    (n0 : PySem.W.nsIn K mainGlobals "WHOLE_STRIDE" = some (some (.int 65536 t0)))
    (nrec : PySem.W.nsIn K mainGlobals "{}" = some none)
    : ∃ fd : FuncData, (∀ (s : Shared) (v : Value), BindsTo s fd ⟨[v], []⟩ [("script", v)]) ∧ ∀ base : Heap, K.In base → base.Ns mainGlobals mg → FnOk P w K mg base CX0 4 fa fd ["script"] (spF K 1 S_law) := by
  have T0 : Cls K C0 := ⟨cg0, ch0, co0, cs0⟩
  have FC : Flds K := ⟨trivial, nrec, FldC.of ca0 T0 cf0_0, FldC.of ca0 T0 cf0_1, FldC.of ca0 T0 cf0_2⟩
  have F_Turns___init__ : Fk K mg "Turns" "Turns.__init__" s_Turns___init__ ["self"] := Fk.of X G ca0 cm0 ck0 a0 i0 l0 c0 k0 (fun _ _ _ _ _ _ us hl => match us, hl with | [_], _ => rfl)
  have F_Turns_remove : Fm K "Turns" "remove" "Turns.remove" s_Turns_remove ["self", "stream"] := Fm.of ca0 T0 a1 i1 l1 c1 k1 (fun _ _ _ _ _ _ us hl => match us, hl with | [_, _], _ => rfl)
  have F_Turns_set_weight : Fm K "Turns" "set_weight" "Turns.set_weight" s_Turns_set_weight ["self", "stream", "weight"] := Fm.of ca0 T0 a2 i2 l2 c2 k2 (fun _ _ _ _ _ _ us hl => match us, hl with | [_, _, _], _ => rfl)
  have F_Turns_choose : Fm K "Turns" "choose" "Turns.choose" s_Turns_choose ["self", "ready"] := Fm.of ca0 T0 a3 i3 l3 c3 k3 (fun _ _ _ _ _ _ us hl => match us, hl with | [_, _], _ => rfl)
  have F_Turns_mark : Fm K "Turns" "mark" "Turns.mark" s_Turns_mark ["self", "stream"] := Fm.of ca0 T0 a4 i4 l4 c4 k4 (fun _ _ _ _ _ _ us hl => match us, hl with | [_, _], _ => rfl)
  have F_Turns_known : Fm K "Turns" "known" "Turns.known" s_Turns_known ["self"] := Fm.of ca0 T0 a5 i5 l5 c5 k5 (fun _ _ _ _ _ _ us hl => match us, hl with | [_], _ => rfl)
  have F_Turns_clock : Fm K "Turns" "clock" "Turns.clock" s_Turns_clock ["self"] := Fm.of ca0 T0 a6 i6 l6 c6 k6 (fun _ _ _ _ _ _ us hl => match us, hl with | [_], _ => rfl)
  have F__law_draw : Fx K mg "_law_draw" s__law_draw ["script"] := Fx.of X G a7 l7 c7 k7 (fun _ _ _ _ _ _ us hl => match us, hl with | [_], _ => rfl)
  have F__law_take : Fx K mg "_law_take" s__law_take ["draw", "many"] := Fx.of X G a8 l8 c8 k8 (fun _ _ _ _ _ _ us hl => match us, hl with | [_, _], _ => rfl)
  have F__law_choose : Fx K mg "_law_choose" s__law_choose ["state", "ready"] := Fx.of X G a9 l9 c9 k9 (fun _ _ _ _ _ _ us hl => match us, hl with | [_, _], _ => rfl)
  have F_Turns_add : Fm K "Turns" "add" "Turns.add" s_Turns_add ["self", "stream", "weight"] := Fm.of ca0 T0 a10 i10 l10 c10 k10 (fun _ _ _ _ _ _ us hl => match us, hl with | [_, _, _], _ => rfl)
  have F__law_weight : Fx K mg "_law_weight" s__law_weight ["draw"] := Fx.of X G a11 l11 c11 k11 (fun _ _ _ _ _ _ us hl => match us, hl with | [_], _ => rfl)
  have F__law_turn : Fx K mg "_law_turn" s__law_turn ["draw", "turns", "state"] := Fx.of X G a12 l12 c12 k12 (fun _ _ _ _ _ _ us hl => match us, hl with | [_, _, _], _ => rfl)
  have B : Blt mg := ⟨trivial, PySem.W.mg_none_of X G b0, PySem.W.mg_none_of X G b1, PySem.W.mg_none_of X G b2, PySem.W.mg_none_of X G b3, PySem.W.mg_none_of X G b4, PySem.W.mg_none_of X G b5, PySem.W.mg_none_of X G b6⟩
  have C : Cns K mg := ⟨trivial, Cn.int X G n0⟩
  refine law_of X G hfa a13 l13 c13 k13 (fun s v => .of_eq rfl) (fun base f fd F => ?_)
  have k_Turns : Mkr P w K mg base 1 "Turns" 1 S_Turns___init__ := cl_Turns___init__ B C FC F_Turns___init__ 
  have m_Turns_remove : Mt P w K mg base 1 "Turns" "remove" 2 S_Turns_remove := cl_Turns_remove B C FC F_Turns_remove 
  have m_Turns_set_weight : Mt P w K mg base 1 "Turns" "set_weight" 3 S_Turns_set_weight := cl_Turns_set_weight B C FC F_Turns_set_weight 
  have m_Turns_choose : Mt P w K mg base 1 "Turns" "choose" 2 S_Turns_choose := cl_Turns_choose B C FC F_Turns_choose 
  have m_Turns_mark : Mt P w K mg base 1 "Turns" "mark" 2 S_Turns_mark := cl_Turns_mark B C FC F_Turns_mark 
  have m_Turns_known : Mt P w K mg base 1 "Turns" "known" 1 S_Turns_known := cl_Turns_known B C FC F_Turns_known 
  have m_Turns_clock : Mt P w K mg base 1 "Turns" "clock" 1 S_Turns_clock := cl_Turns_clock B C FC F_Turns_clock 
  have c__law_draw : Cl P w K mg base 1 "_law_draw" 1 S__law_draw := cl__law_draw B C FC F__law_draw 
  have c__law_take : Cl P w K mg base 1 "_law_take" 2 S__law_take := cl__law_take B C FC F__law_take 
  have c__law_choose : Cl P w K mg base 1 "_law_choose" 2 S__law_choose := cl__law_choose B C FC F__law_choose 
  have m_Turns_add : Mt P w K mg base 2 "Turns" "add" 3 S_Turns_add := cl_Turns_add B C FC F_Turns_add m_Turns_set_weight
  have c__law_weight : Cl P w K mg base 2 "_law_weight" 1 S__law_weight := cl__law_weight B C FC F__law_weight c__law_take
  have c__law_turn : Cl P w K mg base 3 "_law_turn" 3 S__law_turn := cl__law_turn B C FC F__law_turn c__law_take m_Turns_remove c__law_weight m_Turns_set_weight m_Turns_choose c__law_choose m_Turns_add
  exact fn_ok F sc_law fun cdv A outer s H E hr => body_law B C FC c__law_draw k_Turns c__law_take c__law_turn m_Turns_known m_Turns_clock m_Turns_mark f cdv A outer s H E hr
end ownanswer_k33_turns_by_marks
set_option maxRecDepth 100000 in
set_option maxHeartbeats 0 in
theorem PySem.Challenge.cw_ownanswer_k33_turns_by_marks_holds : PySem.Challenge.rw_ownanswer_k33_turns_by_marks.Holds := by
  w_on; o_law; k_head; (case hw => w_witness2)
  k_fill
  refine L2.walk_of (l := PySem.Challenge.rw_ownanswer_k33_turns_by_marks) (n := 63) (k := 4) (x := "script") (CX := fun _ => L2.CX0) (sp := fun w => Fw.spF _ 1 ownanswer_k33_turns_by_marks.S_law) rfl (by decide) rfl ⟨rfl, by decide, by decide⟩ (fun w h Y => PySem.W.kIn_of Y) ?F (fun _ _ a ns hl _ hS => Fw.sp_law hS (ownanswer_k33_turns_by_marks.law_true ns hl)) (fun _ _ _ _ _ h => h)
  case F =>
    intro w mg fa h KX G hmg
    refine' ownanswer_k33_turns_by_marks.all_mk KX G hmg ?ca0 ?cg0 ?ch0 ?co0 ?cs0 ?cm0 ?ck0 ?cf0_0 ?cf0_1 ?cf0_2 ?a0 ?i0 ?l0 ?c0 ?k0 ?a1 ?i1 ?l1 ?c1 ?k1 ?a2 ?i2 ?l2 ?c2 ?k2 ?a3 ?i3 ?l3 ?c3 ?k3 ?a4 ?i4 ?l4 ?c4 ?k4 ?a5 ?i5 ?l5 ?c5 ?k5 ?a6 ?i6 ?l6 ?c6 ?k6 ?a7 ?l7 ?c7 ?k7 ?a8 ?l8 ?c8 ?k8 ?a9 ?l9 ?c9 ?k9 ?a10 ?i10 ?l10 ?c10 ?k10 ?a11 ?l11 ?c11 ?k11 ?a12 ?l12 ?c12 ?k12 ?a13 ?l13 ?c13 ?k13 ?b0 ?b1 ?b2 ?b3 ?b4 ?b5 ?b6 ?n0 ?nrec
    (case ca0 => k_is)
    (case cg0 => k_is)
    (case ch0 => k_is)
    (case co0 => k_is)
    (case cs0 => k_is)
    (case cm0 => k_is)
    (case ck0 => k_is)
    (case cf0_0 => k_is)
    (case cf0_1 => k_is)
    (case cf0_2 => k_is)
    (case a0 => k_is)
    (case i0 => k_is)
    (case l0 => k_is)
    (case c0 => k_is)
    (case k0 => k_is)
    (case a1 => k_is)
    (case i1 => k_is)
    (case l1 => k_is)
    (case c1 => k_is)
    (case k1 => k_is)
    (case a2 => k_is)
    (case i2 => k_is)
    (case l2 => k_is)
    (case c2 => k_is)
    (case k2 => k_is)
    (case a3 => k_is)
    (case i3 => k_is)
    (case l3 => k_is)
    (case c3 => k_is)
    (case k3 => k_is)
    (case a4 => k_is)
    (case i4 => k_is)
    (case l4 => k_is)
    (case c4 => k_is)
    (case k4 => k_is)
    (case a5 => k_is)
    (case i5 => k_is)
    (case l5 => k_is)
    (case c5 => k_is)
    (case k5 => k_is)
    (case a6 => k_is)
    (case i6 => k_is)
    (case l6 => k_is)
    (case c6 => k_is)
    (case k6 => k_is)
    (case a7 => k_is)
    (case l7 => k_is)
    (case c7 => k_is)
    (case k7 => k_is)
    (case a8 => k_is)
    (case l8 => k_is)
    (case c8 => k_is)
    (case k8 => k_is)
    (case a9 => k_is)
    (case l9 => k_is)
    (case c9 => k_is)
    (case k9 => k_is)
    (case a10 => k_is)
    (case i10 => k_is)
    (case l10 => k_is)
    (case c10 => k_is)
    (case k10 => k_is)
    (case a11 => k_is)
    (case l11 => k_is)
    (case c11 => k_is)
    (case k11 => k_is)
    (case a12 => k_is)
    (case l12 => k_is)
    (case c12 => k_is)
    (case k12 => k_is)
    (case a13 => k_is)
    (case l13 => k_is)
    (case c13 => k_is)
    (case k13 => k_is)
    (case b0 => k_is)
    (case b1 => k_is)
    (case b2 => k_is)
    (case b3 => k_is)
    (case b4 => k_is)
    (case b5 => k_is)
    (case b6 => k_is)
    (case n0 => k_is)
    (case nrec => k_is)
