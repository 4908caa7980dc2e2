import PyProof.Rows.All
import Wide.All
import OpenK.AllK
import Wide.FinOn
import HandS.Base
import HandS.Call
import HandS.List
import HandS.Comp
import HandS.Iter
import HandS.Words
import HandS.Exc
import HandS.ExcOwn
import HandS.Defaults
import HandS.Walk
import HandS.Wide
import HandS.WideBits
import HandS.Conv
import HandS.RevRange
import HandS.IsInst
import HandS.Zip
import HandS.TryOnly
import HandS.ExcField
import HandS.Head0
import HandS.Head1
import HandS.Head2
import HandS.HeadEnd
import HandS.HeadHook1
import HandS.HeadHook2
import PySem.Challenge.RW_sealgrove_k03_the_small_core
set_option Elab.async false
set_option linter.all false
set_option maxRecDepth 100000
set_option maxHeartbeats 2000000
namespace S3
open PySem PySem.Spec PyProof.Rows L2

/-- plain data -/
inductive D where
  | non | bl (b : Bool) | int (i : Int) | str (s : Str)
  | lst (ds : List D) | frl (ds : List D) | tup (ds : List D)
  | obj (C : Addr) (fs : List (Str × D))
  | raw (v : V)

abbrev Own := Addr → Prop
/-- a tuple of the written part -/
def StT (K : PySem.W.Frag) (a : Addr) (xs : List V) : Prop :=
  ∃ (o : Obj) (its : Array Value) (n : Nat), K.lookup a = some o ∧ o.cls = .type "tuple" ∧ o.data = .seq its n ∧ its.size ≤ sizeLine ∧ Vals xs its.toList
/-- a list of the written part -/
def StL (K : PySem.W.Frag) (a : Addr) (xs : List V) : Prop :=
  ∃ (o : Obj) (its : Array Value) (n : Nat), K.lookup a = some o ∧ o.cls = .type "list" ∧ o.dict = none ∧ o.data = .seq its n ∧ its.size ≤ sizeLine ∧ Vals xs its.toList
theorem StT.sq {K : PySem.W.Frag} {H : Hp} {a : Addr} {xs : List V} (h : StT K a xs) : SqT K H a xs := .inr h

mutual
def Rep (K : PySem.W.Frag) (S : Own) (H : Hp) : D → V → Prop
  | .non, v => v = .non
  | .bl b, v => v = .bl b
  | .int i, v => v = .int i
  | .str s, v => v = .str s
  | .raw u, v => v = u
  | .lst ds, v => ∃ a xs, v = .ref a ∧ (¬ S a ∧ H a = some (.lst xs)) ∧ RepL K S H ds xs
  | .frl ds, v => ∃ a xs, v = .ref a ∧ ((∃ o, ¬ S a ∧ H a = some (.frz o (.lst xs))) ∨ StL K a xs) ∧ RepL K S H ds xs
  | .tup ds, v => ∃ a xs, v = .ref a ∧ ((¬ S a ∧ H a = some (.tup xs)) ∨ StT K a xs) ∧ RepL K S H ds xs
  | .obj C fs, v => ∃ a dx xs, v = .ref a ∧ (¬ S a ∧ H a = some (.ins C dx xs)) ∧ RepF K S H fs xs
def RepL (K : PySem.W.Frag) (S : Own) (H : Hp) : List D → List V → Prop
  | [], xs => xs = []
  | d :: ds, xs => ∃ x r, xs = x :: r ∧ Rep K S H d x ∧ RepL K S H ds r
def RepF (K : PySem.W.Frag) (S : Own) (H : Hp) : List (Str × D) → List (Str × V) → Prop
  | [], xs => xs = []
  | (f, d) :: fs, xs => ∃ x r, xs = (f, x) :: r ∧ Rep K S H d x ∧ RepF K S H fs r
end

/-- what was not owned stands -/
def Lt (S : Own) (H : Hp) (S' : Own) (H' : Hp) : Prop := ∀ a o, ¬ S a → H a = some o → ¬ S' a ∧ H' a = some o
theorem Lt.refl {S : Own} {H : Hp} : Lt S H S H := fun _ _ s e => ⟨s, e⟩
theorem Lt.trans {S S' S'' : Own} {H H' H'' : Hp} (h : Lt S H S' H') (k : Lt S' H' S'' H'') : Lt S H S'' H'' := fun a o s e => let ⟨s', e'⟩ := h a o s e; k a o s' e'
theorem Lt.same {S : Own} {H H' : Hp} (h : Same H H') : Lt S H S H' := fun a o s e => ⟨s, h a o e⟩
theorem Lt.less {S S' : Own} {H : Hp} (h : ∀ a, S' a → S a) : Lt S H S' H := fun a _ s e => ⟨fun q => s (h a q), e⟩
section
variable {K : PySem.W.Frag} {S S' : Own} {H H' : Hp}
mutual
theorem Rep.conv (h : Lt S H S' H') : ∀ {d : D} {v : V}, Rep K S H d v → Rep K S' H' d v
  | .non, _, r => r
  | .bl _, _, r => r
  | .int _, _, r => r
  | .str _, _, r => r
  | .raw _, _, r => r
  | .lst ds, _, ⟨a, xs, e, ⟨s, q⟩, r⟩ => ⟨a, xs, e, h a _ s q, RepL.conv h r⟩
  | .frl ds, _, ⟨a, xs, e, .inl ⟨o, s, q⟩, r⟩ => ⟨a, xs, e, .inl ⟨o, h a _ s q⟩, RepL.conv h r⟩
  | .frl ds, _, ⟨a, xs, e, .inr q, r⟩ => ⟨a, xs, e, .inr q, RepL.conv h r⟩
  | .tup ds, _, ⟨a, xs, e, .inl ⟨s, q⟩, r⟩ => ⟨a, xs, e, .inl (h a _ s q), RepL.conv h r⟩
  | .tup ds, _, ⟨a, xs, e, .inr q, r⟩ => ⟨a, xs, e, .inr q, RepL.conv h r⟩
  | .obj C fs, _, ⟨a, dx, xs, e, ⟨s, q⟩, r⟩ => ⟨a, dx, xs, e, h a _ s q, RepF.conv h r⟩
theorem RepL.conv (h : Lt S H S' H') : ∀ {ds : List D} {xs : List V}, RepL K S H ds xs → RepL K S' H' ds xs
  | [], _, r => r
  | d :: ds, _, ⟨x, t, e, r, q⟩ => ⟨x, t, e, Rep.conv h r, RepL.conv h q⟩
theorem RepF.conv (h : Lt S H S' H') : ∀ {fs : List (Str × D)} {xs : List (Str × V)}, RepF K S H fs xs → RepF K S' H' fs xs
  | [], _, r => r
  | (f, d) :: ds, _, ⟨x, t, e, r, q⟩ => ⟨x, t, e, Rep.conv h r, RepF.conv h q⟩
end
theorem RepL.length : ∀ {ds : List D} {xs : List V}, RepL K S H ds xs → xs.length = ds.length
  | [], _, r => by have r : _ = [] := r; rw [r]; rfl
  | d :: ds, _, ⟨x, t, e, _, q⟩ => by rw [e, List.length_cons, List.length_cons, RepL.length q]
theorem RepL.get : ∀ {ds : List D} {xs : List V}, RepL K S H ds xs → ∀ {i : Nat} {d : D}, ds[i]? = some d → ∃ x, xs[i]? = some x ∧ Rep K S H d x
  | [], _, _, _, _, h => by simp at h
  | d :: ds, _, ⟨x, t, e, r, _⟩, 0, _, h => by
    have h : some d = some _ := h
    cases h; subst e; exact ⟨x, rfl, r⟩
  | d :: ds, _, ⟨x, t, e, _, q⟩, i + 1, _, h => by
    subst e
    exact RepL.get q (i := i) h
theorem RepL.append : ∀ {ds es : List D} {xs ys : List V}, RepL K S H ds xs → RepL K S H es ys → RepL K S H (ds ++ es) (xs ++ ys)
  | [], _, _, _, r, q => by have r : _ = [] := r; subst r; exact q
  | d :: ds, _, _, _, ⟨x, t, e, r, p⟩, q => by subst e; exact ⟨x, _, rfl, r, RepL.append p q⟩
theorem RepL.take : ∀ {ds : List D} {xs : List V} (n : Nat), RepL K S H ds xs → RepL K S H (ds.take n) (xs.take n)
  | _, _, 0, _ => rfl
  | [], _, n + 1, r => by have r : _ = [] := r; subst r; rfl
  | d :: ds, _, n + 1, ⟨x, t, e, r, p⟩ => by subst e; exact ⟨x, _, rfl, r, RepL.take n p⟩
theorem RepL.drop : ∀ {ds : List D} {xs : List V} (n : Nat), RepL K S H ds xs → RepL K S H (ds.drop n) (xs.drop n)
  | _, _, 0, r => r
  | [], _, n + 1, r => by have r : _ = [] := r; subst r; rfl
  | d :: ds, _, n + 1, ⟨x, t, e, r, p⟩ => by subst e; exact RepL.drop n p
theorem RepL.set : ∀ {ds : List D} {xs : List V} (n : Nat) {d : D} {x : V}, RepL K S H ds xs → Rep K S H d x → RepL K S H (ds.set n d) (xs.set n x)
  | [], _, n, _, _, r, _ => by have r : _ = [] := r; subst r; rfl
  | d :: ds, _, 0, _, _, ⟨x, t, e, r, p⟩, q => by subst e; exact ⟨_, _, rfl, q, p⟩
  | d :: ds, _, n + 1, _, _, ⟨x, t, e, r, p⟩, q => by subst e; exact ⟨_, _, rfl, r, RepL.set n p q⟩
theorem RepL.one {d : D} {x : V} (r : Rep K S H d x) : RepL K S H [d] [x] := ⟨x, [], rfl, r, rfl⟩
theorem RepL.dropLast {ds : List D} {xs : List V} (r : RepL K S H ds xs) : RepL K S H ds.dropLast xs.dropLast := by
  rw [List.dropLast_eq_take, List.dropLast_eq_take, r.length]; exact RepL.take _ r
theorem RepL.reverse : ∀ {ds : List D} {xs : List V}, RepL K S H ds xs → RepL K S H ds.reverse xs.reverse
  | [], _, r => by have r : _ = [] := r; subst r; rfl
  | d :: ds, _, ⟨x, t, e, r, p⟩ => by subst e; rw [List.reverse_cons, List.reverse_cons]; exact RepL.append (RepL.reverse p) (RepL.one r)
/-- lists of ints -/
abbrev intsD (ns : List Int) : List D := ns.map D.int
theorem RepL.ints : ∀ {ns : List Int} {xs : List V}, RepL K S H (intsD ns) xs → xs = ns.map V.int
  | [], _, r => r
  | n :: ns, _, ⟨x, t, e, r, q⟩ => by
    have r : x = V.int n := r
    subst e; subst r
    rw [RepL.ints q] <;> rfl
theorem RepL.of_ints : ∀ {ns : List Int}, RepL K S H (intsD ns) (ns.map V.int)
  | [] => rfl
  | n :: ns => ⟨_, _, rfl, rfl, RepL.of_ints⟩
theorem RepF.lookup : ∀ {fs : List (Str × D)} {xs : List (Str × V)}, RepF K S H fs xs → ∀ {f : Str} {d : D}, fs.lookup f = some d → ∃ x, xs.lookup f = some x ∧ Rep K S H d x
  | [], _, _, f, d, h => by cases h
  | (g, e) :: fs, _, ⟨x, t, q, r, p⟩, f, d, h => by
    subst q
    have h1 : (match f == g with | true => some e | false => fs.lookup f) = some d := h
    show ∃ y, (match f == g with | true => some x | false => t.lookup f) = some y ∧ _
    cases c : (f == g) with
    | true =>
      rw [c] at h1
      cases h1
      exact ⟨x, rfl, r⟩
    | false =>
      rw [c] at h1
      exact RepF.lookup p h1
theorem RepF.none : ∀ {fs : List (Str × D)} {xs : List (Str × V)}, RepF K S H fs xs → ∀ {f : Str}, fs.lookup f = none → xs.lookup f = none
  | [], _, r, f, h => by have r : _ = [] := r; subst r; rfl
  | (g, e) :: fs, _, ⟨x, t, q, r, p⟩, f, h => by
    subst q
    have h1 : (match f == g with | true => some e | false => fs.lookup f) = Option.none := h
    show (match f == g with | true => some x | false => t.lookup f) = Option.none
    cases c : (f == g) with
    | true => rw [c] at h1; cases h1
    | false => rw [c] at h1; exact RepF.none p h1
end

/-! ### what the names hold -/
inductive SK where
  | any | val (d : D) | own (ds : List D) | slf (C : Addr) (fs : List (Str × D))
abbrev G3 := List SK
structure Bs where
  H0 : Hp
  S0 : Own
  SL : Own
  HL : Hp
def SlotR (K : PySem.W.Frag) (H0 : Hp) (S : Own) (H : Hp) : SK → Option V → Prop
  | .any, _ => True
  | .val d, o => ∃ v, o = some v ∧ Rep K S H d v
  | .own ds, o => ∃ a xs, o = some (.ref a) ∧ S a ∧ H0 a = none ∧ H a = some (.lst xs) ∧ RepL K S H ds xs
  | .slf C fs, o => ∃ a dx xs, o = some (.ref a) ∧ S a ∧ H0 a = none ∧ H a = some (.ins C dx xs) ∧ RepF K S H fs xs
def isOwn : SK → Bool
  | .own _ => true
  | .slf _ _ => true
  | _ => false
structure EnvR (K : PySem.W.Frag) (B : Bs) (S : Own) (H : Hp) (σ : L2.St) (Γ : G3) : Prop where
  wf : ∀ a, S a → ∃ o, H a = some o
  wf0 : ∀ a, B.S0 a → ∃ o, B.H0 a = some o
  sub : ∀ a, B.S0 a → S a
  same : Same B.H0 H
  later : Lt B.SL B.HL S H
  len : σ.length = Γ.length
  at_ : ∀ (i : Nat) (k : SK), Γ[i]? = some k → ∃ o, σ[i]? = some o ∧ SlotR K B.H0 S H k o
  dis : ∀ (i j : Nat) (k l : SK) (a : Addr), Γ[i]? = some k → Γ[j]? = some l → isOwn k = true → isOwn l = true → σ[i]? = some (some (.ref a)) → σ[j]? = some (some (.ref a)) → i = j
section
variable {K : PySem.W.Frag} {B : Bs} {S : Own} {H H' : Hp} {σ : L2.St} {Γ : G3}
theorem SlotR.same {k : SK} {o : Option V} {H0 : Hp} (r : SlotR K H0 S H k o) (h : Same H H') : SlotR K H0 S H' k o := by
  cases k with
  | any => trivial
  | val d => obtain ⟨v, e, r⟩ := r; exact ⟨v, e, r.conv (.same h)⟩
  | own ds => obtain ⟨a, xs, e, s, n, q, r⟩ := r; exact ⟨a, xs, e, s, n, h _ _ q, r.conv (.same h)⟩
  | slf C fs => obtain ⟨a, dx, xs, e, s, n, q, r⟩ := r; exact ⟨a, dx, xs, e, s, n, h _ _ q, r.conv (.same h)⟩
theorem EnvR.to (E : EnvR K B S H σ Γ) (h : Same H H') : EnvR K B S H' σ Γ where
  wf := fun a s => let ⟨o, e⟩ := E.wf a s; ⟨o, h a o e⟩
  wf0 := E.wf0
  sub := E.sub
  same := E.same.trans h
  later := E.later.trans (.same h)
  len := E.len
  at_ := fun i k e => let ⟨o, q, r⟩ := E.at_ i k e; ⟨o, q, r.same h⟩
  dis := E.dis
theorem EnvR.fresh (E : EnvR K B S H σ Γ) {p : Addr} (n : H p = none) : ¬ S p := fun s => by
  obtain ⟨o, e⟩ := E.wf p s
  rw [n] at e; cases e
theorem EnvR.fresh0 (E : EnvR K B S H σ Γ) {p : Addr} (n : H p = none) : B.H0 p = none := by
  cases e : B.H0 p with
  | none => rfl
  | some o => have q := E.same p o e; rw [n] at q; cases q
/-- the base of a loop -/
def Bs.here (B : Bs) (S : Own) (H : Hp) : Bs := { B with SL := S, HL := H }
theorem EnvR.snap (E : EnvR K B S H σ Γ) : EnvR K (B.here S H) S H σ Γ := ⟨E.wf, E.wf0, E.sub, E.same, .refl, E.len, E.at_, E.dis⟩
theorem EnvR.unsnap {S1 : Own} {H1 : Hp} (L : Lt B.SL B.HL S1 H1) (E : EnvR K (B.here S1 H1) S H σ Γ) : EnvR K B S H σ Γ := ⟨E.wf, E.wf0, E.sub, E.same, L.trans E.later, E.len, E.at_, E.dis⟩
/-- a name is stored -/
theorem EnvR.store (E : EnvR K B S H σ Γ) {i : Nat} {v : V} {d : D} (r : Rep K S H d v) : EnvR K B S H (σ.set i (some v)) (Γ.set i (.val d)) where
  wf := E.wf
  wf0 := E.wf0
  sub := E.sub
  same := E.same
  later := E.later
  len := by rw [List.length_set, List.length_set]; exact E.len
  at_ := fun j k e => by
    by_cases hj : i = j
    · subst hj
      have hl : i < Γ.length := by
        have := (List.getElem?_eq_some_iff.mp e).1
        rwa [List.length_set] at this
      rw [List.getElem?_set_self hl] at e
      cases e
      exact ⟨_, List.getElem?_set_self (by rw [E.len]; exact hl), v, rfl, r⟩
    · rw [List.getElem?_set_ne hj] at e
      obtain ⟨o, q, s⟩ := E.at_ j k e
      exact ⟨o, by rw [List.getElem?_set_ne hj]; exact q, s⟩
  dis := fun j l k k' a e1 e2 o1 o2 s1 s2 => by
    have hj : i ≠ j := fun z => by
      subst z
      have hl : i < Γ.length := by
        have := (List.getElem?_eq_some_iff.mp e1).1
        rwa [List.length_set] at this
      rw [List.getElem?_set_self hl] at e1
      cases e1; cases o1
    have hk : i ≠ l := fun z => by
      subst z
      have hl : i < Γ.length := by
        have := (List.getElem?_eq_some_iff.mp e2).1
        rwa [List.length_set] at this
      rw [List.getElem?_set_self hl] at e2
      cases e2; cases o2
    rw [List.getElem?_set_ne hj] at e1 s1
    rw [List.getElem?_set_ne hk] at e2 s2
    exact E.dis j l k k' a e1 e2 o1 o2 s1 s2
/-- a slot is forgotten, or is known less -/
theorem EnvR.drop (E : EnvR K B S H σ Γ) (i : Nat) : EnvR K B S H σ (Γ.set i .any) where
  wf := E.wf
  wf0 := E.wf0
  sub := E.sub
  same := E.same
  later := E.later
  len := by rw [List.length_set]; exact E.len
  at_ := fun j k e => by
    by_cases hj : i = j
    · subst hj
      have hl : i < Γ.length := by
        have := (List.getElem?_eq_some_iff.mp e).1
        rwa [List.length_set] at this
      rw [List.getElem?_set_self hl] at e
      cases e
      have hs : i < σ.length := by rw [E.len]; exact hl
      exact ⟨σ[i], List.getElem?_eq_getElem hs, trivial⟩
    · rw [List.getElem?_set_ne hj] at e
      exact E.at_ j k e
  dis := fun j l k k' a e1 e2 o1 o2 s1 s2 => by
    have hj : i ≠ j := fun z => by
      subst z
      have hl : i < Γ.length := by
        have := (List.getElem?_eq_some_iff.mp e1).1
        rwa [List.length_set] at this
      rw [List.getElem?_set_self hl] at e1
      cases e1; cases o1
    have hk : i ≠ l := fun z => by
      subst z
      have hl : i < Γ.length := by
        have := (List.getElem?_eq_some_iff.mp e2).1
        rwa [List.length_set] at this
      rw [List.getElem?_set_self hl] at e2
      cases e2; cases o2
    rw [List.getElem?_set_ne hj] at e1
    rw [List.getElem?_set_ne hk] at e2
    exact E.dis j l k k' a e1 e2 o1 o2 s1 s2
/-- weaker words: each slot as it is, or nothing -/
def Weak : G3 → G3 → Prop
  | [], [] => True
  | k :: r, l :: s => (l = k ∨ l = .any) ∧ Weak r s
  | _, _ => False
theorem Weak.at_ : ∀ {Γ Γ' : G3}, Weak Γ Γ' → Γ.length = Γ'.length ∧ ∀ (i : Nat) (k : SK), Γ'[i]? = some k → (Γ[i]? = some k ∨ k = .any)
  | [], [], _ => ⟨rfl, fun i k e => by simp at e⟩
  | k :: r, l :: s, ⟨h, t⟩ => by
    obtain ⟨h1, h2⟩ := Weak.at_ t
    refine ⟨by rw [List.length_cons, List.length_cons, h1], fun i m e => ?_⟩
    cases i with
    | zero =>
      have e : some l = some m := e
      cases e
      rcases h with h | h
      · exact .inl (by rw [h]; rfl)
      · exact .inr h
    | succ i => exact h2 i m e
  | [], _ :: _, h => h.elim
  | _ :: _, [], h => h.elim
theorem EnvR.weak {Γ' : G3} (E : EnvR K B S H σ Γ) (w : Weak Γ Γ') : EnvR K B S H σ Γ' := by
  obtain ⟨hl, ha⟩ := w.at_
  refine ⟨E.wf, E.wf0, E.sub, E.same, E.later, by rw [E.len, hl], fun i k e => ?_, fun i j k l a e1 e2 o1 o2 s1 s2 => ?_⟩
  · rcases ha i k e with q | q
    · exact E.at_ i k q
    · subst q
      have h1 : i < Γ'.length := (List.getElem?_eq_some_iff.mp e).1
      have hs : i < σ.length := by rw [E.len, hl]; exact h1
      exact ⟨σ[i], List.getElem?_eq_getElem hs, trivial⟩
  · have q1 : Γ[i]? = some k := (ha i k e1).resolve_right fun z => by subst z; cases o1
    have q2 : Γ[j]? = some l := (ha j l e2).resolve_right fun z => by subst z; cases o2
    exact E.dis i j k l a q1 q2 o1 o2 s1 s2
/-- a new list is named and owned -/
theorem EnvR.newOwn (E : EnvR K B S H σ Γ) {i : Nat} {p : Addr} {xs : List V} {ds : List D} (n : H p = none) (r : RepL K S H ds xs) :
    EnvR K B (fun a => S a ∨ a = p) (upd H p (.lst xs)) (σ.set i (some (.ref p))) (Γ.set i (.own ds)) := by
  have sm : Same H (upd H p (.lst xs)) := fun b o e => by rw [upd_ne (ne_of_none e n)]; exact e
  have lt : Lt S H (fun a => S a ∨ a = p) (upd H p (.lst xs)) := fun a o s e => ⟨fun q => q.elim s (fun z => by rw [z, n] at e; cases e), sm a o e⟩
  have old : ∀ (k : SK) (o : Option V), SlotR K B.H0 S H k o → SlotR K B.H0 (fun a => S a ∨ a = p) (upd H p (.lst xs)) k o := fun k o s => by
    cases k with
    | any => trivial
    | val d => obtain ⟨v, e, r⟩ := s; exact ⟨v, e, r.conv lt⟩
    | own ds => obtain ⟨a, xs, e, s, n, q, r⟩ := s; exact ⟨a, xs, e, .inl s, n, sm _ _ q, r.conv lt⟩
    | slf C fs => obtain ⟨a, dx, xs, e, s, n, q, r⟩ := s; exact ⟨a, dx, xs, e, .inl s, n, sm _ _ q, r.conv lt⟩
  have noP : ∀ (j : Nat) (k : SK), Γ[j]? = some k → isOwn k = true → σ[j]? ≠ some (some (.ref p)) := fun j k e o q => by
    obtain ⟨ob, q', s⟩ := E.at_ j k e
    rw [q] at q'; cases q'
    cases k with
    | own ds => obtain ⟨a, xs, e, _, _, q, _⟩ := s; cases e; rw [n] at q; cases q
    | slf C fs => obtain ⟨a, dx, xs, e, _, _, q, _⟩ := s; cases e; rw [n] at q; cases q
    | any => cases o
    | val d => cases o
  have self : ∀ (j : Nat) (k : SK), i = j → (Γ.set i (.own ds))[j]? = some k → k = .own ds ∧ (σ.set i (some (.ref p)))[j]? = some (some (.ref p)) := fun j k hj e => by
    subst hj
    have hl : i < Γ.length := by
      have := (List.getElem?_eq_some_iff.mp e).1
      rwa [List.length_set] at this
    rw [List.getElem?_set_self hl] at e
    cases e
    exact ⟨rfl, List.getElem?_set_self (by rw [E.len]; exact hl)⟩
  refine ⟨fun a s => ?_, E.wf0, fun a s => .inl (E.sub a s), E.same.trans sm, E.later.trans lt, by rw [List.length_set, List.length_set]; exact E.len, fun j k e => ?_, fun j l k k' a e1 e2 o1 o2 s1 s2 => ?_⟩
  · rcases s with s | s
    · obtain ⟨o, e⟩ := E.wf a s; exact ⟨o, sm a o e⟩
    · exact ⟨_, by rw [s]; exact upd_same⟩
  · by_cases hj : i = j
    · obtain ⟨ek, es⟩ := self j k hj e
      subst ek
      exact ⟨_, es, p, xs, rfl, .inr rfl, E.fresh0 n, upd_same, r.conv lt⟩
    · rw [List.getElem?_set_ne hj] at e
      obtain ⟨o, q, s⟩ := E.at_ j k e
      exact ⟨o, by rw [List.getElem?_set_ne hj]; exact q, old k o s⟩
  · by_cases hj : i = j
    · by_cases hl : i = l
      · rw [← hj, ← hl]
      · obtain ⟨_, es⟩ := self j k hj e1
        rw [es] at s1; cases s1
        rw [List.getElem?_set_ne hl] at e2 s2
        exact absurd s2 (noP l k' e2 o2)
    · by_cases hl : i = l
      · obtain ⟨_, es⟩ := self l k' hl e2
        rw [es] at s2; cases s2
        rw [List.getElem?_set_ne hj] at e1 s1
        exact absurd s1 (noP j k e1 o1)
      · rw [List.getElem?_set_ne hj] at e1 s1
        rw [List.getElem?_set_ne hl] at e2 s2
        exact E.dis j l k k' a e1 e2 o1 o2 s1 s2
/-- an owned list changes -/
theorem EnvR.write (E : EnvR K B S H σ Γ) {i : Nat} {a : Addr} {ds es : List D} {ys : List V} (e : Γ[i]? = some (.own ds)) (s : σ[i]? = some (some (.ref a))) (r : RepL K S H es ys) :
    EnvR K B S (upd H a (.lst ys)) σ (Γ.set i (.own es)) := by
  obtain ⟨o, q, a', xs, eo, sa, na, ha, rd⟩ := E.at_ i _ e
  rw [s] at q; cases q; cases eo
  have lt : Lt S H S (upd H a (.lst ys)) := fun b u sb q => ⟨sb, by rw [upd_ne (fun z => sb (by rw [z]; exact sa))]; exact q⟩
  have hl : i < Γ.length := (List.getElem?_eq_some_iff.mp e).1
  refine ⟨fun b sb => ?_, E.wf0, E.sub, fun b u q => ?_, E.later.trans lt, by rw [List.length_set]; exact E.len, fun j k ek => ?_, fun j l k k' b e1 e2 o1 o2 s1 s2 => ?_⟩
  · by_cases hb : b = a
    · rw [hb]; exact ⟨_, upd_same⟩
    · obtain ⟨u, q⟩ := E.wf b sb; exact ⟨u, by rw [upd_ne hb]; exact q⟩
  · rw [upd_ne (fun z => by rw [z, na] at q; cases q)]; exact E.same b u q
  · by_cases hj : i = j
    · subst hj
      rw [List.getElem?_set_self hl] at ek
      cases ek
      exact ⟨_, s, a, ys, rfl, sa, na, upd_same, r.conv lt⟩
    · rw [List.getElem?_set_ne hj] at ek
      obtain ⟨ob, q, sl⟩ := E.at_ j k ek
      refine ⟨ob, q, ?_⟩
      cases k with
      | any => trivial
      | val d => obtain ⟨v, e, r⟩ := sl; exact ⟨v, e, r.conv lt⟩
      | own fs =>
        obtain ⟨b, zs, eb, sb, nb, hb, rb⟩ := sl
        have nba : b ≠ a := fun z => hj (E.dis i j _ _ a e ek rfl rfl s (by rw [q, eb, z]))
        exact ⟨b, zs, eb, sb, nb, by rw [upd_ne nba]; exact hb, rb.conv lt⟩
      | slf C fs =>
        obtain ⟨b, dx, zs, eb, sb, nb, hb, rb⟩ := sl
        have nba : b ≠ a := fun z => hj (E.dis i j _ _ a e ek rfl rfl s (by rw [q, eb, z]))
        exact ⟨b, dx, zs, eb, sb, nb, by rw [upd_ne nba]; exact hb, rb.conv lt⟩
  · have h1 : ∃ m, Γ[j]? = some m ∧ isOwn m = true := by
      by_cases hj : i = j
      · subst hj; exact ⟨_, e, rfl⟩
      · rw [List.getElem?_set_ne hj] at e1; exact ⟨k, e1, o1⟩
    have h2 : ∃ m, Γ[l]? = some m ∧ isOwn m = true := by
      by_cases hj : i = l
      · subst hj; exact ⟨_, e, rfl⟩
      · rw [List.getElem?_set_ne hj] at e2; exact ⟨k', e2, o2⟩
    obtain ⟨m, g1, p1⟩ := h1
    obtain ⟨m', g2, p2⟩ := h2
    exact E.dis j l m m' b g1 g2 p1 p2 s1 s2
/-- an owned list is let go: it stands from now on -/
theorem EnvR.freeze (E : EnvR K B S H σ Γ) {i : Nat} {ds : List D} (e : Γ[i]? = some (.own ds)) : ∃ S', EnvR K B S' H σ (Γ.set i (.val (.lst ds))) := by
  obtain ⟨o, q, a, xs, eo, sa, na, ha, rd⟩ := E.at_ i _ e
  subst eo
  have hl : i < Γ.length := (List.getElem?_eq_some_iff.mp e).1
  have lt : Lt S H (fun b => S b ∧ b ≠ a) H := .less fun b z => z.1
  refine ⟨fun b => S b ∧ b ≠ a, fun b sb => E.wf b sb.1, E.wf0, fun b s0 => ⟨E.sub b s0, fun z => ?_⟩, E.same, E.later.trans lt, by rw [List.length_set]; exact E.len, fun j k ek => ?_, fun j l k k' b e1 e2 o1 o2 s1 s2 => ?_⟩
  · obtain ⟨u, hu⟩ := E.wf0 b s0
    rw [z, na] at hu; cases hu
  · by_cases hj : i = j
    · subst hj
      rw [List.getElem?_set_self hl] at ek
      cases ek
      exact ⟨_, q, .ref a, rfl, a, xs, rfl, ⟨fun z => z.2 rfl, ha⟩, rd.conv lt⟩
    · rw [List.getElem?_set_ne hj] at ek
      obtain ⟨ob, q', sl⟩ := E.at_ j k ek
      refine ⟨ob, q', ?_⟩
      cases k with
      | any => trivial
      | val d => obtain ⟨v, e, r⟩ := sl; exact ⟨v, e, r.conv lt⟩
      | own fs =>
        obtain ⟨b, zs, eb, sb, nb, hb, rb⟩ := sl
        have nba : b ≠ a := fun z => hj (E.dis i j _ _ a e ek rfl rfl q (by rw [q', eb, z]))
        exact ⟨b, zs, eb, ⟨sb, nba⟩, nb, hb, rb.conv lt⟩
      | slf C fs =>
        obtain ⟨b, dx, zs, eb, sb, nb, hb, rb⟩ := sl
        have nba : b ≠ a := fun z => hj (E.dis i j _ _ a e ek rfl rfl q (by rw [q', eb, z]))
        exact ⟨b, dx, zs, eb, ⟨sb, nba⟩, nb, hb, rb.conv lt⟩
  · have hj : i ≠ j := fun z => by
      subst z
      rw [List.getElem?_set_self hl] at e1
      cases e1; cases o1
    have hk : i ≠ l := fun z => by
      subst z
      rw [List.getElem?_set_self hl] at e2
      cases e2; cases o2
    rw [List.getElem?_set_ne hj] at e1
    rw [List.getElem?_set_ne hk] at e2
    exact E.dis j l k k' b e1 e2 o1 o2 s1 s2
end
end S3

set_option Elab.async false
set_option linter.all false
set_option maxRecDepth 100000
set_option maxHeartbeats 2000000
namespace S3
open PySem PySem.Spec PyProof.Rows L2

/-! ### what is wanted ahead -/
def Xe (X : Cx) (e : Expr) : TE := fun σ H Q => ∀ pins s, Inv X pins σ H s → wpAny (model X.prog X.w) X.A (eval e X.env) (EP X pins σ Q) X.xe s
def Xt (X : Cx) (e : Expr) : TT := fun σ H Q => ∀ pins s, Inv X pins σ H s → wpAny (model X.prog X.w) X.A (isTrue e X.env (eval e X.env)) (TP X pins σ Q) X.xe s
def Xw (X : Cx) (e : Expr) : TT := fun σ H Q => ∀ whole pins s, Inv X pins σ H s → wpAny (model X.prog X.w) X.A (isTrue e X.env whole) (TP X pins σ Q) X.xe s
def Xa (X : Cx) (es : List Expr) : TA := fun σ H Q => ∀ pos pins s, Inv X pins σ H s → wpAny (model X.prog X.w) X.A (spliced (backTo pos (starEach es X.env))) (AP X pins σ Q) X.xe s
def Xs (X : Cx) (st : Stmt) : TS := fun D σ H => ∀ pins s, Inv X pins σ H s → wpAny (model X.prog X.w) X.A (exec st X.env) (SP X pins D) X.xe s
def Xss (X : Cx) (st : List Stmt) : TS := fun D σ H => ∀ pins s, Inv X pins σ H s → wpAny (model X.prog X.w) X.A (execs st X.env) (SP X pins D) X.xe s
def Xi (X : Cx) (tg iter : Expr) : TI := fun σ H R => ∀ pins s, Inv X pins σ H s → wpAny (model X.prog X.w) X.A (eval iter X.env) (fun v s1 => wpAny (model X.prog X.w) X.A (pyIter v) (PIE X pins σ tg R) X.xe s1) X.xe s
theorem xe_pe {X : Cx} {e : Expr} : PE X e (Xe X e) := ⟨fun pins s _ _ _ I h => h pins s I⟩
theorem xt_pt {X : Cx} {e : Expr} : PT X e (Xt X e) := ⟨fun pins s _ _ _ I h => h pins s I⟩
theorem xw_pw {X : Cx} {e : Expr} : PW X e (Xw X e) := ⟨fun wh pins s _ _ _ I h => h wh pins s I⟩
theorem xa_pa {X : Cx} {es : List Expr} : PA X es (Xa X es) := ⟨fun pos pins s _ _ _ I h => h pos pins s I⟩
theorem xs_ps {X : Cx} {st : Stmt} : PS X st (Xs X st) := ⟨fun pins s _ _ _ I h => h pins s I⟩
theorem xss_pss {X : Cx} {st : List Stmt} : PSs X st (Xss X st) := ⟨fun pins s _ _ _ I h => h pins s I⟩
theorem xi_pi {X : Cx} {tg iter : Expr} : PI X tg iter (Xi X tg iter) := ⟨fun pins s _ _ _ I h => h pins s I⟩
theorem PE.x {X : Cx} {e : Expr} {t : TE} (h : PE X e t) {σ : L2.St} {H : Hp} {Q : VK} (q : t σ H Q) : Xe X e σ H Q := fun pins s I => h.run pins s σ H Q I q
theorem PT.x {X : Cx} {e : Expr} {t : TT} (h : PT X e t) {σ : L2.St} {H : Hp} {Q : Bool → Hp → Prop} (q : t σ H Q) : Xt X e σ H Q := fun pins s I => h.run pins s σ H Q I q
theorem PW.x {X : Cx} {e : Expr} {t : TT} (h : PW X e t) {σ : L2.St} {H : Hp} {Q : Bool → Hp → Prop} (q : t σ H Q) : Xw X e σ H Q := fun wh pins s I => h.run wh pins s σ H Q I q
theorem PA.x {X : Cx} {es : List Expr} {t : TA} (h : PA X es t) {σ : L2.St} {H : Hp} {Q : List V → Hp → Prop} (q : t σ H Q) : Xa X es σ H Q := fun pos pins s I => h.run pos pins s σ H Q I q
theorem PS.x {X : Cx} {st : Stmt} {t : TS} (h : PS X st t) {σ : L2.St} {H : Hp} {D : Ends} (q : t D σ H) : Xs X st D σ H := fun pins s I => h.run pins s σ H D I q
theorem PSs.x {X : Cx} {st : List Stmt} {t : TS} (h : PSs X st t) {σ : L2.St} {H : Hp} {D : Ends} (q : t D σ H) : Xss X st D σ H := fun pins s I => h.run pins s σ H D I q
theorem PI.x {X : Cx} {tg iter : Expr} {t : TI} (h : PI X tg iter t) {σ : L2.St} {H : Hp} {R : It → Hp → Prop} (q : t σ H R) : Xi X tg iter σ H R := fun pins s I => h.run pins s σ H R I q

/-! ### judgements -/
def Ev (X : Cx) (Γ : G3) (e : Expr) (d : D) : Prop := ∀ (B : Bs) (S : Own) (σ : L2.St) (H : Hp), EnvR X.K B S H σ Γ → ∀ Q : VK, (∀ v H', EnvR X.K B S H' σ Γ → Same H H' → Rep X.K S H' d v → Q v H') → Xe X e σ H Q
def Et (X : Cx) (Γ : G3) (e : Expr) (b : Bool) : Prop := ∀ (B : Bs) (S : Own) (σ : L2.St) (H : Hp), EnvR X.K B S H σ Γ → ∀ Q : Bool → Hp → Prop, (∀ H', EnvR X.K B S H' σ Γ → Same H H' → Q b H') → Xt X e σ H Q
def Ew (X : Cx) (Γ : G3) (e : Expr) (b : Bool) : Prop := ∀ (B : Bs) (S : Own) (σ : L2.St) (H : Hp), EnvR X.K B S H σ Γ → ∀ Q : Bool → Hp → Prop, (∀ H', EnvR X.K B S H' σ Γ → Same H H' → Q b H') → Xw X e σ H Q
def Ea (X : Cx) (Γ : G3) (es : List Expr) (ds : List D) : Prop := ∀ (B : Bs) (S : Own) (σ : L2.St) (H : Hp), EnvR X.K B S H σ Γ → ∀ Q : List V → Hp → Prop, (∀ vs H', EnvR X.K B S H' σ Γ → Same H H' → RepL X.K S H' ds vs → Q vs H') → Xa X es σ H Q
theorem Ew.t {X : Cx} {Γ : G3} {e : Expr} {b : Bool} (h : Ew X Γ e b) : Et X Γ e b := fun B S σ H E Q q => PT.x (PW.pt xw_pw) (h B S σ H E Q q)
theorem Ev.cast {X : Cx} {Γ : G3} {e : Expr} {d d' : D} (h : Ev X Γ e d) (q : d = d') : Ev X Γ e d' := q ▸ h
theorem Et.cast {X : Cx} {Γ : G3} {e : Expr} {d d' : Bool} (h : Et X Γ e d) (q : d = d') : Et X Γ e d' := q ▸ h
structure Post where
  nx : G3 → Prop
  rt : D → Prop
  bk : G3 → Prop := fun _ => False
  ct : G3 → Prop := fun _ => False
  ex : Addr → G3 → Prop := fun _ _ => False
structure OutOk (K : PySem.W.Frag) (B : Bs) (W : WX) (P : Post) (D : Ends) : Prop where
  nx : ∀ Γ, P.nx Γ → ∀ S σ H, EnvR K B S H σ Γ → D.nx σ H
  rt : ∀ d, P.rt d → ∀ v H, Same B.H0 H → Rep K B.S0 H d v → D.rt v H
  bk : ∀ Γ, P.bk Γ → ∀ S σ H, EnvR K B S H σ Γ → D.bk σ H
  ct : ∀ Γ, P.ct Γ → ∀ S σ H, EnvR K B S H σ Γ → D.ct σ H
  ex : ∀ C Γ, P.ex C Γ → ∀ S σ H, EnvR K B S H σ Γ → W (.ref C) none σ H
def Bl (X : Cx) (W : WX) (Γ : G3) (sts : List Stmt) (P : Post) : Prop := ∀ (B : Bs) (S : Own) (σ : L2.St) (H : Hp), EnvR X.K B S H σ Γ → ∀ D, OutOk X.K B W P D → Xss X sts D σ H
def Sl (X : Cx) (W : WX) (Γ : G3) (st : Stmt) (P : Post) : Prop := ∀ (B : Bs) (S : Own) (σ : L2.St) (H : Hp), EnvR X.K B S H σ Γ → ∀ D, OutOk X.K B W P D → Xs X st D σ H
section
variable {X : Cx} {W : WX} {Γ : G3} {P : Post} {st : Stmt} {sts : List Stmt}
theorem bl_nil (h : P.nx Γ) : Bl X W Γ [] P := fun B S σ H E D O => PSs.x pss_nil (O.nx Γ h S σ H E)
theorem bl_cons {M : G3 → Prop} (h : Sl X W Γ st { P with nx := M }) (k : ∀ Γ1, M Γ1 → Bl X W Γ1 sts P) : Bl X W Γ (st :: sts) P := fun B S σ H E D O =>
  PSs.x (pss_cons xs_ps xss_pss) (h B S σ H E { D with nx := Xss X sts D } ⟨fun Γ1 m S1 σ1 H1 E1 => k Γ1 m B S1 σ1 H1 E1 D O, O.rt, O.bk, O.ct, O.ex⟩)
/-- the next words are known -/
theorem bl_seq {Γ1 : G3} (h : Sl X W Γ st { P with nx := fun G => G = Γ1 }) (k : Bl X W Γ1 sts P) : Bl X W Γ (st :: sts) P := bl_cons h fun _ e => by rw [e]; exact k
/-- it does not go on -/
theorem bl_end (h : Sl X W Γ st { P with nx := fun _ => False }) : Bl X W Γ (st :: sts) P := bl_cons h fun _ e => e.elim
theorem bl_one (h : Sl X W Γ st P) : Bl X W Γ [st] P := bl_cons (M := P.nx) h fun Γ1 m => bl_nil m
theorem bl_weak {Γ' : G3} (w : Weak Γ Γ') (h : Bl X W Γ' sts P) : Bl X W Γ sts P := fun B S σ H E D O => h B S σ H (E.weak w) D O
theorem bl_freeze (i : Nat) {ds : List D} (e : Γ[i]? = some (.own ds)) (h : Bl X W (Γ.set i (.val (.lst ds))) sts P) : Bl X W Γ sts P := fun B S σ H E D O => by
  obtain ⟨S', E'⟩ := E.freeze e
  exact h B S' σ H E' D O
theorem bl_cast {Γ' : G3} (h : Bl X W Γ' sts P) (e : Γ = Γ') : Bl X W Γ sts P := e ▸ h
end
section
variable {X : Cx} {W : WX} {Γ : G3} {P : Post} {pos : Pos}
/-! ### statements -/
theorem sl_pass (h : P.nx Γ) : Sl X W Γ (.Pass pos) P := fun B S σ H E D O => PS.x ps_pass (O.nx Γ h S σ H E)
theorem sl_break (h : P.bk Γ) : Sl X W Γ (.Break pos) P := fun B S σ H E D O => PS.x ps_break (O.bk Γ h S σ H E)
theorem sl_continue (h : P.ct Γ) : Sl X W Γ (.Continue pos) P := fun B S σ H E D O => PS.x ps_continue (O.ct Γ h S σ H E)
theorem sl_ret {e : Expr} {d : D} (h : Ev X Γ e d) (q : P.rt d) : Sl X W Γ (.Return (some e) pos) P := fun B S σ H E D O =>
  PS.x (ps_ret xe_pe) (h B S σ H E _ fun v H' E' s r => O.rt d q v H' E'.same (r.conv (.less E'.sub)))
/-- return of an owned list -/
theorem sl_retOwn {i : Nat} {x : Str} {p : Pos} {ds : List D} (g : Γ[i]? = some (.own ds)) (q : P.rt (.lst ds)) (hN : X.N[i]? = some x := by rfl) (hv : Vis X.env.scope x := by first | exact .inl rfl | exact .inr (.inl rfl) | exact .inr (.inr rfl)) (hd : (x == ("__debug__" : Str)) = false := by decide) (hcd : (x == ("__classdict__" : Str)) = false := by decide) :
    Sl X W Γ (.Return (some (.Name x p)) pos) P := fun B S σ H E D O => by
  obtain ⟨S', E'⟩ := E.freeze g
  have hl : i < Γ.length := (List.getElem?_eq_some_iff.mp g).1
  obtain ⟨o, e, v, ev, r⟩ := E'.at_ i (.val (.lst ds)) (List.getElem?_set_self hl)
  subst ev
  exact PS.x (ps_ret (pe_var hN hv hd hcd)) ⟨v, e, O.rt _ q v H E'.same (r.conv (.less E'.sub))⟩
theorem sl_retN (q : P.rt .non) : Sl X W Γ (.Return none pos) P := fun B S σ H E D O => PS.x ps_retN (O.rt .non q .non H E.same rfl)
theorem sl_expr {e : Expr} {d : D} (h : Ev X Γ e d) (q : P.nx Γ) (hs : swapsWith e none pos.line X.env = pure false := by rfl) : Sl X W Γ (.Expr e pos) P := fun B S σ H E D O =>
  PS.x (ps_expr xe_pe hs) (h B S σ H E _ fun v H' E' s r => O.nx Γ q S σ H' E')
theorem sl_doc {x j pos'} (q : P.nx Γ) : Sl X W Γ (.Expr (.Constant (.str x) j pos) pos') P := fun B S σ H E D O => PS.x ps_doc (O.nx Γ q S σ H E)
theorem sl_if {c : Expr} {a b : List Stmt} {k : Bool} (hc : Et X Γ c k) (ht : k = true → Bl X W Γ a P) (hf : k = false → Bl X W Γ b P) : Sl X W Γ (.If c a b pos) P := fun B S σ H E D O => by
  refine PS.x (ps_if xt_pt xss_pss xss_pss) (hc B S σ H E _ fun H' E' s => ?_)
  cases k with
  | true => exact ht rfl B S σ H' E' D O
  | false => exact hf rfl B S σ H' E' D O
theorem sl_ifT {c : Expr} {a b : List Stmt} (hc : Et X Γ c true) (ht : Bl X W Γ a P) : Sl X W Γ (.If c a b pos) P := sl_if hc (fun _ => ht) fun z => nomatch z
theorem sl_ifF {c : Expr} {a b : List Stmt} (hc : Et X Γ c false) (hf : Bl X W Γ b P) : Sl X W Γ (.If c a b pos) P := sl_if hc (fun z => nomatch z) fun _ => hf
/-- name = e -/
theorem sl_set {i : Nat} {x : Str} {e : Expr} {d : D} {pos' : Pos} (h : Ev X Γ e d) (q : P.nx (Γ.set i (.val d))) (hi : X.N[i]? = some x := by rfl) (hN : X.N.Nodup := by assumption) (hx : Loc X.env.scope x := by first | exact .inl rfl | exact .inr rfl)
    (hs : swapsWith e (some (.Name x pos')) pos.line X.env = pure false := by rfl) (hf : X.fn x = true ∨ X.env.scope.names.lookup x = some .local := by first | exact .inl rfl | exact .inr rfl) : Sl X W Γ (.Assign [.Name x pos'] e pos) P := fun B S σ H E D O =>
  PS.x (ps_set hN hi hx xe_pe hs hf) (h B S σ H E _ fun v H' E' s r => O.nx _ q S _ H' (E'.store r))
/-- name = [..], owned -/
theorem sl_new {i : Nat} {x : Str} {es : List Expr} {ds : List D} {pos' lpos : Pos} (h : Ea X Γ es ds) (q : P.nx (Γ.set i (.own ds))) (hl : ds.length ≤ 16777216 := by exact Nat.le_of_ble_eq_true rfl) (hi : X.N[i]? = some x := by rfl) (hN : X.N.Nodup := by assumption) (hx : Loc X.env.scope x := by first | exact .inl rfl | exact .inr rfl)
    (hs : swapsWith (.List es lpos) (some (.Name x pos')) pos.line X.env = pure false := by rfl) (hf : X.fn x = true ∨ X.env.scope.names.lookup x = some .local := by first | exact .inl rfl | exact .inr rfl) : Sl X W Γ (.Assign [.Name x pos'] (.List es lpos) pos) P := fun B S σ H E D O =>
  PS.x (ps_set hN hi hx (pe_lst xa_pa) hs hf) (h B S σ H E _ fun vs H' E' s r => ⟨by rw [r.length, sizeLine_eq]; exact hl, fun p n => O.nx _ q _ _ _ (E'.newOwn n r)⟩)
/-- xs.append(e), xs owned -/
theorem sl_append {i : Nat} {x : Str} {e : Expr} {d : D} {ds : List D} {px pa pc : Pos} (g : Γ[i]? = some (.own ds)) (h : Ev X Γ e d) (q : P.nx (Γ.set i (.own (ds ++ [d])))) (hl : ds.length < 16777216) (hN : X.N[i]? = some x := by rfl)
    (hv : Vis X.env.scope x := by first | exact .inl rfl | exact .inr (.inl rfl) | exact .inr (.inr rfl)) (hd : (x == ("__debug__" : Str)) = false := by decide) (hcd : (x == ("__classdict__" : Str)) = false := by decide) (hs : swapsWith (.Call (.Attribute (.Name x px) "append" pa) [e] [] pc) none pos.line X.env = pure false := by rfl)
    (hb : PE X (.Call (.Attribute (.Name x px) "append" pa) [e] [] pc) (tBM X.K "list" rAppend (tVar i) (tCons (Xe X e) tNil)) := by exact pe_bm PySem.F.plainAttrs_list PySem.F.slot_list_append PySem.F.type_list_append mt_append (pe_var (by rfl) (by first | exact .inl rfl | exact .inr (.inl rfl) | exact .inr (.inr rfl))) (pa_cons xe_pe pa_nil)) :
    Sl X W Γ (.Expr (.Call (.Attribute (.Name x px) "append" pa) [e] [] pc) pos) P := fun B S σ H E D O => by
  obtain ⟨o, es, a, xs, eo, sa, na, ha, r⟩ := E.at_ i _ g
  subst eo
  refine PS.x (ps_expr hb hs) ⟨.ref a, es, Or.inl ⟨rfl, _, .inl (.inl ha)⟩, h B S σ H E _ fun v H' E' s rd => ?_⟩
  obtain ⟨o', es', a', xs', eo', _, _, ha', r'⟩ := E'.at_ i _ g
  rw [es] at es'; cases es'; cases eo'
  refine ⟨a, xs', v, rfl, rfl, ha', ?_, O.nx _ q S σ _ (E'.write g es (r'.append (RepL.one rd)))⟩
  rw [r'.length, sizeLine_eq]
  exact hl
end
section
variable {X : Cx} {Γ : G3} {pos : Pos}
/-! ### expressions -/
theorem ev_var (i : Nat) {x : Str} {d : D} (g : Γ[i]? = some (.val d) := by rfl) (hN : X.N[i]? = some x := by rfl) (hv : Vis X.env.scope x := by first | exact .inl rfl | exact .inr (.inl rfl) | exact .inr (.inr rfl)) (hd : (x == ("__debug__" : Str)) = false := by decide) (hcd : (x == ("__classdict__" : Str)) = false := by decide) :
    Ev X Γ (.Name x pos) d := fun B S σ H E Q q => by
  obtain ⟨o, e, v, ev, r⟩ := E.at_ i _ g
  subst ev
  exact PE.x (pe_var hN hv hd hcd) ⟨v, e, q v H E (Same.refl H) r⟩
theorem ev_int {i : Int} {j : Nat} : Ev X Γ (.Constant (.int i) j pos) (.int i) := fun B S σ H E Q q => PE.x pe_int (q _ H E (Same.refl H) rfl)
theorem ev_bl {b : Bool} {j : Nat} : Ev X Γ (.Constant (.bool b) j pos) (.bl b) := fun B S σ H E Q q => PE.x pe_bl (q _ H E (Same.refl H) rfl)
theorem ev_non {j : Nat} : Ev X Γ (.Constant .none j pos) .non := fun B S σ H E Q q => PE.x pe_non (q _ H E (Same.refl H) rfl)
theorem ev_str {z : Str} {j : Nat} : Ev X Γ (.Constant (.str z) j pos) (.str z) := fun B S σ H E Q q => PE.x pe_str (q _ H E (Same.refl H) rfl)
/-- a module's int -/
theorem ev_globI {x : Str} {i : Int} (hm : ∃ t, X.mg x = some (.int i t)) (hg : Gl X x := by rfl) (hd : (x == ("__debug__" : Str)) = false := by decide) : Ev X Γ (.Name x pos) (.int i) := fun B S σ H E Q q => by
  obtain ⟨t, hm⟩ := hm
  exact PE.x (pe_glob (v := .int i) hg hm ⟨_, rfl⟩ hd) (q _ H E (Same.refl H) rfl)
/-- a module's tuple -/
theorem ev_globT {x : Str} {a : Addr} {ds : List D} (hm : X.mg x = some (.ref a)) (ht : ∃ xs, StT X.K a xs ∧ ∀ S H, RepL X.K S H ds xs) (hg : Gl X x := by rfl) (hd : (x == ("__debug__" : Str)) = false := by decide) : Ev X Γ (.Name x pos) (.tup ds) := fun B S σ H E Q q => by
  obtain ⟨xs, h1, h2⟩ := ht
  exact PE.x (pe_glob (v := .ref a) hg hm rfl hd) (q _ H E (Same.refl H) ⟨a, xs, rfl, .inr h1, h2 S H⟩)
variable {a b : Expr}
/-- two evaluated, one behind the other -/
theorem ev_two {r : R2} {da db d : D} {e : Expr} (hp : ∀ {ta tb}, PE X a ta → PE X b tb → PE X e (tOp r ta tb)) (ha : Ev X Γ a da) (hb : Ev X Γ b db)
    (h : ∀ (B : Bs) (S : Own) (σ : L2.St) (H : Hp) (x y : V) (Q : VK), EnvR X.K B S H σ Γ → Rep X.K S H da x → Rep X.K S H db y → (∀ v H', EnvR X.K B S H' σ Γ → Same H H' → Rep X.K S H' d v → Q v H') → r x y H Q) : Ev X Γ e d := fun B S σ H E Q q =>
  PE.x (hp xe_pe xe_pe) (ha B S σ H E _ fun x H1 E1 s1 r1 => hb B S σ H1 E1 _ fun y H2 E2 s2 r2 => h B S σ H2 x y Q E2 (r1.conv (.same s2)) r2 fun v H' E' s r => q v H' E' ((s1.trans s2).trans s) r)
theorem ev_ii {op : Operator} {C : Int → Int → Prop} {f : Int → Int → Int} (ho : OpR X (binaryOp op) (rI C fun i j => .int (f i j))) {i j : Int} (ha : Ev X Γ a (.int i)) (hb : Ev X Γ b (.int j)) (hc : C i j) : Ev X Γ (.BinOp a op b pos) (.int (f i j)) :=
  ev_two (fun h1 h2 => pe_op ho h1 h2) ha hb fun B S σ H x y Q E r1 r2 q => ⟨i, j, r1, r2, hc, q _ H E (Same.refl H) rfl⟩
theorem ev_ii0 {op : Operator} {f : Int → Int → Int} (ho : OpR X (binaryOp op) (rI0 fun i j => .int (f i j))) {i j : Int} (ha : Ev X Γ a (.int i)) (hb : Ev X Γ b (.int j)) : Ev X Γ (.BinOp a op b pos) (.int (f i j)) :=
  ev_two (fun h1 h2 => pe_op ho h1 h2) ha hb fun B S σ H x y Q E r1 r2 q => ⟨i, j, r1, r2, q _ H E (Same.refl H) rfl⟩
variable {i j : Int}
theorem ev_add (ha : Ev X Γ a (.int i)) (hb : Ev X Γ b (.int j)) : Ev X Γ (.BinOp a .Add b pos) (.int (i + j)) := ev_ii0 (f := fun i j => i + j) op_add ha hb
theorem ev_sub (ha : Ev X Γ a (.int i)) (hb : Ev X Γ b (.int j)) : Ev X Γ (.BinOp a .Sub b pos) (.int (i - j)) := ev_ii0 (f := fun i j => i - j) op_sub ha hb
theorem ev_and (ha : Ev X Γ a (.int i)) (hb : Ev X Γ b (.int j)) : Ev X Γ (.BinOp a .BitAnd b pos) (.int (Builtin.bitAnd i j)) := ev_ii0 (f := fun i j => Builtin.bitAnd i j) op_and ha hb
theorem ev_or (ha : Ev X Γ a (.int i)) (hb : Ev X Γ b (.int j)) : Ev X Γ (.BinOp a .BitOr b pos) (.int (Builtin.bitOr i j)) := ev_ii0 (f := fun i j => Builtin.bitOr i j) op_or ha hb
theorem ev_xor (ha : Ev X Γ a (.int i)) (hb : Ev X Γ b (.int j)) : Ev X Γ (.BinOp a .BitXor b pos) (.int (Builtin.bitXor i j)) := ev_ii0 (f := fun i j => Builtin.bitXor i j) op_xor ha hb
theorem ev_mul (ha : Ev X Γ a (.int i)) (hb : Ev X Γ b (.int j)) (hc : CMul i j) : Ev X Γ (.BinOp a .Mult b pos) (.int (i * j)) := ev_ii (f := fun i j => i * j) op_mul ha hb hc
theorem ev_mulX (ha : Ev X Γ a (.int i)) (hb : Ev X Γ b (.int j)) (hc : CMulX i j) : Ev X Γ (.BinOp a .Mult b pos) (.int (i * j)) := ev_ii (f := fun i j => i * j) op_mulX ha hb hc
theorem ev_div (ha : Ev X Γ a (.int i)) (hb : Ev X Γ b (.int j)) (hc : CDiv i j) : Ev X Γ (.BinOp a .FloorDiv b pos) (.int (i / j)) := ev_ii (f := fun i j => i / j) op_fdiv ha hb hc
theorem ev_mod (ha : Ev X Γ a (.int i)) (hb : Ev X Γ b (.int j)) (hc : 0 < j) : Ev X Γ (.BinOp a .Mod b pos) (.int (i % j)) := ev_ii (f := fun i j => i % j) (C := fun _ j => 0 < j) op_mod ha hb hc
theorem ev_pow (ha : Ev X Γ a (.int i)) (hb : Ev X Γ b (.int j)) (hc : CPow i j) : Ev X Γ (.BinOp a .Pow b pos) (.int (i ^ j.toNat)) := ev_ii (f := fun i j => i ^ j.toNat) op_pow ha hb hc
theorem ev_shl (ha : Ev X Γ a (.int i)) (hb : Ev X Γ b (.int j)) (hc : CPow i j) : Ev X Γ (.BinOp a .LShift b pos) (.int (i * 2 ^ j.toNat)) := ev_ii (f := fun i j => i * 2 ^ j.toNat) op_shl ha hb hc
theorem ev_shr (ha : Ev X Γ a (.int i)) (hb : Ev X Γ b (.int j)) (hc : 0 ≤ j) : Ev X Γ (.BinOp a .RShift b pos) (.int (i / 2 ^ j.toNat)) := ev_ii (f := fun i j => i / 2 ^ j.toNat) (C := fun _ j => 0 ≤ j) op_shr ha hb hc
/-- xs + ys -/
theorem ev_cat {xs ys : List D} (ha : Ev X Γ a (.lst xs)) (hb : Ev X Γ b (.lst ys)) (hl : xs.length + ys.length ≤ 16777216) : Ev X Γ (.BinOp a .Add b pos) (.lst (xs ++ ys)) :=
  ev_two (fun h1 h2 => pe_op op_cat h1 h2) ha hb fun B S σ H x y Q E r1 r2 q => by
    obtain ⟨p, us, rfl, ⟨sp, hp⟩, rp⟩ := r1
    obtain ⟨p', us', rfl, ⟨sp', hp'⟩, rp'⟩ := r2
    refine ⟨p, p', us, us', rfl, rfl, hp, hp', by rw [rp.length, rp'.length, sizeLine_eq]; exact hl, fun l n => ?_⟩
    have sm : Same H (upd H l (.lst (us ++ us'))) := fun b o e => by rw [upd_ne (ne_of_none e n)]; exact e
    exact q _ _ (E.to sm) sm ⟨l, _, rfl, ⟨E.fresh n, upd_same⟩, (rp.append rp').conv (.same sm)⟩
/-- xs * k -/
theorem RepL.rep {K : PySem.W.Frag} {S : Own} {H : Hp} {ds : List D} {xs : List V} (r : RepL K S H ds xs) : ∀ k : Nat, RepL K S H (List.replicate k ds).flatten (List.replicate k xs).flatten
  | 0 => rfl
  | k + 1 => by rw [List.replicate_succ, List.replicate_succ, List.flatten_cons, List.flatten_cons]; exact RepL.append r (RepL.rep r k)
theorem ev_rep {xs : List D} {k : Int} (ha : Ev X Γ a (.lst xs)) (hb : Ev X Γ b (.int k)) (h1 : -(2 ^ 63) ≤ k) (h2 : k < 2 ^ 63) (hl : xs.length * k.toNat ≤ 16777216) : Ev X Γ (.BinOp a .Mult b pos) (.lst (List.replicate k.toNat xs).flatten) :=
  ev_two (fun h1 h2 => pe_op op_rep h1 h2) ha hb fun B S σ H x y Q E r1 r2 q => by
    obtain ⟨p, us, rfl, ⟨sp, hp⟩, rp⟩ := r1
    refine ⟨p, k, us, rfl, r2, hp, h1, h2, by rw [rp.length, sizeLine_eq]; exact hl, fun l n => ?_⟩
    have sm : Same H (upd H l (.lst (List.replicate k.toNat us).flatten)) := fun b o e => by rw [upd_ne (ne_of_none e n)]; exact e
    exact q _ _ (E.to sm) sm ⟨l, _, rfl, ⟨E.fresh n, upd_same⟩, (rp.rep k.toNat).conv (.same sm)⟩
/-- xs[i] -/
theorem ev_ixL {xs : List D} {k : Int} {d : D} (ha : Ev X Γ a (.lst xs)) (hb : Ev X Γ b (.int k)) (h : atI xs k = some d) (hs : PlainIx b := by exact fun _ _ => rfl) : Ev X Γ (.Subscript a b pos) d :=
  ev_two (fun h1 h2 => pe_ix ix_list h1 h2 hs) ha hb fun B S σ H x y Q E r1 r2 q => by
    obtain ⟨p, us, rfl, ⟨sp, hp⟩, rp⟩ := r1
    unfold atI at h
    cases e : ixN xs.length k with
    | none => rw [e] at h; cases h
    | some m =>
      rw [e] at h
      obtain ⟨v, hv, rv⟩ := rp.get (i := m) (d := d) h
      refine ⟨p, us, k, v, rfl, r2, .of hp, ?_, q v H E (Same.refl H) rv⟩
      unfold atI
      rw [rp.length, e]
      exact hv
theorem frl_sq {K : PySem.W.Frag} {S : Own} {H : Hp} {p : Addr} {us : List V} (h : (∃ o, ¬ S p ∧ H p = some (.frz o (.lst us))) ∨ StL K p us) : SqL K H p us := h.elim (fun ⟨o, q⟩ => .inl (.inr ⟨o, q.2⟩)) fun q => .inr q
theorem ev_ixR {xs : List D} {k : Int} {d : D} (ha : Ev X Γ a (.frl xs)) (hb : Ev X Γ b (.int k)) (h : atI xs k = some d) (hs : PlainIx b := by exact fun _ _ => rfl) : Ev X Γ (.Subscript a b pos) d :=
  ev_two (fun h1 h2 => pe_ix ix_list h1 h2 hs) ha hb fun B S σ H x y Q E r1 r2 q => by
    obtain ⟨p, us, rfl, hp, rp⟩ := r1
    unfold atI at h
    cases e : ixN xs.length k with
    | none => rw [e] at h; cases h
    | some m =>
      rw [e] at h
      obtain ⟨v, hv, rv⟩ := rp.get (i := m) (d := d) h
      refine ⟨p, us, k, v, rfl, r2, frl_sq hp, ?_, q v H E (Same.refl H) rv⟩
      unfold atI
      rw [rp.length, e]
      exact hv
theorem tup_sq {K : PySem.W.Frag} {S : Own} {H : Hp} {p : Addr} {us : List V} (h : (¬ S p ∧ H p = some (.tup us)) ∨ StT K p us) : SqT K H p us := h.elim (fun q => .of q.2) fun q => q.sq
theorem ev_ixT {xs : List D} {k : Int} {d : D} (ha : Ev X Γ a (.tup xs)) (hb : Ev X Γ b (.int k)) (h : atI xs k = some d) (hs : PlainIx b := by exact fun _ _ => rfl) : Ev X Γ (.Subscript a b pos) d :=
  ev_two (fun h1 h2 => pe_ix ix_tup h1 h2 hs) ha hb fun B S σ H x y Q E r1 r2 q => by
    obtain ⟨p, us, rfl, hp, rp⟩ := r1
    unfold atI at h
    cases e : ixN xs.length k with
    | none => rw [e] at h; cases h
    | some m =>
      rw [e] at h
      obtain ⟨v, hv, rv⟩ := rp.get (i := m) (d := d) h
      refine ⟨p, us, k, v, rfl, r2, tup_sq hp, ?_, q v H E (Same.refl H) rv⟩
      unfold atI
      rw [rp.length, e]
      exact hv
/-- arguments -/
theorem ea_nil : Ea X Γ [] [] := fun B S σ H E Q q => PA.x pa_nil (q [] H E (Same.refl H) rfl)
theorem ea_cons {e : Expr} {es : List Expr} {d : D} {ds : List D} (h : Ev X Γ e d) (t : Ea X Γ es ds) (hs : starEach (e :: es) X.env = (false, eval e X.env) :: starEach es X.env := by rfl) : Ea X Γ (e :: es) (d :: ds) := fun B S σ H E Q q =>
  PA.x (pa_cons xe_pe xa_pa hs) (h B S σ H E _ fun v H1 E1 s1 r1 => t B S σ H1 E1 _ fun vs H2 E2 s2 r2 => q _ H2 E2 (s1.trans s2) ⟨v, vs, rfl, r1.conv (.same s2), r2⟩)
theorem ev_lst {es : List Expr} {ds : List D} (h : Ea X Γ es ds) (hl : ds.length ≤ 16777216 := by exact Nat.le_of_ble_eq_true rfl) : Ev X Γ (.List es pos) (.lst ds) := fun B S σ H E Q q =>
  PE.x (pe_lst xa_pa) (h B S σ H E _ fun vs H1 E1 s1 r1 => ⟨by rw [r1.length, sizeLine_eq]; exact hl, fun p n => by
    have sm : Same H1 (upd H1 p (.lst vs)) := fun b o e => by rw [upd_ne (ne_of_none e n)]; exact e
    exact q _ _ (E1.to sm) (s1.trans sm) ⟨p, _, rfl, ⟨E1.fresh n, upd_same⟩, r1.conv (.same sm)⟩⟩)
theorem ev_tup {es : List Expr} {ds : List D} {k : Nat} (h : Ea X Γ es ds) (hl : ds.length ≤ 16777216 := by exact Nat.le_of_ble_eq_true rfl) : Ev X Γ (.Tuple es k pos) (.tup ds) := fun B S σ H E Q q =>
  PE.x (pe_tup xa_pa) (h B S σ H E _ fun vs H1 E1 s1 r1 => ⟨by rw [r1.length, sizeLine_eq]; exact hl, fun p n => by
    have sm : Same H1 (upd H1 p (.tup vs)) := fun b o e => by rw [upd_ne (ne_of_none e n)]; exact e
    exact q _ _ (E1.to sm) (s1.trans sm) ⟨p, _, rfl, .inl ⟨E1.fresh n, upd_same⟩, r1.conv (.same sm)⟩⟩)
/-! ### tests -/
theorem et_val {e : Expr} {k : Bool} (h : Ev X Γ e (.bl k)) (he : ∀ whole, isTrue e X.env whole = (do let v ← whole; standAt e.pos; holding [v] (truthy v)) := by intro _; rfl) : Et X Γ e k := fun B S σ H E Q q =>
  PT.x (pt_val xe_pe he) (h B S σ H E _ fun v H' E' s r => ⟨k, r, q H' E' s⟩)
theorem ev_cmp {op : CmpOp} {p : Int → Int → Bool} (ho : OpR X (compareOp op) (rI0 fun i j => .bl (p i j))) (ha : Ev X Γ a (.int i)) (hb : Ev X Γ b (.int j)) (hm : behindInMarks op b = false := by exact nomark _) : Ev X Γ (.Compare a [op] [b] pos) (.bl (p i j)) :=
  ev_two (fun h1 h2 => pe_cmpR ho h1 h2 hm) ha hb fun B S σ H x y Q E r1 r2 q => ⟨i, j, r1, r2, q _ H E (Same.refl H) rfl⟩
theorem et_cmp {op : CmpOp} {p : Int → Int → Bool} (ho : OpR X (compareOp op) (rI0 fun i j => .bl (p i j))) (ha : Ev X Γ a (.int i)) (hb : Ev X Γ b (.int j)) (hm : behindInMarks op b = false := by exact nomark _) : Et X Γ (.Compare a [op] [b] pos) (p i j) := fun B S σ H E Q q =>
  PT.x (pt_cmpR ho xe_pe xe_pe hm) (ha B S σ H E _ fun x H1 E1 s1 r1 => hb B S σ H1 E1 _ fun y H2 E2 s2 r2 => ⟨i, j, r1, r2, p i j, rfl, q H2 E2 (s1.trans s2)⟩)
theorem ev_lt (ha : Ev X Γ a (.int i)) (hb : Ev X Γ b (.int j)) : Ev X Γ (.Compare a [.Lt] [b] pos) (.bl (decide (i < j))) := ev_cmp (p := fun i j => decide (i < j)) op_lt ha hb
theorem ev_le (ha : Ev X Γ a (.int i)) (hb : Ev X Γ b (.int j)) : Ev X Γ (.Compare a [.LtE] [b] pos) (.bl (decide (i ≤ j))) := ev_cmp (p := fun i j => decide (i ≤ j)) op_le ha hb
theorem ev_gt (ha : Ev X Γ a (.int i)) (hb : Ev X Γ b (.int j)) : Ev X Γ (.Compare a [.Gt] [b] pos) (.bl (decide (j < i))) := ev_cmp (p := fun i j => decide (j < i)) op_gt ha hb
theorem ev_ge (ha : Ev X Γ a (.int i)) (hb : Ev X Γ b (.int j)) : Ev X Γ (.Compare a [.GtE] [b] pos) (.bl (decide (j ≤ i))) := ev_cmp (p := fun i j => decide (j ≤ i)) op_ge ha hb
theorem et_lt (ha : Ev X Γ a (.int i)) (hb : Ev X Γ b (.int j)) : Et X Γ (.Compare a [.Lt] [b] pos) (decide (i < j)) := et_cmp (p := fun i j => decide (i < j)) op_lt ha hb
theorem et_le (ha : Ev X Γ a (.int i)) (hb : Ev X Γ b (.int j)) : Et X Γ (.Compare a [.LtE] [b] pos) (decide (i ≤ j)) := et_cmp (p := fun i j => decide (i ≤ j)) op_le ha hb
theorem et_gt (ha : Ev X Γ a (.int i)) (hb : Ev X Γ b (.int j)) : Et X Γ (.Compare a [.Gt] [b] pos) (decide (j < i)) := et_cmp (p := fun i j => decide (j < i)) op_gt ha hb
theorem et_ge (ha : Ev X Γ a (.int i)) (hb : Ev X Γ b (.int j)) : Et X Γ (.Compare a [.GtE] [b] pos) (decide (j ≤ i)) := et_cmp (p := fun i j => decide (j ≤ i)) op_ge ha hb
/-- scalars -/
def sc : D → Option V
  | .non => some .non
  | .bl b => some (.bl b)
  | .int i => some (.int i)
  | .str s => some (.str s)
  | _ => none
theorem sc_rep {K : PySem.W.Frag} {S : Own} {H : Hp} {d : D} {u x : V} (h : sc d = some u) (r : Rep K S H d x) : x = u := by
  cases d <;> first | (cases h; exact r) | cases h
theorem ev_eqS {da db : D} {u v : V} (ha : Ev X Γ a da) (hb : Ev X Γ b db) (h1 : sc da = some u := by rfl) (h2 : sc db = some v := by rfl) (hs : scal u v = true := by rfl) (hm : behindInMarks .Eq b = false := by exact nomark _) : Ev X Γ (.Compare a [.Eq] [b] pos) (.bl (decide (u = v))) :=
  ev_two (fun h1 h2 => pe_cmpR op_eq h1 h2 hm) ha hb fun B S σ H x y Q E r1 r2 q => by
    rw [sc_rep h1 r1, sc_rep h2 r2]; exact ⟨hs, q _ H E (Same.refl H) rfl⟩
theorem ev_neS {da db : D} {u v : V} (ha : Ev X Γ a da) (hb : Ev X Γ b db) (h1 : sc da = some u := by rfl) (h2 : sc db = some v := by rfl) (hs : scal u v = true := by rfl) (hm : behindInMarks .NotEq b = false := by exact nomark _) : Ev X Γ (.Compare a [.NotEq] [b] pos) (.bl (!decide (u = v))) :=
  ev_two (fun h1 h2 => pe_cmpR op_ne h1 h2 hm) ha hb fun B S σ H x y Q E r1 r2 q => by
    rw [sc_rep h1 r1, sc_rep h2 r2]; exact ⟨hs, q _ H E (Same.refl H) rfl⟩
theorem vint_eq (i j : Int) : decide (V.int i = V.int j) = decide (i = j) := by simp
theorem ev_eq (ha : Ev X Γ a (.int i)) (hb : Ev X Γ b (.int j)) : Ev X Γ (.Compare a [.Eq] [b] pos) (.bl (decide (i = j))) := by
  have h := ev_eqS (pos := pos) ha hb
  rw [vint_eq] at h; exact h
theorem ev_ne (ha : Ev X Γ a (.int i)) (hb : Ev X Γ b (.int j)) : Ev X Γ (.Compare a [.NotEq] [b] pos) (.bl (!decide (i = j))) := by
  have h := ev_neS (pos := pos) ha hb
  rw [vint_eq] at h; exact h
theorem et_not {c : Expr} {k : Bool} (h : Et X Γ c k) : Et X Γ (.UnaryOp .Not c pos) (!k) := fun B S σ H E Q q => PT.x (pt_not xt_pt) (h B S σ H E _ fun H' E' s => q H' E' s)
theorem ev_not {c : Expr} {k : Bool} (h : Ev X Γ c (.bl k)) : Ev X Γ (.UnaryOp .Not c pos) (.bl (!k)) := fun B S σ H E Q q => PE.x (pe_not xe_pe) (h B S σ H E _ fun v H' E' s r => ⟨k, r, q _ H' E' s rfl⟩)
variable {rest : List Expr} {k l : Bool}
theorem ew_and1 (h : Et X Γ a k) : Ew X Γ (.BoolOp .And [a] pos) k := fun B S σ H E Q q => PW.x (pw_and1 xt_pt) (h B S σ H E Q q)
theorem ew_or1 (h : Et X Γ a k) : Ew X Γ (.BoolOp .Or [a] pos) k := fun B S σ H E Q q => PW.x (pw_or1 xt_pt) (h B S σ H E Q q)
theorem ew_and (h : Et X Γ a k) (t : k = true → Ew X Γ (.BoolOp .And (b :: rest) pos) l) : Ew X Γ (.BoolOp .And (a :: b :: rest) pos) (k && l) := fun B S σ H E Q q =>
  PW.x (pw_and xt_pt xw_pw) (h B S σ H E _ fun H1 E1 s1 => by
    cases k with
    | true => rw [if_pos rfl]; exact t rfl B S σ H1 E1 _ fun H2 E2 s2 => q H2 E2 (s1.trans s2)
    | false => rw [if_neg Bool.false_ne_true]; exact q H1 E1 s1)
theorem ew_or (h : Et X Γ a k) (t : k = false → Ew X Γ (.BoolOp .Or (b :: rest) pos) l) : Ew X Γ (.BoolOp .Or (a :: b :: rest) pos) (k || l) := fun B S σ H E Q q =>
  PW.x (pw_or xt_pt xw_pw) (h B S σ H E _ fun H1 E1 s1 => by
    cases k with
    | false => rw [if_neg Bool.false_ne_true]; exact t rfl B S σ H1 E1 _ fun H2 E2 s2 => q H2 E2 (s1.trans s2)
    | true => rw [if_pos rfl]; exact q H1 E1 s1)
theorem ev_one {op : BoolOp} {d : D} (h : Ev X Γ a d) : Ev X Γ (.BoolOp op [a] pos) d := fun B S σ H E Q q => PE.x (pe_one xe_pe) (h B S σ H E Q q)
theorem ev_andV (h : Ev X Γ a (.bl k)) (t : k = true → Ev X Γ (.BoolOp .And (b :: rest) pos) (.bl l)) : Ev X Γ (.BoolOp .And (a :: b :: rest) pos) (.bl (k && l)) := fun B S σ H E Q q =>
  PE.x (pe_and xe_pe xe_pe) (h B S σ H E _ fun v H1 E1 s1 r => ⟨k, r, by
    cases k with
    | true => rw [if_pos rfl]; exact t rfl B S σ H1 E1 _ fun v H2 E2 s2 r2 => q v H2 E2 (s1.trans s2) r2
    | false => rw [if_neg Bool.false_ne_true]; exact q _ H1 E1 s1 rfl⟩)
theorem ev_orV (h : Ev X Γ a (.bl k)) (t : k = false → Ev X Γ (.BoolOp .Or (b :: rest) pos) (.bl l)) : Ev X Γ (.BoolOp .Or (a :: b :: rest) pos) (.bl (k || l)) := fun B S σ H E Q q =>
  PE.x (pe_or xe_pe xe_pe) (h B S σ H E _ fun v H1 E1 s1 r => ⟨k, r, by
    cases k with
    | false => rw [if_neg Bool.false_ne_true]; exact t rfl B S σ H1 E1 _ fun v H2 E2 s2 r2 => q v H2 E2 (s1.trans s2) r2
    | true => rw [if_pos rfl]; exact q _ H1 E1 s1 rfl⟩)
theorem ev_if {c : Expr} {d : D} (hc : Et X Γ c k) (h1 : k = true → Ev X Γ a d) (h2 : k = false → Ev X Γ b d) : Ev X Γ (.IfExp c a b pos) d := fun B S σ H E Q q =>
  PE.x (pe_ifExp xt_pt xe_pe xe_pe) (hc B S σ H E _ fun H1 E1 s1 => by
    cases k with
    | true => rw [if_pos rfl]; exact h1 rfl B S σ H1 E1 _ fun v H2 E2 s2 r2 => q v H2 E2 (s1.trans s2) r2
    | false => rw [if_neg Bool.false_ne_true]; exact h2 rfl B S σ H1 E1 _ fun v H2 E2 s2 r2 => q v H2 E2 (s1.trans s2) r2)
end
end S3

set_option Elab.async false
set_option linter.all false
set_option maxRecDepth 100000
set_option maxHeartbeats 2000000
namespace S3
open PySem PySem.Spec PyProof.Rows L2

/-! ### defs -/
/-- what a def does with its arguments: a value, or an error of the class at an address -/
abbrev Rl := List D → Except Addr D → Prop
def spR (K : PySem.W.Frag) (R : Rl) : Sp := fun vs H Q E => ∃ (S : Own) (ds : List D) (r : Except Addr D), (∀ a, S a → ∃ o, H a = some o) ∧ RepL K S H ds vs ∧ R ds r ∧
  match r with
  | .ok d => ∀ v H', Same H H' → Rep K S H' d v → Q v H'
  | .error C => ∀ H', Same H H' → E (.ref C) none H'
structure Fx (P : Program) (w : World) (K : PySem.W.Frag) (mg : Str → Option Value) (base : Heap) (x : Str) (k : Nat) (ps : List Str) (R : Rl) : Prop where
  ex : ∃ f fd, FnOk P w K mg base (L2.CX P w) k f fd ps (spR K R) ∧ mg x = some (.ref f) ∧ PySem.W.keepIn K (.ref f) = true ∧ Binds K fd ps []
theorem pass_no {P : Program} {w : World} {X : Cx} : Passes (L2.CX P w) X (fun _ _ _ => False) := fun _ _ _ _ _ _ _ c => by
  obtain ⟨_, _, _, _, _, _, _, _, _, _, _, _, z⟩ := c
  exact z.elim
section
variable {X : Cx} {W : WX} {Γ : G3} {P : Post} {pos p : Pos} {x : Str} {k : Nat} {ps : List Str} {R : Rl} {e : Expr} {es : List Expr} {ds : List D} {d : D}
theorem ev_call (F : Fx X.prog X.w X.K X.mg X.base x k ps R) (hr : Room k X.A) (ha : Ea X Γ (e :: es) ds) (h : R ds (.ok d)) (hg : Gl X x := by rfl) (hdb : (x == ("__debug__" : Str)) = false := by decide)
    (he : starEach (e :: es) X.env = (false, eval e X.env) :: starEach es X.env := by rfl) (hpl : (backTo pos (starEach es X.env)).any (·.1) = false := by rfl) : Ev X Γ (.Call (.Name x p) (e :: es) [] pos) d := fun B S σ H E Q q => by
  obtain ⟨f, fd, G, hm, hk, hb⟩ := F.ex
  refine PE.x (pe_call (E := fun _ _ _ => False) G hr hg hm hk hb .nil pass_no xa_pa hdb he hpl) (ha B S σ H E _ fun vs H1 E1 s1 r1 => ?_)
  rw [List.append_nil]
  exact ⟨S, ds, .ok d, E1.wf, r1, h, fun v H' s r => q v H' (E1.to s) (s1.trans s) r⟩
theorem ev_call0 (F : Fx X.prog X.w X.K X.mg X.base x k ps R) (hr : Room k X.A) (h : R [] (.ok d)) (hg : Gl X x := by rfl) (hdb : (x == ("__debug__" : Str)) = false := by decide) : Ev X Γ (.Call (.Name x p) [] [] pos) d := fun B S σ H E Q q => by
  obtain ⟨f, fd, G, hm, hk, hb⟩ := F.ex
  refine PE.x (pe_call0 (E := fun _ _ _ => False) G hr hg hm hk hb .nil pass_no hdb) ?_
  exact ⟨S, [], .ok d, E.wf, rfl, h, fun v H' s r => q v H' (E.to s) s r⟩
/-- an expression that raises -/
def Exx (X : Cx) (W : WX) (Γ : G3) (e : Expr) (C : Addr) : Prop := ∀ (B : Bs) (S : Own) (σ : L2.St) (H : Hp), EnvR X.K B S H σ Γ → ∀ Q : VK, (∀ H', EnvR X.K B S H' σ Γ → Same H H' → W (.ref C) none σ H') → Xe X e σ H Q
theorem ex_call {C : Addr} (tk : Takes X W) (F : Fx X.prog X.w X.K X.mg X.base x k ps R) (hr : Room k X.A) (ha : Ea X Γ (e :: es) ds) (h : R ds (.error C)) (hg : Gl X x := by rfl) (hdb : (x == ("__debug__" : Str)) = false := by decide)
    (he : starEach (e :: es) X.env = (false, eval e X.env) :: starEach es X.env := by rfl) (hpl : (backTo pos (starEach es X.env)).any (·.1) = false := by rfl) : Exx X W Γ (.Call (.Name x p) (e :: es) [] pos) C := fun B S σ H E Q q => by
  obtain ⟨f, fd, G, hm, hk, hb⟩ := F.ex
  refine PE.x (pe_callS (E := fun σ cls d H => W cls d σ H) G hr hg hm hk hb (fun σ => passAt tk σ) xa_pa hdb he hpl) (ha B S σ H E _ fun vs H1 E1 s1 r1 => ?_)
  exact ⟨S, ds, .error C, E1.wf, r1, h, fun H' s => q H' (E1.to s) (s1.trans s)⟩
theorem sl_exprX {C : Addr} (h : Exx X W Γ e C) (q : P.ex C Γ) (hs : swapsWith e none pos.line X.env = pure false := by rfl) : Sl X W Γ (.Expr e pos) P := fun B S σ H E D O =>
  PS.x (ps_expr xe_pe hs) (h B S σ H E _ fun H' E' s => O.ex C Γ q S σ H' E')
theorem sl_retX {C : Addr} (h : Exx X W Γ e C) (q : P.ex C Γ) : Sl X W Γ (.Return (some e) pos) P := fun B S σ H E D O =>
  PS.x (ps_ret xe_pe) (h B S σ H E _ fun H' E' s => O.ex C Γ q S σ H' E')
theorem sl_setX {C : Addr} {i : Nat} {y : Str} {pos' : Pos} (h : Exx X W Γ e C) (q : P.ex C Γ) (hi : X.N[i]? = some y := by rfl) (hN : X.N.Nodup := by assumption) (hx : Loc X.env.scope y := by first | exact .inl rfl | exact .inr rfl)
    (hs : swapsWith e (some (.Name y pos')) pos.line X.env = pure false := by rfl) (hf : X.fn y = true ∨ X.env.scope.names.lookup y = some .local := by first | exact .inl rfl | exact .inr rfl) : Sl X W Γ (.Assign [.Name y pos'] e pos) P := fun B S σ H E D O =>
  PS.x (ps_set hN hi hx xe_pe hs hf) (h B S σ H E _ fun H' E' s => O.ex C Γ q S σ H' E')
end
/-- the names at the entry -/
def entry (N : List Str) (ds : List D) : G3 := ds.map SK.val ++ List.replicate (N.length - ds.length) .any
def postR (r : Except Addr D) : Post := match r with
  | .ok d => ⟨fun _ => d = .non, fun e => e = d, fun _ => False, fun _ => False, fun _ _ => False⟩
  | .error C => ⟨fun _ => False, fun _ => False, fun _ => False, fun _ => False, fun C' _ => C' = C⟩
theorem entry_ok {K : PySem.W.Frag} {S : Own} {H : Hp} {N : List Str} {ds : List D} {vs : List V} (wf : ∀ a, S a → ∃ o, H a = some o) (r : RepL K S H ds vs) (hl : ds.length ≤ N.length) : EnvR K ⟨H, S, S, H⟩ S H (L2.start N vs) (entry N ds) where
  wf := wf
  wf0 := wf
  sub := fun _ s => s
  same := Same.refl H
  later := .refl
  len := by
    have e := r.length
    unfold L2.start entry
    rw [List.length_append, List.length_append, List.length_map, List.length_map, List.length_replicate, List.length_replicate, e]
  at_ := fun i k e => by
    have el := r.length
    unfold entry at e
    unfold L2.start
    by_cases h : i < ds.length
    · rw [List.getElem?_append_left (by simpa using h), List.getElem?_map] at e
      cases q : ds[i]? with
      | none => rw [q] at e; cases e
      | some d =>
        rw [q] at e; cases e
        obtain ⟨v, hv, rv⟩ := r.get q
        refine ⟨some v, ?_, v, rfl, rv⟩
        rw [List.getElem?_append_left (by simpa [el] using h), List.getElem?_map, hv] <;> rfl
    · rw [List.getElem?_append_right (by simpa using Nat.le_of_not_lt h), List.getElem?_replicate, List.length_map] at e
      split at e
      · rename_i hh
        cases e
        refine ⟨none, ?_, trivial⟩
        rw [List.getElem?_append_right (by simpa [el] using Nat.le_of_not_lt h), List.getElem?_replicate, List.length_map, el, if_pos hh]
      · cases e
  dis := fun i j k l a e1 _ o1 _ _ _ => by
    unfold entry at e1
    by_cases h : i < ds.length
    · rw [List.getElem?_append_left (by simpa using h), List.getElem?_map] at e1
      cases q : ds[i]? with
      | none => rw [q] at e1; cases e1
      | some d => rw [q] at e1; cases e1; cases o1
    · rw [List.getElem?_append_right (by simpa using Nat.le_of_not_lt h), List.getElem?_replicate] at e1
      split at e1
      · cases e1; cases o1
      · cases e1
/-- what a def's row says: its parts -/
abbrev FnP (K : PySem.W.Frag) (x q : Str) (st : Stmt) (f : Addr) (fd : FuncData) : Prop := FunD K x q (defArgs st) (defBody st) (defScope st) [] [] f fd
/-- THE RULE -/
theorem fn_ok {P : Program} {w : World} {K : PySem.W.Frag} {mg : Str → Option Value} {base : Heap} {k : Nat} {x q : Str} {st : Stmt} {f : Addr} {fd : FuncData} {N ps : List Str} {R : Rl}
    (F : FnP K x q st f fd) (S : FnScope N ps (defScope st)) (hl : ∀ ds r, R ds r → ds.length = ps.length)
    (hb : ∀ (cdv : Value) (A : Around) (outer : List Env) (s : Shared) (H : Hp) (E : XK), Room k (A.deeper (envOfC q (defScope st) s.heap.objs.size f cdv)) → ∀ ds r, R ds r →
      Bl (cxOf (L2.CX P w) P w K mg base N q (defScope st) f cdv A outer s H E) (fun cls d _ H => E cls d H) (entry N ds) (defBody st) (postR r)) :
    FnOk P w K mg base (L2.CX P w) (k + 1) f fd ps (spR K R) := by
  refine F.ok S (fun vs H Q E h => ?_) (fun cdv A outer s H vs Q E hr h => ?_)
  · obtain ⟨S', ds, r, _, rl, hR, _⟩ := h
    rw [rl.length]; exact hl ds r hR
  · obtain ⟨S', ds, r, wf, rl, hR, hq⟩ := h
    refine ⟨Xss _ (defBody st), xss_pss, ?_⟩
    have hle : ds.length ≤ N.length := by
      rw [hl ds r hR]
      have := congrArg List.length S.pre
      rw [List.length_take] at this
      omega
    have B := hb cdv A outer s H E hr ds r hR
    refine B ⟨H, S', S', H⟩ S' (L2.start N vs) H (entry_ok wf rl hle) _ ?_
    cases r with
    | ok d => exact ⟨fun Γ h S σ H' E' => hq .non H' E'.same (by have h : d = .non := h; rw [h]; rfl), fun e h v H' s rv => hq v H' s (by have h : e = d := h; rw [← h]; exact rv), fun _ h => h.elim, fun _ h => h.elim, fun _ _ h => h.elim⟩
    | error C => exact ⟨fun _ h => h.elim, fun _ h => h.elim, fun _ h => h.elim, fun _ h => h.elim, fun C' Γ h S σ H' E' => by have h : C' = C := h; rw [h]; exact hq H' E'.same⟩

/-! ### walks -/
/-- walking iter gives the data xs, one behind another -/
def Iv (X : Cx) (Γ : G3) (tg iter : Expr) (xs : List D) : Prop := ∀ (B : Bs) (S : Own) (σ : L2.St) (H : Hp), EnvR X.K B S H σ Γ → ∀ R : It → Hp → Prop,
  (∀ J H1 G Y, EnvR X.K B S H1 σ Γ → Same H H1 → Walk J xs.length G Y → (∀ S2 H2, Lt S H1 S2 H2 → G H2) →
    (∀ i d, xs[i]? = some d → ∀ S2 H2 x H3, Lt S H1 S2 H2 → (∀ a, S2 a → ∃ o, H2 a = some o) → Y i H2 x H3 → Same H2 H3 ∧ Rep X.K S2 H3 d x) → R J H1) → Xi X tg iter σ H R
section
variable {X : Cx} {W : WX} {Γ : G3} {P : Post} {pos p : Pos} {tg e : Expr} {xs : List D}
theorem iv_list (h : Ev X Γ e (.lst xs)) : Iv X Γ tg e xs := fun B S σ H E R q =>
  PI.x (pi_list xe_pe) (h B S σ H E _ fun v H1 E1 s1 r => by
    obtain ⟨a, us, rfl, ⟨sa, ha⟩, ru⟩ := r
    refine ⟨a, rfl, ⟨us, .of ha⟩, q (Itl X.K a) H1 (fun H => SqL X.K H a us) (YAt us) E1 s1 (ru.length ▸ walk_list) (fun S2 H2 L => .of (L a _ sa ha).2) fun i d hd S2 H2 x H3 L wf y => ?_⟩
    obtain ⟨rfl, hx⟩ := y
    obtain ⟨v, hv, rv⟩ := ru.get hd
    rw [hx] at hv; cases hv
    exact ⟨Same.refl _, rv.conv L⟩)
theorem iv_tup (h : Ev X Γ e (.tup xs)) : Iv X Γ tg e xs := fun B S σ H E R q =>
  PI.x (pi_tup xe_pe) (h B S σ H E _ fun v H1 E1 s1 r => by
    obtain ⟨a, us, rfl, ha, ru⟩ := r
    have st : ∀ S2 H2, Lt S H1 S2 H2 → SqT X.K H2 a us := fun S2 H2 L => ha.elim (fun z => .of (L a _ z.1 z.2).2) fun z => z.sq
    refine ⟨a, rfl, ⟨us, st S H1 .refl⟩, q (Itt X.K a) H1 (fun H => SqT X.K H a us) (YAt us) E1 s1 (ru.length ▸ walk_tup) st fun i d hd S2 H2 x H3 L wf y => ?_⟩
    obtain ⟨rfl, hx⟩ := y
    obtain ⟨v, hv, rv⟩ := ru.get hd
    rw [hx] at hv; cases hv
    exact ⟨Same.refl _, rv.conv L⟩)
/-- range(n) -/
def rngD (lo : Int) (n : Nat) : List D := (List.range n).map fun (i : Nat) => D.int (lo + i)
theorem rngD_len (lo : Int) (n : Nat) : (rngD lo n).length = n := by unfold rngD; simp
theorem rngD_at {lo : Int} {n i : Nat} {d : D} (h : (rngD lo n)[i]? = some d) : i < n ∧ d = .int (lo + i) := by
  have hi : i < n := by
    have := (List.getElem?_eq_some_iff.mp h).1
    rwa [rngD_len] at this
  refine ⟨hi, ?_⟩
  unfold rngD at h
  rw [List.getElem?_map, List.getElem?_range hi] at h
  cases h
  rfl
theorem iv_range {n : Int} (mz : X.mg "range" = none) (h : Ea X Γ [e] [.int n]) (h1 : -(2 ^ 62) ≤ n) (h2 : n < 2 ^ 62) (hg : Gl X "range" := by rfl) (hs : starEach [e] X.env = [(false, eval e X.env)] := by rfl) : Iv X Γ tg (.Call (.Name "range" p) [e] [] pos) (rngD 0 n.toNat) := fun B S σ H E R q =>
  PI.x (pi_range1 hg mz xa_pa hs) (h B S σ H E _ fun vs H1 E1 s1 r => by
    obtain ⟨x, t, rfl, r, r'⟩ := r
    have r : x = .int n := r
    have r' : t = [] := r'
    subst r r'
    refine ⟨n, rfl, h1, h2, q _ H1 (fun _ => True) (YFn fun i => .int (0 + i)) E1 s1 ((rngD_len 0 n.toNat).symm ▸ walk_range) (fun _ _ _ => trivial) fun i d hd S2 H2 x H3 L wf y => ?_⟩
    obtain ⟨rfl, rfl⟩ := y
    obtain ⟨_, rfl⟩ := rngD_at hd
    exact ⟨Same.refl _, rfl⟩)
theorem iv_range2 {e2 : Expr} {lo hi : Int} (mz : X.mg "range" = none) (h : Ea X Γ [e, e2] [.int lo, .int hi]) (h1 : -(2 ^ 62) ≤ lo ∧ lo < 2 ^ 62 ∧ -(2 ^ 62) ≤ hi ∧ hi < 2 ^ 62) (hg : Gl X "range" := by rfl)
    (hs : starEach [e, e2] X.env = [(false, eval e X.env), (false, eval e2 X.env)] := by rfl) (hs2 : starEach [e2] X.env = [(false, eval e2 X.env)] := by rfl) : Iv X Γ tg (.Call (.Name "range" p) [e, e2] [] pos) (rngD lo (hi - lo).toNat) := fun B S σ H E R q =>
  PI.x (pi_range2 hg mz xa_pa hs hs2) (h B S σ H E _ fun vs H2 E2 s2 r => by
    obtain ⟨x, t, rfl, r1, y, t', rfl, r2, r3⟩ := r
    have r1 : x = .int lo := r1
    have r2 : y = .int hi := r2
    have r3 : t' = [] := r3
    subst r1 r2 r3
    refine ⟨lo, hi, rfl, h1, q _ H2 (fun _ => True) (YFn fun i => .int (lo + i)) E2 s2 ((rngD_len lo (hi - lo).toNat).symm ▸ walk_range) (fun _ _ _ => trivial) fun i d hd S2 H3 x H4 L wf y => ?_⟩
    obtain ⟨rfl, rfl⟩ := y
    obtain ⟨_, rfl⟩ := rngD_at hd
    exact ⟨Same.refl _, rfl⟩)
/-- targets: the slots that the item goes to -/
theorem wipe_get {σ : L2.St} {j : Nat} : ∀ vs : List Nat, (wipe σ vs)[j]? = if j ∈ vs ∧ j < σ.length then some none else σ[j]?
  | [] => by rw [if_neg (by simp)]; rfl
  | v :: vs => by
    show ((wipe σ vs).set v none)[j]? = _
    by_cases hv : v = j
    · subst hv
      by_cases hl : v < σ.length
      · rw [List.getElem?_set_self (by rw [wipe_length]; exact hl), if_pos ⟨by simp, hl⟩]
      · rw [List.getElem?_eq_none (by rw [List.length_set, wipe_length]; omega), if_neg (by omega), List.getElem?_eq_none (by omega)]
    · rw [List.getElem?_set_ne hv, wipe_get vs]
      have : (j ∈ v :: vs) ↔ j ∈ vs := by simp [Ne.symm hv]
      simp only [this]
theorem wipe_set {σ : L2.St} {i : Nat} {x : Option V} {vs : List Nat} (h : i ∈ vs) : wipe (σ.set i x) vs = wipe σ vs := by
  refine List.ext_getElem? fun j => ?_
  rw [wipe_get, wipe_get, List.length_set]
  by_cases hj : j ∈ vs ∧ j < σ.length
  · rw [if_pos hj, if_pos hj]
  · rw [if_neg hj, if_neg hj]
    by_cases e : i = j
    · subst e
      have hl : ¬ i < σ.length := fun z => hj ⟨h, z⟩
      rw [List.getElem?_eq_none (by rw [List.length_set]; omega), List.getElem?_eq_none (by omega)]
    · rw [List.getElem?_set_ne e]
theorem wipe_set_self (σ : L2.St) (vs : List Nat) : wipe (wipe σ vs) vs = wipe σ vs := by
  refine List.ext_getElem? fun j => ?_
  rw [wipe_get, wipe_get, wipe_length]
  by_cases hj : j ∈ vs ∧ j < σ.length
  · rw [if_pos hj, if_pos hj]
  · rw [if_neg hj, if_neg hj]
/-- is: the slots that it stores -/
def Tg (X : Cx) (tg : Expr) (d : D) (is : List Nat) (f : G3 → G3) : Prop := ∀ (B : Bs) (S : Own) (σ : L2.St) (H : Hp) (Γ : G3), EnvR X.K B S H σ Γ → ∀ x, Rep X.K S H d x → ∀ (pins : List (Addr × Obj)) (s : Shared) (u : Value), Inv X pins σ H s → RelV x u →
  wpAny (model X.prog X.w) X.A (assign tg X.env u) (fun _ s' => ∃ σ', Inv X pins σ' H s' ∧ EnvR X.K B S H σ' (f Γ) ∧ ∀ vs : List Nat, (∀ i, i ∈ is → i ∈ vs) → wipe σ' vs = wipe σ vs) X.xe s
theorem tg_name (i : Nat) {y : Str} {d : D} (hN : X.N.Nodup) (hi : X.N[i]? = some y := by rfl) (hx : Loc X.env.scope y := by first | exact .inl rfl | exact .inr rfl) (hf : X.fn y = true ∨ X.env.scope.names.lookup y = some .local := by first | exact .inl rfl | exact .inr rfl) :
    Tg X (.Name y pos) d [i] (fun Γ => Γ.set i (.val d)) := fun B S σ H Γ E x r pins s u I ru =>
  thn ((pg_name hN hi hx hf).run pins s σ H x u (fun σ' H' => H' = H ∧ σ' = σ.set i (some x)) I ru ⟨rfl, rfl⟩) fun _ s' ⟨σ', H', I', e, e'⟩ => ⟨σ', e ▸ I', e' ▸ E.store r, fun vs h => e' ▸ wipe_set (h i (by simp))⟩
/-- several targets, from the left -/
def Tgs (X : Cx) (tgs : List Expr) (ds : List D) (is : List Nat) (f : G3 → G3) : Prop := ∀ (B : Bs) (S : Own) (σ : L2.St) (H : Hp) (Γ : G3), EnvR X.K B S H σ Γ → ∀ xs, RepL X.K S H ds xs → ∀ (pins : List (Addr × Obj)) (s : Shared) (us : List Value), Inv X pins σ H s → Vals xs us →
  wpAny (model X.prog X.w) X.A (assignInOrder ((assignEach tgs X.env).map (·.2)) us) (fun _ s' => ∃ σ', Inv X pins σ' H s' ∧ EnvR X.K B S H σ' (f Γ) ∧ ∀ vs : List Nat, (∀ i, i ∈ is → i ∈ vs) → wipe σ' vs = wipe σ vs) X.xe s
theorem tgs_nil : Tgs X [] [] [] (fun Γ => Γ) := fun B S σ H Γ E xs r pins s us I rv => by
  have r : xs = [] := r
  subst r
  cases rv
  exact assignInOrder_nil ⟨σ, I, E, fun _ _ => rfl⟩
theorem tgs_cons {t : Expr} {ts : List Expr} {d : D} {ds : List D} {is js : List Nat} {f g : G3 → G3} (h : Tg X t d is f) (k : Tgs X ts ds js g)
    (hs : (assignEach (t :: ts) X.env).map (·.2) = assign t X.env :: (assignEach ts X.env).map (·.2) := by rfl) : Tgs X (t :: ts) (d :: ds) (is ++ js) (fun Γ => g (f Γ)) := fun B S σ H Γ E xs r pins s us I rv => by
  obtain ⟨x, xs', rfl, r1, r2⟩ := r
  cases rv with
  | cons ru rr =>
    rw [hs]
    refine assignInOrder_cons (thn (h B S σ H Γ E x r1 pins s _ I ru) fun _ s1 ⟨σ1, I1, E1, w1⟩ => ?_)
    refine thn (k B S σ1 H (f Γ) E1 xs' r2 pins s1 _ I1 rr) fun _ s2 ⟨σ2, I2, E2, w2⟩ => ⟨σ2, I2, E2, fun vs hv => ?_⟩
    rw [w2 vs fun i hi => hv i (List.mem_append_right _ hi), w1 vs fun i hi => hv i (List.mem_append_left _ hi)]
theorem tg_tup {ts : List Expr} {kk : Nat} {ds : List D} {is : List Nat} {f : G3 → G3} (h : Tgs X ts ds is f) (hc : X.calm = true := by rfl)
    (hn : (assignEach ts X.env).length = ds.length := by rfl) (hst : (assignEach ts X.env).findIdx? (·.1) = none := by rfl) : Tg X (.Tuple ts kk pos) (.tup ds) is f := fun B S σ H Γ E x r pins s u I ru => by
  obtain ⟨a, xs, rfl, ha, rl⟩ := r
  cases ru
  obtain ⟨its, rv, ht, hz⟩ := I.tuple (tup_sq ha)
  refine assign_Tuple_tuple (I.ok.hd hc) ht (by simp [hn, ← rl.length, rv.length]) hst fun h' hx => ?_
  have I1 : Inv X pins σ H { s with heap := h' } := I.kept (t' := s.toks) fun b o e => hx b o (Nat.ne_of_lt (Heap.lt_size e)) e
  exact h B S σ H Γ E xs rl pins _ _ I1 (by simpa using rv)
/-- for: the word I of the turn and the names -/
theorem sl_for {iter : Expr} {body : List Stmt} (I : Nat → G3 → Prop) (f : D → G3 → G3) (hi : Iv X Γ tg iter xs) {is : List Nat} (ht : ∀ d, d ∈ xs → Tg X tg d is (f d)) (Γ0 : G3) (w0 : Weak Γ Γ0) (h0 : I 0 Γ0)
    (hb : ∀ i d Γ1, xs[i]? = some d → I i Γ1 → Bl X W (f d Γ1) body { P with nx := fun G => ∃ G', Weak G G' ∧ I (i + 1) G', ct := fun G => ∃ G', Weak G G' ∧ I (i + 1) G', bk := P.nx }) (hn : ∀ Γ1, I xs.length Γ1 → P.nx Γ1)
    (hp : PassesOwn (model X.prog X.w) X.A X.env X.xe) (hc : X.calm = true := by rfl) (hs : ∀ x, foldedSetIterable iter X.env x = pure x := by intro _; rfl) : Sl X W Γ (.For tg iter body [] pos) P := fun B S σ H E D O => by
  -- the target as it is used: at the words that hold there
  let T : TG := fun v σ H Q => ∃ B S Γ d, EnvR X.K B S H σ Γ ∧ Rep X.K S H d v ∧ d ∈ xs ∧ ∀ σ', EnvR X.K B S H σ' (f d Γ) → Q σ' H
  have hT : PG X tg T := ⟨fun pins s σ H v u Q I r ⟨B, S, Γ, d, E, rd, hd, q⟩ => thn (ht d hd B S σ H Γ E v rd pins s u I r) fun _ s' ⟨σ', I', E', _⟩ => ⟨σ', H, I', q σ' E'⟩⟩
  refine PS.x (ps_for hp hc xi_pi hT xss_pss hs) (hi B S σ H E _ fun J H1 G Y E1 s1 wk hG hY => ?_)
  refine for_it wk (fun i σ2 H2 => ∃ S2 Γ1, EnvR X.K (B.here S H1) S2 H2 σ2 Γ1 ∧ I i Γ1) ⟨S, Γ0, E1.snap.weak w0, h0⟩ (fun i σ2 H2 _ ⟨S2, Γ1, E2, _⟩ => hG S2 H2 E2.later) (fun i x σ2 H2 H3 hi ⟨S2, Γ1, E2, hI⟩ y => ?_) (fun σ2 H2 ⟨S2, Γ1, E2, hI⟩ => O.nx Γ1 (hn Γ1 hI) S2 σ2 H2 (E2.unsnap E1.later))
  have hd : xs[i]? = some xs[i] := List.getElem?_eq_getElem hi
  obtain ⟨s3, r3⟩ := hY i _ hd S2 H2 x H3 E2.later E2.wf y
  refine ⟨B.here S H1, S2, Γ1, xs[i], E2.to s3, r3, List.getElem_mem hi, fun σ' E' => ?_⟩
  refine hb i _ Γ1 hd hI (B.here S H1) S2 σ' H3 E' _ ⟨fun Γ2 ⟨G', w, h⟩ S4 σ4 H4 E4 => ⟨S4, G', E4.weak w, h⟩, O.rt, fun Γ2 h S4 σ4 H4 E4 => O.nx Γ2 h S4 σ4 H4 (E4.unsnap E1.later), fun Γ2 ⟨G', w, h⟩ S4 σ4 H4 E4 => ⟨S4, G', E4.weak w, h⟩, fun C Γ2 h S4 σ4 H4 E4 => O.ex C Γ2 h S4 σ4 H4 (E4.unsnap E1.later)⟩
/-- .. the words told by the turn -/
theorem sl_forG {iter : Expr} {body : List Stmt} (Φ : Nat → G3) (f : D → G3 → G3) (hi : Iv X Γ tg iter xs) {is : List Nat} (ht : ∀ d, d ∈ xs → Tg X tg d is (f d)) (w0 : Weak Γ (Φ 0))
    (hb : ∀ i d, xs[i]? = some d → Bl X W (f d (Φ i)) body { P with nx := fun G => Weak G (Φ (i + 1)), ct := fun G => Weak G (Φ (i + 1)), bk := P.nx }) (hn : P.nx (Φ xs.length))
    (hp : PassesOwn (model X.prog X.w) X.A X.env X.xe) (hc : X.calm = true := by rfl) (hs : ∀ x, foldedSetIterable iter X.env x = pure x := by intro _; rfl) : Sl X W Γ (.For tg iter body [] pos) P :=
  sl_for (fun i G => G = Φ i) f hi ht (Φ 0) w0 rfl (fun i d Γ1 hd e => by
    subst e
    intro B S σ H E D O
    exact hb i d hd B S σ H E D ⟨fun Γ2 w => O.nx Γ2 ⟨_, w, rfl⟩, O.rt, O.bk, fun Γ2 w => O.ct Γ2 ⟨_, w, rfl⟩, O.ex⟩) (fun Γ1 e => by subst e; exact hn) hp hc hs
/-- .. of known words -/
theorem bl_at {Γ' : G3} {sts : List Stmt} (h : Bl X W Γ' sts P) (e : Γ = Γ' := by rfl) : Bl X W Γ sts P := e ▸ h
/-- the block's end, in weaker words -/
theorem bl_nilW {Γ' : G3} (w : Weak Γ Γ') (h : P.nx Γ') : Bl X W Γ [] P := bl_weak w (bl_nil h)
end
/-! ### while -/
section
variable {X : Cx} {W : WX} {Γ : G3} {P : Post} {pos : Pos}
theorem sl_while {c : Expr} {body : List Stmt} (I : Nat → G3 → Prop) (Γ0 : G3) (w0 : Weak Γ Γ0) (m0 : Nat) (h0 : I m0 Γ0)
    (hb : ∀ m Γ1, I m Γ1 → ∃ k, Et X Γ1 c k ∧ (k = true → Bl X W Γ1 body { P with nx := fun Γ2 => ∃ m', m' < m ∧ I m' Γ2, ct := fun Γ2 => ∃ m', m' < m ∧ I m' Γ2, bk := P.nx }) ∧ (k = false → P.nx Γ1))
    (hp : PassesOwn (model X.prog X.w) X.A X.env X.xe) : Sl X W Γ (.While c body [] pos) P := fun B S σ H E D O => by
  refine PS.x (ps_while hp xt_pt xss_pss) ⟨fun m σ2 H2 => ∃ S2 Γ1, EnvR X.K B S2 H2 σ2 Γ1 ∧ I m Γ1, ⟨m0, S, Γ0, E.weak w0, h0⟩, fun m σ2 H2 ⟨S2, Γ1, E2, hI⟩ => ?_⟩
  obtain ⟨k, ht, hy, hn⟩ := hb m Γ1 hI
  refine ht B S2 σ2 H2 E2 _ fun H3 E3 s3 => ?_
  cases k with
  | false => rw [if_neg Bool.false_ne_true]; exact O.nx Γ1 (hn rfl) S2 σ2 H3 E3
  | true =>
    rw [if_pos rfl]
    refine ⟨fun σ4 H4 => ∃ S4 Γ4 m', m' < m ∧ EnvR X.K B S4 H4 σ4 Γ4 ∧ I m' Γ4, fun σ4 H4 ⟨S4, Γ4, m', hm, E4, h4⟩ => ⟨m', hm, S4, Γ4, E4, h4⟩, ?_⟩
    exact hy rfl B S2 σ2 H3 E3 _ ⟨fun Γ2 ⟨m', hm, h⟩ S4 σ4 H4 E4 => ⟨S4, Γ2, m', hm, E4, h⟩, O.rt, fun Γ2 h S4 σ4 H4 E4 => O.nx Γ2 h S4 σ4 H4 E4, fun Γ2 ⟨m', hm, h⟩ S4 σ4 H4 E4 => ⟨S4, Γ2, m', hm, E4, h⟩, O.ex⟩
end

/-! ### comprehensions -/
section
variable {K : PySem.W.Frag} {B : Bs} {S : Own} {H : Hp} {σ : L2.St} {Γ : G3}
theorem wipe_env (E : EnvR K B S H σ Γ) : ∀ vs : List Nat, EnvR K B S H (wipe σ vs) (vs.foldr (fun i G => G.set i .any) Γ)
  | [] => E
  | v :: vs => by
    have E' := (wipe_env E vs).drop v
    refine ⟨E'.wf, E'.wf0, E'.sub, E'.same, E'.later, ?_, fun i k e => ?_, fun i j k l a e1 e2 o1 o2 s1 s2 => ?_⟩
    · show ((wipe σ vs).set v none).length = _
      rw [List.length_set]; exact E'.len
    · by_cases hi : v = i
      · subst hi
        have hl : v < (List.foldr (fun i G => List.set G i SK.any) Γ vs).length := by
          have := (List.getElem?_eq_some_iff.mp e).1
          rwa [List.foldr_cons, List.length_set] at this
        rw [List.foldr_cons, List.getElem?_set_self hl] at e
        cases e
        exact ⟨none, by show ((wipe σ vs).set v none)[v]? = _; rw [List.getElem?_set_self (by rw [(wipe_env E vs).len]; exact hl)], trivial⟩
      · obtain ⟨o, q, r⟩ := E'.at_ i k e
        exact ⟨o, by show ((wipe σ vs).set v none)[i]? = _; rw [List.getElem?_set_ne hi]; exact q, r⟩
    · have no : ∀ (i : Nat) (a : Addr), (wipe σ (v :: vs))[i]? = some (some (.ref a)) → (wipe σ vs)[i]? = some (some (.ref a)) := fun i a q => by
        by_cases hi : v = i
        · subst hi
          have q : ((wipe σ vs).set v none)[v]? = some (some (.ref a)) := q
          by_cases hl : v < (wipe σ vs).length
          · rw [List.getElem?_set_self hl] at q; cases q
          · rw [List.getElem?_eq_none (by simpa using hl)] at q; cases q
        · have q : ((wipe σ vs).set v none)[i]? = some (some (.ref a)) := q
          rwa [List.getElem?_set_ne hi] at q
      exact E'.dis i j k l a e1 e2 o1 o2 (no i a s1) (no j a s2)
theorem same_new {p : Addr} {o : HO} (n : H p = none) : Same H (upd H p o) := fun b u e => by rw [upd_ne (ne_of_none e n)]; exact e
/-- a list of no name's -/
structure Apart (S : Own) (σ : L2.St) (Γ : G3) (H0 : Hp) (p : Addr) : Prop where
  own : S p
  new : H0 p = none
  no : ∀ (i : Nat) (k : SK), Γ[i]? = some k → isOwn k = true → σ[i]? ≠ some (some (.ref p))
theorem EnvR.new1 (E : EnvR K B S H σ Γ) {p : Addr} (n : H p = none) (xs : List V) : EnvR K B (fun a => S a ∨ a = p) (upd H p (.lst xs)) σ Γ ∧ Apart (fun a => S a ∨ a = p) σ Γ B.H0 p := by
  have sm : Same H (upd H p (.lst xs)) := same_new n
  have lt : Lt S H (fun a => S a ∨ a = p) (upd H p (.lst xs)) := fun a o s e => ⟨fun q => q.elim s (fun z => by rw [z, n] at e; cases e), sm a o e⟩
  refine ⟨⟨fun a s => ?_, E.wf0, fun a s => .inl (E.sub a s), E.same.trans sm, E.later.trans lt, E.len, fun i k e => ?_, E.dis⟩, .inr rfl, E.fresh0 n, fun i k e o q => ?_⟩
  · rcases s with s | s
    · obtain ⟨o, e⟩ := E.wf a s; exact ⟨o, sm a o e⟩
    · exact ⟨_, by rw [s]; exact upd_same⟩
  · obtain ⟨o, q, s⟩ := E.at_ i k e
    refine ⟨o, q, ?_⟩
    cases k with
    | any => trivial
    | val d => obtain ⟨v, e, r⟩ := s; exact ⟨v, e, r.conv lt⟩
    | own ds => obtain ⟨a, xs, e, s, n, q, r⟩ := s; exact ⟨a, xs, e, .inl s, n, sm _ _ q, r.conv lt⟩
    | slf C fs => obtain ⟨a, dx, xs, e, s, n, q, r⟩ := s; exact ⟨a, dx, xs, e, .inl s, n, sm _ _ q, r.conv lt⟩
  · obtain ⟨ob, q', s⟩ := E.at_ i k e
    rw [q] at q'; cases q'
    cases k with
    | own ds => obtain ⟨a, xs, e, _, _, q, _⟩ := s; cases e; rw [n] at q; cases q
    | slf C fs => obtain ⟨a, dx, xs, e, _, _, q, _⟩ := s; cases e; rw [n] at q; cases q
    | any => cases o
    | val d => cases o
theorem EnvR.write1 (E : EnvR K B S H σ Γ) {p : Addr} (A : Apart S σ Γ B.H0 p) (ys : List V) : EnvR K B S (upd H p (.lst ys)) σ Γ := by
  have lt : Lt S H S (upd H p (.lst ys)) := fun b u sb q => ⟨sb, by rw [upd_ne (fun z => sb (by rw [z]; exact A.own))]; exact q⟩
  refine ⟨fun b sb => ?_, E.wf0, E.sub, fun b u q => ?_, E.later.trans lt, E.len, fun j k ek => ?_, E.dis⟩
  · by_cases hb : b = p
    · rw [hb]; exact ⟨_, upd_same⟩
    · obtain ⟨u, q⟩ := E.wf b sb; exact ⟨u, by rw [upd_ne hb]; exact q⟩
  · rw [upd_ne (fun z => by rw [z, A.new] at q; cases q)]; exact E.same b u q
  · obtain ⟨ob, q, sl⟩ := E.at_ j k ek
    refine ⟨ob, q, ?_⟩
    cases k with
    | any => trivial
    | val d => obtain ⟨v, e, r⟩ := sl; exact ⟨v, e, r.conv lt⟩
    | own fs =>
      obtain ⟨b, zs, eb, sb, nb, hb, rb⟩ := sl
      have nba : b ≠ p := fun z => A.no j _ ek rfl (by rw [q, eb, z])
      exact ⟨b, zs, eb, sb, nb, by rw [upd_ne nba]; exact hb, rb.conv lt⟩
    | slf C fs =>
      obtain ⟨b, dx, zs, eb, sb, nb, hb, rb⟩ := sl
      have nba : b ≠ p := fun z => A.no j _ ek rfl (by rw [q, eb, z])
      exact ⟨b, dx, zs, eb, sb, nb, by rw [upd_ne nba]; exact hb, rb.conv lt⟩
/-- fewer are owned, all of the names' among them -/
theorem EnvR.fewer {S' : Own} {p : Addr} (E : EnvR K B S H σ Γ) (A : Apart S σ Γ B.H0 p) (h : ∀ a, S' a → S a) (h' : ∀ a, S a → S' a ∨ a = p) : EnvR K B S' H σ Γ := by
  have lt : Lt S H S' H := .less h
  refine ⟨fun b sb => E.wf b (h b sb), E.wf0, fun b s0 => (h' b (E.sub b s0)).resolve_right fun z => ?_, E.same, E.later.trans lt, E.len, fun j k ek => ?_, E.dis⟩
  · obtain ⟨u, hu⟩ := E.wf0 b s0
    rw [z, A.new] at hu; cases hu
  · obtain ⟨ob, q, sl⟩ := E.at_ j k ek
    refine ⟨ob, q, ?_⟩
    cases k with
    | any => trivial
    | val d => obtain ⟨v, e, r⟩ := sl; exact ⟨v, e, r.conv lt⟩
    | own fs =>
      obtain ⟨b, zs, eb, sb, nb, hb, rb⟩ := sl
      exact ⟨b, zs, eb, (h' b sb).resolve_right fun z => A.no j _ ek rfl (by rw [q, eb, z]), nb, hb, rb.conv lt⟩
    | slf C fs =>
      obtain ⟨b, dx, zs, eb, sb, nb, hb, rb⟩ := sl
      exact ⟨b, dx, zs, eb, (h' b sb).resolve_right fun z => A.no j _ ek rfl (by rw [q, eb, z]), nb, hb, rb.conv lt⟩
end
/-- a clause's tests -/
def Xf (X : Cx) (ifs : List Expr) : TT := fun σ H Q => ∀ pins s, Inv X pins σ H s →
  wpAny (model X.prog X.w) X.A (forIn ifs true fun c r => if r = true then do let ok ← isTrue c X.env (eval c X.env); pure (ForInStep.yield ok) else pure (ForInStep.yield r)) (TP X pins σ Q) X.xe s
def Ef (X : Cx) (Γ : G3) (ifs : List Expr) (b : Bool) : Prop := ∀ (B : Bs) (S : Own) (σ : L2.St) (H : Hp), EnvR X.K B S H σ Γ → ∀ Q : Bool → Hp → Prop, (∀ H', EnvR X.K B S H' σ Γ → Same H H' → Q b H') → Xf X ifs σ H Q
theorem ef_nil {X : Cx} {Γ : G3} : Ef X Γ [] true := fun B S σ H E Q q pins s I => pts_nil.run pins s σ H Q I (q H E (Same.refl H))
theorem ef_one {X : Cx} {Γ : G3} {c : Expr} {k : Bool} (h : Et X Γ c k) : Ef X Γ [c] k := fun B S σ H E Q q pins s I => (pts_one xt_pt).run pins s σ H Q I (h B S σ H E Q q)
def wiped (is : List Nat) (Γ : G3) : G3 := is.foldr (fun i G => G.set i .any) Γ
section
variable {X : Cx} {Γ : G3} {pos : Pos} {tg e elt iter : Expr} {xs : List D}
/-- the context of a block -/
abbrev Cx.bk (X : Cx) (scope : Scope) (s : Shared) (H : Hp) (C : Addr) (cl : List (Str × Addr)) (fp : List Addr) : Cx := X.blk s H scope (compEnvC scope cl C X.env) fp
theorem take_filter {xs : List D} {i : Nat} {d : D} (p : D → Bool) (g : D → D) (h : xs[i]? = some d) : ((xs.take (i + 1)).filter p).map g = ((xs.take i).filter p).map g ++ (if p d = true then [g d] else []) := by
  rw [List.take_add_one, h, List.filter_append, List.map_append]
  show _ ++ List.map g (List.filter p [d]) = _
  by_cases c : p d = true
  · rw [if_pos c, List.filter_cons_of_pos c, List.filter_nil]; rfl
  · rw [if_neg c, List.filter_cons_of_neg c, List.filter_nil]; rfl
def cT (X : Cx) (xs : List D) (f : D → G3 → G3) (own : List (Str × Nat)) : TG := fun v σ H Q => ∃ B S Γ d, EnvR X.K B S H σ Γ ∧ Rep X.K S H d v ∧ d ∈ xs ∧ ∀ σ', EnvR X.K B S H σ' (f d Γ) → wipe σ' (own.map (·.2)) = wipe σ (own.map (·.2)) → Q σ' H
def ctt (X : Cx) (scope : Scope) (ifs : List Expr) : TT := fun σ H Q => ∀ s H0 C cl fp, Xf (Cx.bk X scope s H0 C cl fp) ifs σ H Q
def cte (X : Cx) (scope : Scope) (elt : Expr) : TE := fun σ H Q => ∀ s H0 C cl fp, Xe (Cx.bk X scope s H0 C cl fp) elt σ H Q
/-- what a comprehension reads -/
theorem lc_read {scope : Scope} {own : List (Str × Nat)} {ifs : List Expr} {is : List Nat} (p : D → Bool) (g : D → D) (f : D → G3 → G3) (hi : Iv X Γ tg iter xs) (hx : xs.length ≤ 16777216)
    (ht : ∀ s H C cl fp d, d ∈ xs → Tg (Cx.bk X scope s H C cl fp) tg d is (f d)) (his : ∀ i, i ∈ is → i ∈ own.map (·.2))
    (hf : ∀ s H C cl fp d, d ∈ xs → Ef (Cx.bk X scope s H C cl fp) (f d (wiped (own.map (·.2)) Γ)) ifs (p d))
    (he : ∀ s H C cl fp d, d ∈ xs → p d = true → Ev (Cx.bk X scope s H C cl fp) (f d (wiped (own.map (·.2)) Γ)) elt (g d))
    (hN : X.N.Nodup) (ok : BlkOk X.N X.env.scope scope own) (hc : X.calm = true) :
    ∃ (T : TG) (tt : TT) (te : TE), (∀ (s : Shared) (H : Hp) (C : Addr) (cl : List (Str × Addr)) (fp : List Addr), PG (X.blk s H scope (compEnvC scope cl C X.env) fp) tg T) ∧
      (∀ (s : Shared) (H : Hp) (C : Addr) (cl : List (Str × Addr)) (fp : List Addr), PTs (X.blk s H scope (compEnvC scope cl C X.env) fp) ifs tt) ∧
      (∀ (s : Shared) (H : Hp) (C : Addr) (cl : List (Str × Addr)) (fp : List Addr), PE (X.blk s H scope (compEnvC scope cl C X.env) fp) elt te) ∧
      ∀ (B : Bs) (S : Own) (σ : L2.St) (H : Hp), EnvR X.K B S H σ Γ → ∀ Q : VK, (∀ v H', EnvR X.K B S H' σ Γ → Same H H' → Rep X.K S H' (.lst ((xs.filter p).map g)) v → Q v H') → tLc (Xi X tg iter) T tt te (own.map (·.2)) σ H Q := by
  refine ⟨cT X xs f own, ctt X scope ifs, cte X scope elt, fun s H0 C cl fp => ?_, fun s H0 C cl fp => ⟨fun pins s1 σ H Q I h => h s H0 C cl fp pins s1 I⟩, fun s H0 C cl fp => ⟨fun pins s1 σ H Q I h => h s H0 C cl fp pins s1 I⟩, fun B S σ H E Q q => ?_⟩
  · exact ⟨fun pins s1 σ H v u Q I r ⟨B, S, Γ, d, E, rd, hd, q⟩ => thn (ht s H0 C cl fp d hd B S σ H Γ E v rd pins s1 u I r) fun _ s' ⟨σ', I', E', w⟩ => ⟨σ', H, I', q σ' E' (w _ his)⟩⟩
  · refine hi B S σ H E _ fun J H1 G Y E1 s1 wk hG hY A n => ?_
    obtain ⟨E2, ap⟩ := E1.snap.new1 (p := A) n []
    refine lc_it (g := cT X xs f own) (tt := ctt X scope ifs) (te := cte X scope elt) (vs := own.map (·.2)) (σ := σ) (D := A) (Qd := fun H => Q (.ref A) H) wk (fun i H2 => ∃ acc, H2 A = some (.lst acc) ∧ RepL X.K (fun a => S a ∨ a = A) H2 (((xs.take i).filter p).map g) acc ∧ Same H1 H2 ∧ EnvR X.K (B.here S H1) (fun a => S a ∨ a = A) H2 σ Γ) ?_ ?_ ?_ ?_
    · exact ⟨[], upd_same, rfl, same_new n, E2⟩
    · rintro i H2 _ ⟨acc, _, _, _, E3⟩
      exact hG _ H2 E3.later
    · rintro i x H2 H3 hi2 ⟨acc, hA, ra, sm, E3⟩ y
      have hd : xs[i]? = some xs[i] := List.getElem?_eq_getElem hi2
      have hmem : xs[i] ∈ xs := List.getElem_mem hi2
      obtain ⟨s3, r3⟩ := hY i _ hd _ H2 x H3 E3.later E3.wf y
      have E4 := E3.to s3
      refine ⟨B.here S H1, _, _, xs[i], wipe_env E4 (own.map (·.2)), r3, hmem, fun σ' E' hw => ⟨by rw [hw]; exact (wipe_set_self σ _), fun s0 H0 C cl fp => ?_⟩⟩
      refine hf s0 H0 C cl fp _ hmem (B.here S H1) _ σ' H3 E' _ fun H5 E5 s5 => ?_
      have sm5 : Same H2 H5 := s3.trans s5
      cases c : p xs[i] with
      | false =>
        rw [if_neg Bool.false_ne_true]
        refine ⟨acc, sm5 _ _ hA, ?_, sm.trans sm5, E4.to s5⟩
        rw [take_filter p g hd, c, if_neg Bool.false_ne_true, List.append_nil]
        exact ra.conv (.same sm5)
      | true =>
        rw [if_pos rfl]
        intro s0 H0 C cl fp
        refine he s0 H0 C cl fp _ hmem c (B.here S H1) _ σ' H5 E5 _ fun v H6 E6 s6 r6 => ?_
        have sm6 : Same H2 H6 := sm5.trans s6
        have ll : acc.length ≤ i := by
          rw [ra.length, List.length_map]
          exact Nat.le_trans (List.length_filter_le _ _) (List.length_take_le _ _)
        refine ⟨acc, sm6 _ _ hA, by rw [sizeLine_eq]; omega, acc ++ [v], upd_same, ?_, fun b u e => ?_, (E4.to (s5.trans s6)).write1 ap _⟩
        · rw [take_filter p g hd, c, if_pos rfl]
          have lt : Lt (fun a => S a ∨ a = A) H6 (fun a => S a ∨ a = A) (upd H6 A (.lst (acc ++ [v]))) := fun b u sb e => ⟨sb, by rw [upd_ne (fun z => sb (.inr z))]; exact e⟩
          exact ((ra.conv (.same sm6)).append (RepL.one r6)).conv lt
        · rw [upd_ne (ne_of_none e n)]; exact sm6 _ _ (sm b u e)
    · rintro H2 ⟨acc, hA, ra, sm, E3⟩
      have E5 := E3.fewer ap (S' := S) (fun a s => .inl s) (fun a s => s)
      refine q _ _ (E5.unsnap E1.later) (s1.trans sm) ⟨A, acc, rfl, ⟨E1.fresh n, hA⟩, ?_⟩
      rw [List.take_length] at ra
      exact ra.conv (.less fun a s => .inl s)
/-- [elt for tg in iter if ..] -/
theorem ev_lc {scope : Scope} (own : List (Str × Nat)) {ifs : List Expr} (is : List Nat) (p : D → Bool) (g : D → D) (f : D → G3 → G3) (hi : Iv X Γ tg iter xs) (hx : xs.length ≤ 16777216)
    (ht : ∀ s H C cl fp d, d ∈ xs → Tg (Cx.bk X scope s H C cl fp) tg d is (f d))
    (hf : ∀ s H C cl fp d, d ∈ xs → Ef (Cx.bk X scope s H C cl fp) (f d (wiped (own.map (·.2)) Γ)) ifs (p d))
    (he : ∀ s H C cl fp d, d ∈ xs → p d = true → Ev (Cx.bk X scope s H C cl fp) (f d (wiped (own.map (·.2)) Γ)) elt (g d))
    (hN : X.N.Nodup) (ok : BlkOk X.N X.env.scope scope own) (his : ∀ i, i ∈ is → i ∈ own.map (·.2) := by decide) (hc : X.calm = true := by rfl) (hs : ∀ x, foldedSetIterable iter X.env x = pure x := by intro _; rfl) :
    Ev X Γ (.ListComp elt [⟨tg, iter, ifs, 0⟩] scope pos) (.lst ((xs.filter p).map g)) := fun B S σ H E Q q => by
  obtain ⟨T, tt, te, h1, h2, h3, h4⟩ := lc_read p g f hi hx ht his hf he hN ok hc
  exact PE.x (pe_lc hc hN xi_pi ok h1 h2 h3 hs) (h4 B S σ H E Q q)
/-- name = [..] on one line -/
theorem sl_setLc {W : WX} {P : Post} {scope : Scope} {i : Nat} {y : Str} {py spos : Pos} (own : List (Str × Nat)) {ifs : List Expr} (is : List Nat) (p : D → Bool) (g : D → D) (f : D → G3 → G3) (hi : Iv X Γ tg iter xs) (hx : xs.length ≤ 16777216)
    (ht : ∀ s H C cl fp d, d ∈ xs → Tg (Cx.bk X scope s H C cl fp) tg d is (f d))
    (hf : ∀ s H C cl fp d, d ∈ xs → Ef (Cx.bk X scope s H C cl fp) (f d (wiped (own.map (·.2)) Γ)) ifs (p d))
    (he : ∀ s H C cl fp d, d ∈ xs → p d = true → Ev (Cx.bk X scope s H C cl fp) (f d (wiped (own.map (·.2)) Γ)) elt (g d))
    (hN : X.N.Nodup) (ok : BlkOk X.N X.env.scope scope own) (q : P.nx (Γ.set i (.val (.lst ((xs.filter p).map g)))))
    (hsw : swapsWith (.ListComp elt [⟨tg, iter, ifs, 0⟩] scope pos) (some (.Name y py)) spos.line X.env = pure true) (hy : X.N[i]? = some y := by rfl) (hyl : X.env.scope.names.lookup y = some .local := by rfl)
    (his : ∀ i, i ∈ is → i ∈ own.map (·.2) := by decide) (hc : X.calm = true := by rfl) (hs : ∀ x, foldedSetIterable iter X.env x = pure x := by intro _; rfl) :
    Sl X W Γ (.Assign [.Name y py] (.ListComp elt [⟨tg, iter, ifs, 0⟩] scope pos) spos) P := fun B S σ H E D O => by
  obtain ⟨T, tt, te, h1, h2, h3, h4⟩ := lc_read p g f hi hx ht his hf he hN ok hc
  exact PS.x (ps_setLc hc hN hy hyl hsw xi_pi ok h1 h2 h3 hs) (h4 B S σ H E _ fun v H' E' s r => O.nx _ q S _ H' (E'.store r))
end
end S3

set_option Elab.async false
set_option linter.all false
set_option maxRecDepth 100000
set_option maxHeartbeats 2000000
namespace S3
open PySem PySem.Spec PyProof.Rows L2
/-! ### data that is compared -/
mutual
def toP : D → PyData
  | .non => .none
  | .bl b => .bool b
  | .int i => .int i
  | .str s => .str s
  | .lst ds => .list (toPs ds)
  | .frl ds => .list (toPs ds)
  | .tup ds => .tuple (toPs ds)
  | .obj _ _ => .dict []
  | .raw _ => .dict []
def toPs : List D → List PyData
  | [] => []
  | d :: ds => toP d :: toPs ds
end
section
variable {K : PySem.W.Frag} {S : Own} {H : Hp}
mutual
theorem rep_dp : ∀ (d : D) (v : V), (toP d).canLay0 = true → Rep K S H d v → Dp K H v (toP d)
  | .non, v, _, r => by
    have r : v = V.non := r
    rw [r, toP]; exact .non
  | .bl b, v, _, r => by
    have r : v = V.bl b := r
    rw [r, toP]; exact .bl b
  | .int i, v, _, r => by
    have r : v = V.int i := r
    rw [r, toP]; exact .int i
  | .str s, v, _, r => by
    have r : v = V.str s := r
    rw [r, toP]; exact .str s
  | .lst ds, v, h, r => by
    obtain ⟨a, xs, e, ⟨s, q⟩, r⟩ := r
    rw [toP, PyData.canLay0] at h
    rw [e, toP]; exact .lst (.of q) (reps_dp ds xs h r)
  | .frl ds, v, h, r => by
    obtain ⟨a, xs, e, q, r⟩ := r
    rw [toP, PyData.canLay0] at h
    rw [e, toP]; exact .lst (frl_sq q) (reps_dp ds xs h r)
  | .tup ds, v, h, r => by
    obtain ⟨a, xs, e, q, r⟩ := r
    rw [toP, PyData.canLay0] at h
    rw [e, toP]; exact .tup (tup_sq q) (reps_dp ds xs h r)
  | .obj _ _, _, h, _ => by rw [toP, PyData.canLay0] at h; cases h
  | .raw _, _, h, _ => by rw [toP, PyData.canLay0] at h; cases h
theorem reps_dp : ∀ (ds : List D) (xs : List V), PyData.canLayAll0 (toPs ds) = true → RepL K S H ds xs → DpAll K H xs (toPs ds)
  | [], xs, _, r => by
    have r : xs = [] := r
    rw [r, toPs]; exact .nil
  | d :: ds, xs, h, r => by
    obtain ⟨x, t, e, r, q⟩ := r
    rw [toPs, PyData.canLayAll0, Bool.and_eq_true] at h
    rw [e, toPs]
    exact .cons (rep_dp d x h.1 r) (reps_dp ds t h.2 q)
end
end
abbrev okP (d : D) : Bool := SeqAt.shaped (toP d)
def eqD (d e : D) : Bool := PyData.eqv (toP d) (toP e)
theorem eqD_ints : ∀ ns ms : List Int, PyData.eqvAll (toPs (intsD ns)) (toPs (intsD ms)) = decide (ns = ms)
  | [], [] => by simp [toPs, PyData.eqvAll]
  | [], _ :: _ => by simp [toPs, PyData.eqvAll]
  | _ :: _, [] => by simp [toPs, PyData.eqvAll]
  | n :: ns, m :: ms => by
    have ih := eqD_ints ns ms
    show PyData.eqvAll (toP (.int n) :: toPs (intsD ns)) (toP (.int m) :: toPs (intsD ms)) = _
    rw [PyData.eqvAll, ih, toP, toP, PyData.eqv]
    by_cases h1 : n = m <;> by_cases h2 : ns = ms <;> simp [h1, h2]
theorem eqD_lst (ns ms : List Int) : eqD (.lst (intsD ns)) (.lst (intsD ms)) = decide (ns = ms) := by
  show PyData.eqv (.list _) (.list _) = _
  rw [PyData.eqv, eqD_ints]
theorem ints_lay : ∀ ns : List Int, PyData.canLayAll0 (toPs (intsD ns)) = true ∧ PyData.depthAll (toPs (intsD ns)) = 0
  | [] => by simp [toPs, PyData.canLayAll0, PyData.depthAll]
  | m :: ns => by
    have ih := ints_lay ns
    show PyData.canLayAll0 (toP (.int m) :: toPs (intsD ns)) = true ∧ PyData.depthAll (toP (.int m) :: toPs (intsD ns)) = 0
    rw [PyData.canLayAll0, PyData.depthAll, ih.1, ih.2, toP, PyData.canLay0, PyData.depth]
    exact ⟨rfl, rfl⟩
theorem ok_ints (ns : List Int) : okP (.lst (intsD ns)) = true := by
  obtain ⟨h1, h2⟩ := ints_lay ns
  unfold okP SeqAt.shaped
  rw [toP, PyData.canLay0, PyData.depth, h1, h2]
  rfl
section
variable {X : Cx} {Γ : G3} {pos p : Pos} {a b e : Expr} {d d' : D}
theorem ev_eqD (hu : X.A.units + 64 < cLine) (ha : Ev X Γ a d) (hb : Ev X Γ b d') (h1 : okP d = true) (h2 : okP d' = true) (hm : behindInMarks .Eq b = false := by exact nomark _) : Ev X Γ (.Compare a [.Eq] [b] pos) (.bl (eqD d d')) :=
  ev_two (fun q1 q2 => pe_cmpR (op_eqD hu) q1 q2 hm) ha hb fun B S σ H x y Q E r1 r2 q => by
    exact ⟨toP d, toP d', rep_dp d x (SeqAt.canLay_of_shaped h1) r1, rep_dp d' y (SeqAt.canLay_of_shaped h2) r2, h1, h2, q _ H E (Same.refl H) rfl⟩
theorem ev_neD (hu : X.A.units + 64 < cLine) (ha : Ev X Γ a d) (hb : Ev X Γ b d') (h1 : okP d = true) (h2 : okP d' = true) (hm : behindInMarks .NotEq b = false := by exact nomark _) : Ev X Γ (.Compare a [.NotEq] [b] pos) (.bl (!eqD d d')) :=
  ev_two (fun q1 q2 => pe_cmpR (op_neD hu) q1 q2 hm) ha hb fun B S σ H x y Q E r1 r2 q => by
    exact ⟨toP d, toP d', rep_dp d x (SeqAt.canLay_of_shaped h1) r1, rep_dp d' y (SeqAt.canLay_of_shaped h2) r2, h1, h2, q _ H E (Same.refl H) rfl⟩
theorem ev_eqIL {ns ms : List Int} (hu : X.A.units + 64 < cLine) (ha : Ev X Γ a (.lst (intsD ns))) (hb : Ev X Γ b (.lst (intsD ms))) (hm : behindInMarks .Eq b = false := by exact nomark _) : Ev X Γ (.Compare a [.Eq] [b] pos) (.bl (decide (ns = ms))) := by
  have h := ev_eqD (pos := pos) hu ha hb (ok_ints _) (ok_ints _) hm
  rw [eqD_lst] at h; exact h
theorem ev_neIL {ns ms : List Int} (hu : X.A.units + 64 < cLine) (ha : Ev X Γ a (.lst (intsD ns))) (hb : Ev X Γ b (.lst (intsD ms))) (hm : behindInMarks .NotEq b = false := by exact nomark _) : Ev X Γ (.Compare a [.NotEq] [b] pos) (.bl (!decide (ns = ms))) := by
  have h := ev_neD (pos := pos) hu ha hb (ok_ints _) (ok_ints _) hm
  rw [eqD_lst] at h; exact h
theorem et_two {r : R2} {da db : D} {k : Bool} (hp : ∀ {ta tb}, PE X a ta → PE X b tb → PT X e (tTest (tOp r ta tb))) (ha : Ev X Γ a da) (hb : Ev X Γ b db)
    (h : ∀ (B : Bs) (S : Own) (σ : L2.St) (H : Hp) (x y : V) (Q : VK), EnvR X.K B S H σ Γ → Rep X.K S H da x → Rep X.K S H db y → Q (.bl k) H → r x y H Q) : Et X Γ e k := fun B S σ H E Q q =>
  PT.x (hp xe_pe xe_pe) (ha B S σ H E _ fun x H1 E1 s1 r1 => hb B S σ H1 E1 _ fun y H2 E2 s2 r2 => h B S σ H2 x y _ E2 (r1.conv (.same s2)) r2 ⟨k, rfl, q H2 E2 (s1.trans s2)⟩)
theorem et_eqS {da db : D} {u v : V} (ha : Ev X Γ a da) (hb : Ev X Γ b db) (h1 : sc da = some u := by rfl) (h2 : sc db = some v := by rfl) (hs : scal u v = true := by rfl) (hm : behindInMarks .Eq b = false := by exact nomark _) : Et X Γ (.Compare a [.Eq] [b] pos) (decide (u = v)) :=
  et_two (fun h1 h2 => pt_cmpR op_eq h1 h2 hm) ha hb fun B S σ H x y Q E r1 r2 q => by
    rw [sc_rep h1 r1, sc_rep h2 r2]; exact ⟨hs, q⟩
theorem et_neS {da db : D} {u v : V} (ha : Ev X Γ a da) (hb : Ev X Γ b db) (h1 : sc da = some u := by rfl) (h2 : sc db = some v := by rfl) (hs : scal u v = true := by rfl) (hm : behindInMarks .NotEq b = false := by exact nomark _) : Et X Γ (.Compare a [.NotEq] [b] pos) (!decide (u = v)) :=
  et_two (fun h1 h2 => pt_cmpR op_ne h1 h2 hm) ha hb fun B S σ H x y Q E r1 r2 q => by
    rw [sc_rep h1 r1, sc_rep h2 r2]; exact ⟨hs, q⟩
theorem et_eq {i j : Int} (ha : Ev X Γ a (.int i)) (hb : Ev X Γ b (.int j)) : Et X Γ (.Compare a [.Eq] [b] pos) (decide (i = j)) := by
  have h := et_eqS (pos := pos) ha hb
  rw [vint_eq] at h; exact h
theorem et_ne {i j : Int} (ha : Ev X Γ a (.int i)) (hb : Ev X Γ b (.int j)) : Et X Γ (.Compare a [.NotEq] [b] pos) (!decide (i = j)) := by
  have h := et_neS (pos := pos) ha hb
  rw [vint_eq] at h; exact h
theorem et_eqD (hu : X.A.units + 64 < cLine) (ha : Ev X Γ a d) (hb : Ev X Γ b d') (h1 : okP d = true) (h2 : okP d' = true) (hm : behindInMarks .Eq b = false := by exact nomark _) : Et X Γ (.Compare a [.Eq] [b] pos) (eqD d d') :=
  et_two (fun q1 q2 => pt_cmpR (op_eqD hu) q1 q2 hm) ha hb fun B S σ H x y Q E r1 r2 q => 
    ⟨toP d, toP d', rep_dp d x (SeqAt.canLay_of_shaped h1) r1, rep_dp d' y (SeqAt.canLay_of_shaped h2) r2, h1, h2, q⟩
theorem et_neD (hu : X.A.units + 64 < cLine) (ha : Ev X Γ a d) (hb : Ev X Γ b d') (h1 : okP d = true) (h2 : okP d' = true) (hm : behindInMarks .NotEq b = false := by exact nomark _) : Et X Γ (.Compare a [.NotEq] [b] pos) (!eqD d d') :=
  et_two (fun q1 q2 => pt_cmpR (op_neD hu) q1 q2 hm) ha hb fun B S σ H x y Q E r1 r2 q => 
    ⟨toP d, toP d', rep_dp d x (SeqAt.canLay_of_shaped h1) r1, rep_dp d' y (SeqAt.canLay_of_shaped h2) r2, h1, h2, q⟩
theorem et_eqIL {ns ms : List Int} (hu : X.A.units + 64 < cLine) (ha : Ev X Γ a (.lst (intsD ns))) (hb : Ev X Γ b (.lst (intsD ms))) (hm : behindInMarks .Eq b = false := by exact nomark _) : Et X Γ (.Compare a [.Eq] [b] pos) (decide (ns = ms)) := by
  have h := et_eqD (pos := pos) hu ha hb (ok_ints _) (ok_ints _) hm
  rw [eqD_lst] at h; exact h
theorem et_neIL {ns ms : List Int} (hu : X.A.units + 64 < cLine) (ha : Ev X Γ a (.lst (intsD ns))) (hb : Ev X Γ b (.lst (intsD ms))) (hm : behindInMarks .NotEq b = false := by exact nomark _) : Et X Γ (.Compare a [.NotEq] [b] pos) (!decide (ns = ms)) := by
  have h := et_neD (pos := pos) hu ha hb (ok_ints _) (ok_ints _) hm
  rw [eqD_lst] at h; exact h
/-! ### built-ins -/
theorem ev_blt {id : String} {x : Str} {es : List Expr} {ds : List D} {r : List V → Hp → VK → Prop} (hc : CallR X (.builtin id) r) (hm : X.mg x = none) (ha : Ea X Γ (e :: es) ds)
    (h : ∀ (B : Bs) (S : Own) (σ : L2.St) (H : Hp) (vs : List V) (Q : VK), EnvR X.K B S H σ Γ → RepL X.K S H ds vs → (∀ v H', EnvR X.K B S H' σ Γ → Same H H' → Rep X.K S H' d v → Q v H') → r vs H Q)
    (hg : Gl X x := by rfl) (hv : bootBuiltins x = some (.builtin id) := by decide +kernel) (hn : x ≠ "__name__" := by decide) (hdb : (x == ("__debug__" : Str)) = false := by decide)
    (he : starEach (e :: es) X.env = (false, eval e X.env) :: starEach es X.env := by rfl) (hpl : (backTo pos (starEach es X.env)).any (·.1) = false := by rfl) : Ev X Γ (.Call (.Name x p) (e :: es) [] pos) d := fun B S σ H E Q q =>
  PE.x (pe_callB hc hg hm hv xa_pa hn hdb he hpl) (ha B S σ H E _ fun vs H1 E1 s1 r1 => h B S σ H1 vs Q E1 r1 fun v H' E' s r => q v H' E' (s1.trans s) r)
theorem ev_blty {id : String} {x : Str} {es : List Expr} {ds : List D} {r : List V → Hp → VK → Prop} (hc : CallR X (.type id) r) (hm : X.mg x = none) (ha : Ea X Γ (e :: es) ds)
    (h : ∀ (B : Bs) (S : Own) (σ : L2.St) (H : Hp) (vs : List V) (Q : VK), EnvR X.K B S H σ Γ → RepL X.K S H ds vs → (∀ v H', EnvR X.K B S H' σ Γ → Same H H' → Rep X.K S H' d v → Q v H') → r vs H Q)
    (hg : Gl X x := by rfl) (hv : bootBuiltins x = some (.type id) := by decide +kernel) (hn : x ≠ "__name__" := by decide) (hdb : (x == ("__debug__" : Str)) = false := by decide)
    (he : starEach (e :: es) X.env = (false, eval e X.env) :: starEach es X.env := by rfl) (hpl : (backTo pos (starEach es X.env)).any (·.1) = false := by rfl) : Ev X Γ (.Call (.Name x p) (e :: es) [] pos) d := fun B S σ H E Q q =>
  PE.x (pe_callTy hc hg hm hv xa_pa hn hdb he hpl) (ha B S σ H E _ fun vs H1 E1 s1 r1 => h B S σ H1 vs Q E1 r1 fun v H' E' s r => q v H' E' (s1.trans s) r)
theorem repl1 {K : PySem.W.Frag} {S : Own} {H : Hp} {vs : List V} (r : RepL K S H [d] vs) : ∃ v, vs = [v] ∧ Rep K S H d v := by
  obtain ⟨x, t, rfl, r1, r2⟩ := r
  have r2 : t = [] := r2
  subst r2
  exact ⟨x, rfl, r1⟩
theorem repl2 {K : PySem.W.Frag} {S : Own} {H : Hp} {vs : List V} (r : RepL K S H [d, d'] vs) : ∃ v u, vs = [v, u] ∧ Rep K S H d v ∧ Rep K S H d' u := by
  obtain ⟨x, t, rfl, r1, r2⟩ := r
  obtain ⟨y, rfl, r3⟩ := repl1 r2
  exact ⟨x, y, rfl, r1, r3⟩
/-- the length of a list, a tuple -/
def lenD : D → Option Nat
  | .lst ds => some ds.length
  | .frl ds => some ds.length
  | .tup ds => some ds.length
  | _ => none
theorem ev_len {n : Nat} (hm : X.mg "len" = none) (ha : Ea X Γ [e] [d]) (h : lenD d = some n) (hg : Gl X "len" := by rfl) (he : starEach [e] X.env = (false, eval e X.env) :: starEach [] X.env := by rfl) : Ev X Γ (.Call (.Name "len" p) [e] [] pos) (.int n) :=
  ev_blt call_len hm ha (fun B S σ H vs Q E r q => by
    obtain ⟨v, rfl, rw1⟩ := repl1 r
    refine ⟨v, n, rfl, ?_, q _ H E (Same.refl H) rfl⟩
    cases d with
    | lst ds =>
      obtain ⟨a, xs, rfl, ⟨_, ha⟩, rl⟩ := rw1
      cases h
      exact .inl ⟨xs, .of ha, rl.length.symm⟩
    | frl ds =>
      obtain ⟨a, xs, rfl, ha, rl⟩ := rw1
      cases h
      exact .inl ⟨xs, frl_sq ha, rl.length.symm⟩
    | tup ds =>
      obtain ⟨a, xs, rfl, ha, rl⟩ := rw1
      cases h
      exact .inr ⟨xs, tup_sq ha, rl.length.symm⟩
    | _ => cases h) hg (by decide +kernel) (by decide) (by decide) he rfl
theorem iabs (i : Int) : (if i < 0 then -i else i) = (i.natAbs : Int) := by split <;> omega
theorem ev_abs {i : Int} (hm : X.mg "abs" = none) (ha : Ea X Γ [e] [.int i]) (hg : Gl X "abs" := by rfl) (he : starEach [e] X.env = (false, eval e X.env) :: starEach [] X.env := by rfl) : Ev X Γ (.Call (.Name "abs" p) [e] [] pos) (.int (i.natAbs : Int)) :=
  ev_blt call_abs hm ha (fun B S σ H vs Q E r q => by
    obtain ⟨v, rfl, rw1⟩ := repl1 r
    have rw1 : v = .int i := rw1
    subst rw1
    refine ⟨i, rfl, ?_⟩
    rw [iabs]
    exact q _ H E (Same.refl H) rfl) hg (by decide +kernel) (by decide) (by decide) he rfl
theorem ev_int1 {i : Int} (hm : X.mg "int" = none) (ha : Ea X Γ [e] [.int i]) (hg : Gl X "int" := by rfl) (he : starEach [e] X.env = (false, eval e X.env) :: starEach [] X.env := by rfl) : Ev X Γ (.Call (.Name "int" p) [e] [] pos) (.int i) :=
  ev_blty call_int1 hm ha (fun B S σ H vs Q E r q => by
    obtain ⟨v, rfl, rw1⟩ := repl1 r
    have rw1 : v = .int i := rw1
    subst rw1
    exact .inl ⟨i, rfl, q _ H E (Same.refl H) rfl⟩) hg (by decide +kernel) (by decide) (by decide) he rfl
theorem ev_max2 {i j : Int} {e2 : Expr} (hm : X.mg "max" = none) (hc : X.calm = true) (ha : Ea X Γ [e, e2] [.int i, .int j]) (hg : Gl X "max" := by rfl) (he : starEach [e, e2] X.env = (false, eval e X.env) :: starEach [e2] X.env := by rfl) (hpl : (backTo pos (starEach [e2] X.env)).any (·.1) = false := by rfl) : Ev X Γ (.Call (.Name "max" p) [e, e2] [] pos) (.int (max i j)) :=
  ev_blt (call_max2 hc) hm ha (fun B S σ H vs Q E r q => by
    obtain ⟨v, u, rfl, rw1, rw2⟩ := repl2 r
    have rw1 : v = .int i := rw1
    have rw2 : u = .int j := rw2
    subst rw1 rw2
    refine ⟨i, j, rfl, ?_⟩
    rw [show (if j > i then j else i) = max i j by split <;> omega]
    exact q _ H E (Same.refl H) rfl) hg (by decide +kernel) (by decide) (by decide) he hpl
/-- list(..) -/
theorem ev_listL {ds : List D} (hm : X.mg "list" = none) (ha : Ea X Γ [e] [.lst ds]) (hg : Gl X "list" := by rfl) (he : starEach [e] X.env = (false, eval e X.env) :: starEach [] X.env := by rfl) : Ev X Γ (.Call (.Name "list" p) [e] [] pos) (.lst ds) :=
  ev_blty call_list_of hm ha (fun B S σ H vs Q E r q => by
    obtain ⟨v, rfl, a, xs, rfl, ⟨sa, ha⟩, rl⟩ := repl1 r
    refine ⟨a, xs, rfl, .inl (.of ha), fun l n => ?_⟩
    exact q _ _ (E.to (same_new n)) (same_new n) ⟨l, xs, rfl, ⟨E.fresh n, upd_same⟩, rl.conv (.same (same_new n))⟩) hg (by decide +kernel) (by decide) (by decide) he rfl
theorem ev_listT {ds : List D} (hm : X.mg "list" = none) (ha : Ea X Γ [e] [.tup ds]) (hg : Gl X "list" := by rfl) (he : starEach [e] X.env = (false, eval e X.env) :: starEach [] X.env := by rfl) : Ev X Γ (.Call (.Name "list" p) [e] [] pos) (.lst ds) :=
  ev_blty call_list_of hm ha (fun B S σ H vs Q E r q => by
    obtain ⟨v, rfl, a, xs, rfl, ha, rl⟩ := repl1 r
    refine ⟨a, xs, rfl, .inr (tup_sq ha), fun l n => ?_⟩
    exact q _ _ (E.to (same_new n)) (same_new n) ⟨l, xs, rfl, ⟨E.fresh n, upd_same⟩, rl.conv (.same (same_new n))⟩) hg (by decide +kernel) (by decide) (by decide) he rfl
/-- the type's name -/
def tyD : D → Option String
  | .non => some "NoneType"
  | .bl _ => some "bool"
  | .int _ => some "int"
  | .str _ => some "str"
  | .lst _ => some "list"
  | .tup _ => some "tuple"
  | _ => none
theorem ty_of {K : PySem.W.Frag} {S : Own} {H : Hp} {v : V} {t : String} (h : tyD d = some t) (r : Rep K S H d v) : TyX K H v (.type t) := by
  cases d with
  | non => cases h; have r : v = .non := r; subst r; exact .base .non
  | bl b => cases h; have r : v = .bl b := r; subst r; exact .base (.bl b)
  | int b => cases h; have r : v = .int b := r; subst r; exact .base (.int b)
  | str b => cases h; have r : v = .str b := r; subst r; exact .base (.str b)
  | lst ds => cases h; obtain ⟨a, xs, rfl, ⟨_, ha⟩, _⟩ := r; exact .base (.lst ha)
  | tup ds =>
    cases h
    obtain ⟨a, xs, rfl, ha | ha, _⟩ := r
    · exact .base (.tup ha.2)
    · obtain ⟨o, its, n, h1, h2, _⟩ := ha; exact .kTuple h1 h2
  | _ => cases h
/-- isinstance(e, T), T a built-in type by its name -/
theorem ev_isi {t T : String} {x : Str} {k : Bool} {p2 : Pos} (hm : X.mg "isinstance" = none) (hmT : X.mg x = none) (ha : Ev X Γ e d) (ht : tyD d = some t) (hk : kitB t T = some k) (hvT : bootBuiltins x = some (.type T)) (hgT : Gl X x := by rfl) (hnT : x ≠ "__name__" := by decide) (hdT : (x == ("__debug__" : Str)) = false := by decide)
    (hg : Gl X "isinstance" := by rfl) (he : starEach [e, .Name x p2] X.env = (false, eval e X.env) :: starEach [.Name x p2] X.env := by rfl) (he2 : starEach [.Name x p2] X.env = (false, eval (.Name x p2) X.env) :: starEach [] X.env := by rfl) (hpl : (backTo pos (starEach [.Name x p2] X.env)).any (·.1) = false := by rfl) :
    Ev X Γ (.Call (.Name "isinstance" p) [e, .Name x p2] [] pos) (.bl k) :=
  ev_blt (ds := [d, .raw (.ty T)]) call_isi hm (ea_cons ha (ea_cons (fun B S σ H E Q q => PE.x (pe_bltn (v := .ty T) hgT hmT hvT rfl hnT hdT) (q _ H E (Same.refl H) rfl)) ea_nil he2) he) (fun B S σ H vs Q E r q => by
    obtain ⟨v, u, rfl, rw1, rw2⟩ := repl2 r
    have rw2 : u = .ty T := rw2
    subst rw2
    exact ⟨v, .ty T, .type t, .type T, k, rfl, .ty T, ty_of ht rw1, kit_ty hk, q _ H E (Same.refl H) rfl⟩) hg (by decide +kernel) (by decide) (by decide) he hpl
/-! ### slices -/
/-- an optional part -/
def Eo (X : Cx) (Γ : G3) (e : Option Expr) (i : Option Int) : Prop := match e, i with
  | none, none => True
  | some e, some i => Ev X Γ e (.int i)
  | _, _ => False
theorem eo_no : Eo X Γ none none := trivial
theorem eo_at {i : Int} (h : Ev X Γ e (.int i)) : Eo X Γ (some e) (some i) := h
def cutL (xs : List D) (lo hi : Option Int) : List D := (xs.drop (HT.sIx xs.length 0 lo)).take (HT.sIx xs.length xs.length hi - HT.sIx xs.length 0 lo)
theorem RepL.cut {K : PySem.W.Frag} {S : Own} {H : Hp} {ds : List D} {xs : List V} (r : RepL K S H ds xs) (lo hi : Option Int) : RepL K S H (cutL ds lo hi) (cutV xs lo hi) := by
  unfold cutL cutV
  rw [r.length]
  exact (r.drop _).take _
theorem eo_read {lo : Option Expr} {i : Option Int} (h : Eo X Γ lo i) : ∃ t : TO, PO X lo t ∧ ∀ (B : Bs) (S : Own) (σ : L2.St) (H : Hp), EnvR X.K B S H σ Γ → ∀ Q : Option Int → Hp → Prop, (∀ H', EnvR X.K B S H' σ Γ → Same H H' → Q i H') → t σ H Q := by
  cases lo with
  | none =>
    cases i with
    | none => exact ⟨_, po_none, fun B S σ H E Q q => q H E (Same.refl H)⟩
    | some i => exact h.elim
  | some e =>
    cases i with
    | none => exact h.elim
    | some i =>
      have h : Ev X Γ e (.int i) := h
      exact ⟨_, po_some xe_pe, fun B S σ H E Q q => h B S σ H E _ fun v H' E' s r => ⟨i, r, q H' E' s⟩⟩
theorem ev_cut {ds : List D} {lo hi : Option Expr} {i j : Option Int} {p2 : Pos} (ha : Ev X Γ e (.lst ds)) (hl : Eo X Γ lo i) (hh : Eo X Γ hi j) : Ev X Γ (.Subscript e (.Slice lo hi none p2) pos) (.lst (cutL ds i j)) := fun B S σ H E Q q => by
  obtain ⟨tl, h1, q1⟩ := eo_read hl
  obtain ⟨th, h2, q2⟩ := eo_read hh
  refine PE.x (pe_slice sl_list xe_pe h1 h2) (ha B S σ H E _ fun v H1 E1 s1 r1 => q1 B S σ H1 E1 _ fun H2 E2 s2 => q2 B S σ H2 E2 _ fun H3 E3 s3 => ?_)
  obtain ⟨a, xs, rfl, ⟨sa, ha⟩, rl⟩ := r1
  refine ⟨a, xs, rfl, .of (s3 _ _ (s2 _ _ ha)), fun l n => ?_⟩
  exact q _ _ (E3.to (same_new n)) (((s1.trans s2).trans s3).trans (same_new n)) ⟨l, _, rfl, ⟨E3.fresh n, upd_same⟩, (rl.cut i j).conv (.same ((s2.trans s3).trans (same_new n)))⟩
/-! ### zip, enumerate, reversed ranges -/
theorem iv_zip {e2 : Expr} {xs ys : List D} {tpos : Pos} {elts : List Expr} {kk : Nat} (hm : X.mg "zip" = none) (h : Ea X Γ [e, e2] [.lst xs, .lst ys]) (hl : xs.length = ys.length) (hg : Gl X "zip" := by rfl)
    (hs : starEach [e, e2] X.env = (false, eval e X.env) :: starEach [e2] X.env := by rfl) (hpl : (backTo pos (starEach [e2] X.env)).any (·.1) = false := by rfl) : Iv X Γ (.Tuple elts kk tpos) (.Call (.Name "zip" p) [e, e2] [] pos) ((xs.zip ys).map fun z => .tup [z.1, z.2]) := fun B S σ H E R q =>
  PI.x (pi_zip hg hm xa_pa hs hpl) (h B S σ H E _ fun vs H1 E1 s1 r => by
    obtain ⟨v, u, rfl, rw1, rw2⟩ := repl2 r
    obtain ⟨a, us, rfl, ⟨sa, ha⟩, ra⟩ := rw1
    obtain ⟨b, ws, rfl, ⟨sb, hb⟩, rb⟩ := rw2
    have l1 := ra.length
    have l2 := rb.length
    have ll : ((xs.zip ys).map fun z => D.tup [z.1, z.2]).length = min us.length ws.length := by rw [List.length_map, List.length_zip, l1, l2]
    refine ⟨a, b, us, ws, rfl, .of ha, .of hb, q _ H1 _ _ E1 s1 (walk_zip (K := X.K) (a := a) (b := b) (xs := us) (ys := ws) ll) (fun S2 H2 L => ⟨.of (L a _ sa ha).2, .of (L b _ sb hb).2⟩) fun i d hd S2 H2 x H3 L wf y => ?_⟩
    obtain ⟨T, x1, x2, rfl, nT, rfl, g1, g2⟩ := y
    have g1 : us[i]? = some x1 := g1
    have g2 : ws[i]? = some x2 := g2
    rw [List.getElem?_map] at hd
    cases z : (xs.zip ys)[i]? with
    | none => rw [z] at hd; cases hd
    | some w =>
      rw [z] at hd; cases hd
      obtain ⟨z1, z2⟩ := List.getElem?_zip_eq_some.mp z
      obtain ⟨v1, hv1, rv1⟩ := ra.get z1
      obtain ⟨v2, hv2, rv2⟩ := rb.get z2
      rw [g1] at hv1; cases hv1
      rw [g2] at hv2; cases hv2
      have L3 : Lt S H1 S2 (upd H2 T (.tup [x1, x2])) := L.trans (.same (same_new nT))
      refine ⟨same_new nT, T, _, rfl, .inl ⟨fun s => ?_, upd_same⟩, x1, [x2], rfl, rv1.conv L3, x2, [], rfl, rv2.conv L3, rfl⟩
      obtain ⟨o, e⟩ := wf T s
      rw [nT] at e; cases e)
def enumD (xs : List D) : List D := (rngD 0 xs.length).zip xs |>.map fun z => .tup [z.1, z.2]
theorem iv_enum {xs : List D} {tpos : Pos} {elts : List Expr} {kk : Nat} (hm : X.mg "enumerate" = none) (h : Ea X Γ [e] [.lst xs]) (hg : Gl X "enumerate" := by rfl)
    (hs : starEach [e] X.env = [(false, eval e X.env)] := by rfl) : Iv X Γ (.Tuple elts kk tpos) (.Call (.Name "enumerate" p) [e] [] pos) (enumD xs) := fun B S σ H E R q =>
  PI.x (pi_enum hg hm xa_pa hs) (h B S σ H E _ fun vs H1 E1 s1 r => by
    obtain ⟨v, rfl, a, us, rfl, ⟨sa, ha⟩, ra⟩ := repl1 r
    have l1 := ra.length
    have ll : (enumD xs).length = us.length := by unfold enumD; rw [List.length_map, List.length_zip, rngD_len, l1, Nat.min_self]
    refine ⟨a, us, rfl, .of ha, q _ H1 _ _ E1 s1 (ll ▸ walk_enum (K := X.K) (a := a) (xs := us)) (fun S2 H2 L => .of (L a _ sa ha).2) fun i d hd S2 H2 x H3 L wf y => ?_⟩
    obtain ⟨T, x1, x2, rfl, nT, rfl, g1, g2⟩ := y
    have g2 : us[i]? = some x2 := g2
    unfold enumD at hd
    rw [List.getElem?_map] at hd
    cases z : ((rngD 0 xs.length).zip xs)[i]? with
    | none => rw [z] at hd; cases hd
    | some w =>
      rw [z] at hd; cases hd
      obtain ⟨z1, z2⟩ := List.getElem?_zip_eq_some.mp z
      obtain ⟨_, e1⟩ := rngD_at z1
      obtain ⟨v2, hv2, rv2⟩ := ra.get z2
      rw [g2] at hv2; cases hv2
      cases g1
      have L3 : Lt S H1 S2 (upd H2 T (.tup [.int (i : Nat), x2])) := L.trans (.same (same_new nT))
      refine ⟨same_new nT, T, _, rfl, .inl ⟨fun s => ?_, upd_same⟩, _, [x2], rfl, ?_, x2, [], rfl, rv2.conv L3, rfl⟩
      · obtain ⟨o, e⟩ := wf T s
        rw [nT] at e; cases e
      · rw [e1]
        show V.int _ = V.int _
        congr 1
        omega)
/-- an owned list's length -/
theorem ev_lenOwn {i : Nat} {x : Str} {ds : List D} {p2 : Pos} (hm : X.mg "len" = none) (g : Γ[i]? = some (.own ds)) (hN : X.N[i]? = some x := by rfl) (hv : Vis X.env.scope x := by first | exact .inl rfl | exact .inr (.inl rfl) | exact .inr (.inr rfl)) (hd : (x == ("__debug__" : Str)) = false := by decide) (hcd : (x == ("__classdict__" : Str)) = false := by decide)
    (hg : Gl X "len" := by rfl) (he : starEach [.Name x p2] X.env = (false, eval (.Name x p2) X.env) :: starEach [] X.env := by rfl) : Ev X Γ (.Call (.Name "len" p) [.Name x p2] [] pos) (.int ds.length) := fun B S σ H E Q q => by
  obtain ⟨o, es, a, xs, eo, sa, na, ha, r⟩ := E.at_ i _ g
  subst eo
  refine PE.x (pe_callB call_len hg hm (by decide +kernel) (pa_cons (pe_var hN hv hd hcd) pa_nil he) (by decide) (by decide) he rfl) ⟨.ref a, es, .ref a, xs.length, rfl, .inl ⟨xs, .of ha, rfl⟩, ?_⟩
  exact q _ H E (Same.refl H) (by rw [r.length]; rfl)
/-- an item of an owned list -/
theorem ev_ixOwn {i : Nat} {x : Str} {ds : List D} {k : Int} {p2 : Pos} (g : Γ[i]? = some (.own ds)) (hb : Ev X Γ b (.int k)) (h : atI ds k = some d) (hN : X.N[i]? = some x := by rfl) (hv : Vis X.env.scope x := by first | exact .inl rfl | exact .inr (.inl rfl) | exact .inr (.inr rfl)) (hd : (x == ("__debug__" : Str)) = false := by decide) (hcd : (x == ("__classdict__" : Str)) = false := by decide)
    (hs : PlainIx b := by exact fun _ _ => rfl) : Ev X Γ (.Subscript (.Name x p2) b pos) d := fun B S σ H E Q q => by
  obtain ⟨o, es, a, xs, eo, sa, na, ha, r⟩ := E.at_ i _ g
  subst eo
  refine PE.x (pe_ix ix_list (pe_var hN hv hd hcd) xe_pe hs) ⟨.ref a, es, hb B S σ H E _ fun y H1 E1 s1 r1 => ?_⟩
  obtain ⟨o', es', a', xs', eo', _, _, ha', r'⟩ := E1.at_ i _ g
  rw [es] at es'; cases es'; cases eo'
  unfold atI at h
  cases e : ixN ds.length k with
  | none => rw [e] at h; cases h
  | some m =>
    rw [e] at h
    obtain ⟨v, hv, rv⟩ := r'.get (i := m) (d := d) h
    refine ⟨a, xs', k, v, rfl, r1, .of ha', ?_, q v H1 E1 s1 rv⟩
    unfold atI
    rw [r'.length, e]
    exact hv
end
end S3

set_option Elab.async false
set_option linter.all false
set_option maxRecDepth 100000
set_option maxHeartbeats 4000000
namespace Law
open PySem PySem.Spec PyProof.Rows L2 S3
def topS (i : Nat) : Stmt := PySem.Challenge.pw_sealgrove_k03_the_small_core.main.body.getD i (.Pass ⟨0, 0, 0, 0⟩)
local macro_rules | `(tactic| walk_at "weak") => `(tactic| (repeat (first | exact True.intro | refine ⟨Or.inl rfl, ?_⟩ | refine ⟨Or.inr rfl, ?_⟩)))
/-! ### lists of ints -/
theorem intsD_at {ns : List Int} {i : Nat} {d : D} (h : (intsD ns)[i]? = some d) : ∃ n, ns[i]? = some n ∧ d = .int n := by
  rw [List.getElem?_map] at h
  cases e : ns[i]? with
  | none => rw [e] at h; cases h
  | some n => rw [e] at h; cases h; exact ⟨n, rfl, rfl⟩
theorem intsD_len (ns : List Int) : (intsD ns).length = ns.length := List.length_map ..
theorem intsD_app (ns ms : List Int) : intsD ns ++ intsD ms = intsD (ns ++ ms) := (List.map_append ..).symm
theorem intsD_inj {ns ms : List Int} (h : intsD ns = intsD ms) : ns = ms := by
  have := congrArg (List.map fun d => match d with | D.int i => i | _ => 0) h
  simpa [intsD, Function.comp_def] using this
theorem intsD_get {ns : List Int} {k : Nat} (h : k < ns.length) : atI (intsD ns) (k : Int) = some (.int ns[k]) :=
  atI_nat (by rw [List.getElem?_map, List.getElem?_eq_getElem h]; rfl)
theorem intsD_getD {ns : List Int} {k : Int} (h0 : 0 ≤ k) (h : k < ns.length) : atI (intsD ns) k = some (.int (ns.getD k.toNat 0)) := by
  obtain ⟨m, rfl⟩ : ∃ m : Nat, k = m := ⟨k.toNat, by omega⟩
  have h1 : m < ns.length := by omega
  rw [intsD_get h1, Int.toNat_natCast, List.getD_eq_getElem?_getD, List.getElem?_eq_getElem h1]
  rfl
theorem cutL_ints (ns : List Int) (lo hi : Option Int) : cutL (intsD ns) lo hi = intsD ((ns.drop (HT.sIx ns.length 0 lo)).take (HT.sIx ns.length ns.length hi - HT.sIx ns.length 0 lo)) := by
  unfold cutL intsD
  rw [List.length_map, List.map_take, List.map_drop]
theorem take_ge {ns : List Int} {k : Nat} (h : ns.length ≤ k) : ns.take k = ns := List.take_of_length_le h
theorem drop_ge {ns : List Int} {k : Nat} (h : ns.length ≤ k) : ns.drop k = [] := List.drop_of_length_le h
theorem cutL_to (ns : List Int) (k : Nat) : cutL (intsD ns) none (some (k : Int)) = intsD (ns.take k) := by
  rw [cutL_ints, HT.sIx_none, HT.sIx_nat, List.drop_zero, Nat.sub_zero]
  by_cases h : k ≤ ns.length
  · rw [Nat.min_eq_left h]
  · rw [Nat.min_eq_right (by omega), take_ge (Nat.le_refl _), take_ge (by omega)]
theorem cutL_from (ns : List Int) (k : Nat) : cutL (intsD ns) (some (k : Int)) none = intsD (ns.drop k) := by
  rw [cutL_ints, HT.sIx_none, HT.sIx_nat]
  by_cases h : k ≤ ns.length
  · rw [Nat.min_eq_left h, take_ge (by rw [List.length_drop]; omega)]
  · rw [Nat.min_eq_right (by omega), drop_ge (Nat.le_refl _), drop_ge (show ns.length ≤ k by omega), List.take_nil]
theorem cutL_mid (ns : List Int) (i j : Nat) : cutL (intsD ns) (some (i : Int)) (some (j : Int)) = intsD ((ns.drop i).take (j - i)) := by
  rw [cutL_ints, HT.sIx_nat, HT.sIx_nat]
  by_cases h : i ≤ ns.length
  · rw [Nat.min_eq_left h]
    by_cases h2 : j ≤ ns.length
    · rw [Nat.min_eq_left h2]
    · rw [Nat.min_eq_right (by omega), take_ge (by rw [List.length_drop]; omega), take_ge (by rw [List.length_drop]; omega)]
  · rw [Nat.min_eq_right (show ns.length ≤ i by omega), drop_ge (Nat.le_refl _), drop_ge (show ns.length ≤ i by omega), List.take_nil, List.take_nil]
theorem take_fold {α β : Type} (f : β → α → β) (b : β) {l : List α} {i : Nat} {x : α} (h : l[i]? = some x) : (l.take (i + 1)).foldl f b = f ((l.take i).foldl f b) x := by
  rw [List.take_add_one, h, List.foldl_append]; rfl
theorem take_snoc {α : Type} {l : List α} {i : Nat} {x : α} (h : l[i]? = some x) : l.take (i + 1) = l.take i ++ [x] := by
  rw [List.take_add_one, h]; rfl
theorem rep_ints (k : Nat) (i : Int) : (List.replicate k [D.int i]).flatten = intsD (List.replicate k i) := by
  induction k with
  | zero => rfl
  | succ k ih => rw [List.replicate_succ, List.flatten_cons, ih]; rfl
theorem cm (i : Int) {j : Int} (h : -(2 ^ 64) < j ∧ j < 2 ^ 64 := by decide) : CMul i j := .inr h
/-! ### what the laws' helpers do -/
/-- a cell of the script -/
def cellI (ns : List Int) (k : Nat) : Int := ns.getD k 0
def mix1 (c k : Int) : Int := (c * 48271 + k * 69621 + 7) % 2147483647
def mix2 (c k : Int) : Int := (mix1 c k * mix1 c k + k * 40692 + 3) % 2147483629
def mix3 (c k : Int) : Int := (mix2 c k * mix2 c k + k * 30269 + 5) % 2147483587
def mixI (c k : Int) : Int := mix3 c k / 64
/-- what is left of a great cell, the bytes so far -/
def byteSt (c : Int) : Nat → Int × List Int
  | 0 => ((c.natAbs : Int), [])
  | i + 1 => if (decide ((10 : Int) ^ 18 ≤ (c.natAbs : Int)) && decide (0 < (byteSt c i).1)) = true then ((byteSt c i).1 / 256, (byteSt c i).2 ++ [(byteSt c i).1 % 256]) else ((byteSt c i).1, (byteSt c i).2 ++ [mixI c i % 256])
def bytesI (c : Int) (n : Nat) : List Int := (byteSt c n).2
theorem byteSt_len (c : Int) : ∀ n, (byteSt c n).2.length = n
  | 0 => rfl
  | n + 1 => by
    have ih := byteSt_len c n
    unfold byteSt
    split <;> simp [ih]
theorem bytesI_len (c : Int) (n : Nat) : (bytesI c n).length = n := byteSt_len c n
/-- bytes -/
def Byt (ns : List Int) : Prop := ∀ n, n ∈ ns → 0 ≤ n ∧ n < 256
theorem byteSt_byt (c : Int) : ∀ n, Byt (byteSt c n).2
  | 0 => fun n h => by cases h
  | n + 1 => by
    have ih := byteSt_byt c n
    unfold byteSt
    split <;> (intro m hm; rcases List.mem_append.mp hm with h | h; exact ih m h; (have e := List.mem_singleton.mp h; subst e; omega))
theorem bytesI_byt (c : Int) (n : Nat) : Byt (bytesI c n) := byteSt_byt c n
theorem Byt.app {ns ms : List Int} (h : Byt ns) (k : Byt ms) : Byt (ns ++ ms) := fun n hn => (List.mem_append.mp hn).elim (h n) (k n)
theorem Byt.take {ns : List Int} (h : Byt ns) (k : Nat) : Byt (ns.take k) := fun n hn => h n (List.mem_of_mem_take hn)
theorem Byt.drop {ns : List Int} (h : Byt ns) (k : Nat) : Byt (ns.drop k) := fun n hn => h n (List.mem_of_mem_drop hn)
theorem Byt.at_ {ns : List Int} (h : Byt ns) {i : Nat} {b : Int} (e : ns[i]? = some b) : 0 ≤ b ∧ b < 256 := h b (List.mem_of_getElem? e)
def RCell : Rl := fun ds r => ∃ (ns : List Int) (k : Nat), ds = [.frl (intsD ns), .int k] ∧ r = .ok (.int (cellI ns k))
theorem scCell : FnScope ["script", "k"] ["script", "k"] (defScope (topS 4)) := ⟨rfl, rfl, rfl, by decide +kernel, rfl, by decide +kernel, by decide +kernel⟩
section
variable {P : Program} {w : World} {K : PySem.W.Frag} {mg : Str → Option Value} {base : Heap}
theorem ok_cell {f : Addr} {fd : FuncData} (F : FnP K "_law_cell" "_law_cell" (topS 4) f fd) (mLen : mg "len" = none) (mInt : mg "int" = none) : FnOk P w K mg base (L2.CX P w) 1 f fd ["script", "k"] (spR K RCell) := by
  refine fn_ok F scCell (fun ds r h => by obtain ⟨ns, k, rfl, _⟩ := h; rfl) (fun cdv A outer s H E hr ds r h => ?_)
  obtain ⟨ns, k, rfl, rfl⟩ := h
  refine bl_cons (M := fun G => G = entry ["script", "k"] [.frl (intsD ns), .int k] ∧ ¬ k < ns.length) (sl_if (et_lt (ev_var 1) (ev_len (d := .frl (intsD ns)) mLen (ea_cons (ev_var 0) ea_nil) rfl)) (fun c => ?_) (fun c => ?_)) ?_
  · rw [intsD_len] at c
    have c := of_decide_eq_true c
    have hk : k < ns.length := by omega
    refine bl_one (sl_ret (ev_int1 mInt (ea_cons (ev_ixR (ev_var 0) (ev_var 1) (intsD_get hk)) ea_nil)) ?_)
    show D.int _ = D.int _
    unfold cellI
    simp [List.getD, hk]
  · rw [intsD_len] at c
    have c := of_decide_eq_false c
    exact bl_nil ⟨rfl, by omega⟩
  · rintro _ ⟨rfl, c⟩
    refine bl_one (sl_ret ev_int ?_)
    show D.int 0 = D.int _
    unfold cellI
    rw [List.getD_eq_getElem?_getD, List.getElem?_eq_none (by omega)]; rfl
end
def RMixed : Rl := fun ds r => ∃ c k : Int, ds = [.int c, .int k] ∧ r = .ok (.int (mixI c k))
theorem scMixed : FnScope ["cell", "k", "x"] ["cell", "k"] (defScope (topS 5)) := ⟨rfl, rfl, rfl, by decide +kernel, rfl, by decide +kernel, by decide +kernel⟩
theorem mix_cm {x m : Int} (h : x % m = x) (hm : 0 < m) (hl : m < 2 ^ 64) : CMul x x := by
  have h1 := Int.emod_nonneg x (show m ≠ 0 by omega)
  have h2 := Int.emod_lt_of_pos x hm
  rw [h] at h1 h2
  exact .inl ⟨by omega, by omega⟩
section
variable {P : Program} {w : World} {K : PySem.W.Frag} {mg : Str → Option Value} {base : Heap}
theorem ok_mixed {f : Addr} {fd : FuncData} (F : FnP K "_law_mixed" "_law_mixed" (topS 5) f fd) (mInt : mg "int" = none) : FnOk P w K mg base (L2.CX P w) 1 f fd ["cell", "k"] (spR K RMixed) := by
  refine fn_ok F scMixed (fun ds r h => by obtain ⟨c, k, rfl, _⟩ := h; rfl) (fun cdv A outer s H E hr ds r h => ?_)
  obtain ⟨c, k, rfl, rfl⟩ := h
  have nd := scMixed.nd
  have h1 : CMul (mix1 c k) (mix1 c k) := mix_cm (m := 2147483647) (Int.emod_emod_of_dvd _ (Int.dvd_refl _)) (by decide) (by decide)
  have h2 : CMul (mix2 c k) (mix2 c k) := mix_cm (m := 2147483629) (Int.emod_emod_of_dvd _ (Int.dvd_refl _)) (by decide) (by decide)
  refine bl_seq (Γ1 := [.val (.int c), .val (.int k), .val (.int (mix1 c k))]) (sl_set (i := 2) (ev_mod (ev_int1 mInt (ea_cons (ev_add (ev_add (ev_mul (ev_var 0) ev_int (cm _)) (ev_mul (ev_var 1) ev_int (cm _))) ev_int) ea_nil)) ev_int (by decide)) rfl) ?_
  refine bl_seq (Γ1 := [.val (.int c), .val (.int k), .val (.int (mix2 c k))]) (sl_set (i := 2) (ev_mod (ev_int1 mInt (ea_cons (ev_add (ev_add (ev_mul (ev_var 2) (ev_var 2) h1) (ev_mul (ev_var 1) ev_int (cm _))) ev_int) ea_nil)) ev_int (by decide)) rfl) ?_
  refine bl_seq (Γ1 := [.val (.int c), .val (.int k), .val (.int (mix3 c k))]) (sl_set (i := 2) (ev_mod (ev_int1 mInt (ea_cons (ev_add (ev_add (ev_mul (ev_var 2) (ev_var 2) h2) (ev_mul (ev_var 1) ev_int (cm _))) ev_int) ea_nil)) ev_int (by decide)) rfl) ?_
  exact bl_one (sl_ret (ev_div (ev_var 2) ev_int ⟨by decide, by decide⟩) rfl)
end
def RBytes : Rl := fun ds r => ∃ (c : Int) (n : Nat), ds = [.int c, .int n] ∧ n ≤ 1000000 ∧ r = .ok (.lst (intsD (bytesI c n)))
theorem scBytes : FnScope ["cell", "size", "left", "great", "data", "k"] ["cell", "size"] (defScope (topS 6)) := ⟨rfl, rfl, rfl, by decide +kernel, rfl, by decide +kernel, by decide +kernel⟩
section
variable {P : Program} {w : World} {K : PySem.W.Frag} {mg : Str → Option Value} {base : Heap}
theorem ok_bytes {f : Addr} {fd : FuncData} (F : FnP K "_law_bytes" "_law_bytes" (topS 6) f fd) (mInt : mg "int" = none) (mAbs : mg "abs" = none) (mR : mg "range" = none) (FM : Fx P w K mg base "_law_mixed" 1 ["cell", "k"] RMixed) : FnOk P w K mg base (L2.CX P w) 2 f fd ["cell", "size"] (spR K RBytes) := by
  refine fn_ok F scBytes (fun ds r h => by obtain ⟨c, n, rfl, _⟩ := h; rfl) (fun cdv A outer s H E hr ds r h => ?_)
  obtain ⟨c, n, rfl, hn, rfl⟩ := h
  have nd := scBytes.nd
  refine bl_seq (Γ1 := [.val (.int c), .val (.int n), .val (.int (c.natAbs : Int)), .any, .any, .any]) (sl_set (i := 2) (ev_abs mAbs (ea_cons (ev_int1 mInt (ea_cons (ev_var 0) ea_nil)) ea_nil)) rfl) ?_
  refine bl_seq (Γ1 := [.val (.int c), .val (.int n), .val (.int (c.natAbs : Int)), .val (.bl (decide ((10 : Int) ^ 18 ≤ (c.natAbs : Int)))), .any, .any]) (sl_set (i := 3) (ev_ge (ev_var 2) (ev_pow ev_int ev_int ⟨by decide, by decide, by decide⟩)) rfl) ?_
  refine bl_seq (Γ1 := [.val (.int c), .val (.int n), .val (.int (c.natAbs : Int)), .val (.bl (decide ((10 : Int) ^ 18 ≤ (c.natAbs : Int)))), .own [], .any]) (sl_new (i := 4) ea_nil rfl) ?_
  refine bl_seq (Γ1 := [.val (.int c), .val (.int n), .val (.int (byteSt c n).1), .val (.bl (decide ((10 : Int) ^ 18 ≤ (c.natAbs : Int)))), .own (intsD (bytesI c n)), .any]) (sl_forG (xs := rngD 0 (n : Int).toNat) (fun i => [.val (.int c), .val (.int n), .val (.int (byteSt c i).1), .val (.bl (decide ((10 : Int) ^ 18 ≤ (c.natAbs : Int)))), .own (intsD (byteSt c i).2), .any]) (fun d G => G.set 5 (.val d)) (iv_range mR (ea_cons (ev_var 1) ea_nil) (by omega) (by omega)) (fun d hd => tg_name 5 nd) (by walk_at "weak") (fun i d hd => ?_) ?_ (passes_of rfl)) ?_
  · obtain ⟨hi, rfl⟩ := rngD_at hd
    have hl := byteSt_len c i
    have hi' : i < n := by omega
    refine bl_at (Γ' := [.val (.int c), .val (.int n), .val (.int (byteSt c i).1), .val (.bl (decide ((10 : Int) ^ 18 ≤ (c.natAbs : Int)))), .own (intsD (byteSt c i).2), .val (.int i)]) ?_ (by simp)
    refine bl_one (sl_if (Ew.t (ew_and (et_val (ev_var 3)) fun _ => ew_and1 (et_gt (ev_var 2) ev_int))) (fun h => ?_) (fun h => ?_))
    · have e : byteSt c (i + 1) = ((byteSt c i).1 / 256, (byteSt c i).2 ++ [(byteSt c i).1 % 256]) := by
        show (if _ then _ else _) = _
        exact if_pos h
      rw [e]
      refine bl_seq (Γ1 := [.val (.int c), .val (.int n), .val (.int (byteSt c i).1), .val (.bl (decide ((10 : Int) ^ 18 ≤ (c.natAbs : Int)))), .own (intsD ((byteSt c i).2 ++ [(byteSt c i).1 % 256])), .val (.int i)]) (sl_append (i := 4) rfl (ev_mod (ev_int1 mInt (ea_cons (ev_var 2) ea_nil)) ev_int (by decide)) ?_ (by rw [intsD_len]; omega)) ?_
      · rw [← intsD_app]; rfl
      · refine bl_seq (Γ1 := [.val (.int c), .val (.int n), .val (.int ((byteSt c i).1 / 256)), .val (.bl (decide ((10 : Int) ^ 18 ≤ (c.natAbs : Int)))), .own (intsD ((byteSt c i).2 ++ [(byteSt c i).1 % 256])), .val (.int i)]) (sl_set (i := 2) (ev_div (ev_var 2) ev_int ⟨by decide, by decide⟩) rfl) ?_
        exact bl_nil (by walk_at "weak")
    · have e : byteSt c (i + 1) = ((byteSt c i).1, (byteSt c i).2 ++ [mixI c i % 256]) := by
        show (if _ then _ else _) = _
        exact if_neg (by rw [h]; exact Bool.false_ne_true)
      rw [e]
      refine bl_seq (Γ1 := [.val (.int c), .val (.int n), .val (.int (byteSt c i).1), .val (.bl (decide ((10 : Int) ^ 18 ≤ (c.natAbs : Int)))), .own (intsD ((byteSt c i).2 ++ [mixI c i % 256])), .val (.int i)]) (sl_append (i := 4) rfl (ev_mod (ev_int1 mInt (ea_cons (ev_call FM hr (ea_cons (ev_var 0) (ea_cons (ev_var 5) ea_nil)) ⟨_, _, rfl, rfl⟩) ea_nil)) ev_int (by decide)) ?_ (by rw [intsD_len]; omega)) ?_
      · rw [← intsD_app]; rfl
      · exact bl_nil (by walk_at "weak")
  · show [_, _, SK.val (D.int (byteSt c (rngD 0 (n : Int).toNat).length).1), _, SK.own (intsD (byteSt c (rngD 0 (n : Int).toNat).length).2), _] = _
    rw [rngD_len]; rfl
  · exact bl_one (sl_retOwn (i := 4) rfl rfl)
end
def isI : D → Bool
  | .int _ => true
  | _ => false
def RInteger : Rl := fun ds r => ∃ d t, ds = [d] ∧ tyD d = some t ∧ r = .ok (.bl (isI d))
theorem scInteger : FnScope ["value"] ["value"] (defScope (topS 7)) := ⟨rfl, rfl, rfl, by decide +kernel, rfl, by decide +kernel, by decide +kernel⟩
theorem isI_kit {d : D} {t : String} (h : tyD d = some t) : ∃ k l, kitB t "int" = some k ∧ kitB t "bool" = some l ∧ (k && !l) = isI d := by
  cases d with
  | non => cases h; exact ⟨false, false, by decide +kernel, by decide +kernel, rfl⟩
  | bl b => cases h; exact ⟨true, true, by decide +kernel, by decide +kernel, rfl⟩
  | int i => cases h; exact ⟨true, false, by decide +kernel, by decide +kernel, rfl⟩
  | str s => cases h; exact ⟨false, false, by decide +kernel, by decide +kernel, rfl⟩
  | lst ds => cases h; exact ⟨false, false, by decide +kernel, by decide +kernel, rfl⟩
  | tup ds => cases h; exact ⟨false, false, by decide +kernel, by decide +kernel, rfl⟩
  | _ => cases h
section
variable {P : Program} {w : World} {K : PySem.W.Frag} {mg : Str → Option Value} {base : Heap}
theorem ok_integer {f : Addr} {fd : FuncData} (F : FnP K "_law_integer" "_law_integer" (topS 7) f fd) (mIsi : mg "isinstance" = none) (mInt : mg "int" = none) (mBool : mg "bool" = none) : FnOk P w K mg base (L2.CX P w) 1 f fd ["value"] (spR K RInteger) := by
  refine fn_ok F scInteger (fun ds r h => by obtain ⟨d, t, rfl, _⟩ := h; rfl) (fun cdv A outer s H E hr ds r h => ?_)
  obtain ⟨d, t, rfl, ht, rfl⟩ := h
  obtain ⟨k, l, hk, hl, e⟩ := isI_kit ht
  refine bl_one (sl_ret (ev_andV (ev_isi mIsi mInt (ev_var 0) ht hk (by decide +kernel)) fun _ => ev_one (ev_not (ev_isi mIsi mBool (ev_var 0) ht hl (by decide +kernel)))) ?_)
  show D.bl _ = D.bl _
  rw [e]
end
def RIsList : Rl := fun ds r => ∃ ns ms : List Int, ds = [.lst (intsD ns), .lst (intsD ms)] ∧ r = .ok (.bl (decide (ns = ms)))
theorem scIsList : FnScope ["found", "due", "one", "other"] ["found", "due"] (defScope (topS 8)) := ⟨rfl, rfl, rfl, by decide +kernel, rfl, by decide +kernel, by decide +kernel⟩
section
variable {P : Program} {w : World} {K : PySem.W.Frag} {mg : Str → Option Value} {base : Heap}
theorem ok_is_list {f : Addr} {fd : FuncData} (F : FnP K "_law_is_list" "_law_is_list" (topS 8) f fd) (mIsi : mg "isinstance" = none) (mList : mg "list" = none) (mLen : mg "len" = none) (mZip : mg "zip" = none) (FI : Fx P w K mg base "_law_integer" 1 ["value"] RInteger) : FnOk P w K mg base (L2.CX P w) 2 f fd ["found", "due"] (spR K RIsList) := by
  refine fn_ok F scIsList (fun ds r h => by obtain ⟨ns, ms, rfl, _⟩ := h; rfl) (fun cdv A outer s H E hr ds r h => ?_)
  obtain ⟨ns, ms, rfl, rfl⟩ := h
  have nd := scIsList.nd
  refine bl_cons (M := fun G => G = [.val (.lst (intsD ns)), .val (.lst (intsD ms)), .any, .any] ∧ ns.length = ms.length) (sl_if (Ew.t (ew_or (et_not (et_val (ev_isi (t := "list") (T := "list") (k := true) mIsi mList (ev_var 0) rfl (by decide +kernel) (by decide +kernel)))) fun _ => ew_or1 (et_ne (ev_len (d := .lst (intsD ns)) mLen (ea_cons (ev_var 0) ea_nil) rfl) (ev_len (d := .lst (intsD ms)) mLen (ea_cons (ev_var 1) ea_nil) rfl)))) (fun c => ?_) (fun c => ?_)) ?_
  · have c : ¬ (ns.length : Int) = ms.length := by simpa [intsD_len] using c
    have c : ¬ ns.length = ms.length := by omega
    refine bl_one (sl_ret ev_bl ?_)
    show D.bl false = D.bl _
    rw [decide_eq_false fun e => c (by rw [e])]
  · have c : (ns.length : Int) = ms.length := by simpa [intsD_len] using c
    have c : ns.length = ms.length := by omega
    exact bl_nil ⟨rfl, c⟩
  · rintro _ ⟨rfl, c⟩
    refine bl_cons (M := fun G => ns = ms) (sl_for (xs := ((intsD ns).zip (intsD ms)).map fun z => .tup [z.1, z.2]) (fun i G => G = [.val (.lst (intsD ns)), .val (.lst (intsD ms)), .any, .any] ∧ ns.take i = ms.take i) (fun d G => match d with | .tup [x, y] => (G.set 2 (.val x)).set 3 (.val y) | _ => G) (iv_zip mZip (ea_cons (ev_var 0) (ea_cons (ev_var 1) ea_nil)) (by rw [intsD_len, intsD_len, c])) (is := [2, 3]) (fun d hd => ?_) [.val (.lst (intsD ns)), .val (.lst (intsD ms)), .any, .any] (by walk_at "weak") ⟨rfl, rfl⟩ (fun i d Γ1 hd hI => ?_) (fun Γ1 hI => ?_) (passes_of rfl)) ?_
    · obtain ⟨z, hz, rfl⟩ := List.mem_map.mp hd
      exact tg_tup (tgs_cons (tg_name 2 nd) (tgs_cons (tg_name 3 nd) tgs_nil))
    · obtain ⟨rfl, ht⟩ := hI
      rw [List.getElem?_map] at hd
      cases z : ((intsD ns).zip (intsD ms))[i]? with
      | none => rw [z] at hd; cases hd
      | some q =>
        rw [z] at hd; cases hd
        obtain ⟨z1, z2⟩ := List.getElem?_zip_eq_some.mp z
        obtain ⟨x, hx, e1⟩ := intsD_at z1
        obtain ⟨y, hy, e2⟩ := intsD_at z2
        obtain ⟨q1, q2⟩ := q
        cases e1; cases e2
        refine bl_at (Γ' := [.val (.lst (intsD ns)), .val (.lst (intsD ms)), .val (.int x), .val (.int y)]) ?_
        refine bl_one (sl_if (Ew.t (ew_or (et_not (et_val (ev_call FI (hr.mono (by decide)) (ea_cons (ev_var 2) ea_nil) ⟨.int x, "int", rfl, rfl, rfl⟩))) fun _ => ew_or1 (et_ne (ev_var 2) (ev_var 3)))) (fun h => ?_) (fun h => ?_))
        · have h : ¬ x = y := by simpa [isI] using h
          refine bl_one (sl_ret ev_bl ?_)
          show D.bl false = D.bl _
          rw [decide_eq_false fun e => h (by rw [e, hy] at hx; exact (Option.some.inj hx).symm)]
        · have h : x = y := by simpa [isI] using h
          refine bl_nil ⟨[.val (.lst (intsD ns)), .val (.lst (intsD ms)), .any, .any], by walk_at "weak", rfl, ?_⟩
          rw [take_snoc hx, take_snoc hy, ht, h]
    · obtain ⟨_, ht⟩ := hI
      have l : (((intsD ns).zip (intsD ms)).map fun z => D.tup [z.1, z.2]).length = ns.length := by rw [List.length_map, List.length_zip, intsD_len, intsD_len, c, Nat.min_self]
      rw [l, List.take_of_length_le (Nat.le_refl _), List.take_of_length_le (by omega)] at ht
      exact ht
    · intro Γ1 e
      refine bl_one (sl_ret ev_bl ?_)
      show D.bl true = D.bl _
      rw [decide_eq_true e]
end
/-! ### the small core -/
def scSt (s : Int) : Nat → Int
  | 0 => s
  | i + 1 => (scSt s i * 16807 + 11) % 65521
def scFold (ns : List Int) : Int := ns.foldl (fun s b => (s * 257 + b + 1) % 65521) 1
def scMid (ns : List Int) : Int := (scFold ns * 31 + ns.length + 7) % 65521
def scOut (s : Int) (n : Nat) : List Int := (List.range n).map fun j => scSt s (j + 1) % 256
def smallI (ns : List Int) : List Int := scOut (scMid ns) 32
theorem scFold_step {ns : List Int} {i : Nat} {b : Int} (h : ns[i]? = some b) : scFold (ns.take (i + 1)) = (scFold (ns.take i) * 257 + b + 1) % 65521 := take_fold _ _ h
theorem scOut_step (s : Int) (n : Nat) : intsD (scOut s (n + 1)) = intsD (scOut s n) ++ [.int (scSt s (n + 1) % 256)] := by
  unfold scOut intsD
  rw [List.range_succ, List.map_append, List.map_append]; rfl
theorem scOut_len (s : Int) (n : Nat) : (intsD (scOut s n)).length = n := by unfold scOut intsD; simp
theorem smallI_len (ns : List Int) : (smallI ns).length = 32 := by unfold smallI scOut; simp
theorem smallI_byt (ns : List Int) : Byt (smallI ns) := fun n h => by
  unfold smallI scOut at h
  obtain ⟨j, _, rfl⟩ := List.mem_map.mp h
  omega
def RSmall : Rl := fun ds r => ∃ ns : List Int, ds = [.lst (intsD ns)] ∧ r = .ok (.lst (intsD (smallI ns)))
theorem scSmall : FnScope ["data", "state", "byte", "result", "_"] ["data"] (defScope (topS 2)) := ⟨rfl, rfl, rfl, by decide +kernel, rfl, by decide +kernel, by decide +kernel⟩
section
variable {P : Program} {w : World} {K : PySem.W.Frag} {mg : Str → Option Value} {base : Heap}
theorem ok_small {f : Addr} {fd : FuncData} (F : FnP K "small_core" "small_core" (topS 2) f fd) (mM : ∃ t, mg "MODULUS" = some (.int 65521 t)) (mLen : mg "len" = none) (mR : mg "range" = none) : FnOk P w K mg base (L2.CX P w) 1 f fd ["data"] (spR K RSmall) := by
  refine fn_ok F scSmall (fun ds r h => by obtain ⟨ns, rfl, _⟩ := h; rfl) (fun cdv A outer s H E hr ds r h => ?_)
  obtain ⟨ns, rfl, rfl⟩ := h
  have nd := scSmall.nd
  refine bl_seq (Γ1 := [.val (.lst (intsD ns)), .val (.int 1), .any, .any, .any]) (sl_set (i := 1) ev_int rfl) ?_
  refine bl_seq (Γ1 := [.val (.lst (intsD ns)), .val (.int (scFold ns)), .any, .any, .any]) (sl_forG (xs := intsD ns) (fun i => [.val (.lst (intsD ns)), .val (.int (scFold (ns.take i))), .any, .any, .any]) (fun d G => G.set 2 (.val d)) (iv_list (ev_var 0)) (fun d hd => tg_name 2 nd) (by walk_at "weak") (fun i d hd => ?_) ?_ (passes_of rfl)) ?_
  · obtain ⟨b, hb, rfl⟩ := intsD_at hd
    refine bl_at (Γ' := [.val (.lst (intsD ns)), .val (.int (scFold (ns.take i))), .val (.int b), .any, .any]) ?_
    refine bl_seq (Γ1 := [.val (.lst (intsD ns)), .val (.int (scFold (ns.take (i + 1)))), .val (.int b), .any, .any]) (sl_set (i := 1) (ev_mod (ev_add (ev_add (ev_mul (ev_var 1) ev_int (cm _)) (ev_var 2)) ev_int) (ev_globI mM) (by decide)) ?_) ?_
    · rw [scFold_step hb]; rfl
    · exact bl_nil (by walk_at "weak")
  · show [SK.val _, SK.val (D.int (scFold (ns.take (intsD ns).length))), _, _, _] = _
    rw [intsD_len, List.take_length]
  refine bl_seq (Γ1 := [.val (.lst (intsD ns)), .val (.int (scMid ns)), .any, .any, .any]) (sl_set (i := 1) (ev_mod (ev_add (ev_add (ev_mul (ev_var 1) ev_int (cm _)) (ev_len (d := .lst (intsD ns)) mLen (ea_cons (ev_var 0) ea_nil) rfl)) ev_int) (ev_globI mM) (by decide)) ?_) ?_
  · rw [intsD_len]; rfl
  refine bl_seq (Γ1 := [.val (.lst (intsD ns)), .val (.int (scMid ns)), .any, .own [], .any]) (sl_new (i := 3) ea_nil rfl) ?_
  refine bl_seq (Γ1 := [.val (.lst (intsD ns)), .val (.int (scSt (scMid ns) 32)), .any, .own (intsD (smallI ns)), .any]) (sl_forG (xs := rngD 0 32) (fun i => [.val (.lst (intsD ns)), .val (.int (scSt (scMid ns) i)), .any, .own (intsD (scOut (scMid ns) i)), .any]) (fun d G => G.set 4 (.val d)) (iv_range mR (ea_cons ev_int ea_nil) (by decide) (by decide)) (fun d hd => tg_name 4 nd) (by walk_at "weak") (fun i d hd => ?_) ?_ (passes_of rfl)) ?_
  · obtain ⟨hi, rfl⟩ := rngD_at hd
    refine bl_seq (Γ1 := [.val (.lst (intsD ns)), .val (.int (scSt (scMid ns) (i + 1))), .any, .own (intsD (scOut (scMid ns) i)), .val (.int (0 + i))]) (sl_set (i := 1) (ev_mod (ev_add (ev_mul (ev_var 1) ev_int (cm _)) ev_int) (ev_globI mM) (by decide)) rfl) ?_
    refine bl_seq (Γ1 := [.val (.lst (intsD ns)), .val (.int (scSt (scMid ns) (i + 1))), .any, .own (intsD (scOut (scMid ns) (i + 1))), .val (.int (0 + i))]) (sl_append (i := 3) rfl (ev_mod (ev_var 1) ev_int (by decide)) ?_ ?_) ?_
    · rw [scOut_step]; rfl
    · rw [scOut_len]; omega
    · exact bl_nil (by walk_at "weak")
  · show [_, SK.val (D.int (scSt (scMid ns) (rngD 0 32).length)), _, SK.own (intsD (scOut (scMid ns) (rngD 0 32).length)), _] = _
    rw [rngD_len]; rfl
  · exact bl_one (sl_retOwn (i := 3) rfl rfl)
end
theorem scLSmall : FnScope ["data", "state", "byte", "result", "turn"] ["data"] (defScope (topS 9)) := ⟨rfl, rfl, rfl, by decide +kernel, rfl, by decide +kernel, by decide +kernel⟩
section
variable {P : Program} {w : World} {K : PySem.W.Frag} {mg : Str → Option Value} {base : Heap}
theorem ok_lsmall {f : Addr} {fd : FuncData} (F : FnP K "_law_small" "_law_small" (topS 9) f fd) (mInt : mg "int" = none) (mLen : mg "len" = none) (mR : mg "range" = none) : FnOk P w K mg base (L2.CX P w) 1 f fd ["data"] (spR K RSmall) := by
  refine fn_ok F scLSmall (fun ds r h => by obtain ⟨ns, rfl, _⟩ := h; rfl) (fun cdv A outer s H E hr ds r h => ?_)
  obtain ⟨ns, rfl, rfl⟩ := h
  have nd := scLSmall.nd
  refine bl_seq (Γ1 := [.val (.lst (intsD ns)), .val (.int 1), .any, .any, .any]) (sl_set (i := 1) ev_int rfl) ?_
  refine bl_seq (Γ1 := [.val (.lst (intsD ns)), .val (.int (scFold ns)), .any, .any, .any]) (sl_forG (xs := intsD ns) (fun i => [.val (.lst (intsD ns)), .val (.int (scFold (ns.take i))), .any, .any, .any]) (fun d G => G.set 2 (.val d)) (iv_list (ev_var 0)) (fun d hd => tg_name 2 nd) (by walk_at "weak") (fun i d hd => ?_) ?_ (passes_of rfl)) ?_
  · obtain ⟨b, hb, rfl⟩ := intsD_at hd
    refine bl_at (Γ' := [.val (.lst (intsD ns)), .val (.int (scFold (ns.take i))), .val (.int b), .any, .any]) ?_
    refine bl_seq (Γ1 := [.val (.lst (intsD ns)), .val (.int (scFold (ns.take (i + 1)))), .val (.int b), .any, .any]) (sl_set (i := 1) (ev_mod (ev_int1 mInt (ea_cons (ev_add (ev_add (ev_mul (ev_var 1) ev_int (cm _)) (ev_var 2)) ev_int) ea_nil)) ev_int (by decide)) ?_) ?_
    · rw [scFold_step hb]; rfl
    · exact bl_nil (by walk_at "weak")
  · show [SK.val _, SK.val (D.int (scFold (ns.take (intsD ns).length))), _, _, _] = _
    rw [intsD_len, List.take_length]
  refine bl_seq (Γ1 := [.val (.lst (intsD ns)), .val (.int (scMid ns)), .any, .any, .any]) (sl_set (i := 1) (ev_mod (ev_int1 mInt (ea_cons (ev_add (ev_add (ev_mul (ev_var 1) ev_int (cm _)) (ev_len (d := .lst (intsD ns)) mLen (ea_cons (ev_var 0) ea_nil) rfl)) ev_int) ea_nil)) ev_int (by decide)) ?_) ?_
  · rw [intsD_len]; rfl
  refine bl_seq (Γ1 := [.val (.lst (intsD ns)), .val (.int (scMid ns)), .any, .own [], .any]) (sl_new (i := 3) ea_nil rfl) ?_
  refine bl_seq (Γ1 := [.val (.lst (intsD ns)), .val (.int (scSt (scMid ns) 32)), .any, .own (intsD (smallI ns)), .any]) (sl_forG (xs := rngD 0 32) (fun i => [.val (.lst (intsD ns)), .val (.int (scSt (scMid ns) i)), .any, .own (intsD (scOut (scMid ns) i)), .any]) (fun d G => G.set 4 (.val d)) (iv_range mR (ea_cons ev_int ea_nil) (by decide) (by decide)) (fun d hd => tg_name 4 nd) (by walk_at "weak") (fun i d hd => ?_) ?_ (passes_of rfl)) ?_
  · obtain ⟨hi, rfl⟩ := rngD_at hd
    refine bl_seq (Γ1 := [.val (.lst (intsD ns)), .val (.int (scSt (scMid ns) (i + 1))), .any, .own (intsD (scOut (scMid ns) i)), .val (.int (0 + i))]) (sl_set (i := 1) (ev_mod (ev_int1 mInt (ea_cons (ev_add (ev_mul (ev_var 1) ev_int (cm _)) ev_int) ea_nil)) ev_int (by decide)) rfl) ?_
    refine bl_seq (Γ1 := [.val (.lst (intsD ns)), .val (.int (scSt (scMid ns) (i + 1))), .any, .own (intsD (scOut (scMid ns) (i + 1))), .val (.int (0 + i))]) (sl_append (i := 3) rfl (ev_mod (ev_int1 mInt (ea_cons (ev_var 1) ea_nil)) ev_int (by decide)) ?_ ?_) ?_
    · rw [scOut_step]; rfl
    · rw [scOut_len]; omega
    · exact bl_nil (by walk_at "weak")
  · show [_, SK.val (D.int (scSt (scMid ns) (rngD 0 32).length)), _, SK.own (intsD (scOut (scMid ns) (rngD 0 32).length)), _] = _
    rw [rngD_len]; rfl
  · exact bl_one (sl_retOwn (i := 3) rfl rfl)
end
theorem small_clash (xs ys : List Int) (y : Int) : smallI (xs ++ [0, y + 14] ++ ys) = smallI (xs ++ [255, y] ++ ys) := by
  have e : scFold (xs ++ [0, y + 14] ++ ys) = scFold (xs ++ [255, y] ++ ys) := by
    unfold scFold
    simp only [List.foldl_append, List.foldl_cons, List.foldl_nil]
    congr 1
    omega
  unfold smallI scMid
  rw [e]
  simp
def RLaw : Rl := fun ds r => ∃ ns : List Int, ds = [.frl (intsD ns)] ∧ r = .ok (.bl true)
theorem scLaw : FnScope ["script", "cell", "data", "row", "given", "found", "at", "low", "one", "other"] ["script"] (defScope (topS 10)) := ⟨rfl, rfl, rfl, by decide +kernel, rfl, by decide +kernel, by decide +kernel⟩
section
variable {P : Program} {w : World} {K : PySem.W.Frag} {mg : Str → Option Value} {base : Heap}
theorem ok_law {f : Addr} {fd : FuncData} (F : FnP K "law" "law" (topS 10) f fd) (mInt : mg "int" = none) (mAbs : mg "abs" = none) (mLen : mg "len" = none) (mList : mg "list" = none)
    (FC : Fx P w K mg base "_law_cell" 1 ["script", "k"] RCell) (FB : Fx P w K mg base "_law_bytes" 2 ["cell", "size"] RBytes) (FI : Fx P w K mg base "_law_is_list" 2 ["found", "due"] RIsList)
    (FS : Fx P w K mg base "small_core" 1 ["data"] RSmall) (FL : Fx P w K mg base "_law_small" 1 ["data"] RSmall) : FnOk P w K mg base (L2.CX P w) 3 f fd ["script"] (spR K RLaw) := by
  refine fn_ok F scLaw (fun ds r h => by obtain ⟨ns, rfl, _⟩ := h; rfl) (fun cdv A outer s H E hr ds r h => ?_)
  obtain ⟨ns, rfl, rfl⟩ := h
  have nd := scLaw.nd
  have hr1 := hr.mono (j := 1) (by decide)
  have hu := hr.units
  -- cell
  generalize hc : ((cellI ns 0).natAbs : Int) = c
  have c0 : 0 ≤ c := by omega
  refine bl_seq (Γ1 := [.val (.frl (intsD ns)), .val (.int c), .any, .any, .any, .any, .any, .any, .any, .any]) (sl_set (i := 1) (ev_abs mAbs (ea_cons (ev_call FC hr1 (ea_cons (ev_var 0) (ea_cons ev_int ea_nil)) ⟨ns, 0, rfl, rfl⟩) ea_nil)) ?_) ?_
  · rw [hc]; rfl
  -- data
  generalize hd : bytesI (cellI ns 1) (c % 61).toNat = data
  have dl : data.length = (c % 61).toNat := by rw [← hd, bytesI_len]
  have dl' : data.length ≤ 60 := by omega
  refine bl_seq (Γ1 := [.val (.frl (intsD ns)), .val (.int c), .val (.lst (intsD data)), .any, .any, .any, .any, .any, .any, .any]) (sl_set (i := 2) (ev_call FB hr (ea_cons (ev_call FC hr1 (ea_cons (ev_var 0) (ea_cons ev_int ea_nil)) ⟨ns, 1, rfl, rfl⟩) (ea_cons (ev_mod (ev_int1 mInt (ea_cons (ev_var 1) ea_nil)) ev_int (by decide)) ea_nil)) ⟨cellI ns 1, (c % 61).toNat, ?_, by omega, rfl⟩) ?_) ?_
  · rw [show ((c % 61).toNat : Int) = c % 61 by omega]
  · rw [hd]; rfl
  -- the rows
  let rows : List (List Int) := [data, data ++ [255], List.replicate ((c / 61) % 30).toNat 0]
  refine bl_seq (Γ1 := [.val (.frl (intsD ns)), .val (.int c), .val (.lst (intsD data)), .any, .any, .any, .any, .any, .any, .any]) (sl_forG (xs := rows.map fun r => .lst (intsD r)) (fun _ => [.val (.frl (intsD ns)), .val (.int c), .val (.lst (intsD data)), .any, .any, .any, .any, .any, .any, .any]) (fun d G => G.set 3 (.val d)) (iv_list ((ev_lst (ea_cons (ev_var 2) (ea_cons (ev_cat (ev_var 2) (ev_lst (ea_cons ev_int ea_nil)) (by rw [intsD_len]; show _ + 1 ≤ _; omega)) (ea_cons (ev_rep (ev_lst (ea_cons ev_int ea_nil)) (ev_mod (ev_int1 mInt (ea_cons (ev_div (ev_var 1) ev_int ⟨by decide, by decide⟩) ea_nil)) ev_int (by decide)) (by omega) (by omega) (by show 1 * _ ≤ _; omega)) ea_nil)))).cast ?_)) (fun d hd => tg_name 3 nd) (by walk_at "weak") (fun i d hd => ?_) rfl (passes_of rfl)) ?_
  · show D.lst [_, .lst (intsD data ++ [.int 255]), .lst (List.replicate _ [D.int 0]).flatten] = D.lst [_, .lst (intsD (data ++ [255])), .lst (intsD (List.replicate _ 0))]
    rw [rep_ints, ← intsD_app]; rfl
  · rw [List.getElem?_map] at hd
    cases e : rows[i]? with
    | none => rw [e] at hd; cases hd
    | some row =>
      rw [e] at hd; cases hd
      refine bl_at (Γ' := [.val (.frl (intsD ns)), .val (.int c), .val (.lst (intsD data)), .val (.lst (intsD row)), .any, .any, .any, .any, .any, .any]) ?_
      refine bl_seq (Γ1 := [.val (.frl (intsD ns)), .val (.int c), .val (.lst (intsD data)), .val (.lst (intsD row)), .val (.lst (intsD row)), .any, .any, .any, .any, .any]) (sl_set (i := 4) (ev_listL mList (ea_cons (ev_var 3) ea_nil)) rfl) ?_
      refine bl_seq (Γ1 := [.val (.frl (intsD ns)), .val (.int c), .val (.lst (intsD data)), .val (.lst (intsD row)), .val (.lst (intsD row)), .val (.lst (intsD (smallI row))), .any, .any, .any, .any]) (sl_set (i := 5) (ev_call FS hr1 (ea_cons (ev_var 4) ea_nil) ⟨row, rfl, rfl⟩) rfl) ?_
      refine bl_one (sl_if (Ew.t (ew_or (et_not (et_val (ev_call FI hr (ea_cons (ev_var 5) (ea_cons (ev_call FL hr1 (ea_cons (ev_var 3) ea_nil) ⟨row, rfl, rfl⟩) ea_nil)) ⟨smallI row, smallI row, rfl, rfl⟩))) fun _ => ew_or1 (et_neIL hu (ev_var 4) (ev_var 3)))) (fun h => ?_) (fun h => ?_))
      · simp at h
      · exact bl_nil (by walk_at "weak")
  -- at, low
  generalize ha : (c / 1830) % (data.length + 1) = at_
  have a0 : 0 ≤ at_ := by rw [← ha]; exact Int.emod_nonneg _ (by omega)
  refine bl_seq (Γ1 := [.val (.frl (intsD ns)), .val (.int c), .val (.lst (intsD data)), .any, .any, .any, .val (.int at_), .any, .any, .any]) (sl_set (i := 6) (ev_mod (ev_int1 mInt (ea_cons (ev_div (ev_var 1) ev_int ⟨by decide, by decide⟩) ea_nil)) (ev_add (ev_len (d := .lst (intsD data)) mLen (ea_cons (ev_var 2) ea_nil) rfl) ev_int) (by omega)) ?_) ?_
  · rw [intsD_len, ha]; rfl
  generalize hl : (c / 113460) % 242 = low
  refine bl_seq (Γ1 := [.val (.frl (intsD ns)), .val (.int c), .val (.lst (intsD data)), .any, .any, .any, .val (.int at_), .val (.int low), .any, .any]) (sl_set (i := 7) (ev_mod (ev_int1 mInt (ea_cons (ev_div (ev_var 1) ev_int ⟨by decide, by decide⟩) ea_nil)) ev_int (by decide)) ?_) ?_
  · rw [hl]; rfl
  obtain ⟨k, rfl⟩ : ∃ k : Nat, at_ = k := ⟨at_.toNat, by omega⟩
  have l1 : (data.take k).length ≤ 60 := by rw [List.length_take]; omega
  have l2 : (data.drop k).length ≤ 60 := by rw [List.length_drop]; omega
  have cut : ∀ (a b : Int), D.lst (cutL (intsD data) none (some (k : Int)) ++ [.int a, .int b] ++ cutL (intsD data) (some (k : Int)) none) = D.lst (intsD (data.take k ++ [a, b] ++ data.drop k)) := fun a b => by
    rw [cutL_to, cutL_from, ← intsD_app, ← intsD_app]; rfl
  have z1 : (cutL (intsD data) none (some (k : Int))).length ≤ 60 := by rw [cutL_to, intsD_len]; exact l1
  have z2 : (cutL (intsD data) (some (k : Int)) none).length ≤ 60 := by rw [cutL_from, intsD_len]; exact l2
  refine bl_seq (Γ1 := [.val (.frl (intsD ns)), .val (.int c), .val (.lst (intsD data)), .any, .any, .any, .val (.int k), .val (.int low), .val (.lst (intsD (data.take k ++ [0, low + 14] ++ data.drop k))), .any]) (sl_set (i := 8) ((ev_cat (ev_cat (ev_cut (ev_var 2) eo_no (eo_at (ev_var 6))) (ev_lst (ea_cons ev_int (ea_cons (ev_add (ev_var 7) ev_int) ea_nil))) (by show _ + 2 ≤ _; omega)) (ev_cut (ev_var 2) (eo_at (ev_var 6)) eo_no) (by rw [List.length_append]; show _ + 2 + _ ≤ _; omega)).cast (cut 0 (low + 14))) rfl) ?_
  refine bl_seq (Γ1 := [.val (.frl (intsD ns)), .val (.int c), .val (.lst (intsD data)), .any, .any, .any, .val (.int k), .val (.int low), .val (.lst (intsD (data.take k ++ [0, low + 14] ++ data.drop k))), .val (.lst (intsD (data.take k ++ [255, low] ++ data.drop k)))]) (sl_set (i := 9) ((ev_cat (ev_cat (ev_cut (ev_var 2) eo_no (eo_at (ev_var 6))) (ev_lst (ea_cons ev_int (ea_cons (ev_var 7) ea_nil))) (by show _ + 2 ≤ _; omega)) (ev_cut (ev_var 2) (eo_at (ev_var 6)) eo_no) (by rw [List.length_append]; show _ + 2 + _ ≤ _; omega)).cast (cut 255 low)) rfl) ?_
  refine bl_one (sl_ret (ev_andV (ev_eqIL hu (ev_call FS hr1 (ea_cons (ev_var 8) ea_nil) ⟨_, rfl, rfl⟩) (ev_call FS hr1 (ea_cons (ev_var 9) ea_nil) ⟨_, rfl, rfl⟩)) fun _ => ev_one (ev_eqIL hu (ev_call FS hr1 (ea_cons (ev_var 8) ea_nil) ⟨_, rfl, rfl⟩) (ev_call FL hr1 (ea_cons (ev_var 9) ea_nil) ⟨_, rfl, rfl⟩))) ?_)
  show D.bl _ = D.bl true
  rw [small_clash]
  simp
end
/-! ### the head -/
def dOf (x : Str) (st : Stmt) : He.DefD := ⟨(x, none), x, x, defArgs st, defBody st, defScope st, [], []⟩
def fn : List He.DefD := [dOf "_law_cell" (topS 4), dOf "_law_mixed" (topS 5), dOf "_law_bytes" (topS 6), dOf "_law_integer" (topS 7), dOf "_law_is_list" (topS 8), dOf "small_core" (topS 2), dOf "_law_small" (topS 9), dOf "law" (topS 10)]
def fa : List He.Fa := [.glo "_law_cell", .glo "_law_mixed", .glo "_law_bytes", .glo "_law_integer", .glo "_law_is_list", .glo "small_core", .glo "_law_small", .glo "law", .free "int", .free "abs", .free "len", .free "list", .free "range", .free "zip", .free "isinstance", .free "bool", .int "MODULUS" 65521]
abbrev Rw : PySem.W.OpenRow := PySem.W.OpenLaw.row PySem.Challenge.rw_sealgrove_k03_the_small_core
abbrev hk : PySem.W.Hook := He.hookD 4 fa fn
def ob (s : PySem.W.SharedT) : He.AlD := He.obsDG 4 fa fn (HandSHeadRun.getT s)
theorem ob_eq (s : PySem.W.SharedT) : ob s = hk.obs s.abs := He.obsDG_eq (HandSHeadRun.getT_eq s)
theorem run (w : World) : HandSHeadRun.RunEq Rw (PySem.W.view Rw.prog [10]) hk ob 1000 ["MODULUS", "small_core", "_law_cell", "_law_mixed", "_law_bytes", "_law_integer", "_law_is_list", "_law_small"] w := by
  intro os
  kernel_rfl
theorem facts {P : Program} {w : World} {K : PySem.W.Frag} {h : Heap} {mg : Str → Option Value} {f : Addr} (X : K.In h) (G : h.Ns mainGlobals mg) (hfa : mg ("law" : Str) = some (.ref f)) (c : He.SaysD fa fn K) :
    ∃ fd : FuncData, (∀ (s : Shared) (v : Value), BindsTo s fd ⟨[v], []⟩ [("script", v)]) ∧ ∀ base : Heap, K.In base → base.Ns mainGlobals mg → FnOk P w K mg base (L2.CX P w) 3 f fd ["script"] (spR K RLaw) := by
  obtain ⟨f0, F0⟩ := c.def_ 0 (d := dOf "_law_cell" (topS 4)) rfl
  have F0 : FnP K "_law_cell" "_law_cell" (topS 4) (He.fAd K ("_law_cell", none)) f0 := F0
  have g0 := He.glo_ok X G (c.fact 0 (f := .glo "_law_cell") rfl)
  obtain ⟨f1, F1⟩ := c.def_ 1 (d := dOf "_law_mixed" (topS 5)) rfl
  have F1 : FnP K "_law_mixed" "_law_mixed" (topS 5) (He.fAd K ("_law_mixed", none)) f1 := F1
  have g1 := He.glo_ok X G (c.fact 1 (f := .glo "_law_mixed") rfl)
  obtain ⟨f2, F2⟩ := c.def_ 2 (d := dOf "_law_bytes" (topS 6)) rfl
  have F2 : FnP K "_law_bytes" "_law_bytes" (topS 6) (He.fAd K ("_law_bytes", none)) f2 := F2
  have g2 := He.glo_ok X G (c.fact 2 (f := .glo "_law_bytes") rfl)
  obtain ⟨f3, F3⟩ := c.def_ 3 (d := dOf "_law_integer" (topS 7)) rfl
  have F3 : FnP K "_law_integer" "_law_integer" (topS 7) (He.fAd K ("_law_integer", none)) f3 := F3
  have g3 := He.glo_ok X G (c.fact 3 (f := .glo "_law_integer") rfl)
  obtain ⟨f4, F4⟩ := c.def_ 4 (d := dOf "_law_is_list" (topS 8)) rfl
  have F4 : FnP K "_law_is_list" "_law_is_list" (topS 8) (He.fAd K ("_law_is_list", none)) f4 := F4
  have g4 := He.glo_ok X G (c.fact 4 (f := .glo "_law_is_list") rfl)
  obtain ⟨f5, F5⟩ := c.def_ 5 (d := dOf "small_core" (topS 2)) rfl
  have F5 : FnP K "small_core" "small_core" (topS 2) (He.fAd K ("small_core", none)) f5 := F5
  have g5 := He.glo_ok X G (c.fact 5 (f := .glo "small_core") rfl)
  obtain ⟨f6, F6⟩ := c.def_ 6 (d := dOf "_law_small" (topS 9)) rfl
  have F6 : FnP K "_law_small" "_law_small" (topS 9) (He.fAd K ("_law_small", none)) f6 := F6
  have g6 := He.glo_ok X G (c.fact 6 (f := .glo "_law_small") rfl)
  obtain ⟨f7, F7⟩ := c.def_ 7 (d := dOf "law" (topS 10)) rfl
  have F7 : FnP K "law" "law" (topS 10) (He.fAd K ("law", none)) f7 := F7
  have g7 := He.glo_ok X G (c.fact 7 (f := .glo "law") rfl)
  have m_int := He.free_ok X G (c.fact 8 (f := .free "int") rfl)
  have m_abs := He.free_ok X G (c.fact 9 (f := .free "abs") rfl)
  have m_len := He.free_ok X G (c.fact 10 (f := .free "len") rfl)
  have m_list := He.free_ok X G (c.fact 11 (f := .free "list") rfl)
  have m_range := He.free_ok X G (c.fact 12 (f := .free "range") rfl)
  have m_zip := He.free_ok X G (c.fact 13 (f := .free "zip") rfl)
  have m_isinstance := He.free_ok X G (c.fact 14 (f := .free "isinstance") rfl)
  have m_bool := He.free_ok X G (c.fact 15 (f := .free "bool") rfl)
  have m_MODULUS := He.int_ok X G (c.fact 16 (f := .int "MODULUS" 65521) rfl)
  have e := hfa.symm.trans g7
  cases e
  have b := FunD.bindsA (ps := ["script"]) F7 fun _ _ _ _ _ _ us hl => match us, hl with | [_], _ => rfl
  refine ⟨f7, fun s v => b s [v] rfl, fun base _ _ => ?_⟩
  have x__law_cell : Fx P w K mg base "_law_cell" 1 ["script", "k"] RCell := ⟨_, f0, ok_cell F0 m_len m_int, g0, F0.kp, F0.bindsN fun _ _ _ _ _ _ us hl => match us, hl with | [_, _], _ => rfl⟩
  have x__law_mixed : Fx P w K mg base "_law_mixed" 1 ["cell", "k"] RMixed := ⟨_, f1, ok_mixed F1 m_int, g1, F1.kp, F1.bindsN fun _ _ _ _ _ _ us hl => match us, hl with | [_, _], _ => rfl⟩
  have x__law_bytes : Fx P w K mg base "_law_bytes" 2 ["cell", "size"] RBytes := ⟨_, f2, ok_bytes F2 m_int m_abs m_range x__law_mixed, g2, F2.kp, F2.bindsN fun _ _ _ _ _ _ us hl => match us, hl with | [_, _], _ => rfl⟩
  have x__law_integer : Fx P w K mg base "_law_integer" 1 ["value"] RInteger := ⟨_, f3, ok_integer F3 m_isinstance m_int m_bool, g3, F3.kp, F3.bindsN fun _ _ _ _ _ _ us hl => match us, hl with | [_], _ => rfl⟩
  have x__law_is_list : Fx P w K mg base "_law_is_list" 2 ["found", "due"] RIsList := ⟨_, f4, ok_is_list F4 m_isinstance m_list m_len m_zip x__law_integer, g4, F4.kp, F4.bindsN fun _ _ _ _ _ _ us hl => match us, hl with | [_, _], _ => rfl⟩
  have x_small_core : Fx P w K mg base "small_core" 1 ["data"] RSmall := ⟨_, f5, ok_small F5 m_MODULUS m_len m_range, g5, F5.kp, F5.bindsN fun _ _ _ _ _ _ us hl => match us, hl with | [_], _ => rfl⟩
  have x__law_small : Fx P w K mg base "_law_small" 1 ["data"] RSmall := ⟨_, f6, ok_lsmall F6 m_int m_len m_range, g6, F6.kp, F6.bindsN fun _ _ _ _ _ _ us hl => match us, hl with | [_], _ => rfl⟩
  exact ok_law F7 m_int m_abs m_len m_list x__law_cell x__law_bytes x__law_is_list x_small_core x__law_small
theorem law_pre {K : PySem.W.Frag} {H : Hp} {a : Addr} {ns : List Int} (hO : Only H) (hS : SqL K H a (ns.map V.int)) : spR K RLaw [.ref a] H (fun v _ => v = .bl true) fun _ _ _ => False := by
  refine ⟨fun _ => False, [.frl (intsD ns)], .ok (.bl true), fun _ z => z.elim, ⟨.ref a, [], rfl, ⟨a, ns.map V.int, rfl, ?_, RepL.of_ints⟩, rfl⟩, ⟨ns, rfl, rfl⟩, fun v H' _ r => r⟩
  rcases hS with (h | ⟨o, h⟩) | h
  · rcases hO a with q | ⟨o, xs, q⟩
    · rw [q] at h; cases h
    · rw [q] at h; cases h
  · exact .inl ⟨o, fun z => z, h⟩
  · exact .inr h
theorem fn_cx {P : Program} {w : World} {K : PySem.W.Frag} {mg : Str → Option Value} {base : Heap} {k : Nat} {f : Addr} {fd : FuncData} {ps : List Str} {sp : Sp} (F : FnOk P w K mg base (L2.CX P w) k f fd ps sp) :
    FnOk P w K mg base (fun o H s E e s' => ∃ w, L2.CX P w o H s E e s') k f fd ps sp := ⟨F.len, fun A outer s H args us vs Q E hr he hb hv hs => codeAny_mono (F.run A outer s H args us vs Q E hr he hb hv hs) fun r s' h => by
  cases r with
  | ok fl => cases fl <;> exact h
  | error e => exact ⟨w, h⟩⟩
end Law
open PySem PySem.W PySem.Calls PyProof.Rows
set_option maxRecDepth 100000 in
set_option maxHeartbeats 8000000 in
theorem PySem.Challenge.cw_sealgrove_k03_the_small_core_holds : PySem.Challenge.rw_sealgrove_k03_the_small_core.Holds := by
  w_on; o_law
  refine HandSHeadRun.head_any (r := OpenLaw.row PySem.Challenge.rw_sealgrove_k03_the_small_core) (q := view (OpenLaw.row PySem.Challenge.rw_sealgrove_k03_the_small_core).prog [10]) (H := Law.hk) (ob := Law.ob) (M := 1000) (loose := ["MODULUS", "small_core", "_law_cell", "_law_mixed", "_law_bytes", "_law_integer", "_law_is_list", "_law_small"]) (d := HandSHeadRun.topDef (OpenLaw.row PySem.Challenge.rw_sealgrove_k03_the_small_core).prog 10) (kwd := []) Law.ob_eq
    (by kernel_rfl) (fun s => by kernel_rfl) Law.run (by kernel_rfl) (by kernel_rfl) (by kernel_rfl) (by rfl) (by first | assumption | decide +kernel) (by decide +kernel) ⟨rfl, rfl, rfl, rfl, rfl, by decide +kernel⟩ ?hw ?hc
  case hw => w_witness2
  case hc =>
    refine L2.walk_ofE (l := PySem.Challenge.rw_sealgrove_k03_the_small_core) (n := 63) (k := 3) (x := "script") (CX := fun o H s E e s' => ∃ w, L2.CX (PySem.Challenge.rw_sealgrove_k03_the_small_core).prog w o H s E e s') rfl (by decide) (by kernel_rfl) ⟨rfl, by decide, by decide⟩ ?F (fun _ _ _ _ z => ?_)
    · intro w mg fa h Y G hmg0
      obtain ⟨K, KX, c⟩ := Y
      have hmg : mg ("law" : PySem.Str) = some (.ref fa) := by
        have e : (HandSHeadRun.topDef (OpenLaw.row PySem.Challenge.rw_sealgrove_k03_the_small_core).prog 10).name = ("law" : PySem.Str) := by kernel_rfl
        rw [← e]
        exact hmg0
      obtain ⟨fd, hb, hF⟩ := Law.facts (P := (PySem.Challenge.rw_sealgrove_k03_the_small_core).prog) (w := w) KX G hmg c
      exact ⟨K, fd, S3.spR K Law.RLaw, KX, hb, fun H a ns hl hO hS => Law.law_pre hO hS, fun base i n => Law.fn_cx (hF base i n)⟩
    · obtain ⟨_, _, _, _, _, _, _, _, _, _, _, _, _, z⟩ := z
      exact z
