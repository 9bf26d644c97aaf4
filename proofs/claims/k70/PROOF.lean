import PyProof.Rows.All
import Wide.All
import OpenK.AllK
import Wide.FinOn
import HandS.ForMost
import HandS.ForExc
import HandS.Wide
import HandS.Codes
import HandS.AnyAll
import HandS.StrMore
import HandS.FStr
import HandS.IsInst
import HandS.ExcInit
import HandS.ExcIs
import HandS.ExcField
import HandS.Replace
import HandS.ReplaceLit
import HandS.Flow
import HandS.NoneIn
import HandS.Style
import HandS.List
import HandS.Gcd
import PyProof.MeetsSeq
import PyProof.SeqWrite
import PyProof.Meets
import PySem.Challenge.RW_aliasfold_k70_linking_puts_needed_module
import HandS.ExcCtx
import HandS.TryMany
import HandS.DictComp
import HandS.More
import HandS.Rev
import HandS.WordsDict
import HandS.RevTup
import KE.KDictList
import HandS.Walk
import HandS.Iter
import HandS.Exc
import PyProof.P3Eq
import KE.KExcIs
import HandS.Head0
import HandS.Head1
import HandS.Head2
import HandS.Head3
import HandS.HeadEnd
import HandS.HeadHook1
import HandS.HeadHook2
import HandS.HeadHook4
import HandS.HeadNt
import HandS.HeadWalk
set_option Elab.async false
set_option linter.all false
set_option maxRecDepth 100000
set_option maxHeartbeats 0
namespace My
open PySem L2

/-! ### heaps -/
def isTbl : HO → Bool
  | .tbl _ => true
  | _ => false
/-- what was tracked stays, but for what X names; tables stay tables; nothing is forgotten -/
structure Sm (X : Addr → Prop) (H H' : Hp) : Prop where
  keep : ∀ b o, ¬ X b → isTbl o = false → H b = some o → H' b = some o
  tab : ∀ P, GxR.TabG H P → GxR.TabG H' P
  dom : ∀ b, H' b = none → H b = none
abbrev No : Addr → Prop := fun _ => False
abbrev Two (S L : Addr) : Addr → Prop := fun b => b = S ∨ b = L
theorem Sm.refl (X : Addr → Prop) (H : Hp) : Sm X H H := ⟨fun _ _ _ _ h => h, fun _ h => h, fun _ h => h⟩
theorem Sm.trans {X : Addr → Prop} {H H1 H2 : Hp} (a : Sm X H H1) (b : Sm X H1 H2) : Sm X H H2 :=
  ⟨fun c o n t h => b.keep c o n t (a.keep c o n t h), fun P h => b.tab P (a.tab P h), fun c h => a.dom c (b.dom c h)⟩
theorem Sm.wide {X Y : Addr → Prop} {H H' : Hp} (a : Sm X H H') (h : ∀ b, X b → Y b) : Sm Y H H' :=
  ⟨fun c o n t q => a.keep c o (fun z => n (h c z)) t q, a.tab, a.dom⟩
theorem Sm.no {Y : Addr → Prop} {H H' : Hp} (a : Sm No H H') : Sm Y H H' := a.wide fun _ z => z.elim
theorem tab_upd {H : Hp} {p : Addr} {o : HO} (h : ∀ ps, H p ≠ some (.tbl ps)) : ∀ P, GxR.TabG H P → GxR.TabG (upd H p o) P := fun P ⟨ps, h1, h2⟩ =>
  ⟨ps, by rw [upd_ne (fun z => h ps (by rw [← z]; exact h1))]; exact h1, h2⟩
theorem upd_dom {H : Hp} {p : Addr} {o : HO} : ∀ b, upd H p o b = none → H b = none := fun b h => by
  by_cases hb : b = p
  · rw [hb, upd_same] at h; cases h
  · rw [upd_ne hb] at h; exact h
theorem Sm.new {X : Addr → Prop} {H : Hp} {p : Addr} {o : HO} (h : H p = none) : Sm X H (upd H p o) :=
  ⟨fun b u _ _ e => by rw [upd_ne (ne_of_none e h)]; exact e, tab_upd (fun ps z => by rw [h] at z; cases z), upd_dom⟩
theorem Sm.set {X : Addr → Prop} {H : Hp} {p : Addr} {o : HO} (h : X p) (ht : ∀ ps, H p ≠ some (.tbl ps)) : Sm X H (upd H p o) :=
  ⟨fun b u n _ e => by rw [upd_ne (fun z => n (by rw [z]; exact h))]; exact e, tab_upd ht, upd_dom⟩
theorem Sm.tabbed {X : Addr → Prop} {H H' : Hp} {P : Addr} (h0 : GxR.TabG H P) (h : GxR.Tabbed P H H') : Sm X H H' := by
  obtain ⟨ht, hk⟩ := h
  refine ⟨fun b o _ n e => ?_, fun Z hz => ?_, fun b h => ?_⟩
  · by_cases hb : b = P
    · obtain ⟨ps, h1, _⟩ := h0
      rw [hb, h1] at e
      cases e
      cases n
    · rw [hk b hb]; exact e
  · by_cases hb : Z = P
    · rw [hb]; exact ht
    · obtain ⟨ps, h1, h2⟩ := hz
      exact ⟨ps, by rw [hk Z hb]; exact h1, h2⟩
  · by_cases hb : b = P
    · obtain ⟨ps, h1, _⟩ := ht
      rw [hb, h1] at h
      cases h
    · rw [← hk b hb]; exact h
theorem Sm.seq {X : Addr → Prop} {K : PySem.W.Frag} {H H' : Hp} {a : Addr} {xs : List V} (e : Sm X H H') (n : ¬ X a) (h : SqL K H a xs) : SqL K H' a xs := by
  rcases h with (h | ⟨o, h⟩) | h
  · exact .inl (.inl (e.keep _ _ n rfl h))
  · exact .inl (.inr ⟨o, e.keep _ _ n rfl h⟩)
  · exact .inr h
theorem Sm.lst {X : Addr → Prop} {H H' : Hp} {a : Addr} {xs : List V} (e : Sm X H H') (n : ¬ X a) (h : H a = some (.lst xs)) : H' a = some (.lst xs) := e.keep _ _ n rfl h
theorem Sm.lst0 {H H' : Hp} {a : Addr} {xs : List V} (e : Sm No H H') (h : H a = some (.lst xs)) : H' a = some (.lst xs) := e.keep _ _ (fun z => z) rfl h
/-- what H did not know may change -/
theorem Sm.mut {X : Addr → Prop} {H H' : Hp} {p : Addr} {o : HO} (e : Sm X H H') (h : H p = none) (ht : ∀ ps, H' p ≠ some (.tbl ps)) : Sm X H (upd H' p o) :=
  ⟨fun b u n t q => by rw [upd_ne (ne_of_none q h)]; exact e.keep b u n t q, fun P h => tab_upd ht P (e.tab P h), fun b q => e.dom b (upd_dom b q)⟩
theorem ntbl_l {H : Hp} {a : Addr} {xs : List V} (h : H a = some (.lst xs)) : ∀ ps, H a ≠ some (.tbl ps) := fun ps z => by rw [h] at z; cases z

/-! ### the state of the draws -/
/-- at S: the rest of the script, at L, and what is left of the cell -/
def LS (H : Hp) (S L : Addr) : Prop := ∃ (cs : List Int) (d : Int), H S = some (.lst [.ref L, .int d]) ∧ H L = some (.lst (cs.map V.int)) ∧ 0 ≤ d ∧ cs.length ≤ 63
theorem LS.ne {H : Hp} {S L : Addr} (h : LS H S L) : S ≠ L := by
  obtain ⟨cs, d, h1, h2, _⟩ := h
  refine ne_of h1 h2 fun z => ?_
  cases cs with
  | nil => cases z
  | cons c r => cases z
theorem LS.sm {H H' : Hp} {S L : Addr} (h : LS H S L) (e : Sm No H H') : LS H' S L := by
  obtain ⟨cs, d, h1, h2, h3⟩ := h
  exact ⟨cs, d, e.lst0 h1, e.lst0 h2, h3⟩
theorem LS.some {H : Hp} {S L : Addr} (h : LS H S L) : H S ≠ none ∧ H L ≠ none := by
  obtain ⟨cs, d, h1, h2, h3⟩ := h
  exact ⟨by rw [h1]; simp, by rw [h2]; simp⟩
/-! ### the draws, as functions -/
def spMixed : Sp := fun vs H Q _ => ∃ c : Int, vs = [.int c] ∧ ∀ n : Int, 0 ≤ n → Q (.int n) H
def spTake : Sp := fun vs H Q _ => ∃ (S L : Addr) (n : Int), vs = [.ref S, .int n] ∧ LS H S L ∧ 0 < n ∧ n.natAbs < 2 ^ 8000 ∧
  ∀ (g : Int) (H' : Hp), 0 ≤ g → g < n → LS H' S L → Sm (Two S L) H H' → Q (.int g) H'
def spState (K : PySem.W.Frag) : Sp := fun vs H Q _ => ∃ (a : Addr) (ns : List Int), vs = [.ref a] ∧ SqL K H a (ns.map V.int) ∧ ns.length ≤ 63 ∧
  ∀ (S L : Addr) (H' : Hp), H S = none → H L = none → LS H' S L → Sm No H H' → Q (.ref S) H'
end My
namespace My
open PySem L2
/-! ### heaps in lists -/
section
variable {α : Type} (lt : α → α → Bool)
structure Ord : Prop where
  asym : ∀ {a b}, lt a b = true → lt b a = false
  trans : ∀ {a b c}, lt a b = true → lt b c = true → lt a c = true
  ntr : ∀ {a b c}, lt a b = false → lt b c = false → lt a c = false
/-- no element is smaller than its parent -/
def IsHp (l : List α) : Prop := ∀ i x p, 0 < i → l[i]? = some x → l[(i - 1) / 2]? = some p → lt x p = false
/-- but for the one at pos, whose children are not smaller than its parent -/
def HUp (l : List α) (pos : Nat) : Prop := (∀ i x p, 0 < i → i ≠ pos → l[i]? = some x → l[(i - 1) / 2]? = some p → lt x p = false) ∧
  ∀ c x p, 0 < pos → 0 < c → (c - 1) / 2 = pos → l[c]? = some x → l[(pos - 1) / 2]? = some p → lt x p = false
/-- but for the one at pos and its children -/
def HDn (l : List α) (pos : Nat) : Prop := (∀ i x p, 0 < i → i ≠ pos → (i - 1) / 2 ≠ pos → l[i]? = some x → l[(i - 1) / 2]? = some p → lt x p = false) ∧
  ∀ c x p, 0 < pos → 0 < c → (c - 1) / 2 = pos → l[c]? = some x → l[(pos - 1) / 2]? = some p → lt x p = false
def swp (l : List α) (i j : Nat) (a b : α) : List α := (l.set i b).set j a
variable {lt}
theorem swp_len {l : List α} {i j : Nat} {a b : α} : (swp l i j a b).length = l.length := by unfold swp; rw [List.length_set, List.length_set]
theorem swp_get {l : List α} {i j : Nat} {a b : α} (hi : l[i]? = some a) (hj : l[j]? = some b) (k : Nat) : (swp l i j a b)[k]? = if k = j then some a else if k = i then some b else l[k]? := by
  have li := (List.getElem?_eq_some_iff.mp hi).1
  have lj := (List.getElem?_eq_some_iff.mp hj).1
  unfold swp
  rw [List.getElem?_set, List.length_set]
  by_cases h : j = k
  · subst h
    rw [if_pos rfl, if_pos rfl, if_pos lj]
  · rw [if_neg h, if_neg (fun z => h z.symm), List.getElem?_set]
    by_cases h2 : i = k
    · subst h2
      rw [if_pos rfl, if_pos rfl, if_pos li]
    · rw [if_neg h2, if_neg (fun z => h2 z.symm)]
theorem perm_set {a x : α} : ∀ {r : List α} {i : Nat}, r[i]? = some x → (a :: r).Perm (x :: r.set i a)
  | [], i, h => by simp at h
  | y :: r, 0, h => by
    cases h
    exact List.Perm.swap _ _ _
  | y :: r, i + 1, h => by
    have ih := perm_set (a := a) (r := r) (i := i) (by simpa using h)
    show (a :: y :: r).Perm (x :: y :: r.set i a)
    exact (List.Perm.swap y a r).trans ((ih.cons y).trans (List.Perm.swap x y _))
theorem swp_perm {a b : α} : ∀ {l : List α} {i j : Nat}, l[i]? = some a → l[j]? = some b → (swp l i j a b).Perm l
  | [], i, j, h, _ => by simp at h
  | y :: r, 0, 0, h1, h2 => by
    cases h1
    cases h2
    exact List.Perm.refl _
  | y :: r, 0, j + 1, h1, h2 => by
    obtain rfl : y = a := by simpa using h1
    exact (perm_set (r := r) (i := j) (by simpa using h2)).symm
  | y :: r, i + 1, 0, h1, h2 => by
    obtain rfl : y = b := by simpa using h2
    exact (perm_set (r := r) (i := i) (by simpa using h1)).symm
  | y :: r, i + 1, j + 1, h1, h2 => (swp_perm (l := r) (i := i) (j := j) (by simpa using h1) (by simpa using h2)).cons y
theorem HUp.zero {l : List α} (h : HUp lt l 0) : IsHp lt l := fun i x p i0 hx hp => h.1 i x p i0 (by omega) hx hp
theorem HUp.stop {l : List α} {pos : Nat} {z p : α} (h : HUp lt l pos) (hz : l[pos]? = some z) (hp : l[(pos - 1) / 2]? = some p) (n : lt z p = false) : IsHp lt l := fun i x q i0 hx hq => by
  by_cases e : i = pos
  · subst e
    rw [hz] at hx
    rw [hp] at hq
    cases hx
    cases hq
    exact n
  · exact h.1 i x q i0 e hx hq
theorem HUp.step {l : List α} {pos : Nat} {z p : α} (O : Ord lt) (h : HUp lt l pos) (p0 : 0 < pos) (hz : l[pos]? = some z) (hp : l[(pos - 1) / 2]? = some p) (n : lt z p = true) : HUp lt (swp l ((pos - 1) / 2) pos p z) ((pos - 1) / 2) := by
  have ne : (pos - 1) / 2 ≠ pos := by omega
  have g := swp_get hp hz
  have pz := O.asym n
  refine ⟨fun i x q i0 hi hx hq => ?_, fun c x q q0 c0 ec hx hq => ?_⟩
  · rw [g] at hx hq
    by_cases e : i = pos
    · subst e
      rw [if_pos rfl] at hx
      rw [if_neg ne, if_pos rfl] at hq
      cases hx
      cases hq
      exact pz
    · rw [if_neg e, if_neg hi] at hx
      by_cases e2 : (i - 1) / 2 = pos
      · rw [if_pos e2] at hq
        cases hq
        exact h.2 i x _ p0 i0 e2 hx hp
      · rw [if_neg e2] at hq
        by_cases e3 : (i - 1) / 2 = (pos - 1) / 2
        · rw [if_pos e3] at hq
          cases hq
          have xp := h.1 i x p i0 e hx (by rw [e3]; exact hp)
          cases hxz : lt x z with
          | false => rfl
          | true => rw [O.trans hxz n] at xp; cases xp
        · rw [if_neg e3] at hq
          exact h.1 i x q i0 e hx hq
  · rw [g] at hx hq
    have n1 : ((pos - 1) / 2 - 1) / 2 ≠ pos := by omega
    have n2 : ((pos - 1) / 2 - 1) / 2 ≠ (pos - 1) / 2 := by omega
    rw [if_neg n1, if_neg n2] at hq
    have pq := h.1 _ p q q0 ne hp hq
    by_cases e : c = pos
    · rw [if_pos e] at hx
      cases hx
      exact pq
    · rw [if_neg e] at hx
      by_cases e2 : c = (pos - 1) / 2
      · omega
      · rw [if_neg e2] at hx
        exact O.ntr (h.1 c x p c0 e hx (by rw [ec]; exact hp)) pq
theorem HDn.leaf {l : List α} {pos : Nat} (h : HDn lt l pos) (n : l.length ≤ 2 * pos + 1) : HUp lt l pos := by
  refine ⟨fun i x p i0 hi hx hp => ?_, h.2⟩
  have li := (List.getElem?_eq_some_iff.mp hx).1
  exact h.1 i x p i0 hi (by omega) hx hp
theorem HDn.step {l : List α} {pos c : Nat} {z x : α} (h : HDn lt l pos) (c0 : 0 < c) (ec : (c - 1) / 2 = pos) (hz : l[pos]? = some z) (hx : l[c]? = some x) (least : ∀ c' y, 0 < c' → (c' - 1) / 2 = pos → l[c']? = some y → c' ≠ c → lt y x = false) : HDn lt (swp l c pos x z) c := by
  have ne : c ≠ pos := by omega
  have g := swp_get hx hz
  refine ⟨fun i y q i0 hi hp hy hq => ?_, fun d y q _ d0 ed hy hq => ?_⟩
  · rw [g] at hy hq
    rw [if_neg hp] at hq
    by_cases e : i = pos
    · rw [if_pos e] at hy
      cases hy
      subst e
      have n1 : (i - 1) / 2 ≠ i := by omega
      rw [if_neg n1] at hq
      exact h.2 c x q i0 c0 ec hx hq
    · rw [if_neg e, if_neg hi] at hy
      by_cases e2 : (i - 1) / 2 = pos
      · rw [if_pos e2] at hq
        cases hq
        exact least i y i0 e2 hy hi
      · rw [if_neg e2] at hq
        exact h.1 i y q i0 e e2 hy hq
  · rw [g] at hy hq
    rw [ec, if_pos rfl] at hq
    cases hq
    have n1 : d ≠ pos := by omega
    have n2 : d ≠ c := by omega
    rw [if_neg n1, if_neg n2] at hy
    exact h.1 d y x d0 n1 (by rw [ed]; exact ne) hy (by rw [ed]; exact hx)
theorem IsHp.push {l : List α} {x : α} (h : IsHp lt l) : HUp lt (l ++ [x]) l.length := by
  have g : ∀ i, i < l.length → (l ++ [x])[i]? = l[i]? := fun i hi => List.getElem?_append_left hi
  have len : ∀ i y, (l ++ [x])[i]? = some y → i < l.length + 1 := fun i y e => by
    have := (List.getElem?_eq_some_iff.mp e).1
    simpa using this
  refine ⟨fun i y p i0 hi hy hp => ?_, fun c y p _ c0 ec hy _ => ?_⟩
  · have := len i y hy
    rw [g i (by omega)] at hy
    rw [g _ (by omega)] at hp
    exact h i y p i0 hy hp
  · have := len c y hy
    omega
theorem IsHp.pop {l : List α} {x z : α} (h : IsHp lt (x :: l)) : HDn lt ((x :: l).dropLast.set 0 z) 0 := by
  have g : ∀ i y, 0 < i → ((x :: l).dropLast.set 0 z)[i]? = some y → (x :: l)[i]? = some y := fun i y i0 e => by
    rw [List.getElem?_set_ne (by omega)] at e
    have li := (List.getElem?_eq_some_iff.mp e).1
    rw [List.getElem?_dropLast] at e
    split at e
    · exact e
    · cases e
  refine ⟨fun i y p i0 _ hp hy hq => ?_, fun c y p p0 => absurd p0 (by omega)⟩
  exact h i y p i0 (g i y i0 hy) (g _ p (by omega) hq)
theorem IsHp.least {l : List α} {x : α} (O : Ord lt) (irr : lt x x = false) (h : IsHp lt (x :: l)) : ∀ (n i : Nat) (y : α), i ≤ n → (x :: l)[i]? = some y → lt y x = false := by
  intro n
  induction n with
  | zero =>
    intro i y hi hy
    have e : i = 0 := by omega
    subst e
    cases hy
    exact irr
  | succ n ih =>
    intro i y hi hy
    by_cases e : i = 0
    · subst e
      cases hy
      exact irr
    · have li := (List.getElem?_eq_some_iff.mp hy).1
      have hp : (x :: l)[(i - 1) / 2]? = some (x :: l)[(i - 1) / 2] := List.getElem?_eq_getElem (by omega)
      exact O.ntr (h i y _ (by omega) hy hp) (ih _ _ (by omega) hp)
end
/-! texts -/
def ltS (a b : Str) : Bool := decide (a.cps.toList < b.cps.toList)
theorem ltS_ord : Ord ltS where
  asym := fun {a b} h => decide_eq_false fun z => absurd (of_decide_eq_true h) (List.lt_asymm z)
  trans := fun {a b c} h g => decide_eq_true (List.lt_trans (of_decide_eq_true h) (of_decide_eq_true g))
  ntr := fun {a b c} h g => decide_eq_false fun z => by
    have h := of_decide_eq_false h
    have g := of_decide_eq_false g
    have h' : b.cps.toList ≤ a.cps.toList := h
    have g' : c.cps.toList ≤ b.cps.toList := g
    exact absurd z (List.le_trans g' h')
theorem ltS_irr (a : Str) : ltS a a = false := decide_eq_false (List.lt_irrefl _)
end My
namespace My
open PySem PySem.Spec PyProof.Rows L2
open PySem.AutoSeq1 (wpAny_loadPart')
theorem plain_sift : plainId "_heapq.heapify.sift" = true := by decide +kernel
theorem entry_sift : entryFor table "_heapq.heapify.sift" = some Builtin.«_heapq.heapify.sift» := entryFor_of_fast (by kernel_rfl)
theorem plain_push : plainId "_heapq.heappush" = true := by decide +kernel
theorem entry_push : entryFor table "_heapq.heappush" = some Builtin.«_heapq.heappush» := entryFor_of_fast (by kernel_rfl)
theorem plain_popq : plainId "_heapq.heappop" = true := by decide +kernel
theorem entry_popq : entryFor table "_heapq.heappop" = some Builtin.«_heapq.heappop» := entryFor_of_fast (by kernel_rfl)
/-- values that are these texts -/
def Txt (its : List Value) (xs : List Str) : Prop := its.length = xs.length ∧ ∀ (i : Nat) (x : Str), xs[i]? = some x → ∃ t : Tok, its[i]? = some (Value.str x t)
abbrev lo (its : List Value) (n : Nat) : Obj := { cls := .type "list", dict := none, data := .seq its.toArray n, slots := #[] }
section
variable {prog : Program} {w : World}
theorem rich_lt {A : Around} {E : Value → Shared → Prop} {s : Shared} {x y : Str} {t u : Tok} {Q : Value → Shared → Prop} (h : Q (.bool (ltS x y)) s) : wpAny (model prog w) A (richCompare .Lt (.str x t) (.str y u)) Q E s :=
  wpAny_richCompare_same (op := .Lt) (T := "str") (typeIs_str s x t) (typeIs_str s y u) slot_str_lt
    (wpAny_call_entry slot_str_lt (typeIs_str s x t) entry_str_lt (show wpAny _ _ (ret (.bool (x.cps.toList < y.cps.toList))) _ _ s from wpAny_pure ⟨_, rfl, by simp, h⟩) (args_str_lt _ _))
theorem Txt.at {its : List Value} {xs : List Str} (h : Txt its xs) {i : Nat} {x : Str} (e : xs[i]? = some x) : ∃ t : Tok, its.toArray[i]? = some (Value.str x t) := by
  obtain ⟨t, q⟩ := h.2 i x e
  exact ⟨t, by rw [List.getElem?_toArray]; exact q⟩
theorem Txt.swp {its : List Value} {xs : List Str} (h : Txt its xs) {i j : Nat} {a b : Str} {t u : Tok} (ha : xs[i]? = some a) (hb : xs[j]? = some b) (ia : its[i]? = some (.str a t)) (ib : its[j]? = some (.str b u)) : Txt (My.swp its i j (.str a t) (.str b u)) (My.swp xs i j a b) := by
  refine ⟨by rw [swp_len, swp_len]; exact h.1, fun k x e => ?_⟩
  rw [swp_get ha hb] at e
  rw [swp_get ia ib]
  by_cases h1 : k = j
  · rw [if_pos h1] at e ⊢
    cases e
    exact ⟨t, rfl⟩
  · rw [if_neg h1] at e ⊢
    by_cases h2 : k = i
    · rw [if_pos h2] at e ⊢
      cases e
      exact ⟨u, rfl⟩
    · rw [if_neg h2] at e ⊢
      exact h.2 k x e
/-- an object's list is changed -/
theorem upd_list {hp : Heap} {l : Addr} {its its' : List Value} {n : Nat} {f : Array Value → Array Value} (h : hp.get? l = some (lo its n)) (e : f its.toArray = its'.toArray) : ∃ n', (hp.update l (Obj.mapSeq f)).get? l = some (lo its' n') := by
  rw [Heap.get?_update_self _ h rfl]
  refine ⟨if ((f its.toArray).size == its.toArray.size) = true then n else n + 1, ?_⟩
  show some ({ cls := .type "list", dict := none, data := .seq (f its.toArray) (if ((f its.toArray).size == its.toArray.size) = true then n else n + 1), slots := #[] } : Obj) = some (lo its' _)
  rw [e]
theorem sift_up {A : Around} {R : Result → Shared → Prop} {l : Addr} {res : Value} : ∀ (k pos : Nat) (xs : List Str) (its : List Value) (n : Nat) (s : Shared), pos ≤ k → Txt its xs → pos < xs.length → xs.length ≤ 1000 → HUp ltS xs pos → s.heap.get? l = some (lo its n) →
    (∀ (h' : Heap) its' n' ys, (∀ b u, b ≠ l → s.heap.get? b = some u → h'.get? b = some u) → h'.get? l = some (lo its' n') → Txt its' ys → ys.Perm xs → IsHp ltS ys → R (.ok (.ret res)) { s with heap := h' }) →
    codeAny (model prog w) A (.builtin "_heapq.heapify.sift" ⟨[.ref l, .bool false, .bool false, rawInt pos, rawInt 0, res, rawInt (-1)], []⟩) R s := by
  intro k
  induction k with
  | zero =>
    intro pos xs its n s hk tx lp lx hu h q
    have e : pos = 0 := by omega
    subst e
    refine codeAny_builtin entry_sift ?_
    rw [Around.under_plainId plain_sift _]
    obtain ⟨hp, g, d, tk, os⟩ := s
    wp_walk using wpAny_seqItems h rfl
    exact q hp its n xs (fun b u _ e => e) h tx (List.Perm.refl _) hu.zero
  | succ k ih =>
    intro pos xs its n s hk tx lp lx hu h q
    by_cases p0 : pos = 0
    · subst p0
      refine codeAny_builtin entry_sift ?_
      rw [Around.under_plainId plain_sift _]
      obtain ⟨hp, g, d, tk, os⟩ := s
      wp_walk using wpAny_seqItems h rfl
      exact q hp its n xs (fun b u _ e => e) h tx (List.Perm.refl _) hu.zero
    refine codeAny_builtin entry_sift ?_
    rw [Around.under_plainId plain_sift _]
    obtain ⟨hp, g, d, tk, os⟩ := s
    wp_walk using wpAny_seqItems h rfl
    rw [if_pos (show (pos : Int).toNat > (0 : Int).toNat by simp; omega)]
    have ez : xs[pos]? = some xs[pos] := List.getElem?_eq_getElem lp
    have ep : xs[(pos - 1) / 2]? = some xs[(pos - 1) / 2] := List.getElem?_eq_getElem (by omega)
    generalize xs[pos] = z at ez
    generalize xs[(pos - 1) / 2] = p at ep
    obtain ⟨t, iz⟩ := tx.at ez
    obtain ⟨u, ip⟩ := tx.at ep
    rw [Int.toNat_natCast]
    wp_walk
    rw [iz]
    wp_walk
    rw [ip]
    wp_walk using wpAny_seqItems h rfl, rich_lt
    cases hlt : ltS z p with
    | false =>
      rw [if_neg Bool.false_ne_true]
      wp_walk
      exact q hp its n xs (fun b u _ e => e) h tx (List.Perm.refl _) (hu.stop ez ep hlt)
    | true =>
      rw [if_pos rfl]
      wp_walk using wpAny_seqItems h rfl
      rw [ip]
      wp_walk
      rw [iz]
      have lits : its.length ≤ 1000 := by rw [tx.1]; exact lx
      wp_walk using wpAny_updateSeq h rfl
      have li : ∀ {i : Nat} {v : Value}, its.toArray[i]? = some v → its[i]? = some v := fun e => by rw [List.getElem?_toArray] at e; exact e
      obtain ⟨n', e'⟩ := upd_list (f := fun xs => (xs.setIfInBounds ((pos - 1) / 2) (Value.str z t)).setIfInBounds pos (Value.str p u)) (its' := My.swp its ((pos - 1) / 2) pos (.str p u) (.str z t)) h (by unfold My.swp; simp)
      have pm := swp_perm ep ez
      refine ⟨plainId_quiet plain_sift _, ih ((pos - 1) / 2) (My.swp xs ((pos - 1) / 2) pos p z) _ n' _ (by omega) (tx.swp ep ez (li ip) (li iz)) (by rw [swp_len]; omega) (by rw [swp_len]; exact lx) (hu.step ltS_ord (by omega) ez ep hlt) e' ?_⟩
      intro h' its2 n2 ys k1 k2 k3 k4 k5
      exact q h' its2 n2 ys (fun b v hb e => k1 b v hb ((Heap.get?_update_other _ _ (Ne.symm hb)).trans e)) k2 k3 (k4.trans pm) k5
theorem sift_down {A : Around} {R : Result → Shared → Prop} {l : Addr} {res : Value} : ∀ (k pos : Nat) (xs : List Str) (its : List Value) (n : Nat) (s : Shared), xs.length ≤ pos + k → Txt its xs → pos < xs.length → xs.length ≤ 1000 → HDn ltS xs pos → s.heap.get? l = some (lo its n) →
    (∀ (h' : Heap) its' n' ys, (∀ b u, b ≠ l → s.heap.get? b = some u → h'.get? b = some u) → h'.get? l = some (lo its' n') → Txt its' ys → ys.Perm xs → IsHp ltS ys → R (.ok (.ret res)) { s with heap := h' }) →
    codeAny (model prog w) A (.builtin "_heapq.heapify.sift" ⟨[.ref l, .bool false, .bool true, rawInt pos, rawInt 0, res, rawInt (-1)], []⟩) R s := by
  intro k
  induction k with
  | zero =>
    intro pos xs its n s hk tx lp
    omega
  | succ k ih =>
    intro pos xs its n s hk tx lp lx hd h q
    have its_len : its.toArray.size = xs.length := by rw [List.size_toArray]; exact tx.1
    refine codeAny_builtin entry_sift ?_
    rw [Around.under_plainId plain_sift _]
    obtain ⟨hp, g, d, tk, os⟩ := s
    have lits : its.length ≤ 1000 := by rw [tx.1]; exact lx
    wp_walk using wpAny_seqItems h rfl
    rw [its_len, Int.toNat_natCast]
    by_cases c : pos < xs.length / 2
    · rw [if_pos c]
      have ez : xs[pos]? = some xs[pos] := List.getElem?_eq_getElem lp
      generalize xs[pos] = z at ez
      obtain ⟨t, iz⟩ := tx.at ez
      have li : ∀ {i : Nat} {v : Value}, its.toArray[i]? = some v → its[i]? = some v := fun e => by rw [List.getElem?_toArray] at e; exact e
      -- what is done with a child
      have go : ∀ (ch : Nat) (x : Str) (u : Tok), 0 < ch → (ch - 1) / 2 = pos → xs[ch]? = some x → its.toArray[ch]? = some (Value.str x u) → (∀ c' y, 0 < c' → (c' - 1) / 2 = pos → xs[c']? = some y → c' ≠ ch → ltS y x = false) →
          codeAny (model prog w) A (.builtin "_heapq.heapify.sift" ⟨[.ref l, .bool false, .bool true, rawInt ch, rawInt 0, res, rawInt (-1)], []⟩) R { heap := hp.update l (Obj.mapSeq fun xs => (xs.setIfInBounds ch (Value.str z t)).setIfInBounds pos (Value.str x u)), gens := g, drawn := d, toks := tk, os := os } := by
        intro ch x u c0 ec ex ix least
        have lch := (List.getElem?_eq_some_iff.mp ex).1
        obtain ⟨n', e'⟩ := upd_list (f := fun xs => (xs.setIfInBounds ch (Value.str z t)).setIfInBounds pos (Value.str x u)) (its' := My.swp its ch pos (.str x u) (.str z t)) h (by unfold My.swp; simp)
        have pm := swp_perm ex ez
        refine ih ch (My.swp xs ch pos x z) _ n' _ (by rw [swp_len]; omega) (tx.swp ex ez (li ix) (li iz)) (by rw [swp_len]; exact lch) (by rw [swp_len]; exact lx) (hd.step c0 ec ez ex least) e' ?_
        intro h' its2 n2 ys k1 k2 k3 k4 k5
        exact q h' its2 n2 ys (fun b v hb e => k1 b v hb ((Heap.get?_update_other _ _ (Ne.symm hb)).trans e)) k2 k3 (k4.trans pm) k5
      have el : xs[2 * pos + 1]? = some xs[2 * pos + 1] := List.getElem?_eq_getElem (by omega)
      generalize xs[2 * pos + 1] = x1 at el
      obtain ⟨u1, i1⟩ := tx.at el
      by_cases c2 : 2 * pos + 1 + 1 < xs.length
      · have er : xs[2 * pos + 1 + 1]? = some xs[2 * pos + 1 + 1] := List.getElem?_eq_getElem c2
        generalize xs[2 * pos + 1 + 1] = x2 at er
        obtain ⟨u2, i2⟩ := tx.at er
        wp_walk
        rw [i1]
        wp_walk
        rw [i2]
        wp_walk using wpAny_seqItems h rfl, rich_lt
        cases hlt : ltS x1 x2 with
        | true =>
          rw [Bool.not_true, if_neg Bool.false_ne_true]
          wp_walk using wpAny_seqItems h rfl
          rw [i1]
          wp_walk
          rw [iz]
          wp_walk using wpAny_updateSeq h rfl
          refine ⟨plainId_quiet plain_sift _, go (2 * pos + 1) x1 u1 (by omega) (by omega) el i1 fun c' y c0 ec ey ne => ?_⟩
          have e : c' = 2 * pos + 1 + 1 := by omega
          rw [e, er] at ey
          cases ey
          exact ltS_ord.asym hlt
        | false =>
          rw [Bool.not_false, if_pos rfl]
          wp_walk using wpAny_seqItems h rfl
          rw [i2]
          wp_walk
          rw [iz]
          wp_walk using wpAny_updateSeq h rfl
          refine ⟨plainId_quiet plain_sift _, go (2 * pos + 1 + 1) x2 u2 (by omega) (by omega) er i2 fun c' y c0 ec ey ne => ?_⟩
          have e : c' = 2 * pos + 1 := by omega
          rw [e, el] at ey
          cases ey
          exact hlt
      · wp_walk using wpAny_seqItems h rfl
        rw [i1]
        wp_walk
        rw [iz]
        wp_walk using wpAny_updateSeq h rfl
        refine ⟨plainId_quiet plain_sift _, go (2 * pos + 1) x1 u1 (by omega) (by omega) el i1 fun c' y c0 ec ey ne => ?_⟩
        have := (List.getElem?_eq_some_iff.mp ey).1
        omega
    · rw [if_neg c]
      wp_walk
      exact ⟨plainId_quiet plain_sift _, sift_up pos pos xs its n _ (Nat.le_refl _) tx lp lx (hd.leaf (by omega)) h q⟩
end
end My
namespace My
open PySem PySem.Spec PyProof.Rows L2
theorem kind_push : builtinKind "_heapq.heappush" = none := by kernel_rfl
theorem args_push (a b : Value) : argsOk "_heapq.heappush" ⟨[a, b], []⟩ := by unfold argsOk; kernel_rfl
theorem kind_pop : builtinKind "_heapq.heappop" = none := by kernel_rfl
theorem args_pop (a : Value) : argsOk "_heapq.heappop" ⟨[a], []⟩ := by unfold argsOk; kernel_rfl
theorem sub_ll : isSubtype (.type "list") (.type "list") = pure true := by
  first
  | rfl
  | kernel_rfl
section
variable {prog : Program} {w : World}
/-- what a heap's change leaves -/
def HpTo (l : Addr) (s : Shared) (ys : List Str) (s' : Shared) : Prop := ∃ (h' : Heap) (its' : List Value) (n' : Nat), s' = { s with heap := h' } ∧ (∀ b u, b ≠ l → s.heap.get? b = some u → h'.get? b = some u) ∧ h'.get? l = some (lo its' n') ∧ Txt its' ys
theorem push_meets (l : Addr) (xs : List Str) (its : List Value) (n : Nat) (x : Str) (t : Tok) : Meets (Builtin.«_heapq.heappush» ⟨[.ref l, .str x t], []⟩)
    (fun A R s => Txt its xs ∧ xs.length < 1000 ∧ IsHp ltS xs ∧ s.heap.get? l = some (lo its n) ∧ ∀ ys s', HpTo l s ys s' → ys.Perm (x :: xs) → IsHp ltS ys → R (.ok (.ret .none)) s') := by
  intro prog w A R s ⟨tx, lx, hh, h, q⟩
  obtain ⟨hp, g, d, tk, os⟩ := s
  have lits : its.length ≤ 1000 := by rw [tx.1]; omega
  have isl : Shared.TypeIs { heap := hp, gens := g, drawn := d, toks := tk, os := os } (.ref l) "list" := ⟨_, h, rfl⟩
  wp_walk using wpAny_seqItems h rfl
  refine wpAny_of_eq sub_ll ?_
  wp_walk using wpAny_updateSeq h rfl
  obtain ⟨n', e'⟩ := upd_list (f := fun xs => xs.push (Value.str x t)) (its' := its ++ [.str x t]) h (by simp)
  have tx' : Txt (its ++ [.str x t]) (xs ++ [x]) := by
    refine ⟨by rw [List.length_append, List.length_append, tx.1]; rfl, fun i y e => ?_⟩
    by_cases hi : i < xs.length
    · rw [List.getElem?_append_left hi] at e
      obtain ⟨u, hu⟩ := tx.2 i y e
      exact ⟨u, by rw [List.getElem?_append_left (by rw [tx.1]; exact hi)]; exact hu⟩
    · have li := (List.getElem?_eq_some_iff.mp e).1
      have ei : i = xs.length := by simp at li; omega
      subst ei
      rw [List.getElem?_append_right (Nat.le_refl _)] at e
      simp at e
      subst e
      exact ⟨t, by rw [List.getElem?_append_right (by rw [tx.1]; exact Nat.le_refl _)]; simp [tx.1]⟩
  wp_walk using wpAny_seqItems e' rfl
  have ez : ((fun x_1 : Array Value => x_1.push (Value.str x t)) its.toArray).size - 1 = xs.length := by simp [tx.1]
  rw [ez]
  refine ⟨plainId_quiet plain_sift _, sift_up xs.length xs.length (xs ++ [x]) _ n' _ (Nat.le_refl _) tx' (by simp) (by simp; omega) hh.push e' ?_⟩
  intro h' its2 n2 ys k1 k2 k3 k4 k5
  exact q ys _ ⟨h', its2, n2, rfl, fun b v hb e => k1 b v hb ((Heap.get?_update_other _ _ (Ne.symm hb)).trans e), k2, k3⟩ (k4.trans (by simpa using List.perm_append_singleton x xs)) k5
theorem sub_it : isSubtype (.type "list") (.type "list") = pure true := sub_ll
theorem pop_meets (l : Addr) (y : Str) (r : List Str) (its : List Value) (n : Nat) : Meets (Builtin.«_heapq.heappop» ⟨[.ref l], []⟩)
    (fun A R s => Txt its (y :: r) ∧ r.length < 1000 ∧ IsHp ltS (y :: r) ∧ s.heap.get? l = some (lo its n) ∧ ∀ ys s' t, HpTo l s ys s' → ys.Perm r → IsHp ltS ys → R (.ok (.ret (.str y t))) s') := by
  intro prog w A R s ⟨tx, lx, hh, h, q⟩
  obtain ⟨hp, g, d, tk, os⟩ := s
  have len := tx.1
  rw [List.length_cons] at len
  have lits : its.length ≤ 1000 := by omega
  have isl : Shared.TypeIs { heap := hp, gens := g, drawn := d, toks := tk, os := os } (.ref l) "list" := ⟨_, h, rfl⟩
  obtain ⟨t0, i0⟩ := tx.at (i := 0) (x := y) rfl
  wp_walk using wpAny_seqItems h rfl
  refine wpAny_of_eq sub_ll ?_
  wp_walk using wpAny_seqItems h rfl
  rcases List.eq_nil_or_concat its with rfl | ⟨its0, vz, rfl⟩
  · simp at len
  rw [List.concat_eq_append] at *
  have eb : (its0 ++ [vz]).toArray.back? = some vz := by simp
  rw [eb]
  obtain ⟨n1, e1⟩ := upd_list (f := fun xs => xs.pop) (its' := its0) h (by simp)
  wp_walk using wpAny_updateSeq h rfl
  rcases List.eq_nil_or_concat r with rfl | ⟨xs1, z, rfl⟩
  · have l0 : its0 = [] := by
      simp at len
      exact len
    subst l0
    rw [if_pos (by simp)]
    wp_walk
    have ev : vz = .str y t0 := by simpa using i0
    rw [ev]
    exact q [] _ t0 ⟨_, [], n1, rfl, fun b v hb e => (Heap.get?_update_other _ _ (Ne.symm hb)).trans e, e1, ⟨rfl, fun i x e => by simp at e⟩⟩ (List.Perm.refl _) (fun i x p _ e => by simp at e)
  rw [List.concat_eq_append] at *
  have l0 : its0.length = xs1.length + 1 := by simpa using len
  have lx1 : xs1.length + 1 < 1000 := by simpa using lx
  rw [if_neg (show ¬ (((its0 ++ [vz]).toArray.size == 1) = true) by rw [List.size_toArray, List.length_append, l0]; simp)]
  wp_walk
  rw [i0]
  obtain ⟨n2, e2⟩ := upd_list (f := fun xs => xs.setIfInBounds 0 vz) (its' := its0.set 0 vz) e1 (by simp)
  have lits2 : its0.length ≤ 1000 := by omega
  obtain ⟨tz, iz⟩ := tx.2 (xs1.length + 1) z (by simp)
  have ez : vz = .str z tz := by
    rw [List.getElem?_append_right (by omega)] at iz
    simpa [l0] using iz
  wp_walk using wpAny_updateSeq e1 rfl
  have hd := hh.pop (z := z)
  have edl : (y :: (xs1 ++ [z])).dropLast.set 0 z = z :: xs1 := by
    have : (y :: (xs1 ++ [z])).dropLast = y :: xs1 := by
      rw [show y :: (xs1 ++ [z]) = (y :: xs1) ++ [z] from rfl, List.dropLast_concat]
    rw [this]; rfl
  rw [edl] at hd
  have tx2 : Txt (its0.set 0 vz) (z :: xs1) := by
    refine ⟨by rw [List.length_set, l0]; rfl, fun i x e => ?_⟩
    cases i with
    | zero =>
      cases e
      exact ⟨tz, by rw [List.getElem?_set_self (by omega), ez]⟩
    | succ i =>
      have e' : xs1[i]? = some x := by simpa using e
      have li := (List.getElem?_eq_some_iff.mp e').1
      obtain ⟨u, hu⟩ := tx.2 (i + 1) x (by
        show (xs1 ++ [z])[i]? = some x
        rw [List.getElem?_append_left li]; exact e')
      exact ⟨u, by rw [List.getElem?_set_ne (by omega)]; rw [List.getElem?_append_left (by omega)] at hu; exact hu⟩
  refine ⟨plainId_quiet plain_sift _, sift_down (xs1.length + 1) 0 (z :: xs1) _ n2 _ (by simp) tx2 (by simp) (by simp at lx ⊢; omega) hd e2 ?_⟩
  intro h' its2 n3 ys k1 k2 k3 k4 k5
  exact q ys _ t0 ⟨h', its2, n3, rfl, fun b v hb e => k1 b v hb ((Heap.get?_update_other _ _ (Ne.symm hb)).trans ((Heap.get?_update_other _ _ (Ne.symm hb)).trans e)), k2, k3⟩ (k4.trans (by simpa using (List.perm_append_singleton z xs1).symm)) k5
end
end My
namespace My
open PySem PySem.Spec PyProof.Rows L2 TL
def top (i : Nat) : Stmt := PySem.Challenge.pw_aliasfold_k70_linking_puts_needed_module.main.body.getD i (.Pass ⟨0, 0, 0, 0⟩)
structure Blt (mg : Str → Option Value) : Prop where
  int : mg "int" = none
  len : mg "len" = none
  range : mg "range" = none
  str : mg "str" = none
  list : mg "list" = none
  sorted : mg "sorted" = none
  reversed : mg "reversed" = none
  isinstance : mg "isinstance" = none
structure Heq (mg : Str → Option Value) : Prop where
  push : mg "heappush" = some (.builtin "_heapq.heappush")
  pop : mg "heappop" = some (.builtin "_heapq.heappop")
structure Cal (P : Program) (w : World) (K : PySem.W.Frag) (mg : Str → Option Value) (base : Heap) (CX : CXT) (k : Nat) (x : Str) (ps : List Str) (sp : Sp) (f : Addr) (fd : FuncData) : Prop where
  ok : FnOk P w K mg base CX k f fd ps sp
  k : PySem.W.keepIn K (.ref f) = true
  g : mg x = some (.ref f)
  b : Binds K fd ps []
theorem line_of {n : Nat} (h : n ≤ 1000) : n < sizeLine := small1000 h
theorem take_more {α : Type} {l : List α} {i : Nat} {x : α} (h : l[i]? = some x) : l.take (i + 1) = l.take i ++ [x] := by
  rw [List.take_add_one, h]; rfl
theorem app_len (x y : Str) : (x ++ y).length = x.length + y.length := by
  rw [len_tl, tl_append, List.length_append, ← len_tl, ← len_tl]
/-! ### the heaps of texts -/
theorem txt_of {xs : List Str} {its : List Value} (r : Vals (xs.map V.str) its) : Txt its xs := by
  refine ⟨by have := r.length; rw [List.length_map] at this; exact this.symm, fun i x e => ?_⟩
  have e2 : (xs.map V.str)[i]? = some (.str x) := by rw [List.getElem?_map, e]; rfl
  obtain ⟨u, hu, rv⟩ := r.get e2
  obtain ⟨t, rfl⟩ := rv
  exact ⟨t, hu⟩
theorem txt_to : ∀ {xs : List Str} {its : List Value}, Txt its xs → Vals (xs.map V.str) its
  | [], its, h => by
    have e : its = [] := List.length_eq_zero_iff.mp h.1
    rw [e]; exact .nil
  | x :: xs, its, h => by
    cases its with
    | nil => cases h.1
    | cons v its =>
      obtain ⟨t, ht⟩ := h.2 0 x rfl
      have ev : v = .str x t := by simpa using ht
      exact .cons (show RelV (.str x) v from ⟨t, ev⟩) (txt_to ⟨by have := h.1; simpa using this, fun i y e => h.2 (i + 1) y (by simpa using e)⟩)
section
variable {X : Cx}
def rPush : List V → Hp → VK → Prop := fun vs H Q => ∃ (l : Addr) (x : Str) (xs : List Str), vs = [.ref l, .str x] ∧ H l = some (.lst (xs.map V.str)) ∧ xs.length < 1000 ∧ IsHp ltS xs ∧
  ∀ ys : List Str, ys.Perm (x :: xs) → IsHp ltS ys → Q .non (upd H l (.lst (ys.map V.str)))
def rPop : List V → Hp → VK → Prop := fun vs H Q => ∃ (l : Addr) (y : Str) (r : List Str), vs = [.ref l] ∧ H l = some (.lst ((y :: r).map V.str)) ∧ r.length < 1000 ∧ IsHp ltS (y :: r) ∧
  ∀ ys : List Str, ys.Perm r → IsHp ltS ys → Q (.str y) (upd H l (.lst (ys.map V.str)))
theorem hp_inv {pins : List (Addr × Obj)} {σ : L2.St} {H : Hp} {s s' : Shared} {l : Addr} {xs ys : List Str} (I : L2.Inv X pins σ H s) (h : H l = some (.lst (xs.map V.str))) (t : HpTo l s ys s') (hz : ys.length ≤ 1000) : L2.Inv X pins σ (upd H l (.lst (ys.map V.str))) s' := by
  obtain ⟨h', its', n', rfl, k1, k2, k3⟩ := t
  refine I.write (x := l) (e := l) (t' := s.toks) (by rw [h]; trivial) (.inl rfl) (fun b u hb q => k1 b u hb q) ⟨_, k2⟩ ?_
  exact ⟨by rw [List.length_map]; exact Nat.le_of_lt (line_of hz), its', n', txt_to k3, k2⟩
theorem cr_push : CallR X (.builtin "_heapq.heappush") rPush := by
  intro pins s σ H vs us Q I r h
  obtain ⟨l, x, xs, rfl, hH, lx, hh, q⟩ := h
  obtain ⟨u1, u2, rfl, r1, r2⟩ := vals2 r
  obtain rfl : u1 = Value.ref l := r1
  obtain ⟨t, rfl⟩ := r2
  obtain ⟨z, its, n, rv, hl, e⟩ := I.lstM hH
  refine call_function_meets kind_push plain_push entry_push (args_push _ _) (push_meets l xs its n x t) ⟨txt_of rv, lx, hh, e, fun ys s' ht pm hy => ?_⟩
  exact ⟨.non, _, hp_inv I hH ht (by rw [pm.length_eq]; exact lx), rfl, q ys pm hy⟩
theorem cr_pop : CallR X (.builtin "_heapq.heappop") rPop := by
  intro pins s σ H vs us Q I r h
  obtain ⟨l, y, xs, rfl, hH, lx, hh, q⟩ := h
  cases r with
  | cons r1 rr =>
  cases rr
  rename_i u1
  obtain rfl : u1 = Value.ref l := r1
  obtain ⟨z, its, n, rv, hl, e⟩ := I.lstM hH
  refine call_function_meets kind_pop plain_popq entry_popq (args_pop _) (pop_meets l y xs its n) ⟨txt_of rv, lx, hh, e, fun ys s' t ht pm hy => ?_⟩
  exact ⟨.str y, _, hp_inv I hH ht (by rw [pm.length_eq]; omega), ⟨t, rfl⟩, q ys pm hy⟩
end
/-! ### errors with the field name -/
structure BaseC (K : PySem.W.Frag) (mg : Str → Option Value) (F : Addr) : Prop where
  g : mg "FoldError" = some (.ref F)
  rd : PySem.W.readsIn K F (.type "type") = true
  ga : PySem.W.specialIn K (.ref F) "__getattribute__" = some (some (.builtin "type.__getattribute__"))
  ini : PySem.W.findCls K (.ref F) (.type "type") "__init__" = some (.val (.builtin "ValueError.__init__"))
theorem pe_baseInit {X : Cx} {e : Expr} {es : List Expr} {ta : TA} {p1 p2 pos : Pos} {F : Addr} {pl : Sem Bool} (B : BaseC X.K X.mg F) (hg : Gl X "FoldError") (ha : PA X (e :: es) ta)
    (hc : eval (.Call (.Attribute (.Name "FoldError" p1) "__init__" p2) (e :: es) [] pos) X.env = (do
      let ov ← eval (.Name "FoldError" p1) X.env
      standAt p2.atName
      let (f, first) ← holding [ov] (getMethod ov "__init__" pl)
      callWith pos f first (backTo pos (starEach (e :: es) X.env)) (backToKw pos (keywordEach [] X.env))) := by rfl)
    (he : starEach (e :: es) X.env = (false, eval e X.env) :: starEach es X.env := by rfl) (hpl : (backTo pos (starEach es X.env)).any (·.1) = false := by rfl) :
    PE X (.Call (.Attribute (.Name "FoldError" p1) "__init__" p2) (e :: es) [] pos) (tVeI X.K ta) := by
  refine ⟨fun pins s σ H Q I h => PySem.W.methodCall_KW (ld_glob I hg B.g ?_) hc⟩
  refine PySem.W.method_cls I.kIn B.ga (PySem.W.cls_value I.kIn B.rd B.ini rfl ?_)
  show wpAny _ _ (callWith pos (Value.builtin "ValueError.__init__") [] (backTo pos (starEach (e :: es) X.env)) []) _ _ _
  refine PyProof.Rows.callWith_method1 (thn (ha.run pos pins _ σ H _ (I.tok _) h) fun us s1 hh => ?_) he hpl
  obtain ⟨vs, H1, J, rv, a, C, ws, ev, hl, T, ea, q⟩ := hh
  subst ev
  cases rv with
  | @cons _ u0 _ ur r0 rr =>
    have eu : u0 = Value.ref a := r0
    subst eu
    refine oinit_ok T J ea ?_ fun s' J' => ⟨.non, H1, J', rfl, q⟩
    rw [← Paired.length rr]
    exact Nat.le_of_lt (small1000 hl)
/-- __init__(self, name) of an error with the field name -/
def spIniN (K : PySem.W.Frag) (C : Addr) : Sp := fun vs H Q _ => ∃ (a : Addr) (z : Str), vs = [.ref a, .str z] ∧ H a = some (exo a C none) ∧ z.length ≤ 1000 ∧
  ∀ d, H d = none → d ≠ a → Q .non (upd (upd H d (exd d [("name", .str z)])) a (exo a C (some d)))
section
variable {P : Program} {w : World} {K : PySem.W.Frag} {mg : Str → Option Value} {base : Heap}
abbrev sIniD : Stmt := inClass (top 4) 0
abbrev sIniU : Stmt := inClass (top 5) 0
theorem scIniD : FnScope ["self", "name"] ["self", "name"] (defScope sIniD) := ⟨rfl, rfl, rfl, by decide +kernel, rfl, by decide +kernel, by decide +kernel⟩
theorem scIniU : FnScope ["self", "name"] ["self", "name"] (defScope sIniU) := ⟨rfl, rfl, rfl, by decide +kernel, rfl, by decide +kernel, by decide +kernel⟩
theorem ok_iniD {f F C : Addr} {fd : FuncData} (Fn : Fun K "__init__" "DuplicateName.__init__" sIniD f fd) (B : BaseC K mg F) (T : OexC K C) (hno : PySem.W.findIn K (.ref C) "name" = some none) :
    FnOk P w K mg base CX0 1 f fd ["self", "name"] (spIniN K C) := by
  refine Fn.ok scIniD (fun vs H Q E h => ?_) (fun cdv A outer s H vs Q E hr h => ?_)
  · obtain ⟨a, i, rfl, _⟩ := h
    rfl
  obtain ⟨a, z, rfl, ea, hz, q⟩ := h
  refine ⟨_, pss_cons (ps_expr (pe_baseInit B rfl (pa_cons (pv 0) (pa_cons (pe_joined (PJ.cons (pe_fmt (pv 1)) (PJ.cons pe_str PJ.nil))) pa_nil))))
    (pss_one (ps_ost (pv 0) (pv 1))), ?_⟩
  have l1 : (" is given twice" : Str).length = 15 := by decide +kernel
  have l0 : (Str.empty ++ z).length ≤ 1000 := by
    rw [app_len]
    exact Nat.le_trans (Nat.le_of_eq (show (Str.empty : Str).length + z.length = z.length by rw [show (Str.empty : Str).length = 0 from rfl]; omega)) hz
  refine ⟨_, rfl, _, rfl, .inl ⟨z, rfl, Nat.le_of_lt (line_of hz), _, rfl, Nat.le_of_lt (line_of l0), _, rfl, ?_, ?_⟩⟩
  · rw [app_len, l1]
    exact Nat.le_trans (Nat.add_le_add_right l0 15) (by decide)
  refine ⟨a, C, _, rfl, by show 1 ≤ 1000; decide, T, ea, ?_⟩
  refine ⟨_, rfl, _, rfl, a, C, rfl, T, hno, .inl ⟨ea, fun d hd hda => q d hd hda⟩⟩
theorem ok_iniU {f F C : Addr} {fd : FuncData} (Fn : Fun K "__init__" "UnknownModule.__init__" sIniU f fd) (B : BaseC K mg F) (T : OexC K C) (hno : PySem.W.findIn K (.ref C) "name" = some none) :
    FnOk P w K mg base CX0 1 f fd ["self", "name"] (spIniN K C) := by
  refine Fn.ok scIniU (fun vs H Q E h => ?_) (fun cdv A outer s H vs Q E hr h => ?_)
  · obtain ⟨a, i, rfl, _⟩ := h
    rfl
  obtain ⟨a, z, rfl, ea, hz, q⟩ := h
  refine ⟨_, pss_cons (ps_expr (pe_baseInit B rfl (pa_cons (pv 0) (pa_cons (pe_joined (PJ.cons pe_str (PJ.cons (pe_fmt (pv 1)) PJ.nil))) pa_nil))))
    (pss_one (ps_ost (pv 0) (pv 1))), ?_⟩
  have l0 : (Str.empty ++ ("there is no module " : Str)).length = 19 := by decide +kernel
  refine ⟨_, rfl, _, rfl, by decide +kernel, _, rfl, .inl ⟨z, rfl, Nat.le_of_lt (line_of hz), _, rfl, ?_, ?_⟩⟩
  · rw [app_len, l0]
    exact Nat.le_trans (Nat.add_le_add_left hz 19) (by decide)
  refine ⟨a, C, _, rfl, by show 1 ≤ 1000; decide, T, ea, ?_⟩
  refine ⟨_, rfl, _, rfl, a, C, rfl, T, hno, .inl ⟨ea, fun d hd hda => q d hd hda⟩⟩
/-- what a class of errors with the field name must show where one is made -/
structure ErrN (P : Program) (w : World) (K : PySem.W.Frag) (mg : Str → Option Value) (base : Heap) (x : Str) (C fI : Addr) (fdI : FuncData) : Prop where
  o : OexC K C
  g : mg x = some (.ref C)
  iC : PySem.W.findIn K (.ref C) "__init__" = some (some (.ref fI))
  tI : PySem.W.typeIn K (.ref fI) = some (.type "function")
  f : FnOk P w K mg base CX0 1 fI fdI ["self", "name"] (spIniN K C)
  b : Binds K fdI ["self", "name"] []
theorem mkO_nm {C : Addr} {H H0 : Hp} {z : Str} {Q : XK} {ta : TA} {σ : L2.St} (hz : z.length ≤ 1000) (h : ∀ Q' : List V → Hp → Prop, Q' [.str z] H → ta σ H Q')
    (sm : Sm No H0 H) (q : ∀ H' d, Sm No H0 H' → H0 d = none → H' d = some (.xd [("name", .str z)]) → Q (.ref C) (some d) H') : tMkO C (spIniN K C) [] ta σ H Q := by
  refine h _ ⟨by show 1 ≤ 1000; decide, fun a ha => ?_⟩
  refine ⟨a, z, rfl, upd_same, hz, fun d hd hda => ⟨rfl, d, [("name", .str z)], upd_same, ?_, ?_, ?_⟩⟩
  · rw [upd_ne hda, upd_same]
  · rw [upd_ne hda] at hd; exact hd
  have hd0 : H d = none := by rw [upd_ne hda] at hd; exact hd
  refine q _ d ?_ (sm.dom d hd0) upd_same
  have ne_a : ∀ {b : Addr} {o : HO}, H b = some o → b ≠ a := fun {b o} e z => by rw [z, ha] at e; cases e
  have ne_d : ∀ {b : Addr} {o : HO}, H b = some o → b ≠ d := fun {b o} e z => by rw [z, hd0] at e; cases e
  have val : ∀ {b : Addr} {o : HO}, H b = some o → (upd (L2.del (upd (upd (upd H a (exo a C none)) d (exd d [("name", V.str z)])) a (exo a C (some d))) a) d (.xd [("name", .str z)])) b = some o := fun {b o} e => by
    rw [upd_ne (ne_d e), del_ne (ne_a e), upd_ne (ne_a e), upd_ne (ne_d e), upd_ne (ne_a e)]
    exact e
  refine sm.trans ⟨fun b o _ _ e => val e, fun Z ⟨ps, z1, z2⟩ => ⟨ps, val z1, z2⟩, fun b e => ?_⟩
  cases q : H b with
  | none => rfl
  | some o => rw [val q] at e; cases e
end
/-- an error of the class at C with this name -/
def nmX (C : Addr) (z : Str) (H : Hp) (E : XK) : Prop := ∀ H' d, Sm No H H' → H d = none → H' d = some (.xd [("name", .str z)]) → E (.ref C) (some d) H'
/-- a class of errors without an __init__ -/
structure PlainC (K : PySem.W.Frag) (mg : Str → Option Value) (x : Str) (C : Addr) : Prop where
  q : PySem.W.excIn K C [.type "ValueError", .type "Exception", .type "BaseException", .type "object"] "ValueError.__new__" = true
  g : mg x = some (.ref C)
  k : PySem.W.keepIn K (.ref C) = true
  s : PySem.W.subIn K (.ref C) (.type "BaseException") = some true
  t : PySem.W.typeIn K (.ref C) = some (.type "type")
end My
namespace My
open PySem PySem.Spec PyProof.Rows L2 TL
/-! list(reversed(a list)) -/
section
variable {prog : Program} {w : World} {A : Around} {E : Value → Shared → Prop} {s : Shared}
theorem ext_rev {R : Result → Shared → Prop} {it l : Addr} {items : Array Value} (hh : A.handled = none) (hit : s.heap.IsRevIter it l ((items.size : Int) - 1)) (hl : s.heap.IsList l items) (hne : l ≠ it) (hn : items.size ≤ sizeLine)
    (S : Addr) (hSi : S ≠ it) (hSl : S ≠ l) (res : Value) (c₀ : Nat) (hS : s.heap.get? S = some { cls := .type "list", data := .seq #[] c₀ })
    (hR : ∀ h' tk acc' c', (∀ b o, b ≠ S → b ≠ it → s.heap.get? b = some o → h'.get? b = some o) → h'.get? S = some { cls := .type "list", dict := none, data := .seq acc' c', slots := #[] } → ItemsOf (fun i v => items[items.size - 1 - i]? = some v) acc' items.size → R (.ok (.ret res)) { s with heap := h', toks := tk }) :
    wpAny (model prog w) A.in1 (Builtin.List.listExtendWith (.ref S) (.ref it) res)
      (fun fin s' => match fin with | .done f => R (.ok f) s' | .again c' => c'.quiet = true ∧ codeAny (model prog w) A c' R s') (fun e s' => R (.error e) s') s := by
  have W := (Walks.listRev (prog := prog) (w := w) (A := A.in1) hh it l hne items).toS
  have hSf : S ∉ [it, l] := by simp only [List.mem_cons, List.not_mem_nil, or_false, not_or]; exact ⟨hSi, hSl⟩
  have hT : s.TypeIs (.ref it) "list_reverseiterator" := hit.typeIs
  have h1 : Builtin.List.listSameRef (.ref S) (.ref it) = false := by simp [Builtin.List.listSameRef, hSi]
  unfold Builtin.List.listExtendWith
  refine wpAny_bind (wpAny_typeOf hT ?_)
  rw [if_neg (by rw [h1]; decide)]
  refine wpAny_bind (wpAny_pyIter_revIter hit ?_)
  refine wpAny_bind (wpAny_holding ?_)
  unfold Builtin.List.listLengthHint
  refine wpAny_bind (wpAny_specialOf hT RT.nolen_lri ?_)
  show wpAny _ A.in1 (specialOf (Value.ref it) (Str.ofString "__length_hint__") >>= _) _ _ _
  refine wpAny_bind (wpAny_specialOf hT RT.hint_lri ?_)
  generalize hid : ("list_reverseiterator.__length_hint__" : String) = id0
  wp_delta
  rw [show splitId id0 = some ("list_reverseiterator", "__length_hint__") from by subst hid; decide +kernel]
  subst hid
  refine wpAny_bind (wpAny_isInstance (b := true) hT (by rw [isSubtype_type]; kernel_rfl) ?_)
  refine wpAny_pure ?_
  rw [if_neg (by decide)]
  have e0 : ((items.size : Nat) : Int) - 1 - ((0 : Nat) : Int) = (items.size : Int) - 1 := by omega
  refine wpAny_pure ⟨plainId_quiet F.plain_extend_loop _, codeAny_extend_loopS W hn _ hSf _ items.size 0 _ _ _ rfl (Nat.zero_le _) ⟨Nat.zero_le _, by rw [e0]; exact hit, hl⟩ hS (ItemsOf.nil _) fun s' acc' c' hm hS' hacc => ?_⟩
  rw [Moved.eq_with hm]
  refine hR s'.heap s'.toks acc' c' (fun b o hb hi e => hm.heap b o (fun hmem => ?_) e) hS' hacc
  rcases List.mem_cons.mp hmem with e' | hmem
  · exact hb e'
  · exact hi (List.mem_singleton.mp hmem)
theorem call_list_revI {Q : Value → Shared → Prop} {it l : Addr} {items : Array Value} (hh : A.handled = none) (hit : s.heap.IsRevIter it l ((items.size : Int) - 1)) (hl : s.heap.IsList l items) (hne : l ≠ it) (hn : items.size ≤ sizeLine)
    (hQ : ∀ h' tk acc' c', (∀ b o, b ≠ it → s.heap.get? b = some o → h'.get? b = some o) → h'.get? s.heap.objs.size = some { cls := .type "list", dict := none, data := .seq acc' c', slots := #[] } → ItemsOf (fun i v => items[items.size - 1 - i]? = some v) acc' items.size → Q (.ref s.heap.objs.size) { s with heap := h', toks := tk }) :
    wpAny (model prog w) A (call (.type "list") [.ref it]) Q E s := by
  refine callType_codes (Q₁ := fun obj s₁ => obj = .ref s.heap.objs.size ∧ s₁ = { s with heap := s.heap.push { cls := .type "list", data := .seq #[] } }) PySem.F.called_list (PySem.F.typeCall_list_1 _) PySem.F.entry_list_init
    (code_list_new _ ⟨rfl, rfl⟩) fun obj s₁ h₁ => ?_
  obtain ⟨rfl, rfl⟩ := h₁
  have hS : (s.heap.push { cls := .type "list", data := .seq #[] }).get? s.heap.objs.size = some { cls := .type "list", data := .seq #[] } := Heap.get?_push_size _ rfl
  obtain ⟨oi, hoi, _⟩ := id hit
  obtain ⟨ol, hol, _⟩ := id hl
  have hSi : s.heap.objs.size ≠ it := Nat.ne_of_gt (Heap.lt_size hoi)
  have hSl : s.heap.objs.size ≠ l := Nat.ne_of_gt (Heap.lt_size hol)
  refine ⟨⟨_, hS, rfl⟩, PySem.F.args_list_init_2 _ _, ?_⟩
  show wpAny _ _ (do let old ← Builtin.List.listItems (.ref s.heap.objs.size); Builtin.List.listUpdate (.ref s.heap.objs.size) (fun _ => #[]); letGo old.toList.reverse; Builtin.List.listExtendWith (.ref s.heap.objs.size) (.ref it) .none) _ _ _
  refine wpAny_bind ?_
  unfold Builtin.List.listItems
  refine wpAny_bind (wpAny_seqItems hS rfl (wpAny_pure ?_))
  show wpAny _ _ (updateSeq s.heap.objs.size (fun _ => #[]) >>= fun _ => letGo (#[] : Array Value).toList.reverse >>= fun _ => Builtin.List.listExtendWith (.ref s.heap.objs.size) (.ref it) .none) _ _ _
  refine wpAny_bind (wpAny_updateSeq hS rfl ?_)
  have hS₂ := Heap.get?_update_self (Obj.mapSeq (fun _ => (#[] : Array Value))) hS rfl
  have oth : ∀ b o, b ≠ s.heap.objs.size → s.heap.get? b = some o → ((s.heap.push { cls := .type "list", data := .seq #[] }).update s.heap.objs.size (Obj.mapSeq (fun _ => (#[] : Array Value)))).get? b = some o :=
    fun b o hb e => (Heap.get?_update_other _ _ (Ne.symm hb)).trans (Heap.get?_push_of_some _ e)
  refine wpAny_bind (wpAny_letGo ?_)
  refine ext_rev (A := A.in1) (it := it) (l := l) (items := items) hh (hit.at fun o e => oth _ _ hSi.symm e) ?_ hne hn _ hSi hSl .none _ hS₂ fun h' tk acc' c' hk hS' hacc => ?_
  · obtain ⟨ol, hol, c, n, d⟩ := id hl
    exact ⟨ol, oth _ _ hSl.symm hol, c, n, d⟩
  exact ⟨rfl, hQ h' tk acc' c' (fun b o hb e => hk b o (Nat.ne_of_lt (Heap.lt_size e)) hb (oth b o (Nat.ne_of_lt (Heap.lt_size e)) e)) hS' hacc⟩
end
/-- list(reversed(x)), x a list: a new list -/
def tListRev (K : PySem.W.Frag) (te : TE) : TE := fun σ H Q => te σ H fun v H1 => ∃ (a : Addr) (xs : List V), v = .ref a ∧ SqL K H1 a xs ∧ ∀ q, H1 q = none → Q (.ref q) (upd H1 q (.lst xs.reverse))
section
variable {X : Cx}
theorem pe_listRev {e : Expr} {te : TE} {p p2 pos pos2 : Pos} (hc : X.calm = true) (hg : Gl X "list") (hm : X.mg "list" = none) (hg2 : Gl X "reversed") (hm2 : X.mg "reversed" = none) (he : PE X e te)
    (hs : starEach [e] X.env = (false, eval e X.env) :: starEach [] X.env := by rfl)
    (hs2 : starEach [.Call (.Name "reversed" p2) [e] [] pos2] X.env = (false, eval (.Call (.Name "reversed" p2) [e] [] pos2) X.env) :: starEach [] X.env := by rfl) :
    PE X (.Call (.Name "list" p) [.Call (.Name "reversed" p2) [e] [] pos2] [] pos) (tListRev X.K te) := by
  refine ⟨fun pins s σ H Q I h => ?_⟩
  refine Call_ (ld_blt I hg hm boot_list (PyProof.Rows.callWith_type1 (args_cons (Call_ (ld_blt I hg2 hm2 PyProof.Rows.boot_reversed (PyProof.Rows.callWith_type1 (args_cons (thn (he.run pins s σ H _ I h) fun u s1 ⟨v, H1, I1, r1, q1⟩ => args_nil ?_) hs) hs rfl))) hs2) hs2 rfl))
  obtain ⟨a, xs, ev, hq, q⟩ := q1
  subst ev
  obtain rfl : u = Value.ref a := r1
  obtain ⟨its, rv, p', hz⟩ := I1.list hq
  refine call_reversed_list p'.isList (args_nil ?_)
  have k0 : ∀ b o, s1.heap.get? b = some o → (s1.heap.push (revObj a ((its.toArray.size : Int) - 1))).get? b = some o := fun b o e => Heap.get?_push_of_some _ e
  have I2 : Inv X pins σ H1 { s1 with heap := s1.heap.push (revObj a ((its.toArray.size : Int) - 1)) } := I1.kept (t' := s1.toks) k0
  obtain ⟨f0, f1, f2, f3, f4, f5⟩ := I1.fpOk (H' := H1) (b := s1.heap.objs.size) (Nat.le_refl _) (I1.hok.fresh (Nat.le_refl _))
  have hl := p'.isList
  obtain ⟨ol, hol, _⟩ := id hl
  have hne : a ≠ s1.heap.objs.size := Nat.ne_of_lt (Heap.lt_size hol)
  have hn : its.toArray.size ≤ sizeLine := by rw [List.size_toArray, ← rv.length]; exact hz
  have hsz : (s1.heap.push (revObj a ((its.toArray.size : Int) - 1))).objs.size = s1.heap.objs.size + 1 := Heap.size_push _ _
  refine call_list_revI (s := { s1 with heap := s1.heap.push (revObj a ((its.toArray.size : Int) - 1)) }) (I1.ok.hd hc) ⟨_, Heap.get?_push_size _ rfl, rfl, rfl⟩ (hl.push _) hne hn fun h' tk acc c' hk e hi => ?_
  have new : ObjOk X.prog X.w (upd H1 (s1.heap.objs.size + 1) (.lst xs.reverse)) h' (s1.heap.objs.size + 1) (.lst xs.reverse) :=
    ⟨by rw [List.length_reverse]; exact hz, acc.toList, c', RT.vals_rev rv hi, by rw [Array.toArray_toList, ← hsz]; exact e⟩
  have I3 : Inv X pins σ (upd H1 (s1.heap.objs.size + 1) (.lst xs.reverse)) { s1 with heap := h', toks := tk } :=
    I2.turnedNew (t' := tk) (ch := [s1.heap.objs.size]) (fun b o hb e => hk b o (by simpa using hb) e) (fun b hb => by
      have e : b = s1.heap.objs.size := by simpa using hb
      rw [e]; exact ⟨f0, f1, f2, f3, f4, f5⟩) (by show (s1.heap.push _).objs.size ≤ _; rw [hsz]; exact Nat.le_refl _) new
  refine ⟨.ref (s1.heap.objs.size + 1), _, I3, by rw [hsz]; rfl, q _ (I1.hok.fresh (Nat.le_succ _))⟩
end
end My
namespace My
open PySem PySem.Spec PyProof.Rows L2
/-! texts in order -/
abbrev Le (a b : Str) : Prop := ltS b a = false
theorem Le.anti {a b : Str} (h : Le a b) (g : Le b a) : a = b := by
  have h' : a.cps.toList ≤ b.cps.toList := of_decide_eq_false h
  have g' : b.cps.toList ≤ a.cps.toList := of_decide_eq_false g
  have e : a.cps.toList = b.cps.toList := List.le_antisymm h' g'
  cases a; cases b
  simp only at e
  rw [Array.toList_inj] at e
  rw [e]
theorem Le.trans {a b c : Str} (h : Le a b) (g : Le b c) : Le a c := ltS_ord.ntr g h
theorem Le.total {a b : Str} (h : ¬ Le a b) : Le b a := by
  cases e : ltS b a with
  | false => exact absurd e h
  | true => exact ltS_ord.asym e
theorem rising_pw : ∀ (ys : List Str) (p : Str), risingS p ys = true → (p :: ys).Pairwise Le
  | [], p, _ => List.pairwise_singleton _ _
  | y :: r, p, h => by
    unfold risingS at h
    rw [Bool.and_eq_true] at h
    have ih := rising_pw r y h.2
    have py : Le p y := by
      have z := h.1
      rw [ltCps_eq] at z
      unfold Le ltS
      cases q : decide (y.cps.toList < p.cps.toList) with
      | false => rfl
      | true => rw [q] at z; cases z
    refine List.pairwise_cons.mpr ⟨fun z hz => ?_, ih⟩
    rcases List.mem_cons.mp hz with rfl | hz
    · exact py
    · exact py.trans ((List.pairwise_cons.mp ih).1 z hz)
theorem sorted_pw {ys : List Str} (h : sortedS ys = true) : ys.Pairwise Le := by
  cases ys with
  | nil => exact List.Pairwise.nil
  | cons y r => exact rising_pw r y h
theorem pw_same : ∀ {xs ys : List Str}, xs.Perm ys → xs.Pairwise Le → ys.Pairwise Le → xs = ys
  | [], ys, p, _, _ => (List.nil_perm.mp p).symm
  | x :: xs, [], p, _, _ => absurd p.length_eq (by simp)
  | x :: xs, y :: ys, p, hx, hy => by
    have e : x = y := by
      have mx : x ∈ y :: ys := p.subset List.mem_cons_self
      have my : y ∈ x :: xs := p.symm.subset List.mem_cons_self
      rcases List.mem_cons.mp mx with e | mx
      · exact e
      rcases List.mem_cons.mp my with e | my
      · exact e.symm
      exact Le.anti ((List.pairwise_cons.mp hx).1 y my) ((List.pairwise_cons.mp hy).1 x mx)
    subst e
    rw [pw_same (List.Perm.cons_inv p) (List.pairwise_cons.mp hx).2 (List.pairwise_cons.mp hy).2]
def insS (x : Str) : List Str → List Str
  | [] => [x]
  | y :: r => if ltS y x = true then y :: insS x r else x :: y :: r
def srt (xs : List Str) : List Str := xs.foldr insS []
theorem insS_perm (x : Str) : ∀ l, (insS x l).Perm (x :: l)
  | [] => List.Perm.refl _
  | y :: r => by
    unfold insS
    by_cases h : ltS y x = true
    · rw [if_pos h]; exact ((insS_perm x r).cons y).trans (List.Perm.swap x y r)
    · rw [if_neg h]
theorem insS_pw (x : Str) : ∀ l : List Str, l.Pairwise Le → (insS x l).Pairwise Le
  | [], _ => List.pairwise_singleton _ _
  | y :: r, h => by
    unfold insS
    by_cases q : ltS y x = true
    · rw [if_pos q]
      refine List.pairwise_cons.mpr ⟨fun z hz => ?_, insS_pw x r (List.pairwise_cons.mp h).2⟩
      rcases List.mem_cons.mp ((insS_perm x r).subset hz) with rfl | hz
      · exact ltS_ord.asym q
      · exact (List.pairwise_cons.mp h).1 z hz
    · rw [if_neg q]
      have xy : Le x y := by
        cases e : ltS y x with
        | false => exact e
        | true => exact absurd e q
      refine List.pairwise_cons.mpr ⟨fun z hz => ?_, h⟩
      rcases List.mem_cons.mp hz with rfl | hz
      · exact xy
      · exact xy.trans ((List.pairwise_cons.mp h).1 z hz)
theorem srt_perm : ∀ xs, (srt xs).Perm xs
  | [] => List.Perm.refl _
  | x :: r => (insS_perm x (srt r)).trans ((srt_perm r).cons x)
theorem srt_pw : ∀ xs, (srt xs).Pairwise Le
  | [] => List.Pairwise.nil
  | x :: r => insS_pw x (srt r) (srt_pw r)
theorem srt_of {xs ys : List Str} (p : ys.Perm xs) (h : sortedS ys = true) : ys = srt xs := pw_same (p.trans (srt_perm xs).symm) (sorted_pw h) (srt_pw xs)
theorem srt_congr {xs ys : List Str} (p : xs.Perm ys) : srt xs = srt ys := pw_same ((srt_perm xs).trans (p.trans (srt_perm ys).symm)) (srt_pw xs) (srt_pw ys)
theorem srt_mem {xs : List Str} {x : Str} : x ∈ srt xs ↔ x ∈ xs := ⟨fun h => (srt_perm xs).subset h, fun h => (srt_perm xs).symm.subset h⟩
theorem srt_len {xs : List Str} : (srt xs).length = xs.length := (srt_perm xs).length_eq
theorem find_pw {p : Str → Bool} {y : Str} : ∀ {l : List Str}, l.Pairwise Le → y ∈ l → p y = true → (∀ z ∈ l, p z = true → Le y z) → l.find? p = some y
  | [], _, h, _, _ => by cases h
  | x :: r, hp, h, py, hz => by
    by_cases q : p x = true
    · rw [List.find?_cons_of_pos q]
      have yx := hz x List.mem_cons_self q
      rcases List.mem_cons.mp h with rfl | h
      · rfl
      · rw [Le.anti ((List.pairwise_cons.mp hp).1 y h) yx]
    · rw [List.find?_cons_of_neg q]
      rcases List.mem_cons.mp h with rfl | h
      · exact absurd py q
      · exact find_pw (List.pairwise_cons.mp hp).2 h py fun z m => hz z (List.mem_cons_of_mem _ m)
theorem IsHp.head_le {y : Str} {l : List Str} (h : IsHp ltS (y :: l)) {z : Str} (m : z ∈ y :: l) : Le y z := by
  obtain ⟨i, hi⟩ := List.mem_iff_getElem?.mp m
  exact h.least ltS_ord (ltS_irr y) i i z (Nat.le_refl _) hi
theorem IsHp.of_pw {l : List Str} (h : l.Pairwise Le) : IsHp ltS l := fun i x p i0 hx hp => by
  have li := (List.getElem?_eq_some_iff.mp hx).1
  have lp := (List.getElem?_eq_some_iff.mp hp).1
  have e1 := (List.getElem?_eq_some_iff.mp hx).2
  have e2 := (List.getElem?_eq_some_iff.mp hp).2
  rw [← e1, ← e2]
  exact List.pairwise_iff_getElem.mp h _ _ lp li (by omega)
/-! the law of linking, as a function -/
structure Rw where
  n : Str
  im : List Str
  df : List (Str × Int)
def rdyB (im : Str → List Str) (done : List Str) (n : Str) : Bool := !(done.contains n) && (im n).all fun i => done.contains i
def nxt (nm : List Str) (im : Str → List Str) (done : List Str) : Option Str := (srt nm).find? (rdyB im done)
def ordF (nm : List Str) (im : Str → List Str) : Nat → List Str → Option (List Str)
  | 0, done => some done
  | k + 1, done => match nxt nm im done with
    | none => none
    | some n => ordF nm im k (done ++ [n])
def unkF (nm : List Str) (im : Str → List Str) : Option Str := ((srt nm).flatMap im).find? fun m => !(nm.contains m)
def dupF : List Str → List Rw → Option Str
  | _, [] => none
  | seen, r :: rs => if seen.contains r.n = true then some r.n else dupF (seen ++ [r.n]) rs
def rowF (rows : List Rw) (n : Str) : Option Rw := rows.find? fun r => r.n == n
def imF (rows : List Rw) (n : Str) : List Str := match rowF rows n with | some r => r.im | none => []
def dfF (rows : List Rw) (n : Str) : List (Str × Int) := match rowF rows n with | some r => r.df | none => []
inductive Rs where
  | dup (n : Str) | unk (n : Str) | ring | linked (l : List (Str × Str × Int))
def outF (df : Str → List (Str × Int)) (o : List Str) : List (Str × Str × Int) := o.flatMap fun n => (df n).map fun d => (n, d.1, d.2)
def linkF (rows : List Rw) : Rs := match dupF [] rows with
  | some n => .dup n
  | none => match unkF (rows.map (·.n)) (imF rows) with
    | some m => .unk m
    | none => match ordF (rows.map (·.n)) (imF rows) rows.length [] with
      | none => .ring
      | some o => .linked (outF (dfF rows) o)
theorem dup_none : ∀ (rows : List Rw) (seen : List Str), dupF seen rows = none ↔ ((rows.map (·.n)).Nodup ∧ ∀ r ∈ rows, r.n ∉ seen)
  | [], seen => by simp [dupF]
  | r :: rs, seen => by
    unfold dupF
    by_cases h : seen.contains r.n = true
    · rw [if_pos h]
      refine ⟨fun z => (nomatch z), fun z => absurd (List.contains_iff_mem.mp h) (z.2 r List.mem_cons_self)⟩
    · rw [if_neg h, dup_none rs]
      have hn : r.n ∉ seen := fun z => h (List.contains_iff_mem.mpr z)
      rw [List.map_cons, List.nodup_cons]
      constructor
      · rintro ⟨a, b⟩
        refine ⟨⟨fun m => ?_, a⟩, fun q hq => ?_⟩
        · obtain ⟨q, hq, e⟩ := List.mem_map.mp m
          exact b q hq (by rw [e]; simp)
        · rcases List.mem_cons.mp hq with rfl | hq
          · exact hn
          · exact fun z => b q hq (List.mem_append_left _ z)
      · rintro ⟨⟨a, b⟩, c⟩
        refine ⟨b, fun q hq z => ?_⟩
        rcases List.mem_append.mp z with z | z
        · exact c q (List.mem_cons_of_mem _ hq) z
        · exact a (List.mem_map.mpr ⟨q, hq, by simpa using z⟩)
theorem rowF_of {rows : List Rw} (h : (rows.map (·.n)).Nodup) {r : Rw} (m : r ∈ rows) : rowF rows r.n = some r := by
  unfold rowF
  induction rows with
  | nil => cases m
  | cons q rs ih =>
    rw [List.map_cons, List.nodup_cons] at h
    rcases List.mem_cons.mp m with rfl | m
    · rw [List.find?_cons_of_pos (by simp)]
    · rw [List.find?_cons_of_neg (by simp; intro e; exact h.1 (by rw [e]; exact List.mem_map.mpr ⟨r, m, rfl⟩))]
      exact ih h.2 m
theorem rowF_none {rows : List Rw} {n : Str} (h : n ∉ rows.map (·.n)) : rowF rows n = none := by
  unfold rowF
  refine List.find?_eq_none.mpr fun r m e => h (List.mem_map.mpr ⟨r, m, by simpa using e⟩)
theorem rowF_congr {rows rows' : List Rw} (p : rows.Perm rows') (h : (rows.map (·.n)).Nodup) (n : Str) : rowF rows n = rowF rows' n := by
  have h' : (rows'.map (·.n)).Nodup := (p.map _).nodup_iff.mp h
  by_cases m : n ∈ rows.map (·.n)
  · obtain ⟨r, hr, rfl⟩ := List.mem_map.mp m
    rw [rowF_of h hr, rowF_of h' (p.subset hr)]
  · rw [rowF_none m, rowF_none fun z => m ((p.map _).symm.subset z)]
theorem contains_congr {xs ys : List Str} (p : xs.Perm ys) (x : Str) : xs.contains x = ys.contains x := by
  rw [Bool.eq_iff_iff, List.contains_iff_mem, List.contains_iff_mem]
  exact p.mem_iff
theorem ordF_congr {nm nm' : List Str} {im : Str → List Str} (p : nm.Perm nm') : ∀ k done, ordF nm im k done = ordF nm' im k done
  | 0, _ => rfl
  | k + 1, done => by
    unfold ordF
    rw [show nxt nm im done = nxt nm' im done by unfold nxt; rw [srt_congr p]]
    cases nxt nm' im done with
    | none => rfl
    | some n => exact ordF_congr p k _
theorem link_perm {rows rows' : List Rw} (p : rows.Perm rows') {l : List (Str × Str × Int)} (h : linkF rows = .linked l) : linkF rows' = .linked l := by
  have hd : dupF [] rows = none := by
    cases e : dupF [] rows with
    | none => rfl
    | some n => rw [show linkF rows = .dup n by unfold linkF; rw [e]] at h; cases h
  have nd := ((dup_none rows []).mp hd).1
  have nd' : (rows'.map (·.n)).Nodup := (p.map _).nodup_iff.mp nd
  have hd' : dupF [] rows' = none := (dup_none rows' []).mpr ⟨nd', fun _ _ z => by cases z⟩
  have er : rowF rows' = rowF rows := funext fun n => (rowF_congr p nd n).symm
  have ei : imF rows' = imF rows := by unfold imF; rw [er]
  have ed : dfF rows' = dfF rows := by unfold dfF; rw [er]
  have pn : (rows.map (·.n)).Perm (rows'.map (·.n)) := p.map _
  have eu : unkF (rows'.map (·.n)) (imF rows') = unkF (rows.map (·.n)) (imF rows) := by
    unfold unkF
    rw [ei, srt_congr pn]
    congr 1
    funext m
    rw [contains_congr pn]
  have eo : ordF (rows'.map (·.n)) (imF rows') rows'.length [] = ordF (rows.map (·.n)) (imF rows) rows.length [] := by
    rw [ei, ← p.length_eq]
    exact (ordF_congr pn _ _).symm
  rw [← h]
  unfold linkF
  rw [hd, hd', eu, eo, ed]
end My
namespace My
open PySem PySem.Spec PyProof.Rows L2
/-- the names that want y, as often as they name it -/
def oneI (y n : Str) (os : List Str) : List Str := os.flatMap fun o => if o = y then [n] else []
def impF (im : Str → List Str) (y : Str) (nm : List Str) : List Str := nm.flatMap fun n => oneI y n (im n)
theorem oneI_rep (y n : Str) : ∀ os, oneI y n os = List.replicate (os.count y) n
  | [] => rfl
  | o :: r => by
    have ih := oneI_rep y n r
    unfold oneI at ih ⊢
    rw [List.flatMap_cons, ih]
    by_cases h : o = y
    · rw [if_pos h, h, List.count_cons_self]; rfl
    · rw [if_neg h, List.count_cons_of_ne h]; rfl
theorem impF_mem {im : Str → List Str} {y n : Str} {nm : List Str} (h : n ∈ impF im y nm) : n ∈ nm ∧ y ∈ im n := by
  obtain ⟨m, hm, h⟩ := List.mem_flatMap.mp h
  rw [oneI_rep] at h
  obtain ⟨h0, e⟩ := List.mem_replicate.mp h
  subst e
  exact ⟨hm, List.count_pos_iff.mp (Nat.pos_of_ne_zero h0)⟩
theorem impF_count {im : Str → List Str} {y n : Str} : ∀ {nm : List Str}, nm.Nodup → n ∈ nm → (impF im y nm).count n = (im n).count y
  | [], _, h => by cases h
  | m :: r, nd, h => by
    have nd := List.nodup_cons.mp nd
    unfold impF
    rw [List.flatMap_cons, List.count_append, oneI_rep]
    by_cases e : m = n
    · subst e
      rw [List.count_replicate_self]
      have z : (impF im y r).count m = 0 := List.count_eq_zero.mpr fun q => nd.1 (impF_mem q).1
      unfold impF at z
      omega
    · have hn : n ∈ r := (List.mem_cons.mp h).resolve_left (Ne.symm e)
      have ih := impF_count (y := y) (im := im) nd.2 hn
      unfold impF at ih
      rw [List.count_replicate, if_neg (by simpa using e), ih]
      omega
def cnt (im : Str → List Str) (done : List Str) (n : Str) : Nat := (im n).countP fun i => !(done.contains i)
theorem cnt_zero {im : Str → List Str} {done : List Str} {n : Str} : cnt im done n = 0 ↔ ((im n).all fun i => done.contains i) = true := by
  unfold cnt
  rw [List.countP_eq_zero, List.all_eq_true]
  simp
theorem cnt_nil {im : Str → List Str} {n : Str} : cnt im [] n = (im n).length := by
  unfold cnt
  rw [List.countP_eq_length]
  intro a _; rfl
theorem countP_snoc {done : List Str} {y : Str} (hy : y ∉ done) : ∀ l : List Str, (l.countP fun i => !((done ++ [y]).contains i)) + l.count y = l.countP fun i => !(done.contains i)
  | [] => rfl
  | x :: r => by
    have ih := countP_snoc hy r
    rw [List.countP_cons, List.countP_cons, List.count_cons]
    by_cases e : x = y
    · subst e
      have e1 : (!((done ++ [x]).contains x)) = false := by simp
      have e2 : (!(done.contains x)) = true := by simpa using hy
      rw [e1, e2]
      simp only [Bool.false_eq_true, if_false, if_true, beq_self_eq_true]
      omega
    · have e1 : (!((done ++ [y]).contains x)) = (!(done.contains x)) := by
        congr 1
        rw [Bool.eq_iff_iff, List.contains_iff_mem, List.contains_iff_mem]
        simp [e]
      rw [e1]
      have e2 : (x == y) = false := by simpa using e
      rw [e2]
      simp only [Bool.false_eq_true, if_false]
      omega
theorem cnt_snoc {im : Str → List Str} {done : List Str} {y : Str} (hy : y ∉ done) (n : Str) : cnt im (done ++ [y]) n + (im n).count y = cnt im done n := countP_snoc hy (im n)
theorem cnt_ge {im : Str → List Str} {done : List Str} {y : Str} (hy : y ∉ done) (n : Str) : (im n).count y ≤ cnt im done n := by
  have := cnt_snoc (im := im) hy n; omega
theorem nodup_len : ∀ {l1 l2 : List Str}, l1.Nodup → (∀ d ∈ l1, d ∈ l2) → l1.length ≤ l2.length
  | [], _, _, _ => Nat.zero_le _
  | x :: r, l2, nd, h => by
    have nd := List.nodup_cons.mp nd
    have hx := h x List.mem_cons_self
    have ih := nodup_len (l2 := l2.erase x) nd.2 fun d m => (List.mem_erase_of_ne (fun e : d = x => nd.1 (by rw [← e]; exact m))).mpr (h d (List.mem_cons_of_mem _ m))
    rw [List.length_erase_of_mem hx] at ih
    have := List.length_pos_of_mem hx
    rw [List.length_cons]
    omega
/-- what the loop keeps: done, the free ones -/
structure Ow (nm : List Str) (im : Str → List Str) (done fr : List Str) : Prop where
  dn : done.Nodup
  ds : ∀ d ∈ done, d ∈ nm ∧ ∀ i ∈ im d, i ∈ done
  fn : fr.Nodup
  fi : ∀ n, n ∈ fr ↔ (n ∈ nm ∧ n ∉ done ∧ cnt im done n = 0)
  o : ordF nm im (nm.length - done.length) done = ordF nm im nm.length []
theorem rdy_iff {im : Str → List Str} {done : List Str} {n : Str} : rdyB im done n = true ↔ (n ∉ done ∧ cnt im done n = 0) := by
  unfold rdyB
  rw [Bool.and_eq_true, cnt_zero]
  simp
theorem Ow.len {nm : List Str} {im : Str → List Str} {done fr : List Str} (h : Ow nm im done fr) : done.length ≤ nm.length := by
  exact nodup_len h.dn fun d m => (h.ds d m).1
theorem Ow.stop {nm : List Str} {im : Str → List Str} {done : List Str} (h : Ow nm im done []) : (done.length < nm.length ∧ ordF nm im nm.length [] = none) ∨ (¬ done.length < nm.length ∧ ordF nm im nm.length [] = some done) := by
  have l := h.len
  rw [← h.o]
  by_cases q : done.length < nm.length
  · refine .inl ⟨q, ?_⟩
    obtain ⟨k, hk⟩ : ∃ k, nm.length - done.length = k + 1 := ⟨nm.length - done.length - 1, by omega⟩
    rw [hk]
    unfold ordF
    have e : nxt nm im done = none := by
      unfold nxt
      refine List.find?_eq_none.mpr fun x m r => ?_
      have := (h.fi x).mpr ⟨srt_mem.mp m, rdy_iff.mp r⟩
      cases this
    rw [e]
  · refine .inr ⟨q, ?_⟩
    rw [show nm.length - done.length = 0 by omega]
    rfl
theorem Ow.next {nm : List Str} {im : Str → List Str} {done : List Str} {y : Str} {r : List Str} (h : Ow nm im done (y :: r)) (hp : IsHp ltS (y :: r)) : y ∈ nm ∧ y ∉ done ∧ cnt im done y = 0 ∧ done.length < nm.length ∧
    ordF nm im (nm.length - (done ++ [y]).length) (done ++ [y]) = ordF nm im nm.length [] := by
  obtain ⟨a, b, c⟩ := (h.fi y).mp List.mem_cons_self
  have ll : done.length < nm.length := by
    have nd : (y :: done).Nodup := List.nodup_cons.mpr ⟨b, h.dn⟩
    have := nodup_len nd (l2 := nm) fun d m => by
      rcases List.mem_cons.mp m with rfl | m
      · exact a
      · exact (h.ds d m).1
    rw [List.length_cons] at this
    omega
  refine ⟨a, b, c, ll, ?_⟩
  rw [← h.o]
  obtain ⟨k, hk⟩ : ∃ k, nm.length - done.length = k + 1 := ⟨nm.length - done.length - 1, by omega⟩
  rw [hk, List.length_append, show nm.length - (done.length + [y].length) = k by simp; omega]
  have e : nxt nm im done = some y := by
    unfold nxt
    refine find_pw (srt_pw nm) (srt_mem.mpr a) (rdy_iff.mpr ⟨b, c⟩) fun z m q => ?_
    exact hp.head_le ((h.fi z).mpr ⟨srt_mem.mp m, rdy_iff.mp q⟩)
  conv => rhs; unfold ordF
  rw [e]
/-- the inner loop: j of those that want y are told -/
def wtF (im : Str → List Str) (done L : List Str) (j : Nat) (n : Str) : Int := (cnt im done n : Int) - ((L.take j).count n : Nat)
structure Iw (nm : List Str) (im : Str → List Str) (done : List Str) (y : Str) (j : Nat) (fr : List Str) : Prop where
  fn : fr.Nodup
  fi : ∀ n, n ∈ fr ↔ (n ∈ nm ∧ n ∉ done ++ [y] ∧ wtF im done (impF im y nm) j n = 0)
section
variable {nm : List Str} {im : Str → List Str} {done : List Str} {y : Str}
theorem Ow.inner {r : List Str} (h : Ow nm im done (y :: r)) {ys : List Str} (p : ys.Perm r) : Iw nm im done y 0 ys := by
  have nd := List.nodup_cons.mp h.fn
  refine ⟨p.nodup_iff.mpr nd.2, fun n => ?_⟩
  have e : wtF im done (impF im y nm) 0 n = (cnt im done n : Int) := by
    unfold wtF
    rw [List.take_zero]
    simp
  rw [e, p.mem_iff]
  have q := h.fi n
  rw [List.mem_cons] at q
  constructor
  · intro m
    obtain ⟨a, b, c⟩ := q.mp (.inr m)
    refine ⟨a, fun z => ?_, by omega⟩
    rcases List.mem_append.mp z with z | z
    · exact b z
    · have : n = y := by simpa using z
      rw [this] at m
      exact nd.1 m
  · rintro ⟨a, b, c⟩
    refine (q.mpr ⟨a, fun z => b (List.mem_append_left _ z), by omega⟩).resolve_left fun z => b ?_
    rw [z]; simp
theorem wt_step {L : List Str} {j : Nat} {o : Str} (hj : L[j]? = some o) (n : Str) : wtF im done L (j + 1) n = wtF im done L j n - (if o = n then 1 else 0) := by
  unfold wtF
  rw [List.take_add_one, hj]
  rw [List.count_append]
  by_cases e : o = n
  · subst e
    rw [if_pos rfl]
    simp
    omega
  · rw [if_neg e]
    have : ([o] : List Str).count n = 0 := List.count_eq_zero.mpr (by simpa using Ne.symm e)
    simp only [Option.toList]
    rw [this]
    simp
theorem Iw.at (nd : nm.Nodup) (ds : ∀ d ∈ done, ∀ i ∈ im d, i ∈ done) (hy : y ∉ done) (cy : cnt im done y = 0) {j : Nat} {o : Str} (hj : (impF im y nm)[j]? = some o) : o ∈ nm ∧ o ∉ done ++ [y] ∧ 1 ≤ wtF im done (impF im y nm) j o := by
  obtain ⟨a, b⟩ := impF_mem (List.mem_of_getElem? hj)
  refine ⟨a, fun z => ?_, ?_⟩
  · rcases List.mem_append.mp z with z | z
    · exact hy (ds o z y b)
    · have : o = y := by simpa using z
      subst this
      have q := List.all_eq_true.mp (cnt_zero.mp cy) o b
      exact hy (by simpa using q)
  · have e1 : ((impF im y nm).take (j + 1)).count o ≤ (impF im y nm).count o := List.Sublist.count_le o (List.take_sublist _ _)
    rw [List.take_add_one, hj, List.count_append] at e1
    have e2 : (Option.toList (some o)).count o = 1 := by simp
    rw [e2, impF_count nd a] at e1
    have e3 := cnt_ge (im := im) hy o
    unfold wtF
    omega
theorem Iw.skip {j : Nat} {o : Str} {fr : List Str} (h : Iw nm im done y j fr) (hj : (impF im y nm)[j]? = some o) (w : 2 ≤ wtF im done (impF im y nm) j o) : Iw nm im done y (j + 1) fr := by
  refine ⟨h.fn, fun n => ?_⟩
  rw [h.fi n, wt_step hj]
  by_cases e : o = n
  · subst e
    rw [if_pos rfl]
    constructor
    · rintro ⟨a, b, c⟩; omega
    · rintro ⟨a, b, c⟩; omega
  · rw [if_neg e]; simp
theorem Iw.push {j : Nat} {o : Str} {fr fr' : List Str} (h : Iw nm im done y j fr) (hj : (impF im y nm)[j]? = some o) (ho : o ∈ nm ∧ o ∉ done ++ [y]) (w : wtF im done (impF im y nm) j o = 1) (p : fr'.Perm (o :: fr)) : Iw nm im done y (j + 1) fr' := by
  have no : o ∉ fr := fun z => by
    have := ((h.fi o).mp z).2.2
    omega
  refine ⟨p.nodup_iff.mpr (List.nodup_cons.mpr ⟨no, h.fn⟩), fun n => ?_⟩
  rw [p.mem_iff, List.mem_cons, h.fi n, wt_step hj]
  by_cases e : o = n
  · subst e
    rw [if_pos rfl]
    exact ⟨fun _ => ⟨ho.1, ho.2, by omega⟩, fun _ => .inl rfl⟩
  · rw [if_neg e]
    have e' : n ≠ o := fun z => e z.symm
    simp [e']
theorem wt_end (nd : nm.Nodup) (hy : y ∉ done) {n : Str} (hn : n ∈ nm) : wtF im done (impF im y nm) (impF im y nm).length n = (cnt im (done ++ [y]) n : Int) := by
  unfold wtF
  rw [List.take_length, impF_count nd hn]
  have := cnt_snoc (im := im) hy n
  omega
theorem Iw.fin {r fr : List Str} (H : Ow nm im done (y :: r)) (hp : IsHp ltS (y :: r)) (nd : nm.Nodup) (h : Iw nm im done y (impF im y nm).length fr) : Ow nm im (done ++ [y]) fr := by
  obtain ⟨a, b, c, l, e⟩ := H.next hp
  refine ⟨?_, fun d m => ?_, h.fn, fun n => ?_, e⟩
  · rw [List.nodup_append]
    exact ⟨H.dn, by simp, fun x hx z hz => by
      have : z = y := by simpa using hz
      subst this
      exact fun q => b (q ▸ hx)⟩
  · rcases List.mem_append.mp m with m | m
    · exact ⟨(H.ds d m).1, fun i hi => List.mem_append_left _ ((H.ds d m).2 i hi)⟩
    · have : d = y := by simpa using m
      subst this
      refine ⟨a, fun i hi => List.mem_append_left _ ?_⟩
      have q := List.all_eq_true.mp (cnt_zero.mp c) i hi
      simpa using q
  · rw [h.fi n]
    constructor
    · rintro ⟨q1, q2, q3⟩
      rw [wt_end nd b q1] at q3
      exact ⟨q1, q2, by omega⟩
    · rintro ⟨q1, q2, q3⟩
      refine ⟨q1, q2, ?_⟩
      rw [wt_end nd b q1]
      omega
theorem Ow.start (nd : nm.Nodup) {fr : List Str} (p : fr.Perm (nm.filter fun n => decide ((im n).length = 0))) : Ow nm im [] fr := by
  refine ⟨List.nodup_nil, fun d m => (nomatch m), p.nodup_iff.mpr (nd.sublist List.filter_sublist), fun n => ?_, rfl⟩
  rw [p.mem_iff, List.mem_filter, cnt_nil]
  simp
end
end My
namespace My
open PySem PySem.Spec PyProof.Rows L2
theorem units1 {a b : Nat} (h : a + 64 < b) : a + 1 < b := by omega
/-! dicts by name -/
def dkm (nm : List Str) (f : Str → V) : List (Key × V) := nm.map fun n => (Sum.inr n, f n)
theorem dkm_len {nm : List Str} {f : Str → V} : (dkm nm f).length = nm.length := List.length_map _
theorem dkm_keys {nm : List Str} {f : Str → V} : (dkm nm f).map (·.1) = nm.map Sum.inr := by unfold dkm; rw [List.map_map]; rfl
theorem dkm_get {nm : List Str} {f : Str → V} {i : Nat} {k : Key} {v : V} (h : (dkm nm f)[i]? = some (k, v)) : ∃ n, nm[i]? = some n ∧ k = .inr n ∧ v = f n := by
  unfold dkm at h
  rw [List.getElem?_map] at h
  cases e : nm[i]? with
  | none => rw [e] at h; cases h
  | some n => rw [e] at h; cases h; exact ⟨n, rfl, rfl, rfl⟩
theorem valV_dkm {f : Str → V} {m : Str} : ∀ {nm : List Str}, m ∈ nm → valV (dkm nm f) (.inr m) = some (f m)
  | [], h => by cases h
  | n :: r, h => by
    unfold dkm
    rw [List.map_cons]
    by_cases e : n = m
    · subst e; exact valV_pos (p := (Sum.inr n, f n)) rfl
    · rw [valV_neg (p := (Sum.inr n, f n)) fun z => e (Sum.inr.inj z)]
      exact valV_dkm ((List.mem_cons.mp h).resolve_left (Ne.symm e))
theorem valV_dkm0 {f : Str → V} {m : Str} : ∀ {nm : List Str}, m ∉ nm → valV (dkm nm f) (.inr m) = none
  | [], _ => rfl
  | n :: r, h => by
    unfold dkm
    rw [List.map_cons, valV_neg (p := (Sum.inr n, f n)) fun z => h (by rw [Sum.inr.inj z]; exact List.mem_cons_self)]
    exact valV_dkm0 fun z => h (List.mem_cons_of_mem _ z)
theorem valV_some {f : Str → V} {nm : List Str} {m : Str} : (valV (dkm nm f) (.inr m)).isSome = nm.contains m := by
  by_cases h : m ∈ nm
  · rw [valV_dkm h, List.contains_iff_mem.mpr h]; rfl
  · rw [valV_dkm0 h]
    cases e : nm.contains m with
    | false => rfl
    | true => exact absurd (List.contains_iff_mem.mp e) h
theorem put_dkm {f : Str → V} {nm : List Str} {m : Str} {v : V} (h : m ∈ nm) : putK (dkm nm f) (.inr m) v = dkm nm fun n => if n = m then v else f n := by
  unfold putK
  rw [if_pos (by rw [valV_any, valV_dkm h]; rfl)]
  unfold dkm
  rw [List.map_map]
  refine List.map_congr_left fun n _ => ?_
  show (if (Sum.inr n : Key) = .inr m then (Sum.inr n, v) else (Sum.inr n, f n)) = (Sum.inr n, if n = m then v else f n)
  by_cases e : n = m
  · rw [if_pos (by rw [e]), if_pos e]
  · rw [if_neg (fun z => e (Sum.inr.inj z)), if_neg e]
theorem put_new {f : Str → V} {nm : List Str} {m : Str} {v : V} (h : m ∉ nm) : putK (dkm nm f) (.inr m) v = dkm (nm ++ [m]) fun n => if n = m then v else f n := by
  rw [putK_new v (valV_dkm0 h)]
  unfold dkm
  rw [List.map_append]
  congr 1
  · refine List.map_congr_left fun n hn => ?_
    show (Sum.inr n, f n) = (Sum.inr n, if n = m then v else f n)
    rw [if_neg fun z : n = m => h (by rw [← z]; exact hn)]
  · show [(Sum.inr m, v)] = [(Sum.inr m, if m = m then v else f m)]
    rw [if_pos rfl]
theorem dget {H : Hp} {d : Addr} {nm : List Str} {f : Str → V} {n : Str} (h : Rd H d (.dK (dkm nm f))) (m : n ∈ nm) : DGet H d (.str n) (some (f n)) :=
  .inl ⟨_, .inr n, h, rfl, (valV_dkm m).symm⟩
theorem dget0 {H : Hp} {d : Addr} {nm : List Str} {f : Str → V} {n : Str} (h : Rd H d (.dK (dkm nm f))) : ∃ o, DGet H d (.str n) o ∧ o.isSome = nm.contains n :=
  ⟨_, .inl ⟨_, .inr n, h, rfl, rfl⟩, valV_some⟩
/-- len of a list or a tuple, where the reading must be told -/
def rLenS (K : PySem.W.Frag) : List V → Hp → VK → Prop := fun xs H Q => ∃ p ys, xs = [.ref p] ∧ (SqL K H p ys ∨ SqT K H p ys) ∧ Q (.int ys.length) H
/-! a thing locked -/
theorem Sm.rd {X : Addr → Prop} {H H' : Hp} {a : Addr} {u : HO} (e : Sm X H H') (n : ¬ X a) (hu : isTbl u = false) (h : Rd H a u) : Rd H' a u := by
  rcases h with h | ⟨o, h⟩
  · exact .inl (e.keep _ _ n hu h)
  · exact .inr ⟨o, e.keep _ _ n rfl h⟩
theorem sm_unlock {H H' : Hp} {d : Addr} {u : HO} {od : Obj} (h : H d = some u) (hu : isTbl u = false) (e : Sm No (upd H d (.frz od u)) H') : Sm No H (upd H' d u) := by
  refine ⟨fun b o n t q => ?_, fun P ⟨ps, h1, h2⟩ => ?_, fun b z => ?_⟩
  · by_cases hb : b = d
    · rw [hb, upd_same, ← q, hb, h]
    · rw [upd_ne hb]
      exact e.keep b o n t (by rw [upd_ne hb]; exact q)
  · have hp : P ≠ d := fun z => by
      rw [z, h] at h1
      cases h1
      cases hu
    obtain ⟨ps', q1, q2⟩ := e.tab P ⟨ps, by rw [upd_ne hp]; exact h1, h2⟩
    exact ⟨ps', by rw [upd_ne hp]; exact q1, q2⟩
  · by_cases hb : b = d
    · rw [hb, upd_same] at z; cases z
    · rw [upd_ne hb] at z
      have := e.dom b z
      rw [upd_ne hb] at this
      exact this
theorem sm_frz {H H' : Hp} {d : Addr} {u : HO} {od : Obj} (e : Sm No (upd H d (.frz od u)) H') : H' d = some (.frz od u) := e.keep d _ (fun z => z) rfl upd_same
/-- the names and what each imports -/
structure Gr (H : Hp) (d : Addr) (nm : List Str) (im : Str → List Str) (ad : Str → Addr) : Prop where
  d : Rd H d (.dK (dkm nm fun n => .ref (ad n)))
  l : ∀ n ∈ nm, H (ad n) = some (.lst ((im n).map V.str))
structure GrOk (nm : List Str) (im : Str → List Str) : Prop where
  nd : nm.Nodup
  ln : nm.length ≤ 8
  li : ∀ n ∈ nm, (im n).length ≤ 20
  zn : ∀ n ∈ nm, n.length ≤ 1000
  zi : ∀ n ∈ nm, ∀ m ∈ im n, m.length ≤ 1000
theorem Gr.sm {H H' : Hp} {d : Addr} {nm : List Str} {im : Str → List Str} {ad : Str → Addr} (g : Gr H d nm im ad) (e : Sm No H H') : Gr H' d nm im ad :=
  ⟨e.rd (fun z => z) rfl g.d, fun n m => e.lst0 (g.l n m)⟩
theorem Gr.lock {H : Hp} {d : Addr} {nm : List Str} {im : Str → List Str} {ad : Str → Addr} (g : Gr H d nm im ad) (h : H d = some (.dK (dkm nm fun n => .ref (ad n)))) (od : Obj) : Gr (upd H d (.frz od (.dK (dkm nm fun n => .ref (ad n))))) d nm im ad :=
  ⟨.inr ⟨od, upd_same⟩, fun n m => by
    have ne : ad n ≠ d := fun z => by
      have := g.l n m
      rw [z, h] at this
      cases this
    rw [upd_ne ne]
    exact g.l n m⟩
theorem find_at {α : Type} {p : α → Bool} {x : α} {l1 l2 : List α} (h1 : ∀ a ∈ l1, p a = false) (hx : p x = true) : (l1 ++ x :: l2).find? p = some x := by
  rw [List.find?_append, List.find?_eq_none.mpr (fun a m z => by rw [h1 a m] at z; cases z), List.find?_cons_of_pos hx]
  rfl
theorem cut_at {α : Type} {l : List α} {i : Nat} {x : α} (h : l[i]? = some x) : l = l.take i ++ x :: l.drop (i + 1) := by
  have li := (List.getElem?_eq_some_iff.mp h).1
  have e := (List.getElem?_eq_some_iff.mp h).2
  rw [← e, ← List.drop_eq_getElem_cons li, List.take_append_drop]
theorem unk_at {nm : List Str} {im : Str → List Str} {i j : Nat} {n m : Str} (hi : (srt nm)[i]? = some n) (hj : (im n)[j]? = some m) (h1 : ∀ a ∈ (srt nm).take i, ∀ b ∈ im a, b ∈ nm) (h2 : ∀ b ∈ (im n).take j, b ∈ nm) (hm : m ∉ nm) : unkF nm im = some m := by
  unfold unkF
  have e : (srt nm).flatMap im = (((srt nm).take i).flatMap im ++ (im n).take j) ++ m :: ((im n).drop (j + 1) ++ ((srt nm).drop (i + 1)).flatMap im) := by
    conv => lhs; rw [cut_at hi]
    rw [List.flatMap_append, List.flatMap_cons]
    conv => lhs; rw [cut_at hj]
    simp
  rw [e]
  refine find_at (fun a ma => ?_) ?_
  · have : a ∈ nm := by
      rcases List.mem_append.mp ma with q | q
      · obtain ⟨c, hc, q⟩ := List.mem_flatMap.mp q
        exact h1 c hc a q
      · exact h2 a q
    rw [List.contains_iff_mem.mpr this]; rfl
  · cases q : nm.contains m with
    | false => rfl
    | true => exact absurd (List.contains_iff_mem.mp q) hm
theorem unk_none {nm : List Str} {im : Str → List Str} (h : ∀ a ∈ srt nm, ∀ b ∈ im a, b ∈ nm) : unkF nm im = none := by
  unfold unkF
  refine List.find?_eq_none.mpr fun a ma z => ?_
  obtain ⟨c, hc, q⟩ := List.mem_flatMap.mp ma
  rw [List.contains_iff_mem.mpr (h c hc a q)] at z
  cases z
theorem unk_all {nm : List Str} {im : Str → List Str} (h : unkF nm im = none) : ∀ a ∈ nm, ∀ b ∈ im a, b ∈ nm := fun a ha b hb => by
  unfold unkF at h
  have := List.find?_eq_none.mp h b (List.mem_flatMap.mpr ⟨a, srt_mem.mpr ha, hb⟩)
  cases q : nm.contains b with
  | false => rw [q] at this; exact absurd rfl this
  | true => exact List.contains_iff_mem.mp q
theorem map_get {α β : Type} {f : α → β} {l : List α} {i : Nat} {y : β} (h : (l.map f)[i]? = some y) : ∃ x, l[i]? = some x ∧ y = f x := by
  rw [List.getElem?_map] at h
  cases e : l[i]? with
  | none => rw [e] at h; cases h
  | some x => rw [e] at h; cases h; exact ⟨x, rfl, rfl⟩
theorem take_mem {α : Type} {l : List α} {i : Nat} {x : α} (h : l[i]? = some x) {P : α → Prop} (h1 : ∀ a ∈ l.take i, P a) (hx : P x) : ∀ a ∈ l.take (i + 1), P a := fun a m => by
  rw [List.take_add_one, h] at m
  rcases List.mem_append.mp m with m | m
  · exact h1 a m
  · have : a = x := by simpa using m
    rw [this]; exact hx
end My
namespace My
open PySem PySem.Spec PyProof.Rows L2 TL
/-- an own error without an __init__, made with one argument -/
theorem pmk_plain {X : Cx} {C : Addr} {bmB : List Value} {B newId initId : String} {x : Str} {e : Expr} {te : TE} {p pos : Pos} (F : ExcBaseFacts B newId initId bmB) (q : PySem.W.excIn X.K C bmB newId = true) (gC : X.mg x = some (.ref C))
    (kC : PySem.W.keepIn X.K (.ref C) = true) (r : Raises X (.ref C)) (hg : Gl X x) (he : PE X e te) (hdb : (x == ("__debug__" : Str)) = false := by decide)
    (hse : starEach [e] X.env = (false, eval e X.env) :: starEach [] X.env := by rfl) (hpl : (backTo pos (starEach [] X.env)).any (·.1) = false := by rfl) :
    PMk X (.Call (.Name x p) [e] [] pos) (fun σ H Q => tCons te tNil σ H fun vs H1 => vs.length = 1 ∧ Q (.ref C) none H1) := by
  intro pins s σ H Q I h
  refine wpAny_Call_Name_kw (ld_glob I hg gC ?_ hdb)
  have ha : PA X [e] (tCons te tNil) := pa_cons he pa_nil hse
  refine PySem.W.callWith_K (h₀ := X.base) I.ok.mod.kin kC (thn (ha.run pos pins s σ H _ I h) fun us s1 hh => ?_) hse hpl
  obtain ⟨vs, H1, J, rv, el, q1⟩ := hh
  have lu : us.length ≤ sizeLine := by
    rw [← Paired.length rv, el]
    decide
  obtain ⟨bm, N, nm, qn, bs, hdct, sn, sub, ab, col, dd, k0, k1, k2, k3, k5, mN, hC, hN, hni, T⟩ := exc_obj J.kIn q
  refine ⟨J.kIn, wpAny_call_exc_subT F T hC hN hni (fun h' e hm => ?_) lu⟩
  exact mk_of J hm r q1 (J.hok.gone hm.new)
/-! ### check_modules_are_there -/
def spChk (U : Addr) : Sp := fun vs H Q E => ∃ (d : Addr) (nm : List Str) (im : Str → List Str) (ad : Str → Addr), vs = [.ref d] ∧ Gr H d nm im ad ∧ GrOk nm im ∧
  (∀ m, unkF nm im = some m → nmX U m H E) ∧ (unkF nm im = none → ∀ H', Sm No H H' → Q .non H')
abbrev sChk : Stmt := top 9
abbrev NCk : List Str := ["imports", "name", "other"]
section
variable {P : Program} {w : World} {K : PySem.W.Frag} {mg : Str → Option Value} {base : Heap}
theorem scChk : FnScope NCk ["imports"] (defScope sChk) := ⟨rfl, rfl, rfl, by decide +kernel, rfl, by decide +kernel, by decide +kernel⟩
theorem ok_chk {f U fI : Addr} {fd fdI : FuncData} (F : Fun K "check_modules_are_there" "check_modules_are_there" sChk f fd) (B : Blt mg) (XU : ErrN P w K mg base "UnknownModule" U fI fdI) : FnOk P w K mg base (L2.CX P w) 3 f fd ["imports"] (spChk U) := by
  refine F.okX scChk (fun vs H Q E h => ?_) (fun cdv A outer s H vs Q E hr h => ?_)
  · obtain ⟨d, nm, im, ad, rfl, _⟩ := h
    rfl
  obtain ⟨d, nm, im, ad, rfl, G, O, qE, qQ⟩ := h
  have nd := scChk.nd
  have hu := units1 hr.units
  refine ⟨_, (pss_one (ps_for (passes_of rfl) rfl (pi_list (pe_callB (call_sortedD rfl) (by rfl) B.sorted (by decide +kernel) (pa_cons (pv 0) pa_nil))) (pg_name (i := 1) nd rfl (Or.inl rfl))
      (pss_one (ps_for (passes_of rfl) rfl (pi_list (pe_dget hu (pv 0) (pv 1) (fun _ _ => rfl))) (pg_name (i := 2) nd rfl (Or.inl rfl))
        (pss_one (ps_if (pt_cmp (pc_dnotin hu (pv 2) (pv 0))) (pss_one (ps_raise rfl (takes_of rfl rfl rfl rfl) (pmk_oex XU.o XU.iC XU.tI XU.f hr XU.b .nil pass0 rfl XU.g (pa_cons (pv 2) pa_nil)))) pss_nil)))))), ?_⟩
  refine ⟨_, rfl, d, _, nm, rfl, G.d, dkm_keys, Nat.lt_of_le_of_lt O.ln (by decide), fun ys p pm so hp => ⟨p, rfl, ⟨_, SqL.of upd_same⟩, ?_⟩⟩
  have es := srt_of pm so
  subst es
  refine for_list (xs := (srt nm).map V.str) (fun i σ H' => ∃ v1 v2, σ = [some (.ref d), v1, v2] ∧ Sm No H H' ∧ H' p = some (.lst ((srt nm).map V.str)) ∧ ∀ a ∈ (srt nm).take i, ∀ b ∈ im a, b ∈ nm)
    ⟨none, none, rfl, Sm.new hp, upd_same, by simp⟩ (fun i σ H' _ ⟨_, _, _, _, h1, _⟩ => SqL.of h1) ?_ ?_
  · rintro i x σ H1 hi ⟨v1, v2, rfl, s1, h1, al⟩
    obtain ⟨n, hn, rfl⟩ := map_get hi
    have mn : n ∈ nm := srt_mem.mp (List.mem_of_getElem? hn)
    have G1 := G.sm s1
    refine ⟨_, rfl, _, rfl, d, _, rfl, dget G1.d mn, ad n, rfl, ⟨_, SqL.of (G1.l n mn)⟩, ?_⟩
    refine for_list (xs := (im n).map V.str) (fun j σ H' => ∃ v2, σ = [some (.ref d), some (.str n), v2] ∧ Sm No H H' ∧ H' p = some (.lst ((srt nm).map V.str)) ∧ ∀ b ∈ (im n).take j, b ∈ nm)
      ⟨v2, rfl, s1, h1, by simp⟩ (fun j σ H' _ ⟨_, _, s2, _, _⟩ => SqL.of ((G.sm s2).l n mn)) ?_ ?_
    · rintro j x σ H2 hj ⟨v2', rfl, s2, h2, bl⟩
      obtain ⟨m, hm, rfl⟩ := map_get hj
      have G2 := G.sm s2
      obtain ⟨o, dg, eo⟩ := dget0 (n := m) G2.d
      refine ⟨_, rfl, _, rfl, d, o, rfl, dg, ?_⟩
      by_cases hc : m ∈ nm
      · rw [eo, List.contains_iff_mem.mpr hc]
        refine ⟨_, rfl, iteF ?_⟩
        exact ⟨_, rfl, s2, h2, take_mem hm bl hc⟩
      · rw [eo, show nm.contains m = false by cases q : nm.contains m with | false => rfl | true => exact absurd (List.contains_iff_mem.mp q) hc]
        refine ⟨_, rfl, iteT ?_⟩
        refine mkO_nm (O.zi n mn m (List.mem_of_getElem? hm)) (fun Q' q' => ⟨_, rfl, q'⟩) s2 fun H' d' sm hd e => qE m (unk_at hn hm al bl hc) H' d' sm hd e
    · rintro σ H2 ⟨v2', rfl, s2, h2, bl⟩
      refine ⟨_, _, rfl, s2, h2, take_mem hn al fun b mb => bl b ?_⟩
      rw [List.length_map, List.take_length]; exact mb
  · rintro σ H1 ⟨v1, v2, rfl, s1, h1, al⟩
    refine qQ (unk_none fun a ma => al a ?_) H1 s1
    rw [List.length_map, List.take_length]; exact ma
end
end My
namespace My
open PySem PySem.Spec PyProof.Rows L2
/-! walks of a locked dict by its names -/
section
variable {nm : List Str} {f : Str → V} {d : Addr} {o : Obj}
theorem nm_y {i : Nat} {H H' : Hp} {x : V} (y : H' = H ∧ ∃ k v, (dkm nm f)[i]? = some (k, v) ∧ x = kV k) : H' = H ∧ ∃ n, nm[i]? = some n ∧ x = .str n := by
  obtain ⟨e, k, v, h, ex⟩ := y
  obtain ⟨n, hn, rfl, _⟩ := dkm_get h
  exact ⟨e, n, hn, ex⟩
theorem for_nm {g : TG} {tb : TS} {D : Ends} {σ : L2.St} {H : Hp} (Pv : Nat → L2.St → Hp → Prop) (h0 : Pv 0 σ H) (hG : ∀ i σ H, Pv i σ H → H d = some (.frz o (.dK (dkm nm f))))
    (hs : ∀ i n σ H, nm[i]? = some n → Pv i σ H → g (.str n) σ H fun σ2 H2 => tb { D with nx := Pv (i + 1), ct := Pv (i + 1), bk := D.nx } σ2 H2) (hd : ∀ σ H, Pv nm.length σ H → D.nx σ H) :
    ∃ W : Nat → Nat → L2.St → Hp → Prop, (∃ m, W 0 m σ H) ∧ ∀ i m σ H, W i m σ H →
      ((Itk d o (dkm nm f)).stop i H ∧ D.nx σ H) ∨ ((Itk d o (dkm nm f)).go i H ∧ ∃ N : L2.St → Hp → Prop, (∀ σ' H', N σ' H' → ∃ m', m' < m ∧ W (i + 1) m' σ' H') ∧ ∀ x H', (Itk d o (dkm nm f)).yld i H x H' → g x σ H' fun σ2 H2 => tb { D with nx := N, ct := N, bk := D.nx } σ2 H2) :=
  for_it walk_keys Pv h0 (fun i σ H _ p => hG i σ H p) (fun i x σ H H' _ p y => by
    obtain ⟨rfl, n, hn, rfl⟩ := nm_y y
    exact hs i n σ _ hn p) fun σ H p => hd σ H (by rw [dkm_len] at p; exact p)
theorem lc_nm {g : TG} {tt : TT} {te : TE} {vs : List Nat} {σ : L2.St} {H1 : Hp} {D : Addr} {Qd : Hp → Prop} (Pv : Nat → Hp → Prop) (h0 : Pv 0 (upd H1 D (.lst []))) (hG : ∀ i H, Pv i H → H d = some (.frz o (.dK (dkm nm f))))
    (hs : ∀ i n H, nm[i]? = some n → Pv i H → g (.str n) (wipe σ vs) H fun σ2 H2 => wipe σ2 vs = wipe σ vs ∧ tt σ2 H2 fun b H3 =>
      if b = true then te σ2 H3 fun y H4 => ∃ acc, H4 D = some (.lst acc) ∧ acc.length < sizeLine ∧ Pv (i + 1) (upd H4 D (.lst (acc ++ [y]))) else Pv (i + 1) H3) (hd : ∀ H, Pv nm.length H → Qd H) :
    ∃ W : Nat → Nat → Hp → Prop, (∃ m, W 0 m (upd H1 D (.lst []))) ∧ ∀ i m H, W i m H →
      ((Itk d o (dkm nm f)).stop i H ∧ Qd H) ∨ ((Itk d o (dkm nm f)).go i H ∧ ∃ Nx : Hp → Prop, (∀ H', Nx H' → ∃ m', m' < m ∧ W (i + 1) m' H') ∧ ∀ x H', (Itk d o (dkm nm f)).yld i H x H' → g x (wipe σ vs) H' fun σ2 H2 => wipe σ2 vs = wipe σ vs ∧ tt σ2 H2 fun b H3 =>
        if b = true then te σ2 H3 fun y H4 => ∃ acc, H4 D = some (.lst acc) ∧ acc.length < sizeLine ∧ Nx (upd H4 D (.lst (acc ++ [y]))) else Nx H3) :=
  lc_it walk_keys Pv h0 (fun i H _ p => hG i H p) (fun i x H H' _ p y => by
    obtain ⟨rfl, n, hn, rfl⟩ := nm_y y
    exact hs i n _ hn p) fun H p => hd H (by rw [dkm_len] at p; exact p)
theorem dc_nm {g : TG} {tt : TT} {tk tv : TE} {vs : List Nat} {σ : L2.St} {H1 : Hp} {D : Addr} {Qd : Hp → Prop} (Pv : Nat → Hp → Prop) (h0 : Pv 0 (upd H1 D (.dK []))) (hG : ∀ i H, Pv i H → H d = some (.frz o (.dK (dkm nm f))))
    (hs : ∀ i n H, nm[i]? = some n → Pv i H → g (.str n) (wipe σ vs) H fun σ2 H2 => wipe σ2 vs = wipe σ vs ∧ tt σ2 H2 fun b H3 =>
      if b = true then tk σ2 H3 fun y H4 => tv σ2 H4 fun z H5 => ∃ kvs k, y = kV k ∧ H5 D = some (.dK kvs) ∧ kvs.length < sizeLine ∧ Pv (i + 1) (upd H5 D (.dK (putK kvs k z))) else Pv (i + 1) H3) (hd : ∀ H, Pv nm.length H → Qd H) :
    ∃ W : Nat → Nat → Hp → Prop, (∃ m, W 0 m (upd H1 D (.dK []))) ∧ ∀ i m H, W i m H →
      ((Itk d o (dkm nm f)).stop i H ∧ Qd H) ∨ ((Itk d o (dkm nm f)).go i H ∧ ∃ Nx : Hp → Prop, (∀ H', Nx H' → ∃ m', m' < m ∧ W (i + 1) m' H') ∧ ∀ x H', (Itk d o (dkm nm f)).yld i H x H' → g x (wipe σ vs) H' fun σ2 H2 => wipe σ2 vs = wipe σ vs ∧ tt σ2 H2 fun b H3 =>
        if b = true then tk σ2 H3 fun y H4 => tv σ2 H4 fun z H5 => ∃ kvs k, y = kV k ∧ H5 D = some (.dK kvs) ∧ kvs.length < sizeLine ∧ Nx (upd H5 D (.dK (putK kvs k z))) else Nx H3) := by
  refine ⟨fun i m H => m = nm.length - i ∧ i ≤ nm.length ∧ Pv i H, ⟨nm.length, by simp, Nat.zero_le _, h0⟩, ?_⟩
  rintro i m H ⟨rfl, hi, p⟩
  have q := hG i H p
  by_cases hlt : i < nm.length
  · refine .inr ⟨⟨q, by rw [dkm_len]; exact hlt⟩, Pv (i + 1), fun H' p' => ⟨nm.length - (i + 1), by omega, rfl, hlt, p'⟩, fun x H' y => ?_⟩
    obtain ⟨rfl, n, hn, rfl⟩ := nm_y y
    exact hs i n _ hn p
  · have e : i = nm.length := by omega
    subst e
    exact .inl ⟨⟨q, by rw [dkm_len]; exact Nat.le_refl _⟩, hd H p⟩
theorem nodup_at {nm : List Str} {i : Nat} {n : Str} (nd : nm.Nodup) (h : nm[i]? = some n) : n ∉ nm.take i := fun m => by
  obtain ⟨j, hj⟩ := List.mem_iff_getElem?.mp m
  rw [List.getElem?_take] at hj
  by_cases q : j < i
  · rw [if_pos q] at hj
    have l1 := (List.getElem?_eq_some_iff.mp h).1
    have l2 := (List.getElem?_eq_some_iff.mp hj).1
    have e1 := (List.getElem?_eq_some_iff.mp h).2
    have e2 := (List.getElem?_eq_some_iff.mp hj).2
    have := (List.pairwise_iff_getElem.mp nd) j i l2 l1 q
    exact this (e2.trans e1.symm)
  · rw [if_neg q] at hj; cases hj
theorem take_nx {α : Type} {l : List α} {i : Nat} {x : α} (h : l[i]? = some x) : l.take (i + 1) = l.take i ++ [x] := by
  rw [List.take_add_one, h]; rfl
end
/-! a name bound to a dict comprehension -/
section
variable {X : Cx}
theorem ps_setDc {i : Nat} {y : Str} {py : Pos} {kx vx tg iter : Expr} {ifs : List Expr} {scope : Scope} {own : List (Str × Nat)} {pos spos : Pos} {wi : TI} {g : TG} {tt : TT} {tk tv : TE} (hc : X.calm = true) (hN : X.N.Nodup) (hy : X.N[i]? = some y) (hyl : X.env.scope.names.lookup y = some .local)
    (hsw : swapsWith (.DictComp kx vx [⟨tg, iter, ifs, 0⟩] scope pos) (some (.Name y py)) spos.line X.env = pure true) (hi : PI X tg iter wi) (ok : BlkOk X.N X.env.scope scope own)
    (hg : ∀ (s : Shared) (H : Hp) (C : Addr) (cl : List (Str × Addr)) (fp : List Addr), PG (X.blk s H scope (compEnvC scope cl C X.env) fp) tg g) (ht : ∀ (s : Shared) (H : Hp) (C : Addr) (cl : List (Str × Addr)) (fp : List Addr), PTs (X.blk s H scope (compEnvC scope cl C X.env) fp) ifs tt)
    (hk : ∀ (s : Shared) (H : Hp) (C : Addr) (cl : List (Str × Addr)) (fp : List Addr), PE (X.blk s H scope (compEnvC scope cl C X.env) fp) kx tk)
    (he : ∀ (s : Shared) (H : Hp) (C : Addr) (cl : List (Str × Addr)) (fp : List Addr), PE (X.blk s H scope (compEnvC scope cl C X.env) fp) vx tv) (hs : ∀ x, foldedSetIterable iter X.env x = pure x := by intro _; rfl) :
    PS X (.Assign [.Name y py] (.DictComp kx vx [⟨tg, iter, ifs, 0⟩] scope pos) spos) (tAsg (tDc wi g tt tk tv (own.map (·.2))) (gName i)) := by
  refine ⟨fun pins s σ H D I h => ?_⟩
  rw [exec_Assign_Name_used _ _ _ _ hsw]
  refine wpAny_bind (wpAny_standAt (wpAny_bind ?_))
  show wpAny _ X.A (do let _ ← comprehension (.DictComp kx vx [⟨tg, iter, ifs, 0⟩] scope pos) scope X.env (firstIterPos [⟨tg, iter, ifs, 0⟩] pos) newDict false (eval iter X.env) (some (assign (.Name y py) X.env))) _ _ s
  have h : tDc wi g tt tk tv (own.map (·.2)) σ H (fun x H1 => gName i x σ H1 D.nx) := h
  refine wpAny_bind (thn (dc_core (Qf := fun _ s' => SP X pins D .next s') hc hN I hi ok hg ht hk he hs h fun L C s' m H' I' q hn f => ?_) fun _ s' hq => wpAny_pure (wpAny_pure hq))
  show wpAny _ _ (assign (.Name y py) X.env (.ref L)) _ _ _
  refine wpAny_assign_Name (store_ok2 (v := V.ref L) I' hN hy (.inl hyl) rfl (fun s2 I2 ⟨a, sb, ha⟩ => ?_) (.inr hyl))
  obtain ⟨f0, f1, f2, f3, f4, f5⟩ := f
  have haC : C ≠ a := by
    rcases ha with z | z
    · rw [z]; exact f1
    · exact fun e => f4 y a z e.symm
  refine ⟨m, hn.sameBut sb haC, fun h3 sb3 => ?_⟩
  exact ⟨_, H', I2.turned (t' := s2.toks) (fun b o hb e => (sb3.2 b hb).trans e) f0 f1 f3 f4 f5, q⟩
theorem sw_trueD {kx vx : Expr} {gs : List Comprehension} {scope : Scope} {pos py : Pos} {y : Str} {l : Nat} {env : Env} (hk : env.scope.kind = .function) (hy : env.scope.names.lookup y = some .local) (hl : (py.line == pos.line) = true)
    (ha : (scope.names.any fun (n, k) => n == y && (k == .local || k == .cell)) = false) : swapsWith (.DictComp kx vx gs scope pos) (some (.Name y py)) l env = pure true := by
  have ky : env.kindOf y = some .local := hy
  have hb : env.blockKind = .function := by unfold Env.blockKind; rw [hk]; rfl
  unfold swapsWith
  simp only [hb, ky, ha, Expr.pos, hl]
  rfl
end
/-- a new dict of new lists of texts -/
structure Tb (H0 H : Hp) (t : Addr) (nm : List Str) (fl : Str → List Str) (ta : Str → Addr) : Prop where
  d : H t = some (.dK (dkm nm fun n => .ref (ta n)))
  l : ∀ n ∈ nm, H (ta n) = some (.lst ((fl n).map V.str))
  inj : ∀ a ∈ nm, ∀ b ∈ nm, ta a = ta b → a = b
  new : ∀ n ∈ nm, H0 (ta n) = none
  nt : H0 t = none
  sm : Sm No H0 H
theorem Tb.nil {H0 : Hp} {t : Addr} (h : H0 t = none) {fl : Str → List Str} {ta : Str → Addr} : Tb H0 (upd H0 t (.dK [])) t [] fl ta :=
  ⟨upd_same, fun _ m => (nomatch m), fun _ m => (nomatch m), fun _ m => (nomatch m), h, Sm.new h⟩
section
variable {H0 H : Hp} {t : Addr} {nm : List Str} {fl : Str → List Str} {ta : Str → Addr}
theorem Tb.ne (T : Tb H0 H t nm fl ta) {n : Str} (m : n ∈ nm) : ta n ≠ t := fun z => by
  have := T.l n m
  rw [z, T.d] at this
  cases this
/-- one more name, with an empty list -/
theorem Tb.add (T : Tb H0 H t nm fl ta) {n : Str} (hn : n ∉ nm) {q : Addr} (hq : H q = none) (he : fl n = []) : Tb H0 (upd (upd H q (.lst [])) t (.dK (putK (dkm nm fun n => .ref (ta n)) (.inr n) (.ref q)))) t (nm ++ [n]) fl (fun m => if m = n then q else ta m) := by
  have tq : q ≠ t := fun z => by rw [z, T.d] at hq; cases hq
  refine ⟨?_, fun a ha => ?_, fun a ha b hb e => ?_, fun a ha => ?_, T.nt, ?_⟩
  · rw [upd_same, put_new hn]
    congr 2
    unfold dkm
    refine List.map_congr_left fun a _ => ?_
    show (Sum.inr a, if a = n then V.ref q else V.ref (ta a)) = (Sum.inr a, V.ref (if a = n then q else ta a))
    by_cases e : a = n
    · rw [if_pos e, if_pos e]
    · rw [if_neg e, if_neg e]
  · show upd _ _ _ (if a = n then q else ta a) = _
    by_cases e : a = n
    · rw [if_pos e, upd_ne tq, upd_same, e, he]; rfl
    · rw [if_neg e]
      have ma : a ∈ nm := (List.mem_append.mp ha).resolve_right (by simpa using e)
      rw [upd_ne (T.ne ma), upd_ne (fun z => by have := T.l a ma; rw [z, hq] at this; cases this)]
      exact T.l a ma
  · have e : (if a = n then q else ta a) = (if b = n then q else ta b) := e
    have other : ∀ {c : Str}, c ∈ nm ++ [n] → ¬ c = n → c ∈ nm := fun {c} h h' => (List.mem_append.mp h).resolve_right (by simpa using h')
    have nq : ∀ {c : Str}, c ∈ nm → ta c ≠ q := fun {c} m z => by have := T.l c m; rw [z, hq] at this; cases this
    by_cases ea : a = n
    · by_cases eb : b = n
      · rw [ea, eb]
      · rw [if_pos ea, if_neg eb] at e
        exact absurd e.symm (nq (other hb eb))
    · by_cases eb : b = n
      · rw [if_neg ea, if_pos eb] at e
        exact absurd e (nq (other ha ea))
      · rw [if_neg ea, if_neg eb] at e
        exact T.inj a (other ha ea) b (other hb eb) e
  · show H0 (if a = n then q else ta a) = none
    by_cases e : a = n
    · rw [if_pos e]; exact T.sm.dom q hq
    · rw [if_neg e]; exact T.new a ((List.mem_append.mp ha).resolve_right (by simpa using e))
  · refine (T.sm.trans (Sm.new hq)).mut T.nt fun ps z => ?_
    rw [upd_ne (Ne.symm tq), T.d] at z
    cases z
/-- one text more in one list -/
theorem Tb.push (T : Tb H0 H t nm fl ta) {n x : Str} (hn : n ∈ nm) : Tb H0 (upd H (ta n) (.lst ((fl n).map V.str ++ [.str x]))) t nm (fun m => if m = n then fl n ++ [x] else fl m) ta := by
  refine ⟨?_, fun a ha => ?_, T.inj, T.new, T.nt, T.sm.mut (T.new n hn) (ntbl_l (T.l n hn))⟩
  · rw [upd_ne (Ne.symm (T.ne hn))]; exact T.d
  · show _ = some (HO.lst ((if a = n then fl n ++ [x] else fl a).map V.str))
    by_cases e : a = n
    · subst e
      rw [upd_same, if_pos rfl, List.map_append]; rfl
    · rw [upd_ne (fun z => e (T.inj a ha n hn z)), if_neg e]
      exact T.l a ha
theorem sm_lock {X : Addr → Prop} {H H' : Hp} {d : Addr} {u : HO} {od : Obj} (hd : H d = some u) (hd' : H' d = some u) (hu : isTbl u = false) (e : Sm X H H') : Sm X (upd H d (.frz od u)) (upd H' d (.frz od u)) := by
  refine ⟨fun b o n t q => ?_, fun P ⟨ps, h1, h2⟩ => ?_, fun b z => ?_⟩
  · by_cases hb : b = d
    · rw [hb, upd_same] at q ⊢; exact q
    · rw [upd_ne hb] at q ⊢; exact e.keep b o n t q
  · have hp : P ≠ d := fun z => by rw [z, upd_same] at h1; cases h1
    rw [upd_ne hp] at h1
    obtain ⟨ps', q1, q2⟩ := e.tab P ⟨ps, h1, h2⟩
    exact ⟨ps', by rw [upd_ne hp]; exact q1, q2⟩
  · by_cases hb : b = d
    · rw [hb, upd_same] at z; cases z
    · rw [upd_ne hb] at z ⊢; exact e.dom b z
theorem Tb.lock (T : Tb H0 H t nm fl ta) {d : Addr} {u : HO} (od : Obj) (h : H0 d = some u) (hu : isTbl u = false) : Tb (upd H0 d (.frz od u)) (upd H d (.frz od u)) t nm fl ta := by
  have h' := T.sm.keep d u (fun z => z) hu h
  have td : t ≠ d := fun z => by have := T.nt; rw [z, h] at this; cases this
  have ad : ∀ n ∈ nm, ta n ≠ d := fun n m z => by have := T.new n m; rw [z, h] at this; cases this
  exact ⟨by rw [upd_ne td]; exact T.d, fun n m => by rw [upd_ne (ad n m)]; exact T.l n m, T.inj, fun n m => by rw [upd_ne (ad n m)]; exact T.new n m, by rw [upd_ne td]; exact T.nt, sm_lock h h' hu T.sm⟩
theorem Tb.unlock {d : Addr} {u : HO} {od : Obj} (T : Tb (upd H0 d (.frz od u)) H t nm fl ta) (h : H0 d = some u) (hu : isTbl u = false) : Tb H0 (upd H d u) t nm fl ta := by
  have td : t ≠ d := fun z => by have := T.nt; rw [z, upd_same] at this; cases this
  have ad : ∀ n ∈ nm, ta n ≠ d := fun n m z => by have := T.new n m; rw [z, upd_same] at this; cases this
  exact ⟨by rw [upd_ne td]; exact T.d, fun n m => by rw [upd_ne (ad n m)]; exact T.l n m, T.inj, fun n m => by have := T.new n m; rw [upd_ne (ad n m)] at this; exact this, by have := T.nt; rw [upd_ne td] at this; exact this, sm_unlock h hu T.sm⟩
theorem Tb.gr (T : Tb H0 H t nm fl ta) : Gr H t nm fl ta := ⟨.inl T.d, T.l⟩
theorem Tb.congr (T : Tb H0 H t nm fl ta) {fl' : Str → List Str} (h : ∀ n ∈ nm, fl n = fl' n) : Tb H0 H t nm fl' ta :=
  ⟨T.d, fun n m => by rw [T.l n m, h n m], T.inj, T.new, T.nt, T.sm⟩
end
end My
namespace My
open PySem PySem.Spec PyProof.Rows L2 TL
/-! ### importing_modules -/
def spImp : Sp := fun vs H Q _ => ∃ (d : Addr) (nm : List Str) (im : Str → List Str) (ad : Str → Addr), vs = [.ref d] ∧ H d = some (.dK (dkm nm fun n => .ref (ad n))) ∧ Gr H d nm im ad ∧ GrOk nm im ∧ (∀ a ∈ nm, ∀ b ∈ im a, b ∈ nm) ∧
  (∀ H' t ta, Sm No H H' → Gr H' t nm (fun y => impF im y nm) ta → Q (.ref t) H')
abbrev sImp : Stmt := top 10
abbrev NIm : List Str := ["imports", "importing", "name", "other"]
theorem impF_len {im : Str → List Str} {y : Str} {c : Nat} : ∀ {nm : List Str}, (∀ n ∈ nm, (im n).length ≤ c) → (impF im y nm).length ≤ nm.length * c
  | [], _ => Nat.zero_le _
  | n :: r, h => by
    have ih := impF_len (y := y) fun m hm => h m (List.mem_cons_of_mem n hm)
    unfold impF at ih ⊢
    rw [List.flatMap_cons, List.length_append, oneI_rep, List.length_replicate, List.length_cons, Nat.succ_mul]
    have := h n List.mem_cons_self
    have := List.count_le_length (a := y) (l := im n)
    omega
theorem impF_take {im : Str → List Str} {y n : Str} {nm : List Str} {i : Nat} (h : nm[i]? = some n) : impF im y (nm.take (i + 1)) = impF im y (nm.take i) ++ oneI y n (im n) := by
  unfold impF
  rw [take_nx h, List.flatMap_append]
  simp
theorem oneI_take {y n o : Str} {os : List Str} {j : Nat} (h : os[j]? = some o) : oneI y n (os.take (j + 1)) = oneI y n (os.take j) ++ (if o = y then [n] else []) := by
  unfold oneI
  rw [take_nx h, List.flatMap_append]
  simp
section
variable {P : Program} {w : World} {K : PySem.W.Frag} {mg : Str → Option Value} {base : Heap}
theorem scImp : FnScope NIm ["imports"] (defScope sImp) := ⟨rfl, rfl, rfl, by decide +kernel, rfl, by decide +kernel, by decide +kernel⟩
theorem ok_imp {f : Addr} {fd : FuncData} (F : Fun K "importing_modules" "importing_modules" sImp f fd) (B : Blt mg) : FnOk P w K mg base CX0 3 f fd ["imports"] spImp := by
  refine F.ok scImp (fun vs H Q E h => ?_) (fun cdv A outer s H vs Q E hr h => ?_)
  · obtain ⟨d, nm, im, ad, rfl, _⟩ := h
    rfl
  obtain ⟨d, nm, im, ad, rfl, hd, G, O, al, q⟩ := h
  have nd := scImp.nd
  have hu := units1 hr.units
  refine ⟨_, (pss_cons (ps_lock (ps_setDc (i := 1) (own := [("name", 2)]) (g := gName 2) (tt := tYes) rfl nd rfl rfl (sw_trueD rfl rfl rfl (by decide +kernel)) (pi_keys (pv 0)) (blkOk_by (N := NIm) (sc := defScope sImp) (by decide +kernel)) (fun _ _ _ _ _ => (pg_name (i := 2) nd rfl (Or.inl rfl) (hf := Or.inr rfl))) (fun _ _ _ _ _ => pts_nil) (fun _ _ _ _ _ => (pv 2)) (fun _ _ _ _ _ => (pe_lst pa_nil))))
    (pss_cons (ps_lock (ps_for PassesOwn.never rfl (pi_keys (pv 0)) (pg_name (i := 2) nd rfl (Or.inl rfl))
      (pss_one (ps_for PassesOwn.never rfl (pi_list (pe_dget hu (pv 0) (pv 2) (fun _ _ => rfl))) (pg_name (i := 3) nd rfl (Or.inl rfl))
        (pss_one (ps_expr (pe_bm PySem.F.plainAttrs_list PySem.F.slot_list_append PySem.F.type_list_append mt_append (pe_dget hu (pv 1) (pv 3) (fun _ _ => rfl)) (pa_cons (pv 2) pa_nil))))))))
    (pss_one (ps_ret (pv 1))))), ?_⟩
  refine ⟨d, _, hd, True.intro, fun od => ?_⟩
  have tn : isTbl (.dK (dkm nm fun n => .ref (ad n))) = false := rfl
  refine ⟨_, rfl, d, od, rfl, .inl ⟨_, upd_same, fun t ht => ?_⟩⟩
  refine dc_nm (fun i H' => ∃ ta, Tb (upd H d (.frz od (.dK (dkm nm fun n => .ref (ad n))))) H' t (nm.take i) (fun _ => []) ta) ⟨fun _ => 0, by rw [List.take_zero]; exact Tb.nil ht⟩ (fun i H' ⟨ta, T⟩ => sm_frz T.sm) ?_ ?_
  · rintro i n H1 hn ⟨ta, T⟩
    have hni := nodup_at O.nd hn
    refine ⟨rfl, _, rfl, by show 0 ≤ sizeLine; decide, fun p hp => ?_⟩
    have tp : t ≠ p := fun z => by rw [← z, T.d] at hp; cases hp
    refine ⟨_, .inr n, rfl, by rw [upd_ne tp]; exact T.d, ?_, _, by rw [take_nx hn]; exact T.add hni hp rfl⟩
    rw [dkm_len, List.length_take]
    exact Nat.lt_of_le_of_lt (Nat.min_le_right _ _) (line_of (Nat.le_trans O.ln (by decide)))
  · rintro H1 ⟨ta, T⟩
    rw [List.take_length] at T
    refine ⟨sm_frz T.sm, ?_⟩
    have T2 := T.unlock hd tn
    show tSeq _ _ _ _ (upd H1 d (HO.dK (dkm nm fun n => V.ref (ad n))))
    generalize upd H1 d (HO.dK (dkm nm fun n => V.ref (ad n))) = H2 at T2
    clear T
    refine ⟨d, _, T2.sm.keep d _ (fun z => z) tn hd, True.intro, fun od2 => ?_⟩
    have T3 := T2.lock od2 hd tn
    have hG : Gr (upd H d (.frz od2 (.dK (dkm nm fun n => .ref (ad n))))) d nm im ad := G.lock hd od2
    refine ⟨_, rfl, d, od2, rfl, .inl ⟨_, upd_same, ?_⟩⟩
    refine for_nm (fun i σ H' => ∃ v2 v3, σ = [some (.ref d), some (.ref t), v2, v3] ∧ Tb (upd H d (.frz od2 (.dK (dkm nm fun n => .ref (ad n))))) H' t nm (fun y => impF im y (nm.take i)) ta)
      ⟨none, none, rfl, T3.congr fun n _ => by rw [List.take_zero]; rfl⟩ (fun i σ H' ⟨_, _, _, T⟩ => sm_frz T.sm) ?_ ?_
    · rintro i n σ H3 hn ⟨v2, v3, rfl, T⟩
      have mn := List.mem_of_getElem? hn
      have G3 := hG.sm T.sm
      refine ⟨_, rfl, _, rfl, d, _, rfl, dget G3.d mn, ad n, rfl, ⟨_, SqL.of (G3.l n mn)⟩, ?_⟩
      refine for_list (xs := (im n).map V.str) (fun j σ H' => ∃ v3, σ = [some (.ref d), some (.ref t), some (.str n), v3] ∧ Tb (upd H d (.frz od2 (.dK (dkm nm fun n => .ref (ad n))))) H' t nm (fun y => impF im y (nm.take i) ++ oneI y n ((im n).take j)) ta)
        ⟨v3, rfl, T.congr fun y _ => by rw [List.take_zero]; exact (List.append_nil _).symm⟩ (fun j σ H' _ ⟨_, _, T⟩ => SqL.of ((hG.sm T.sm).l n mn)) ?_ ?_
      · rintro j x σ H4 hj ⟨v3', rfl, T4⟩
        obtain ⟨o, ho, rfl⟩ := map_get hj
        have mo : o ∈ nm := al n mn o (List.mem_of_getElem? ho)
        refine ⟨_, rfl, _, rfl, t, _, rfl, dget (.inl T4.d) mo, .inl ⟨rfl, _, SqL.of (T4.l o mo)⟩, _, rfl, ta o, _, _, rfl, rfl, T4.l o mo, ?_, ?_⟩
        · rw [List.length_map, List.length_append, oneI_rep, List.length_replicate]
          have e1 : (impF im o (nm.take i)).length ≤ (nm.take i).length * 20 := impF_len fun m hm => O.li m (List.mem_of_mem_take hm)
          have e2 : (nm.take i).length ≤ 8 := Nat.le_trans (by rw [List.length_take]; exact Nat.min_le_right _ _) O.ln
          have e3 : ((im n).take j).count o ≤ 20 := Nat.le_trans List.count_le_length (Nat.le_trans (by rw [List.length_take]; exact Nat.min_le_right _ _) (O.li n mn))
          have e4 : (nm.take i).length * 20 ≤ 8 * 20 := Nat.mul_le_mul_right 20 e2
          exact line_of (by omega)
        · refine ⟨_, rfl, (T4.push mo).congr fun y _ => ?_⟩
          rw [oneI_take ho]
          by_cases e : y = o
          · subst e
            rw [if_pos rfl, if_pos rfl, List.append_assoc]
          · rw [if_neg e, if_neg (Ne.symm e), List.append_nil]
      · rintro σ H4 ⟨v3', rfl, T4⟩
        refine ⟨_, _, rfl, T4.congr fun y _ => ?_⟩
        rw [List.length_map, List.take_length, impF_take hn]
    · rintro σ H3 ⟨v2, v3, rfl, T⟩
      rw [List.take_length] at T
      have T4 := T.unlock hd tn
      exact ⟨sm_frz T.sm, _, rfl, q _ t ta T4.sm T4.gr⟩
end
end My
namespace My
open PySem PySem.Spec PyProof.Rows L2 TL
/-! ### linking_order -/
def spOrd (U R : Addr) : Sp := fun vs H Q E => ∃ (d : Addr) (nm : List Str) (im : Str → List Str) (ad : Str → Addr), vs = [.ref d] ∧ H d = some (.dK (dkm nm fun n => .ref (ad n))) ∧ Gr H d nm im ad ∧ GrOk nm im ∧
  (∀ m, unkF nm im = some m → nmX U m H E) ∧ (unkF nm im = none → ordF nm im nm.length [] = none → ∀ H', Sm No H H' → E (.ref R) none H') ∧
  (unkF nm im = none → ∀ o, ordF nm im nm.length [] = some o → (∀ n ∈ o, n ∈ nm) → o.length ≤ nm.length → ∀ H' p, Sm No H H' → H p = none → H' p = some (.lst (o.map V.str)) → Q (.ref p) H')
abbrev sOrd : Stmt := top 11
abbrev NOr : List Str := ["imports", "importing", "waiting", "free", "order", "name", "other"]
theorem dkm_congr {nm : List Str} {f g : Str → V} (h : ∀ n ∈ nm, f n = g n) : dkm nm f = dkm nm g := List.map_congr_left fun n m => by rw [h n m]
theorem put_take {nm : List Str} {i : Nat} {n : Str} {f : Str → V} {v : V} (nd : nm.Nodup) (h : nm[i]? = some n) (hv : v = f n) : putK (dkm (nm.take i) f) (.inr n) v = dkm (nm.take (i + 1)) f := by
  rw [put_new (nodup_at nd h), take_nx h]
  refine dkm_congr fun m _ => ?_
  by_cases e : m = n
  · rw [if_pos e, hv, e]
  · rw [if_neg e]
theorem dk_small {nm : List Str} {f : Str → V} {i : Nat} (h : nm.length ≤ 8) : (dkm (nm.take i) f).length < sizeLine := by
  rw [dkm_len, List.length_take]
  exact Nat.lt_of_le_of_lt (Nat.min_le_right _ _) (line_of (Nat.le_trans h (by decide)))
theorem ntbl_d {H : Hp} {a : Addr} {kvs : List (Key × V)} (h : H a = some (.dK kvs)) : ∀ ps, H a ≠ some (.tbl ps) := fun ps z => by rw [h] at z; cases z
theorem Sm.dk {X : Addr → Prop} {H H' : Hp} {a : Addr} {kvs : List (Key × V)} (e : Sm X H H') (n : ¬ X a) (h : H a = some (.dK kvs)) : H' a = some (.dK kvs) := e.keep _ _ n rfl h
theorem int_dec {a : Nat} : decide (V.int (a : Nat) = V.int 0) = decide (a = 0) := by
  by_cases h : a = 0
  · subst h; rfl
  · rw [decide_eq_false h, decide_eq_false fun z => h (by have := V.int.inj z; omega)]
section
variable {P : Program} {w : World} {K : PySem.W.Frag} {mg : Str → Option Value} {base : Heap}
theorem scOrd : FnScope NOr ["imports"] (defScope sOrd) := ⟨rfl, rfl, rfl, by decide +kernel, rfl, by decide +kernel, by decide +kernel⟩
theorem ok_ord {f fC fI U R : Addr} {fd dC dI : FuncData} (F : Fun K "linking_order" "linking_order" sOrd f fd) (B : Blt mg) (HQ : Heq mg) (GC : Cal P w K mg base (L2.CX P w) 3 "check_modules_are_there" ["imports"] (spChk U) fC dC) (GI : Cal P w K mg base CX0 3 "importing_modules" ["imports"] spImp fI dI)
    (XR : PlainC K mg "ModuleRing" R) : FnOk P w K mg base (L2.CX P w) 4 f fd ["imports"] (spOrd U R) := by
  refine F.okX scOrd (fun vs H Q E h => ?_) (fun cdv A outer s H vs Q E hr h => ?_)
  · obtain ⟨d, nm, im, ad, rfl, _⟩ := h
    rfl
  obtain ⟨d, nm, im, ad, rfl, hd, G, O, qU, qR, qO⟩ := h
  have nd := scOrd.nd
  have hu := units1 hr.units
  refine ⟨_, (pss_cons (ps_expr (pe_call GC.ok hr rfl GC.g GC.k GC.b .nil (passes_call (takes_of rfl rfl rfl rfl) fun _ _ _ _ h => h) (pa_cons (pv 0) pa_nil)))
    (pss_cons (ps_set (i := 1) nd rfl (Or.inl rfl) (pe_call GI.ok hr rfl GI.g GI.k GI.b .nil pass0 (pa_cons (pv 0) pa_nil)))
    (pss_cons (ps_set (i := 2) nd rfl (Or.inr rfl) (pe_lock (pe_dc (own := [("name", 5)]) (g := gName 5) (tt := tYes) rfl nd (pi_keys (pv 0)) (blkOk_by (N := NOr) (sc := defScope sOrd) (by decide +kernel)) (fun _ _ _ _ _ => (pg_name (i := 5) nd rfl (Or.inl rfl) (hf := Or.inr rfl))) (fun _ _ _ _ _ => pts_nil) (fun _ _ _ _ _ => (pv 5)) (fun _ _ _ _ _ => (pe_callB (r := rLenS K) call_len_seq (by rfl) B.len PySem.boot_len (pa_cons (pe_dget hu (pv 0) (pv 5) (fun _ _ => rfl)) pa_nil))))))
    (pss_cons (ps_set (i := 3) nd rfl (Or.inl rfl) (pe_callB cr_sortedS (by rfl) B.sorted (by decide +kernel) (pa_cons (pe_lock (pe_lc (own := [("name", 5)]) (g := gName 5) rfl nd (pi_keys (pv 0)) (blkOk_by (N := NOr) (sc := defScope sOrd) (by decide +kernel)) (fun _ _ _ _ _ => (pg_name (i := 5) nd rfl (Or.inl rfl) (hf := Or.inr rfl))) (fun _ _ _ _ _ => pts_one (pt_cmpR op_eq (pe_dget hu (pv 2) (pv 5) (fun _ _ => rfl)) pe_int (nomark _))) (fun _ _ _ _ _ => (pv 5)))) pa_nil)))
    (pss_cons (ps_set (i := 4) nd rfl (Or.inl rfl) (pe_lst pa_nil))
    (pss_cons (ps_while (passes_of rfl) (pt_truth (pv 3) (by intro _; rfl))
      (pss_cons (ps_set (i := 5) nd rfl (Or.inl rfl) (pe_callBfun cr_pop (by rfl) HQ.pop (pa_cons (pv 3) pa_nil)))
      (pss_cons (ps_expr (pe_bm PySem.F.plainAttrs_list PySem.F.slot_list_append PySem.F.type_list_append mt_append (pv 4) (pa_cons (pv 5) pa_nil)))
      (pss_one (ps_for (passes_of rfl) rfl (pi_list (pe_dget hu (pv 1) (pv 5) (fun _ _ => rfl))) (pg_name (i := 6) nd rfl (Or.inl rfl))
        (pss_cons (ps_daug hu (pv 2) (pv 6) pe_int in_sub (fun _ _ _ => rfl))
        (pss_one (ps_if (pt_cmpR op_eq (pe_dget hu (pv 2) (pv 6) (fun _ _ => rfl)) pe_int (nomark _)) (pss_one (ps_expr (pe_callBfun cr_push (by rfl) HQ.push (pa_cons (pv 3) (pa_cons (pv 6) pa_nil))))) pss_nil))))))))
    (pss_cons (ps_if (pt_cmpR op_lt (pe_callB call_len_seq (by rfl) B.len PySem.boot_len (pa_cons (pv 4) pa_nil)) (pe_callB call_lenD (by rfl) B.len PySem.boot_len (pa_cons (pv 0) pa_nil)) (nomark _)) (pss_one (ps_raise rfl (takes_of rfl rfl rfl rfl) (pmk_plain PySem.F.excBase_ValueError XR.q XR.g XR.k (raises_own XR.s XR.t) rfl pe_str))) pss_nil)
    (pss_one (ps_ret (pv 4)))))))))), ?_⟩
  refine ⟨_, rfl, d, nm, im, ad, rfl, G, O, fun m hm => qU m hm, fun hn H1 s1 => ?_⟩
  have al := unk_all hn
  refine ⟨_, rfl, d, nm, im, ad, rfl, s1.keep _ _ (fun z => z) rfl hd, G.sm s1, O, al, fun H2 t ta s2 T => ?_⟩
  have s12 := s1.trans s2
  have hd2 := s12.keep _ _ (fun z => z) rfl hd
  have G2 := G.sm s12
  refine ⟨d, _, hd2, True.intro, fun od => ⟨_, rfl, d, od, rfl, .inl ⟨_, upd_same, fun D hD => ?_⟩⟩⟩
  have tn : isTbl (.dK (dkm nm fun n => .ref (ad n))) = false := rfl
  have GL := G2.lock hd2 od
  refine dc_nm (fun i H' => H' D = some (.dK (dkm (nm.take i) fun n => .int ((im n).length : Nat))) ∧ Sm No (upd H2 d (.frz od (.dK (dkm nm fun n => .ref (ad n))))) H') ⟨by rw [List.take_zero]; exact upd_same, Sm.new hD⟩ (fun i H' ⟨_, s⟩ => sm_frz s) ?_ ?_
  · rintro i n H3 hi ⟨h1, s3⟩
    have mn := List.mem_of_getElem? hi
    have G3 := GL.sm s3
    refine ⟨rfl, _, rfl, _, rfl, _, rfl, d, _, rfl, dget G3.d mn, ad n, _, rfl, .inl (SqL.of (G3.l n mn)), _, .inr n, rfl, h1, dk_small O.ln, ?_, s3.mut hD (ntbl_d h1)⟩
    rw [upd_same, put_take O.nd hi (by rw [List.length_map])]
  rintro H3 ⟨h1, s3⟩
  rw [List.take_length] at h1
  refine ⟨sm_frz s3, ?_⟩
  have Dd : D ≠ d := fun z => by rw [z, upd_same] at hD; cases hD
  have hD2 : H2 D = none := by rw [upd_ne Dd] at hD; exact hD
  have s4 := sm_unlock hd2 tn s3
  have h4 : upd H3 d (HO.dK (dkm nm fun n => V.ref (ad n))) D = some (.dK (dkm nm fun n => .int ((im n).length : Nat))) := by rw [upd_ne Dd]; exact h1
  show tSeq _ _ _ _ (upd H3 d (HO.dK (dkm nm fun n => V.ref (ad n))))
  generalize upd H3 d (HO.dK (dkm nm fun n => V.ref (ad n))) = H4 at s4 h4
  clear h1 s3
  have hd4 := s4.dk (fun z => z) hd2
  refine ⟨d, _, hd4, True.intro, fun od2 => ⟨_, rfl, d, od2, rfl, .inl ⟨_, upd_same, fun L hL => ?_⟩⟩⟩
  refine lc_nm (fun i H' => H' L = some (.lst (((nm.take i).filter fun n => decide ((im n).length = 0)).map V.str)) ∧ Sm No (upd H4 d (.frz od2 (.dK (dkm nm fun n => .ref (ad n))))) H') ⟨by rw [List.take_zero]; exact upd_same, Sm.new hL⟩ (fun i H' ⟨_, s⟩ => sm_frz s) ?_ ?_
  · rintro i n H5 hi ⟨h5, s5⟩
    have mn := List.mem_of_getElem? hi
    have hD5 : H5 D = some (.dK (dkm nm fun n => .int ((im n).length : Nat))) := s5.dk (fun z => z) (by rw [upd_ne Dd]; exact h4)
    refine ⟨rfl, _, rfl, _, rfl, D, _, rfl, dget (.inl hD5) mn, rfl, _, rfl, ?_⟩
    rw [int_dec]
    have et : (nm.take (i + 1)).filter (fun n => decide ((im n).length = 0)) = (nm.take i).filter (fun n => decide ((im n).length = 0)) ++ if (im n).length = 0 then [n] else [] := by
      rw [take_nx hi, List.filter_append]
      congr 1
      by_cases e : (im n).length = 0
      · rw [if_pos e, List.filter_cons_of_pos (by rw [decide_eq_true e])]; rfl
      · rw [if_neg e, List.filter_cons_of_neg (by rw [decide_eq_false e]; decide)]; rfl
    by_cases e : (im n).length = 0
    · rw [decide_eq_true e]
      refine iteT ⟨_, rfl, _, h5, ?_, ?_, s5.mut hL (ntbl_l h5)⟩
      · rw [List.length_map]
        refine line_of (Nat.le_trans (List.length_filter_le _ _) (Nat.le_trans (by rw [List.length_take]; exact Nat.min_le_right _ _) (Nat.le_trans O.ln (by decide))))
      · rw [upd_same, et, if_pos e, List.map_append]; rfl
    · rw [decide_eq_false e]
      refine iteF ⟨?_, s5⟩
      rw [et, if_neg e, List.append_nil]; exact h5
  rintro H5 ⟨h5, s5⟩
  rw [List.take_length] at h5
  have Ld : L ≠ d := fun z => by rw [z, upd_same] at hL; cases hL
  have hL4 : H4 L = none := by rw [upd_ne Ld] at hL; exact hL
  refine ⟨sm_frz s5, ?_⟩
  have s6 := s4.trans (sm_unlock hd4 tn s5)
  have h6 : upd H5 d (HO.dK (dkm nm fun n => V.ref (ad n))) L = some (.lst ((nm.filter fun n => decide ((im n).length = 0)).map V.str)) := by rw [upd_ne Ld]; exact h5
  have hD6 : upd H5 d (HO.dK (dkm nm fun n => V.ref (ad n))) D = some (.dK (dkm nm fun n => .int ((im n).length : Nat))) := by
    rw [upd_ne Dd]; exact s5.dk (fun z => z) (by rw [upd_ne Dd]; exact h4)
  generalize upd H5 d (HO.dK (dkm nm fun n => V.ref (ad n))) = H6 at s6 h6 hD6
  clear h5 s5
  refine ⟨L, _, rfl, SqL.of h6, Nat.lt_of_le_of_lt (List.length_filter_le _ _) (Nat.lt_of_le_of_lt O.ln (by decide)), fun fr0 p pm so hp => ?_⟩
  have s7 : Sm No H2 (upd H6 p (.lst (fr0.map V.str))) := s6.trans (Sm.new hp)
  have hp2 : H2 p = none := s6.dom p hp
  have pD : D ≠ p := fun z => by rw [← z, hD6] at hp; cases hp
  have w7 : upd H6 p (.lst (fr0.map V.str)) D = some (.dK (dkm nm fun n => .int ((im n).length : Nat))) := by rw [upd_ne pD]; exact hD6
  have l7 : upd H6 p (.lst (fr0.map V.str)) p = some (.lst (fr0.map V.str)) := upd_same
  show tSeq _ _ _ _ (upd H6 p (.lst (fr0.map V.str)))
  generalize upd H6 p (.lst (fr0.map V.str)) = H7 at s7 w7 l7
  refine ⟨by show 0 ≤ sizeLine; decide, fun o ho => ?_⟩
  have s8 : Sm No H2 (upd H7 o (.lst [])) := s7.trans (Sm.new ho)
  have ho2 : H2 o = none := s7.dom o ho
  have oD : D ≠ o := fun z => by rw [← z, w7] at ho; cases ho
  have op : p ≠ o := fun z => by rw [← z, l7] at ho; cases ho
  have w8 : upd H7 o (.lst []) D = some (.dK (dkm nm fun n => .int (cnt im [] n : Nat))) := by
    rw [upd_ne oD, w7]
    congr 2
    exact dkm_congr fun n _ => by rw [cnt_nil]
  have l8 : upd H7 o (.lst []) p = some (.lst (fr0.map V.str)) := by rw [upd_ne op]; exact l7
  have W0 : Ow nm im [] fr0 := Ow.start O.nd pm
  have P0 : IsHp ltS fr0 := IsHp.of_pw (sorted_pw so)
  refine ⟨fun m σ H' => ∃ done fr v5 v6, σ = [some (.ref d), some (.ref t), some (.ref D), some (.ref p), some (.ref o), v5, v6] ∧ m = nm.length - done.length ∧ Ow nm im done fr ∧ IsHp ltS fr ∧
    H' D = some (.dK (dkm nm fun n => .int (cnt im done n : Nat))) ∧ H' p = some (.lst (fr.map V.str)) ∧ H' o = some (.lst (done.map V.str)) ∧ Sm No H2 H', ⟨_, [], fr0, none, none, rfl, rfl, W0, P0, w8, l8, upd_same, s8⟩, ?_⟩
  rintro m σ H9 ⟨done, fr, v5, v6, rfl, rfl, W9, P9, w9, l9, o9, s9⟩
  refine ⟨_, rfl, _, .inl ⟨_, SqL.of l9, rfl⟩, ?_⟩
  have ld := W9.len
  have frl : fr.length ≤ 8 := Nat.le_trans (nodup_len W9.fn fun n m => ((W9.fi n).mp m).1) O.ln
  cases fr with
  | nil =>
    refine iteF ?_
    have dn : ∀ n ∈ done, n ∈ nm := fun n m => (W9.ds n m).1
    have hd9 := s9.dk (fun z => z) hd2
    rcases W9.stop with ⟨lt, e⟩ | ⟨nlt, e⟩
    · refine ⟨_, rfl, o, _, rfl, .inl (SqL.of o9), _, rfl, d, _, rfl, hd9, _, _, rfl, rfl, _, rfl, ?_⟩
      rw [dkm_len, List.length_map, decide_eq_true (show ((done.length : Nat) : Int) < ((nm.length : Nat) : Int) by omega)]
      exact iteT ⟨rfl, qR hn e H9 (s12.trans s9)⟩
    · refine ⟨_, rfl, o, _, rfl, .inl (SqL.of o9), _, rfl, d, _, rfl, hd9, _, _, rfl, rfl, _, rfl, ?_⟩
      rw [dkm_len, List.length_map, decide_eq_false (show ¬ ((done.length : Nat) : Int) < ((nm.length : Nat) : Int) by omega)]
      exact iteF ⟨_, rfl, qO hn done e dn ld H9 o (s12.trans s9) (s12.dom o ho2) o9⟩
  | cons y r =>
    refine iteT ?_
    obtain ⟨my, ny, cy, lty, ey⟩ := W9.next P9
    refine ⟨fun σ H' => ∃ fr v5 v6, σ = [some (.ref d), some (.ref t), some (.ref D), some (.ref p), some (.ref o), v5, v6] ∧ Ow nm im (done ++ [y]) fr ∧ IsHp ltS fr ∧
      H' D = some (.dK (dkm nm fun n => .int (cnt im (done ++ [y]) n : Nat))) ∧ H' p = some (.lst (fr.map V.str)) ∧ H' o = some (.lst ((done ++ [y]).map V.str)) ∧ Sm No H2 H', ?_, ?_⟩
    · rintro σ H' ⟨fr, v5, v6, e1, e2, e3, e4, e5, e6, e7⟩
      exact ⟨_, by rw [List.length_append]; simp; omega, _, fr, v5, v6, e1, rfl, e2, e3, e4, e5, e6, e7⟩
    refine ⟨_, rfl, p, y, r, rfl, l9, by simp at frl; omega, P9, fun ys pm2 hp10 => ?_⟩
    have s10 : Sm No H2 (upd H9 p (.lst (ys.map V.str))) := s9.mut hp2 (ntbl_l l9)
    have w10 : upd H9 p (.lst (ys.map V.str)) D = some (.dK (dkm nm fun n => .int (cnt im done n : Nat))) := by rw [upd_ne pD]; exact w9
    have o10 : upd H9 p (.lst (ys.map V.str)) o = some (.lst (done.map V.str)) := by rw [upd_ne (Ne.symm op)]; exact o9
    have l10 : upd H9 p (.lst (ys.map V.str)) p = some (.lst (ys.map V.str)) := upd_same
    show tSeq _ _ _ _ (upd H9 p (.lst (ys.map V.str)))
    generalize upd H9 p (.lst (ys.map V.str)) = H10 at s10 w10 o10 l10
    refine ⟨_, rfl, .inl ⟨rfl, _, SqL.of o10⟩, _, rfl, o, _, _, rfl, rfl, o10, ?_, ?_⟩
    · rw [List.length_map]; exact line_of (Nat.le_trans ld (Nat.le_trans O.ln (by decide)))
    have s11 : Sm No H2 (upd H10 o (.lst (done.map V.str ++ [.str y]))) := s10.mut ho2 (ntbl_l o10)
    have w11 : upd H10 o (.lst (done.map V.str ++ [.str y])) D = some (.dK (dkm nm fun n => .int (cnt im done n : Nat))) := by rw [upd_ne oD]; exact w10
    have l11 : upd H10 o (.lst (done.map V.str ++ [.str y])) p = some (.lst (ys.map V.str)) := by rw [upd_ne op]; exact l10
    have o11 : upd H10 o (.lst (done.map V.str ++ [.str y])) o = some (.lst ((done ++ [y]).map V.str)) := by rw [upd_same, List.map_append]; rfl
    dsimp only
    generalize upd H10 o (.lst (done.map V.str ++ [.str y])) = H11 at s11 w11 o11 l11
    have T11 := T.sm s11
    have I0 : Iw nm im done y 0 ys := W9.inner pm2
    refine ⟨_, rfl, _, rfl, t, _, rfl, dget T11.d my, ta y, rfl, ⟨_, SqL.of (T11.l y my)⟩, ?_⟩
    refine for_list (xs := (impF im y nm).map V.str) (fun j σ H' => ∃ fr v6, σ = [some (.ref d), some (.ref t), some (.ref D), some (.ref p), some (.ref o), some (.str y), v6] ∧ Iw nm im done y j fr ∧ IsHp ltS fr ∧
      H' D = some (.dK (dkm nm fun n => .int (wtF im done (impF im y nm) j n))) ∧ H' p = some (.lst (fr.map V.str)) ∧ H' o = some (.lst ((done ++ [y]).map V.str)) ∧ Sm No H2 H')
      ⟨ys, v6, rfl, I0, hp10, ?_, l11, o11, s11⟩ (fun j σ H' _ ⟨_, _, _, _, _, _, _, _, s⟩ => SqL.of ((T.sm s).l y my)) ?_ ?_
    · refine w11.trans (congrArg (fun z => some (HO.dK z)) (dkm_congr fun n _ => ?_))
      unfold wtF
      rw [List.take_zero]
      exact congrArg V.int (Int.sub_zero _).symm
    · rintro j x σ H12 hj ⟨fr, v6', rfl, Ij, Pj, w12, l12, o12, s12'⟩
      obtain ⟨oth, hoth, rfl⟩ := map_get hj
      obtain ⟨mo, no, wo⟩ := Iw.at O.nd (fun d m => (W9.ds d m).2) ny cy hoth
      have lfr : fr.length ≤ 8 := Nat.le_trans (nodup_len Ij.fn fun n m => ((Ij.fi n).mp m).1) O.ln
      refine ⟨_, rfl, _, rfl, D, _, rfl, dget (.inl w12) mo, _, _, rfl, rfl, _, .inl ⟨_, .inr oth, w12, rfl, by rw [dkm_len]; exact line_of (Nat.le_trans O.ln (by decide)), rfl⟩, ?_⟩
      have w13 : upd H12 D (.dK (putK (dkm nm fun n => .int (wtF im done (impF im y nm) j n)) (.inr oth) (.int (wtF im done (impF im y nm) j oth - 1)))) D = some (.dK (dkm nm fun n => .int (wtF im done (impF im y nm) (j + 1) n))) := by
        rw [upd_same, put_dkm mo]
        congr 2
        refine dkm_congr fun n _ => ?_
        rw [wt_step hoth n]
        by_cases e : n = oth
        · rw [if_pos e, e, if_pos rfl]
        · rw [if_neg e, if_neg (Ne.symm e), Int.sub_zero]
      have l13 : upd H12 D (.dK (putK (dkm nm fun n => .int (wtF im done (impF im y nm) j n)) (.inr oth) (.int (wtF im done (impF im y nm) j oth - 1)))) p = some (.lst (fr.map V.str)) := by rw [upd_ne (Ne.symm pD)]; exact l12
      have o13 : upd H12 D (.dK (putK (dkm nm fun n => .int (wtF im done (impF im y nm) j n)) (.inr oth) (.int (wtF im done (impF im y nm) j oth - 1)))) o = some (.lst ((done ++ [y]).map V.str)) := by rw [upd_ne (Ne.symm oD)]; exact o12
      have s13 : Sm No H2 (upd H12 D (.dK (putK (dkm nm fun n => .int (wtF im done (impF im y nm) j n)) (.inr oth) (.int (wtF im done (impF im y nm) j oth - 1))))) := s12'.mut hD2 (ntbl_d w12)
      dsimp only
      generalize upd H12 D (.dK (putK (dkm nm fun n => .int (wtF im done (impF im y nm) j n)) (.inr oth) (.int (wtF im done (impF im y nm) j oth - 1)))) = H13 at w13 l13 o13 s13
      refine ⟨_, rfl, _, rfl, D, _, rfl, dget (.inl w13) mo, rfl, _, rfl, ?_⟩
      have e13 : wtF im done (impF im y nm) (j + 1) oth = wtF im done (impF im y nm) j oth - 1 := by rw [wt_step hoth, if_pos rfl]
      by_cases z : wtF im done (impF im y nm) j oth = 1
      · rw [show decide (V.int (wtF im done (impF im y nm) (j + 1) oth) = V.int 0) = true from decide_eq_true (by rw [e13, z]; rfl)]
        refine iteT ⟨_, rfl, _, rfl, p, oth, fr, rfl, l13, by omega, Pj, fun ys' pm' hp' => ?_⟩
        exact ⟨ys', _, rfl, Ij.push hoth ⟨mo, no⟩ z pm', hp', by rw [upd_ne pD]; exact w13, upd_same, by rw [upd_ne (Ne.symm op)]; exact o13, s13.mut hp2 (ntbl_l l13)⟩
      · rw [show decide (V.int (wtF im done (impF im y nm) (j + 1) oth) = V.int 0) = false from decide_eq_false fun q => z (by have := V.int.inj q; omega)]
        exact iteF ⟨fr, _, rfl, Ij.skip hoth (by omega), Pj, w13, l13, o13, s13⟩
    · rintro σ H12 ⟨fr, v6', rfl, Ij, Pj, w12, l12, o12, s12'⟩
      rw [List.length_map] at Ij w12
      refine ⟨fr, _, _, rfl, Iw.fin W9 P9 O.nd Ij, Pj, ?_, l12, o12, s12'⟩
      rw [w12]
      congr 2
      exact dkm_congr fun n m => by rw [wt_end O.nd ny m]
end
end My
namespace My
open PySem PySem.Spec PyProof.Rows L2
/-- two lists, item by item -/
def Al {α : Type} (R : V → α → Prop) (vs : List V) (xs : List α) : Prop := vs.length = xs.length ∧ ∀ (i : Nat) (v : V), vs[i]? = some v → ∃ x, xs[i]? = some x ∧ R v x
section
variable {α : Type} {R : V → α → Prop} {vs : List V} {xs : List α}
theorem Al.nil : Al R [] [] := ⟨rfl, fun i v h => by simp at h⟩
theorem Al.len (h : Al R vs xs) : vs.length = xs.length := h.1
theorem Al.mono {R' : V → α → Prop} (h : Al R vs xs) (f : ∀ v x, R v x → R' v x) : Al R' vs xs := ⟨h.1, fun i v e => let ⟨x, hx, r⟩ := h.2 i v e; ⟨x, hx, f v x r⟩⟩
theorem Al.app {vs' : List V} {xs' : List α} (h : Al R vs xs) (g : Al R vs' xs') : Al R (vs ++ vs') (xs ++ xs') := by
  refine ⟨by rw [List.length_append, List.length_append, h.1, g.1], fun i v e => ?_⟩
  by_cases hi : i < vs.length
  · rw [List.getElem?_append_left hi] at e
    obtain ⟨x, hx, r⟩ := h.2 i v e
    exact ⟨x, by rw [List.getElem?_append_left (by rw [← h.1]; exact hi)]; exact hx, r⟩
  · rw [List.getElem?_append_right (by omega)] at e
    obtain ⟨x, hx, r⟩ := g.2 _ v e
    exact ⟨x, by rw [List.getElem?_append_right (by have := h.1; omega), ← h.1]; exact hx, r⟩
theorem Al.one {v : V} {x : α} (r : R v x) : Al R [v] [x] := ⟨rfl, fun i u e => by
  cases i with
  | zero => cases e; exact ⟨x, rfl, r⟩
  | succ i => simp at e⟩
theorem Al.snoc {v : V} {x : α} (h : Al R vs xs) (r : R v x) : Al R (vs ++ [v]) (xs ++ [x]) := h.app (Al.one r)
theorem Al.drop (h : Al R vs xs) (n : Nat) : Al R (vs.drop n) (xs.drop n) := by
  refine ⟨by rw [List.length_drop, List.length_drop, h.1], fun i v e => ?_⟩
  rw [List.getElem?_drop] at e
  obtain ⟨x, hx, r⟩ := h.2 _ v e
  exact ⟨x, by rw [List.getElem?_drop]; exact hx, r⟩
theorem Al.take (h : Al R vs xs) (n : Nat) : Al R (vs.take n) (xs.take n) := by
  refine ⟨by rw [List.length_take, List.length_take, h.1], fun i v e => ?_⟩
  rw [List.getElem?_take] at e
  by_cases hi : i < n
  · rw [if_pos hi] at e
    obtain ⟨x, hx, r⟩ := h.2 _ v e
    exact ⟨x, by rw [List.getElem?_take, if_pos hi]; exact hx, r⟩
  · rw [if_neg hi] at e; cases e
theorem Al.rev (h : Al R vs xs) : Al R vs.reverse xs.reverse := by
  refine ⟨by rw [List.length_reverse, List.length_reverse, h.1], fun i v e => ?_⟩
  have hi := (List.getElem?_eq_some_iff.mp e).1
  rw [List.length_reverse] at hi
  rw [List.getElem?_reverse hi] at e
  obtain ⟨x, hx, r⟩ := h.2 _ v e
  exact ⟨x, by rw [List.getElem?_reverse (by rw [← h.1]; exact hi), ← h.1]; exact hx, r⟩
end
section
variable {X : Cx} {K : PySem.W.Frag}
theorem pe_fldK {e : Expr} {ta : TE} {f : Str} {pos : Pos} (hK : X.K = K) (he : PE X e ta) (hb : attributeBase e f X.env (eval e X.env) = eval e X.env) : PE X (.Attribute e f pos) (tFld K ta f) := by
  subst hK; exact pe_fld he hb
theorem pi_listK {tg e : Expr} {ta : TE} (hK : X.K = K) (he : PE X e ta) : PI X tg e (iList K ta) := by
  subst hK; exact pi_list he
end
theorem len_putF (f : Str) (v : V) : ∀ fs : List (Str × V), (putF f v fs).length ≤ fs.length + 1
  | [] => Nat.le_refl _
  | (g, x) :: r => by
    unfold putF
    by_cases h : g = f
    · rw [if_pos h]; simp
    · rw [if_neg h]
      have := len_putF f v r
      rw [List.length_cons, List.length_cons]; omega
/-- over a list that stays: what is done with each is Bd -/
theorem walk_lc {K : PySem.W.Frag} {a : Addr} {xs : List V} {Bd : V → Hp → (Hp → Prop) → Prop} {H0 : Hp} {Qd : Hp → Prop} (Pv : Nat → Hp → Prop) (h0 : Pv 0 H0) (hl : ∀ i H, Pv i H → SqL K H a xs)
    (hs : ∀ i x H, xs[i]? = some x → Pv i H → Bd x H (Pv (i + 1))) (hd : ∀ H, Pv xs.length H → Qd H) :
    ∃ W : Nat → Nat → Hp → Prop, (∃ m, W 0 m H0) ∧ ∀ i m H, W i m H →
      ((Itl K a).stop i H ∧ Qd H) ∨ ((Itl K a).go i H ∧ ∃ Nx : Hp → Prop, (∀ H', Nx H' → ∃ m', m' < m ∧ W (i + 1) m' H') ∧ ∀ x H', (Itl K a).yld i H x H' → Bd x H' Nx) := by
  refine ⟨fun i m H => m = xs.length - i ∧ i ≤ xs.length ∧ Pv i H, ⟨xs.length, by simp, Nat.zero_le _, h0⟩, ?_⟩
  rintro i m H ⟨rfl, hi, p⟩
  have q := hl i H p
  by_cases hlt : i < xs.length
  · refine .inr ⟨⟨xs, xs[i], q, by simp [hlt]⟩, Pv (i + 1), fun H' p' => ⟨xs.length - (i + 1), by omega, rfl, hlt, p'⟩, fun x H' y => ?_⟩
    obtain ⟨e, y⟩ := y
    subst e
    exact hs i x _ (y xs q) p
  · have e : i = xs.length := by omega
    subst e
    exact .inl ⟨⟨xs, q, Nat.le_refl _⟩, hd H p⟩
/-- (word, ('int', k)) -/
def DfR (H : Hp) (v : V) (x : Str × Int) : Prop := ∃ p c, v = .ref p ∧ H p = some (.tup [.str x.1, .ref c]) ∧ H c = some (.tup [.str "int", .int x.2])
/-- (name, word, ('int', k)) -/
def OuR (H : Hp) (v : V) (x : Str × Str × Int) : Prop := ∃ p c, v = .ref p ∧ H p = some (.tup [.str x.1, .str x.2.1, .ref c]) ∧ H c = some (.tup [.str "int", .int x.2.2])
theorem Sm.tup {X : Addr → Prop} {H H' : Hp} {a : Addr} {xs : List V} (e : Sm X H H') (n : ¬ X a) (h : H a = some (.tup xs)) : H' a = some (.tup xs) := e.keep _ _ n rfl h
theorem DfR.sm {H H' : Hp} {v : V} {x : Str × Int} (h : DfR H v x) (e : Sm No H H') : DfR H' v x := let ⟨p, c, h1, h2, h3⟩ := h; ⟨p, c, h1, e.tup (fun z => z) h2, e.tup (fun z => z) h3⟩
theorem OuR.sm {H H' : Hp} {v : V} {x : Str × Str × Int} (h : OuR H v x) (e : Sm No H H') : OuR H' v x := let ⟨p, c, h1, h2, h3⟩ := h; ⟨p, c, h1, e.tup (fun z => z) h2, e.tup (fun z => z) h3⟩
/-- for what names a thing that is not that kind -/
theorem OuR.put {H : Hp} {v : V} {x : Str × Str × Int} {a : Addr} {ys : List V} {o : HO} (h : OuR H v x) (ha : H a = some (.lst ys)) : OuR (upd H a o) v x := by
  obtain ⟨p, c, h1, h2, h3⟩ := h
  refine ⟨p, c, h1, ?_, ?_⟩
  · rw [upd_ne (fun z => by rw [z, ha] at h2; cases h2)]; exact h2
  · rw [upd_ne (fun z => by rw [z, ha] at h3; cases h3)]; exact h3
def okS (z : Str) : Prop := z.length ≤ 1000 ∧ PyData.strOk z = true
structure RwOk (r : Rw) : Prop where
  n : okS r.n
  li : r.im.length ≤ 20
  zi : ∀ m ∈ r.im, okS m
  ld : r.df.length ≤ 3
  zd : ∀ d ∈ r.df, okS d.1
def RwsOk (rows : List Rw) : Prop := rows.length ≤ 8 ∧ ∀ r ∈ rows, RwOk r
theorem dup_at : ∀ {rows : List Rw} {seen : List Str} {i : Nat} {r : Rw}, rows[i]? = some r → ((rows.take i).map (·.n)).Nodup → (∀ q ∈ rows.take i, q.n ∉ seen) → (r.n ∈ seen ∨ r.n ∈ (rows.take i).map (·.n)) → dupF seen rows = some r.n
  | [], _, i, r, h, _, _, _ => by simp at h
  | q :: rs, seen, 0, r, h, _, _, m => by
    have e : q = r := by simpa using h
    subst e
    unfold dupF
    rcases m with m | m
    · rw [if_pos (List.contains_iff_mem.mpr m)]
    · simp at m
  | q :: rs, seen, i + 1, r, h, nd, ns, m => by
    have h' : rs[i]? = some r := by simpa using h
    rw [List.take_succ_cons] at nd ns m
    rw [List.map_cons] at nd m
    have nd := List.nodup_cons.mp nd
    have hq : q.n ∉ seen := ns q List.mem_cons_self
    unfold dupF
    rw [if_neg fun z => hq (List.contains_iff_mem.mp z)]
    refine dup_at h' nd.2 (fun p hp z => ?_) ?_
    · rcases List.mem_append.mp z with z | z
      · exact ns p (List.mem_cons_of_mem _ hp) z
      · exact nd.1 (List.mem_map.mpr ⟨p, hp, by simpa using z⟩)
    · rcases m with m | m
      · exact .inl (List.mem_append_left _ m)
      · rcases List.mem_cons.mp m with e | m
        · exact .inl (List.mem_append_right _ (by simp [e]))
        · exact .inr m
theorem link_dup {rows : List Rw} {n : Str} (h : dupF [] rows = some n) : linkF rows = .dup n := by unfold linkF; rw [h]
theorem link_unk {rows : List Rw} {m : Str} (h : dupF [] rows = none) (u : unkF (rows.map (·.n)) (imF rows) = some m) : linkF rows = .unk m := by unfold linkF; rw [h, u]
theorem link_ring {rows : List Rw} (h : dupF [] rows = none) (u : unkF (rows.map (·.n)) (imF rows) = none) (e : ordF (rows.map (·.n)) (imF rows) rows.length [] = none) : linkF rows = .ring := by unfold linkF; rw [h, u, e]
theorem link_ok {rows : List Rw} {o : List Str} (h : dupF [] rows = none) (u : unkF (rows.map (·.n)) (imF rows) = none) (e : ordF (rows.map (·.n)) (imF rows) rows.length [] = some o) : linkF rows = .linked (outF (dfF rows) o) := by unfold linkF; rw [h, u, e]
theorem imF_of {rows : List Rw} (h : (rows.map (·.n)).Nodup) {r : Rw} (m : r ∈ rows) : imF rows r.n = r.im := by unfold imF; rw [rowF_of h m]
theorem dfF_of {rows : List Rw} (h : (rows.map (·.n)).Nodup) {r : Rw} (m : r ∈ rows) : dfF rows r.n = r.df := by unfold dfF; rw [rowF_of h m]
theorem grok_of {rows : List Rw} (h : RwsOk rows) (nd : (rows.map (·.n)).Nodup) : GrOk (rows.map (·.n)) (imF rows) := by
  have at' : ∀ n ∈ rows.map (·.n), ∃ r ∈ rows, r.n = n := fun n m => let ⟨r, hr, e⟩ := List.mem_map.mp m; ⟨r, hr, e⟩
  refine ⟨nd, by rw [List.length_map]; exact h.1, fun n m => ?_, fun n m => ?_, fun n m q hq => ?_⟩
  · obtain ⟨r, hr, rfl⟩ := at' n m
    rw [imF_of nd hr]; exact (h.2 r hr).li
  · obtain ⟨r, hr, rfl⟩ := at' n m
    exact (h.2 r hr).n.1
  · obtain ⟨r, hr, rfl⟩ := at' n m
    rw [imF_of nd hr] at hq; exact ((h.2 r hr).zi q hq).1
end My
namespace My
open PySem PySem.Spec PyProof.Rows L2 TL
/-! ### class Unit -/
def uFs (n a e m b : V) : List (Str × V) := [("name", n), ("imports", a), ("exports", e), ("macros", m), ("definitions", b)]
structure UniC (K : PySem.W.Frag) (C : Addr) : Prop where
  c : Cls K C
  n1 : NoAttr K C "name"
  n2 : NoAttr K C "imports"
  n3 : NoAttr K C "exports"
  n4 : NoAttr K C "macros"
  n5 : NoAttr K C "definitions"
def spUni (C : Addr) : Sp := fun vs H Q _ => ∃ (x dx : Addr) (n a e m b : V), vs = [.ref x, n, a, e, m, b] ∧ H x = some (.ins C dx []) ∧ Q .non (upd H x (.ins C dx (uFs n a e m b)))
abbrev sUni : Stmt := inClass (top 7) 0
/-- a unit: its address, that of its imports, that of its definitions -/
def UnA (C : Addr) (H : Hp) (p : Addr × Addr × Addr) (r : Rw) : Prop := ∃ (dx : Addr) (e m : V) (ds : List V), H p.1 = some (.ins C dx (uFs (.str r.n) (.ref p.2.1) e m (.ref p.2.2))) ∧ H p.2.1 = some (.lst (r.im.map V.str)) ∧ H p.2.2 = some (.lst ds) ∧ Al (DfR H) ds r.df
def UnR (C : Addr) (H : Hp) (v : V) (r : Rw) : Prop := ∃ p : Addr × Addr × Addr, v = .ref p.1 ∧ UnA C H p r
theorem UnA.sm {C : Addr} {H H' : Hp} {p : Addr × Addr × Addr} {r : Rw} (h : UnA C H p r) (e : Sm No H H') : UnA C H' p r :=
  let ⟨dx, x, m, ds, h1, h2, h3, h4⟩ := h
  ⟨dx, x, m, ds, e.keep _ _ (fun z => z) rfl h1, e.lst0 h2, e.lst0 h3, h4.mono fun _ _ d => d.sm e⟩
theorem UnA.put {C : Addr} {H : Hp} {p : Addr × Addr × Addr} {r : Rw} {d : Addr} {kvs : List (Key × V)} {o : HO} (h : UnA C H p r) (hd : H d = some (.dK kvs)) : UnA C (upd H d o) p r := by
  obtain ⟨dx, x, m, ds, h1, h2, h3, h4⟩ := h
  have ne : ∀ {b : Addr} {u : HO}, H b = some u → (∀ k, u ≠ .dK k) → b ≠ d := fun {b u} e n z => by rw [z, hd] at e; exact n _ (Option.some.inj e).symm
  refine ⟨dx, x, m, ds, by rw [upd_ne (ne h1 fun k z => nomatch z)]; exact h1, by rw [upd_ne (ne h2 fun k z => nomatch z)]; exact h2, by rw [upd_ne (ne h3 fun k z => nomatch z)]; exact h3, h4.mono fun v y ⟨q, c, e1, e2, e3⟩ => ⟨q, c, e1, ?_, ?_⟩⟩
  · rw [upd_ne (ne e2 fun k z => nomatch z)]; exact e2
  · rw [upd_ne (ne e3 fun k z => nomatch z)]; exact e3
theorem nmX_sm {C : Addr} {z : Str} {H H1 : Hp} {E : XK} (s : Sm No H H1) (h : nmX C z H E) : nmX C z H1 E := fun H' d sm hd e => h H' d (s.trans sm) (s.dom d hd) e
abbrev sLnk : Stmt := top 12
abbrev NLk : List Str := ["units", "named", "unit", "order", "name", "word", "core"]
/-- what link answers -/
def outL (D U R : Addr) (H : Hp) (Q : VK) (E : XK) : Rs → Prop
  | .dup n => nmX D n H E
  | .unk n => nmX U n H E
  | .ring => ∀ H', Sm No H H' → E (.ref R) none H'
  | .linked l => ∀ H' L vs, Sm No H H' → H L = none → H' L = some (.lst vs) → Al (OuR H') vs l → Q (.ref L) H'
def spLnk (C D U R : Addr) : Sp := fun vs H Q E => ∃ (a : Addr) (us : List V) (rows : List Rw), vs = [.ref a] ∧ H a = some (.lst us) ∧ Al (UnR C H) us rows ∧ RwsOk rows ∧ outL D U R H Q E (linkF rows)
section
variable {P : Program} {w : World} {K : PySem.W.Frag} {mg : Str → Option Value} {base : Heap}
theorem scUni : FnScope ["self", "name", "imports", "exports", "macros", "definitions"] ["self", "name", "imports", "exports", "macros", "definitions"] (defScope sUni) := ⟨rfl, rfl, rfl, by decide +kernel, rfl, by decide +kernel, by decide +kernel⟩
theorem ok_uni {f C : Addr} {fd : FuncData} (F : Fun K "__init__" "Unit.__init__" sUni f fd) (U : UniC K C) : FnOk P w K mg base CX0 1 f fd ["self", "name", "imports", "exports", "macros", "definitions"] (spUni C) := by
  refine F.ok scUni (fun vs H Q E h => ?_) (fun cdv A outer s H vs Q E hr h => ?_)
  · obtain ⟨x, dx, n, a, e, m, b, rfl, _⟩ := h
    rfl
  obtain ⟨x, dx, n, a, e, m, b, rfl, hx, q⟩ := h
  have nd := scUni.nd
  refine ⟨_, (pss_cons (ps_fld (pv 0) (pv 1) rfl)
    (pss_cons (ps_fld (pv 0) (pv 2) rfl)
    (pss_cons (ps_fld (pv 0) (pv 3) rfl)
    (pss_cons (ps_fld (pv 0) (pv 4) rfl)
    (pss_one (ps_fld (pv 0) (pv 5) rfl)))))), ?_⟩
  have l1 := len_putF "name" n []
  have l2 := len_putF "imports" a (putF "name" n [])
  have l3 := len_putF "exports" e (putF "imports" a (putF "name" n []))
  have l4 := len_putF "macros" m (putF "exports" e (putF "imports" a (putF "name" n [])))
  have l0 : ([] : List (Str × V)).length = 0 := rfl
  refine ⟨_, rfl, _, rfl, x, C, dx, _, rfl, hx, U.c, U.n1, by decide, ?_⟩
  refine ⟨_, rfl, _, rfl, x, C, dx, _, rfl, upd_same, U.c, U.n2, by omega, ?_⟩
  refine ⟨_, rfl, _, rfl, x, C, dx, _, rfl, upd_same, U.c, U.n3, by omega, ?_⟩
  refine ⟨_, rfl, _, rfl, x, C, dx, _, rfl, upd_same, U.c, U.n4, by omega, ?_⟩
  refine ⟨_, rfl, _, rfl, x, C, dx, _, rfl, upd_same, U.c, U.n5, by omega, ?_⟩
  rw [upd_upd, upd_upd, upd_upd, upd_upd]
  exact q
theorem scLnk : FnScope NLk ["units"] (defScope sLnk) := ⟨rfl, rfl, rfl, by decide +kernel, rfl, by decide +kernel, by decide +kernel⟩
theorem ok_lnk {f fO C D U R fD : Addr} {fd dO fdD : FuncData} (F : Fun K "link" "link" sLnk f fd) (B : Blt mg) (GL : Cal P w K mg base (L2.CX P w) 4 "linking_order" ["imports"] (spOrd U R) fO dO) (XD : ErrN P w K mg base "DuplicateName" D fD fdD) (UC : UniC K C) :
    FnOk P w K mg base (L2.CX P w) 5 f fd ["units"] (spLnk C D U R) := by
  refine F.okX scLnk (fun vs H Q E h => ?_) (fun cdv A outer s H vs Q E hr h => ?_)
  · obtain ⟨a, us, rows, rfl, _⟩ := h
    rfl
  obtain ⟨a, us, rows, rfl, ha, al, O, q⟩ := h
  have nd := scLnk.nd
  have hu := units1 hr.units
  have r1 := hr.mono (show 2 ≤ 4 by decide)
  refine ⟨_, (pss_cons (ps_set (i := 1) nd rfl (Or.inr rfl) pe_dnewK)
    (pss_cons (ps_for (passes_of rfl) rfl (pi_list (pv 0)) (pg_name (i := 2) nd rfl (Or.inl rfl))
      (pss_cons (ps_if (pt_cmp (pc_din hu (pe_fld (pv 2) rfl) (pv 1))) (pss_one (ps_raise rfl (takes_of rfl rfl rfl rfl) (pmk_oex XD.o XD.iC XD.tI XD.f r1 XD.b .nil pass0 rfl XD.g (pa_cons (pe_fld (pv 2) rfl) pa_nil)))) pss_nil)
      (pss_one (ps_dput hu (pv 1) (pe_fld (pv 2) rfl) (pv 2) rfl))))
    (pss_cons (ps_set (i := 3) nd rfl (Or.inl rfl) (pe_call GL.ok hr rfl GL.g GL.k GL.b .nil (passes_call (takes_of rfl rfl rfl rfl) fun _ _ _ _ h => h) (pa_cons (pe_lock (pe_dc (own := [("name", 4)]) (g := gName 4) (tt := tYes) rfl nd (pi_keys (pv 1)) (blkOk_by (N := NLk) (sc := defScope sLnk) (by decide +kernel)) (fun _ _ _ _ _ => (pg_name (i := 4) nd rfl (Or.inl rfl) (hf := Or.inr rfl))) (fun _ _ _ _ _ => pts_nil) (fun _ _ _ _ _ => (pv 4)) (fun _ _ _ _ _ => (pe_fldK (K := K) rfl (pe_dget hu (pv 1) (pv 4) (fun _ _ => rfl)) rfl)))) pa_nil)))
    (pss_one (ps_ret (pe_lc2 (own := [("name", 4), ("word", 5), ("core", 6)]) (vs1 := [5, 6]) (g := gName 4) (g1 := gTup K 2 (gCons (gName 5) (gCons (gName 6) gNil))) (tt := tYes) (tt1 := tYes) rfl nd (pi_list (pv 3)) (blkOk_by (N := NLk) (sc := defScope sLnk) (by decide +kernel)) (by decide) (fun _ _ _ _ _ => (pg_name (i := 4) nd rfl (Or.inl rfl) (hf := Or.inr rfl))) (fun _ _ _ _ _ => pts_nil) (fun _ _ _ _ _ => (pi_listK (K := K) rfl (pe_fldK (K := K) rfl (pe_dget hu (pv 1) (pv 4) (fun _ _ => rfl)) rfl))) (fun _ _ _ _ _ => (pg_tup rfl (pgs_cons (pg_name (i := 5) nd rfl (Or.inl rfl) (hf := Or.inr rfl)) (pgs_cons (pg_name (i := 6) nd rfl (Or.inl rfl) (hf := Or.inr rfl)) pgs_nil)))) (fun _ _ _ _ _ => pts_nil) (fun _ _ _ _ _ => (pe_tup (pa_cons (pv 4) (pa_cons (pv 5) (pa_cons (pv 6) pa_nil))))))))))), ?_⟩
  intro D1 hD1
  refine ⟨_, rfl, a, rfl, ⟨_, SqL.of ((Sm.new hD1 : Sm No H _).lst0 ha)⟩, ?_⟩
  refine for_list (xs := us) (fun i σ H' => ∃ (v2 : Option V) (u : Str → Addr × Addr × Addr), σ = [some (.ref a), some (.ref D1), v2, none, none, none, none] ∧ H' D1 = some (.dK (dkm ((rows.take i).map (·.n)) fun n => .ref (u n).1)) ∧
    (∀ r ∈ rows.take i, UnA C H (u r.n) r) ∧ ((rows.take i).map (·.n)).Nodup ∧ Sm No H H')
    ⟨none, fun _ => (0, 0, 0), rfl, by rw [List.take_zero]; exact upd_same, by simp, by simp, Sm.new hD1⟩ (fun i σ H' _ ⟨_, _, _, _, _, _, s⟩ => SqL.of (s.lst0 ha)) ?_ ?_
  · rintro i x σ H1 hi ⟨v2, u, rfl, d1, ur, ndi, s1⟩
    obtain ⟨r, hri, p, rfl, un⟩ := al.2 i x hi
    obtain ⟨dx, e, m, ds, g1, g2, g3, g4⟩ := un.sm s1
    obtain ⟨o, dg, eo⟩ := dget0 (n := r.n) (.inl d1)
    refine ⟨_, rfl, p.1, C, dx, _, _, rfl, g1, UC.c, UC.n1, rfl, _, rfl, D1, o, rfl, dg, ?_⟩
    have mr := List.mem_of_getElem? hri
    by_cases hc : r.n ∈ (rows.take i).map (·.n)
    · rw [eo, List.contains_iff_mem.mpr hc]
      refine ⟨_, rfl, iteT ?_⟩
      rw [link_dup (dup_at hri ndi (fun _ _ z => nomatch z) (.inr hc))] at q
      exact mkO_nm (O.2 r mr).n.1 (fun Q' q' => ⟨_, rfl, p.1, C, dx, _, _, rfl, g1, UC.c, UC.n1, rfl, q'⟩) s1 q
    · rw [eo, show ((rows.take i).map (·.n)).contains r.n = false by cases q : ((rows.take i).map (·.n)).contains r.n with | false => rfl | true => exact absurd (List.contains_iff_mem.mp q) hc]
      refine ⟨_, rfl, iteF ?_⟩
      have et : (rows.take (i + 1)).map (·.n) = (rows.take i).map (·.n) ++ [r.n] := by rw [take_nx hri, List.map_append]; rfl
      refine ⟨_, rfl, _, rfl, _, rfl, p.1, C, dx, _, _, rfl, g1, UC.c, UC.n1, rfl, D1, _, rfl, .inl ⟨_, .inr r.n, d1, rfl, ?_, rfl⟩, ?_⟩
      · rw [dkm_len, List.length_map, List.length_take]
        exact Nat.lt_of_le_of_lt (Nat.min_le_right _ _) (line_of (Nat.le_trans O.1 (by decide)))
      refine ⟨_, fun n => if n = r.n then p else u n, rfl, ?_, fun q hq => ?_, ?_, s1.mut hD1 (ntbl_d d1)⟩
      · rw [upd_same, put_new hc, et]
        refine congrArg (fun z => some (HO.dK z)) (dkm_congr fun n _ => ?_)
        show (if n = r.n then V.ref p.1 else V.ref (u n).1) = V.ref (if n = r.n then p else u n).1
        by_cases e : n = r.n
        · rw [if_pos e, if_pos e]
        · rw [if_neg e, if_neg e]
      · rw [take_nx hri] at hq
        show UnA C H (if q.n = r.n then p else u q.n) q
        rcases List.mem_append.mp hq with hq | hq
        · rw [if_neg fun e => hc (List.mem_map.mpr ⟨q, hq, e⟩)]; exact ur q hq
        · have : q = r := by simpa using hq
          rw [this, if_pos rfl]; exact un
      · rw [et, List.nodup_append]
        exact ⟨ndi, by simp, fun b hb c hc' e => hc (by have : c = r.n := by simpa using hc'
                                                        rw [← this, ← e]; exact hb)⟩
  rintro σ H1 ⟨v2, u, rfl, d1, ur, ndr, s1⟩
  rw [al.len, List.take_length] at d1 ur ndr
  have hdup : dupF [] rows = none := (dup_none rows []).mpr ⟨ndr, fun _ _ z => nomatch z⟩
  have GO := grok_of O ndr
  refine ⟨D1, _, d1, True.intro, fun od => ⟨_, rfl, D1, od, rfl, .inl ⟨_, upd_same, fun D2 hD2 => ?_⟩⟩⟩
  refine dc_nm (fun i H' => H' D2 = some (.dK (dkm ((rows.map (·.n)).take i) fun n => .ref (u n).2.1)) ∧ Sm No (upd H1 D1 (.frz od (.dK (dkm (rows.map (·.n)) fun n => .ref (u n).1)))) H') ⟨by rw [List.take_zero]; exact upd_same, Sm.new hD2⟩ (fun i H' ⟨_, s⟩ => sm_frz s) ?_ ?_
  · rintro i n H3 hi ⟨h1, s3⟩
    have mn := List.mem_of_getElem? hi
    obtain ⟨r, hr', rfl⟩ := List.mem_map.mp mn
    obtain ⟨dx, e, m, ds, g1, g2, g3, g4⟩ := (((ur r hr').sm s1).put (o := .frz od (.dK (dkm (rows.map (·.n)) fun n => .ref (u n).1))) d1).sm s3
    refine ⟨rfl, _, rfl, _, rfl, _, rfl, D1, _, rfl, dget (.inr ⟨od, sm_frz s3⟩) mn, _, C, dx, _, _, rfl, g1, UC.c, UC.n2, rfl, _, .inr r.n, rfl, h1, dk_small GO.ln, ?_, s3.mut hD2 (ntbl_d h1)⟩
    rw [upd_same, put_take GO.nd hi rfl]
  rintro H3 ⟨h1, s3⟩
  rw [List.take_length] at h1
  refine ⟨sm_frz s3, ?_⟩
  have D21 : D2 ≠ D1 := fun z => by rw [z, upd_same] at hD2; cases hD2
  have s4 := sm_unlock d1 rfl s3
  have h4 : upd H3 D1 (.dK (dkm (rows.map (·.n)) fun n => .ref (u n).1)) D2 = some (.dK (dkm (rows.map (·.n)) fun n => .ref (u n).2.1)) := by rw [upd_ne D21]; exact h1
  dsimp only
  generalize upd H3 D1 (.dK (dkm (rows.map (·.n)) fun n => .ref (u n).1)) = H4 at s4 h4
  clear h1 s3
  have s14 := s1.trans s4
  have d4 := s4.dk (fun z => z) d1
  have ur4 := fun r hr => (ur r hr).sm s14
  refine ⟨D2, _, imF rows, fun n => (u n).2.1, rfl, h4, ⟨.inl h4, fun n m => ?_⟩, GO, fun m hm => ?_, fun hu hn H' s5 => ?_, fun hu o ho om ol H5 p s5 hp5 hp => ?_⟩
  · obtain ⟨r, hr', rfl⟩ := List.mem_map.mp m
    obtain ⟨dx, e, m, ds, g1, g2, g3, g4⟩ := ur4 r hr'
    rw [imF_of ndr hr']; exact g2
  · rw [link_unk hdup hm] at q
    exact nmX_sm s14 q
  · rw [List.length_map] at hn
    rw [link_ring hdup hu hn] at q
    exact q H' (s14.trans s5)
  rw [List.length_map] at ho
  rw [link_ok hdup hu ho] at q
  have ur5 := fun r hr => (ur4 r hr).sm s5
  have d5 := s5.dk (fun z => z) d4
  have s15 := s14.trans s5
  refine ⟨_, rfl, p, rfl, ⟨_, SqL.of hp⟩, fun L hL => ?_⟩
  refine walk_lc (xs := o.map V.str) (fun i H' => ∃ vs, H' L = some (.lst vs) ∧ Al (OuR H') vs (outF (dfF rows) (o.take i)) ∧ vs.length ≤ 3 * i ∧ Sm No H5 H') ⟨[], upd_same, by rw [List.take_zero]; exact Al.nil, Nat.zero_le _, Sm.new hL⟩ (fun i H' ⟨_, _, _, _, s⟩ => SqL.of (s.lst0 hp)) ?_ ?_
  · rintro i x H6 hi ⟨vs, h6, al6, lv, s6⟩
    obtain ⟨n, hn, rfl⟩ := map_get hi
    have il := (List.getElem?_eq_some_iff.mp hn).1
    have mn := om n (List.mem_of_getElem? hn)
    obtain ⟨r, hr', rfl⟩ := List.mem_map.mp mn
    obtain ⟨dx, e, m, ds, g1, g2, g3, g4⟩ := ur5 r hr'
    refine ⟨rfl, _, rfl, _, rfl, D1, _, rfl, dget (.inl (s6.dk (fun z => z) d5)) mn, _, C, dx, _, _, rfl, s6.keep _ _ (fun z => z) rfl g1, UC.c, UC.n5, rfl, _, rfl, ⟨_, SqL.of (s6.lst0 g3)⟩, ?_⟩
    refine walk_lc (xs := ds) (fun j H' => ∃ vs, H' L = some (.lst vs) ∧ Al (OuR H') vs (outF (dfF rows) (o.take i) ++ (r.df.take j).map fun d => (r.n, d.1, d.2)) ∧ vs.length ≤ 3 * i + j ∧ Sm No H5 H') ⟨vs, h6, by rw [List.take_zero]; simpa using al6, lv, s6⟩ (fun j H' ⟨_, _, _, _, s⟩ => SqL.of (s.lst0 g3)) ?_ ?_
    · rintro j x H7 hj ⟨ws, h7, al7, lw, s7⟩
      obtain ⟨⟨wd, k⟩, hd7, q7, c7, rfl, t7, t8⟩ := g4.2 j x hj
      have jl := (List.getElem?_eq_some_iff.mp hd7).1
      have t7' := s7.tup (fun z => z) t7
      have t8' := s7.tup (fun z => z) t8
      have ld := (O.2 r hr').ld
      have lo : o.length ≤ 8 := Nat.le_trans ol GO.ln
      refine ⟨q7, _, rfl, SqT.of t7', rfl, _, _, rfl, _, _, rfl, rfl, rfl, _, rfl, _, rfl, _, rfl, by show 3 ≤ sizeLine; decide, fun qn hqn => ?_⟩
      have s8 : Sm No H7 (upd H7 qn (.tup [.str r.n, .str wd, .ref c7])) := Sm.new hqn
      have h8 := s8.lst0 h7
      have qL : qn ≠ L := fun z => by rw [z, h7] at hqn; cases hqn
      have qc : c7 ≠ qn := fun z => by rw [← z, t8'] at hqn; cases hqn
      have cL : c7 ≠ L := fun z => by rw [z, h7] at t8'; cases t8'
      refine ⟨ws, h8, line_of (by omega), ws ++ [.ref qn], upd_same, ?_, by rw [List.length_append]; simp; omega, ?_⟩
      · have e1 : outF (dfF rows) (o.take i) ++ (r.df.take (j + 1)).map (fun d => (r.n, d.1, d.2)) = (outF (dfF rows) (o.take i) ++ (r.df.take j).map fun d => (r.n, d.1, d.2)) ++ [(r.n, wd, k)] := by
          rw [take_nx hd7, List.map_append, List.append_assoc]; rfl
        rw [e1]
        exact (al7.mono fun v y h => (h.sm s8).put h8).snoc ⟨qn, c7, rfl, by rw [upd_ne qL, upd_same], by rw [upd_ne cL, upd_ne qc]; exact t8'⟩
      · exact (s7.trans s8).mut hL (ntbl_l h8)
    · rintro H7 ⟨ws, h7, al7, lw, s7⟩
      rw [g4.len, List.take_length] at al7
      have ld := (O.2 r hr').ld
      rw [g4.len] at lw
      refine ⟨ws, h7, ?_, by omega, s7⟩
      have e1 : outF (dfF rows) (o.take (i + 1)) = outF (dfF rows) (o.take i) ++ r.df.map fun d => (r.n, d.1, d.2) := by
        unfold outF
        rw [take_nx hn, List.flatMap_append, List.flatMap_cons, List.flatMap_nil, List.append_nil, dfF_of ndr hr']
      rw [e1]; exact al7
  · rintro H6 ⟨vs, h6, al6, lv, s6⟩
    rw [List.length_map, List.take_length] at al6
    exact q H6 L vs (s15.trans s6) (s15.dom L hL) h6 al6
end
end My
namespace My
open PySem PySem.Spec PyProof.Rows L2
/-! results as data -/
def outD (x : Str × Str × Int) : PyData := .tuple [.str x.1, .str x.2.1, .tuple [.str "int", .int x.2.2]]
def datR : Rs → PyData
  | .dup n => .tuple [.str "duplicate", .str n]
  | .unk n => .tuple [.str "unknown", .str n]
  | .ring => .tuple [.str "ring", .str ""]
  | .linked l => .tuple [.str "linked", .list (l.map outD)]
def ResR (H : Hp) (v : V) : Rs → Prop
  | .dup n => ∃ p, v = .ref p ∧ H p = some (.tup [.str "duplicate", .str n])
  | .unk n => ∃ p, v = .ref p ∧ H p = some (.tup [.str "unknown", .str n])
  | .ring => ∃ p, v = .ref p ∧ H p = some (.tup [.str "ring", .str ""])
  | .linked l => ∃ p L vs, v = .ref p ∧ H p = some (.tup [.str "linked", .ref L]) ∧ H L = some (.lst vs) ∧ Al (OuR H) vs l
theorem ResR.sm {H H' : Hp} {v : V} {r : Rs} (h : ResR H v r) (e : Sm No H H') : ResR H' v r := by
  cases r with
  | dup n => exact let ⟨p, a, b⟩ := h; ⟨p, a, e.tup (fun z => z) b⟩
  | unk n => exact let ⟨p, a, b⟩ := h; ⟨p, a, e.tup (fun z => z) b⟩
  | ring => exact let ⟨p, a, b⟩ := h; ⟨p, a, e.tup (fun z => z) b⟩
  | linked l => exact let ⟨p, L, vs, a, b, c, d⟩ := h; ⟨p, L, vs, a, e.tup (fun z => z) b, e.lst0 c, d.mono fun _ _ q => q.sm e⟩
section
variable {K : PySem.W.Frag}
theorem dpAll_of {α : Type} {H : Hp} {R : V → α → Prop} {f : α → PyData} (hR : ∀ v x, R v x → Dp K H v (f x)) : ∀ {vs : List V} {xs : List α}, Al R vs xs → DpAll K H vs (xs.map f)
  | [], [], _ => .nil
  | [], _ :: _, h => by have := h.1; simp at this
  | _ :: _, [], h => by have := h.1; simp at this
  | v :: vs, x :: xs, h => by
    obtain ⟨y, hy, r⟩ := h.2 0 v rfl
    have e : x = y := by simpa using hy
    subst e
    exact .cons (hR v x r) (dpAll_of hR ⟨by have := h.1; simpa using this, fun i u q => by
      obtain ⟨z, hz, rz⟩ := h.2 (i + 1) u (by simpa using q)
      exact ⟨z, by simpa using hz, rz⟩⟩)
theorem OuR.dp {H : Hp} {v : V} {x : Str × Str × Int} (h : OuR H v x) : Dp K H v (outD x) := by
  obtain ⟨p, c, rfl, h2, h3⟩ := h
  exact .tup (SqT.of h2) (.cons (.str _) (.cons (.str _) (.cons (.tup (SqT.of h3) (.cons (.str _) (.cons (.int _) .nil))) .nil)))
theorem ResR.dp {H : Hp} {v : V} {r : Rs} (h : ResR H v r) : Dp K H v (datR r) := by
  cases r with
  | dup n => obtain ⟨p, rfl, b⟩ := h; exact .tup (SqT.of b) (.cons (.str _) (.cons (.str _) .nil))
  | unk n => obtain ⟨p, rfl, b⟩ := h; exact .tup (SqT.of b) (.cons (.str _) (.cons (.str _) .nil))
  | ring => obtain ⟨p, rfl, b⟩ := h; exact .tup (SqT.of b) (.cons (.str _) (.cons (.str _) .nil))
  | linked l =>
    obtain ⟨p, L, vs, rfl, b, c, d⟩ := h
    exact .tup (SqT.of b) (.cons (.str _) (.cons (.lst (SqL.of c) (dpAll_of (fun _ _ r => r.dp) d)) .nil))
theorem dpAll_str {H : Hp} : ∀ {xs : List Str}, DpAll K H (xs.map V.str) (xs.map PyData.str)
  | [] => .nil
  | _ :: _ => .cons (.str _) dpAll_str
end
def RsOk : Rs → Prop
  | .dup n => PyData.strOk n = true
  | .unk n => PyData.strOk n = true
  | .ring => True
  | .linked l => ∀ x ∈ l, PyData.strOk x.1 = true ∧ PyData.strOk x.2.1 = true
theorem lay_str : ∀ {xs : List Str}, (∀ x ∈ xs, PyData.strOk x = true) → PyData.canLayAll0 (xs.map PyData.str) = true
  | [], _ => by unfold PyData.canLayAll0; rfl
  | x :: r, h => by
    rw [List.map_cons]
    unfold PyData.canLayAll0
    rw [lay_str fun y m => h y (List.mem_cons_of_mem _ m)]
    unfold PyData.canLay0
    rw [h x List.mem_cons_self]
    rfl
theorem dep_str : ∀ {xs : List Str}, PyData.depthAll (xs.map PyData.str) ≤ 1
  | [] => by unfold List.map PyData.depthAll; omega
  | x :: r => by
    have := dep_str (xs := r)
    rw [List.map_cons]
    unfold PyData.depthAll
    unfold PyData.depth
    omega
theorem shaped_strs {xs : List Str} (h : ∀ x ∈ xs, PyData.strOk x = true) : SeqAt.shaped (.list (xs.map PyData.str)) = true := by
  unfold SeqAt.shaped
  rw [show PyData.canLay0 (.list (xs.map PyData.str)) = true by unfold PyData.canLay0; exact lay_str h]
  have := dep_str (xs := xs)
  rw [decide_eq_true (by unfold PyData.depth; omega)]
  rfl
theorem shaped_no : SeqAt.shaped (.list []) = true := by decide +kernel
theorem eqv_no {xs : List Str} : PyData.eqv (.list (xs.map PyData.str)) (.list []) = xs.isEmpty := by
  cases xs with
  | nil => unfold List.map PyData.eqv PyData.eqvAll; rfl
  | cons x r => unfold List.map PyData.eqv PyData.eqvAll; rfl
theorem outD_lay {x : Str × Str × Int} (h1 : PyData.strOk x.1 = true) (h2 : PyData.strOk x.2.1 = true) : PyData.canLay0 (outD x) = true := by
  have h3 : PyData.strOk "int" = true := by decide +kernel
  simp only [outD, PyData.canLay0, PyData.canLayAll0, h1, h2, h3, Bool.and_true]
theorem outD_dep {x : Str × Str × Int} : PyData.depth (outD x) ≤ 10 := by
  simp only [outD, PyData.depth, PyData.depthAll]
  omega
theorem outs_lay : ∀ {l : List (Str × Str × Int)}, (∀ x ∈ l, PyData.strOk x.1 = true ∧ PyData.strOk x.2.1 = true) → PyData.canLayAll0 (l.map outD) = true
  | [], _ => by unfold List.map PyData.canLayAll0; rfl
  | x :: r, h => by
    rw [List.map_cons]
    unfold PyData.canLayAll0
    rw [outs_lay fun y m => h y (List.mem_cons_of_mem _ m), outD_lay (h x List.mem_cons_self).1 (h x List.mem_cons_self).2]
    rfl
theorem outs_dep : ∀ {l : List (Str × Str × Int)}, PyData.depthAll (l.map outD) ≤ 10
  | [] => by unfold List.map PyData.depthAll; omega
  | x :: r => by
    have h1 := outs_dep (l := r)
    have h2 := outD_dep (x := x)
    rw [List.map_cons]
    unfold PyData.depthAll
    omega
theorem datR_lay {r : Rs} (h : RsOk r) : PyData.canLay0 (datR r) = true := by
  have h1 : PyData.strOk "duplicate" = true := by decide +kernel
  have h2 : PyData.strOk "unknown" = true := by decide +kernel
  have h3 : PyData.strOk "ring" = true := by decide +kernel
  have h4 : PyData.strOk "linked" = true := by decide +kernel
  have h5 : PyData.strOk "" = true := by decide +kernel
  cases r with
  | dup n => have h : PyData.strOk n = true := h; simp only [datR, PyData.canLay0, PyData.canLayAll0, h1, h, Bool.and_true]
  | unk n => have h : PyData.strOk n = true := h; simp only [datR, PyData.canLay0, PyData.canLayAll0, h2, h, Bool.and_true]
  | ring => simp only [datR, PyData.canLay0, PyData.canLayAll0, h3, h5, Bool.and_true]
  | linked l => simp only [datR, PyData.canLay0, PyData.canLayAll0, h4, outs_lay h, Bool.and_true]
theorem datR_shaped {r : Rs} (h : RsOk r) : SeqAt.shaped (datR r) = true := by
  unfold SeqAt.shaped
  rw [datR_lay h]
  have : PyData.depth (datR r) ≤ 60 := by
    cases r with
    | dup n => simp only [datR, PyData.depth, PyData.depthAll]; omega
    | unk n => simp only [datR, PyData.depth, PyData.depthAll]; omega
    | ring => simp only [datR, PyData.depth, PyData.depthAll]; omega
    | linked l =>
      have := outs_dep (l := l)
      simp only [datR, PyData.depth, PyData.depthAll]; omega
  rw [decide_eq_true (by omega)]
  rfl
theorem datR_refl {r : Rs} (h : RsOk r) : PyData.eqv (datR r) (datR r) = true := SeqAt.eqv_refl _ (datR_lay h)
theorem filt_take {α : Type} {l : List α} {i : Nat} {x : α} {f : α → Bool} (h : l[i]? = some x) : (l.take (i + 1)).filter f = (l.take i).filter f ++ if f x = true then [x] else [] := by
  rw [take_nx h, List.filter_append]
  congr 1
  by_cases e : f x = true
  · rw [if_pos e, List.filter_cons_of_pos e]; rfl
  · rw [if_neg e, List.filter_cons_of_neg e]; rfl
theorem inV_str {x : Str} {xs : List Str} : inV (.str x) (xs.map V.str) = xs.contains x := by
  unfold inV
  rw [List.any_map]
  induction xs with
  | nil => rfl
  | cons y r ih =>
    rw [List.any_cons, List.contains_cons, ih]
    congr 1
    show (y == x) = (x == y)
    rw [Bool.eq_iff_iff, beq_iff_eq, beq_iff_eq]
    exact ⟨Eq.symm, Eq.symm⟩
theorem flat_str {xs : List Str} : (xs.map V.str).all flatV = true := by
  rw [List.all_map]
  exact List.all_eq_true.mpr fun x _ => rfl
theorem none_left {done : List Str} : ∀ {l : List Str}, (l.filter fun i => !(done.contains i)).isEmpty = l.all fun i => done.contains i
  | [] => rfl
  | x :: r => by
    have ih := none_left (done := done) (l := r)
    rw [List.all_cons]
    cases e : done.contains x with
    | true => rw [List.filter_cons_of_neg (by rw [e]; decide), ih, Bool.true_and]
    | false => rw [List.filter_cons_of_pos (by rw [e]; rfl)]; rfl
theorem rdy_filter {im : Str → List Str} {done : List Str} {l : List Str} : ((l.filter fun n => !(done.contains n)).filter fun n => (im n).all fun i => done.contains i) = l.filter (rdyB im done) := by
  rw [List.filter_filter]
  refine List.filter_congr fun n _ => ?_
  unfold rdyB
  rw [Bool.and_comm]
theorem find_filter {p : Str → Bool} : ∀ {l : List Str}, l.find? p = (l.filter p).head?
  | [] => rfl
  | x :: r => by
    by_cases e : p x = true
    · rw [List.find?_cons_of_pos e, List.filter_cons_of_pos e]; rfl
    · rw [List.find?_cons_of_neg e, List.filter_cons_of_neg e]; exact find_filter
theorem at0 {x : V} {l : List V} : atI (x :: l) 0 = some x := by
  unfold atI
  rw [show ixN (x :: l).length 0 = some 0 by
    unfold ixN
    rw [if_pos (by decide)]
    simp]
  rfl
theorem rowF_some {rows : List Rw} {n : Str} {r : Rw} (h : rowF rows n = some r) : r ∈ rows ∧ r.n = n := by
  unfold rowF at h
  exact ⟨List.mem_of_find?_eq_some h, by have := List.find?_some h; simpa using this⟩
theorem dup_mem : ∀ {rows : List Rw} {seen : List Str} {n : Str}, dupF seen rows = some n → ∃ r ∈ rows, r.n = n
  | [], _, _, h => by cases h
  | r :: rs, seen, n, h => by
    unfold dupF at h
    by_cases q : seen.contains r.n = true
    · rw [if_pos q] at h; cases h; exact ⟨r, List.mem_cons_self, rfl⟩
    · rw [if_neg q] at h
      obtain ⟨p, hp, e⟩ := dup_mem h
      exact ⟨p, List.mem_cons_of_mem _ hp, e⟩
theorem link_rsok {rows : List Rw} (O : RwsOk rows) : RsOk (linkF rows) := by
  unfold linkF
  cases hd : dupF [] rows with
  | some n =>
    obtain ⟨r, hr, rfl⟩ := dup_mem hd
    exact (O.2 r hr).n.2
  | none =>
    cases hu : unkF (rows.map (·.n)) (imF rows) with
    | some m =>
      unfold unkF at hu
      obtain ⟨c, hc, hm⟩ := List.mem_flatMap.mp (List.mem_of_find?_eq_some hu)
      unfold imF at hm
      cases e : rowF rows c with
      | none => rw [e] at hm; cases hm
      | some r => rw [e] at hm; exact ((O.2 r (rowF_some e).1).zi m hm).2
    | none =>
      cases ho : ordF (rows.map (·.n)) (imF rows) rows.length [] with
      | none => exact True.intro
      | some o =>
        intro x hx
        obtain ⟨n, hn, hx⟩ := List.mem_flatMap.mp hx
        obtain ⟨d, hd2, rfl⟩ := List.mem_map.mp hx
        unfold dfF at hd2
        cases e : rowF rows n with
        | none => rw [e] at hd2; cases hd2
        | some r =>
          rw [e] at hd2
          obtain ⟨mr, en⟩ := rowF_some e
          exact ⟨by rw [← en]; exact (O.2 r mr).n.2, ((O.2 r mr).zd d hd2).2⟩
end My
namespace My
open PySem PySem.Spec PyProof.Rows L2
/-! several clauses 'except x as n', n the same slot in each -/
def wMas (K : PySem.W.Frag) (i : Nat) (Wout : WX) (D : Ends) : List (Value × (Addr → Value → Option Addr → TS)) → WX
  | [] => Wout
  | (c, ts) :: r => fun cls d σ H => ∃ b, PySem.W.exmOne K cls c = some b ∧ (b = true → ∀ a, H a = none → ts a cls d { nx := fun σ' H' => D.nx (σ'.set i none) H', rt := D.rt, bk := fun σ' H' => D.bk (σ'.set i none) H', ct := fun σ' H' => D.ct (σ'.set i none) H' } (σ.set i (some (.ref a))) H) ∧
    (b = false → wMas K i Wout D r cls d σ H)
inductive HdsAs (X : Cx) (n : Str) : List ExceptHandler → List (Value × (Addr → Value → Option Addr → TS)) → Prop
  | nil : HdsAs X n [] []
  | cons {x : Str} {c : Value} {ts : Addr → Value → Option Addr → TS} {b₀ : Stmt} {suite : List Stmt} {np pos' : Pos} {hds : List ExceptHandler} {l : List (Value × (Addr → Value → Option Addr → TS))} (hc : Names X x c)
      (hsu : ∀ (a : Addr) (oe : Obj) (cls : Value) (d : Option Addr) (pn : List (Addr × Obj)), Zc cls d oe → (∃ vs, oe.data = .fields vs) → PSs (X.suite a ((a, oe) :: pn)) (b₀ :: suite) (ts a cls d)) (r : HdsAs X n hds l) :
      HdsAs X n (.ExceptHandler (some (.Name x np)) (some n) (b₀ :: suite) pos' :: hds) ((c, ts) :: l)
section
variable {X : Cx} {n : Str} {i : Nat} {body : List Stmt} {h₀ : ExceptHandler} {hds : List ExceptHandler} {l : List (Value × (Addr → Value → Option Addr → TS))} {pos : Pos} {tb : WX → TS} {Wout : WX}
theorem ps_try_mas (hs : X.stack = X.env :: X.outer) (hf : X.env.frame = some X.env.locals) (hN : X.N.Nodup) (hi : X.N[i]? = some n) (hln : X.env.kindOf n = some .local) (tk : Takes X Wout)
    (hb : ∀ (W : WX) (pn : List (Addr × Obj)) (xe : Value → Shared → Prop), Takes (X.tr pn xe) W → PassesOwn (model X.prog X.w) X.A X.env xe → PSs (X.tr pn xe) body (tb W))
    (hh : HdsAs X n (h₀ :: hds) l) : PS X (.Try body (h₀ :: hds) [] [] pos) (fun D σ H => tb (wMas X.K i Wout D l) D σ H) := by
  refine ⟨fun pins s σ H D I h => ?_⟩
  have ok := I.ok
  have hfr : X.A.frames = some (X.env :: X.outer) := by rw [ok.frames, hs]
  have hloc : Loc X.env.scope n := .inl hln
  refine wpAny_Try_except ?_
  refine wpAny_mono ((hb (wMas X.K i Wout D l) (X.pn ++ pins) (fun e s₁ => wpAny (model X.prog X.w) X.A (noteFrame e X.env) (fun _ s₂ => wpAny (model X.prog X.w) X.A (setFlight e none) (fun _ s₃ =>
    wpAny (model X.prog X.w) X.A (handleBy e X.env (h₀ :: hds)) (SP X pins D) X.xe s₃) X.xe s₂) X.xe s₁) (fun u s' xx => ?_) PassesOwn.looking).run [] s σ H D (I.toTry _) h) (fun f s1 hsp => ?_) (fun e s1 he => he)
  · obtain ⟨a, B, sI, pins', σ', H', cls, d, rfl, J', nb, up, sky, na, os, ag, w⟩ := xx
    have J : Inv X pins σ' H' sI := J'.ofTry ok
    have sky' : Sky B (X.env :: X.outer) a (Zc cls d) X.env.locals s'.heap := by rw [← hs]; exact sky
    show wpAny (model X.prog X.w) X.A (noteFrame (.ref a) X.env) _ _ _
    refine Sky.land Zc.steady hfr hf sky' fun h3 fl3 up3 => ?_
    have J3 : Inv X pins σ' H' { s' with heap := h3 } := J.landed nb fl3.1 (up.trans up3) os ag
    obtain ⟨oe3, vs3, he3, hz3, hd3⟩ := fl3.there
    have nfr : a ∉ frs (X.env :: X.outer) := fun hm => by
      obtain ⟨_, o', e', hnf⟩ := fl3.2.2.1.mem hm
      rw [he3] at e'; cases e'
      exact hnf _ hd3
    have nL : a ≠ X.env.locals := fun z => nfr (List.mem_filterMap.mpr ⟨X.env, List.mem_cons_self, by rw [hf, z]⟩)
    have nF : a ∉ X.fs := fun hm => by
      obtain ⟨e, he, q⟩ := List.mem_filterMap.mp hm
      exact nfr (List.mem_filterMap.mpr ⟨e, List.mem_cons_of_mem _ he, q⟩)
    have S3 := J3.suite he3 hd3 na nL nF
    have go : ∀ {hds' : List ExceptHandler} {l' : List (Value × (Addr → Value → Option Addr → TS))}, HdsAs X n hds' l' → wMas X.K i Wout D l' cls d σ' H' →
        wpAny (model X.prog X.w) X.A (handleBy (.ref a) X.env hds') (SP X pins D) X.xe { s' with heap := h3 } := by
      intro hds' l' hk
      induction hk with
      | nil =>
        intro w
        refine wpAny_handleBy_nil ?_
        obtain ⟨k1, k2, k3, oe, vs, T, oT, ts', he, hz, hd, h1, hr⟩ := id fl3
        unfold PySem.passOn
        refine wpAny_bind (wpAny_field he hd h1 ?_)
        rw [if_neg (show ¬ ((Value.ref T == Value.none) = true) from by simp)]
        have fin : wpAny (model X.prog X.w) X.A (setFlight (.ref a) X.env.frame) (fun _ s4 => wpAny (model X.prog X.w) X.A (throw (.ref a) : Sem Flow) (SP X pins D) X.xe s4) X.xe { s' with heap := h3 } := by
          rw [hf]
          refine HandSPX.setFlight_upZ fl3 fun h4 hh4 up4 => wpAny_throw (tk _ _ ?_)
          exact ⟨a, B, sI, pins, σ', H', cls, d, rfl, J, nb, (up.trans up3).trans up4, .inr (.inr (by rw [hs]; exact hh4)), na, os, ag, w⟩
        first
          | exact wpAny_bind (wpAny_pure (wpAny_bind fin))
          | exact wpAny_bind fin
      | @cons x c ts b₀ suite np pos' hds2 l2 hc hsu r ih =>
        intro w
        obtain ⟨b, hb1, hyes, hno⟩ := w
        refine wpAny_handleBy_cons (codeAny_handlers_test ?_) (by intro q; cases q)
        have LT : PySem.W.Looks (model X.prog X.w) h3 (typeOf (.ref a)) cls := fun A Q E s k q => wpAny_typeOf_ref (k _ _ he3) (by rw [hz3.1]; exact q)
        have LM := PySem.W.exm_one (M := model X.prog X.w) (J3.kIn) LT hb1
        have test : ∀ {Q : Value → Shared → Prop} {E : Value → Shared → Prop}, Q c { s' with heap := h3 } → wpAny (model X.prog X.w) (X.A.mark (some (.ref a))) (eval (.Name x np) X.env) Q E { s' with heap := h3 } := fun {Q E} q => by
          obtain ⟨hg, hdbg, hm | ⟨hm, hv, hnn⟩⟩ := hc
          · exact ld_glob (X := X.suite a ((a, oe3) :: (X.pn ++ pins))) S3 hg hm q hdbg
          · exact ld_blt (X := X.suite a ((a, oe3) :: (X.pn ++ pins))) S3 hg hm hv q hnn hdbg
        refine test (LM.here ?_)
        cases b with
        | true =>
          refine codeAny_handlers_suite_as ?_
          refine HandSPX.lands_againZ fl3 fun h4 fl4 up4 => ?_
          have J4 : Inv X pins σ' H' { s' with heap := h4 } := J.landed nb fl4.1 ((up.trans up3).trans up4) os ag
          obtain ⟨oe4, vs4, he4, hz4, hd4⟩ := fl4.there
          have S4 := J4.suite he4 hd4 na nL nF
          refine store_ok (X := X.suite a ((a, oe4) :: (X.pn ++ pins))) (v := .ref a) S4 hN hi hloc rfl (fun s5 S5 => ?_) (.inr hln)
          refine wpAny_mono ((hsu a oe4 cls d (X.pn ++ pins) hz4 ⟨_, hd4⟩).run [] s5 _ H' _ S5 (hyes rfl a na)) (fun f s6 hsp => ?_) (fun _ _ z => False.elim z)
          have end_ : ∀ {σ6 : L2.St} {H6 : Hp} {Q : Shared → Prop}, Inv (X.suite a ((a, oe4) :: (X.pn ++ pins))) [] σ6 H6 s6 → (∀ s7, Inv X pins (σ6.set i none) H6 s7 → Q s7) →
              wpAny (model X.prog X.w) X.A (do bindName X.env n .none; unbindBehindTheSuite X.env n pos') (fun _ s7 => Q s7) X.xe s6 := fun {σ6 H6 Q} S6 hq => gone_ok (S6.unsuite ok) hN hi hln hq
          cases f with
          | next =>
            obtain ⟨σ6, H6, S6, q6⟩ := hsp
            exact end_ S6 fun s7 J7 => ⟨_, _, J7, q6⟩
          | brk =>
            obtain ⟨σ6, H6, S6, q6⟩ := hsp
            exact end_ S6 fun s7 J7 => ⟨_, _, J7, q6⟩
          | cont =>
            obtain ⟨σ6, H6, S6, q6⟩ := hsp
            exact end_ S6 fun s7 J7 => ⟨_, _, J7, q6⟩
          | ret u =>
            obtain ⟨v6, σ6, H6, S6, r6, q6⟩ := hsp
            exact end_ S6 fun s7 J7 => ⟨_, _, _, J7, r6, q6⟩
        | false =>
          show wpAny _ X.A (handleBy (.ref a) X.env hds2) _ _ _
          exact ih (hno rfl)
    exact go hh w
  · cases f with
    | next =>
      obtain ⟨σ', H', J', q⟩ := hsp
      exact wpAny_execs_nil ⟨σ', H', J'.ofTry ok, q⟩
    | brk =>
      obtain ⟨σ', H', J', q⟩ := hsp
      exact ⟨σ', H', J'.ofTry ok, q⟩
    | cont =>
      obtain ⟨σ', H', J', q⟩ := hsp
      exact ⟨σ', H', J'.ofTry ok, q⟩
    | ret u =>
      obtain ⟨v, σ', H', J', r, q⟩ := hsp
      exact ⟨v, σ', H', J'.ofTry ok, r, q⟩
end
/-- list(x), where the reading must be told -/
def rListOf (K : PySem.W.Frag) : List V → Hp → VK → Prop := fun xs H Q => ∃ p ys, xs = [.ref p] ∧ (SqL K H p ys ∨ SqT K H p ys) ∧ ∀ l, H l = none → Q (.ref l) (upd H l (.lst ys))
end My
namespace My
open PySem PySem.Spec PyProof.Rows L2 TL
/-! ### _law_due -/
/-- a row: (name, imports, definitions) -/
def RowR (H : Hp) (v : V) (r : Rw) : Prop := ∃ (t a b : Addr) (ds : List V), v = .ref t ∧ H t = some (.tup [.str r.n, .ref a, .ref b]) ∧ H a = some (.lst (r.im.map V.str)) ∧ H b = some (.lst ds) ∧ Al (DfR H) ds r.df
theorem RowR.sm {H H' : Hp} {v : V} {r : Rw} (h : RowR H v r) (e : Sm No H H') : RowR H' v r :=
  let ⟨t, a, b, ds, h1, h2, h3, h4, h5⟩ := h
  ⟨t, a, b, ds, h1, e.tup (fun z => z) h2, e.lst0 h3, e.lst0 h4, h5.mono fun _ _ d => d.sm e⟩
/-- its entry in the table: (imports, definitions) -/
def TabA (H : Hp) (p : Addr × Addr × Addr) (r : Rw) : Prop := ∃ ds : List V, H p.1 = some (.tup [.ref p.2.1, .ref p.2.2]) ∧ H p.2.1 = some (.lst (r.im.map V.str)) ∧ H p.2.2 = some (.lst ds) ∧ Al (DfR H) ds r.df
theorem TabA.sm {H H' : Hp} {p : Addr × Addr × Addr} {r : Rw} (h : TabA H p r) (e : Sm No H H') : TabA H' p r :=
  let ⟨ds, h1, h2, h3, h4⟩ := h
  ⟨ds, e.tup (fun z => z) h1, e.lst0 h2, e.lst0 h3, h4.mono fun _ _ d => d.sm e⟩
theorem TabA.put {H : Hp} {p : Addr × Addr × Addr} {r : Rw} {d : Addr} {kvs : List (Key × V)} {o : HO} (h : TabA H p r) (hd : H d = some (.dK kvs)) : TabA (upd H d o) p r := by
  obtain ⟨ds, h1, h2, h3, h4⟩ := h
  have ne : ∀ {b : Addr} {u : HO}, H b = some u → (∀ k, u ≠ .dK k) → b ≠ d := fun {b u} e n z => by rw [z, hd] at e; exact n _ (Option.some.inj e).symm
  refine ⟨ds, by rw [upd_ne (ne h1 fun k z => nomatch z)]; exact h1, by rw [upd_ne (ne h2 fun k z => nomatch z)]; exact h2, by rw [upd_ne (ne h3 fun k z => nomatch z)]; exact h3, h4.mono fun v y ⟨q, c, e1, e2, e3⟩ => ⟨q, c, e1, ?_, ?_⟩⟩
  · rw [upd_ne (ne e2 fun k z => nomatch z)]; exact e2
  · rw [upd_ne (ne e3 fun k z => nomatch z)]; exact e3
abbrev sDue : Stmt := top 17
abbrev NDu : List Str := ["rows", "table", "name", "imports", "definitions", "needed", "done", "found", "turn", "ready", "one", "core"]
def spDue : Sp := fun vs H Q _ => ∃ (a : Addr) (us : List V) (rows : List Rw), vs = [.ref a] ∧ H a = some (.lst us) ∧ Al (RowR H) us rows ∧ RwsOk rows ∧ ∀ v H', Sm No H H' → ResR H' v (linkF rows) → Q v H'
section
variable {P : Program} {w : World} {K : PySem.W.Frag} {mg : Str → Option Value} {base : Heap}
theorem scDue : FnScope NDu ["rows"] (defScope sDue) := ⟨rfl, rfl, rfl, by decide +kernel, rfl, by decide +kernel, by decide +kernel⟩
theorem ok_due {f : Addr} {fd : FuncData} (F : Fun K "_law_due" "_law_due" sDue f fd) (B : Blt mg) : FnOk P w K mg base CX0 1 f fd ["rows"] spDue := by
  refine F.ok scDue (fun vs H Q E h => ?_) (fun cdv A outer s H vs Q E hr h => ?_)
  · obtain ⟨a, us, rows, rfl, _⟩ := h
    rfl
  obtain ⟨a, us, rows, rfl, ha, al, O, q⟩ := h
  have nd := scDue.nd
  have hu := units1 hr.units
  refine ⟨_, (pss_cons (ps_set (i := 1) nd rfl (Or.inr rfl) pe_dnewK)
    (pss_cons (ps_for PassesOwn.never rfl (pi_list (pv 0)) (pg_tup rfl (pgs_cons (pg_name (i := 2) nd rfl (Or.inl rfl)) (pgs_cons (pg_name (i := 3) nd rfl (Or.inl rfl)) (pgs_cons (pg_name (i := 4) nd rfl (Or.inl rfl)) pgs_nil))))
      (pss_cons (ps_if (pt_cmp (pc_din hu (pv 2) (pv 1))) (pss_one (ps_ret (pe_tup (pa_cons pe_str (pa_cons (pv 2) pa_nil))))) pss_nil)
      (pss_one (ps_dput hu (pv 1) (pv 2) (pe_tup (pa_cons (pv 3) (pa_cons (pv 4) pa_nil))) rfl))))
    (pss_cons (ps_for PassesOwn.never rfl (pi_list (pe_callB (call_sortedD rfl) (by rfl) B.sorted (by decide +kernel) (pa_cons (pv 1) pa_nil))) (pg_name (i := 2) nd rfl (Or.inl rfl))
      (pss_one (ps_for PassesOwn.never rfl (pi_list (pe_ix (r := rIxT K) ix_tup (pe_dget hu (pv 1) (pv 2) (fun _ _ => rfl)) pe_int (fun _ _ => rfl))) (pg_name (i := 5) nd rfl (Or.inl rfl))
        (pss_one (ps_if (pt_cmp (pc_dnotin hu (pv 5) (pv 1))) (pss_one (ps_ret (pe_tup (pa_cons pe_str (pa_cons (pv 5) pa_nil))))) pss_nil)))))
    (pss_cons (ps_set (i := 6) nd rfl (Or.inr rfl) (pe_lst pa_nil))
    (pss_cons (ps_set (i := 7) nd rfl (Or.inl rfl) (pe_lst pa_nil))
    (pss_cons (ps_for PassesOwn.never rfl (pi_range1 (by rfl) B.range (pa_cons (pe_callB call_lenD (by rfl) B.len PySem.boot_len (pa_cons (pv 1) pa_nil)) pa_nil)) (pg_name (i := 8) nd rfl (Or.inl rfl))
      (pss_cons (ps_set (i := 9) nd rfl (Or.inr rfl) (pe_lc (own := [("name", 2)]) (g := gName 2) rfl nd (pi_list (pe_callB (call_sortedD rfl) (by rfl) B.sorted (by decide +kernel) (pa_cons (pv 1) pa_nil))) (blkOk_by (N := NDu) (sc := defScope sDue) (by decide +kernel)) (fun _ _ _ _ _ => (pg_name (i := 2) nd rfl (Or.inl rfl) (hf := Or.inr rfl))) (fun _ _ _ _ _ => pts_one (pt_cmpR (r := rIn K true) op_notIn_seq (pv 2) (pv 6) (by rfl))) (fun _ _ _ _ _ => (pv 2))))
      (pss_cons (ps_set (i := 9) nd rfl (Or.inr rfl) (pe_lc (own := [("name", 2)]) (g := gName 2) rfl nd (pi_list (pv 9)) (blkOk_by (N := NDu) (sc := defScope sDue) (by decide +kernel)) (fun _ _ _ _ _ => (pg_name (i := 2) nd rfl (Or.inl rfl) (hf := Or.inr rfl))) (fun _ _ _ _ _ => pts_one (pt_cmpR (r := rEqD K) (op_eqD hr.units) (pe_lc (own := [("one", 10)]) (g := gName 10) rfl nd (pi_listK (K := K) rfl (pe_ix (r := rIxT K) ix_tup (pe_dget hu (pv 1) (pv 2) (fun _ _ => rfl)) pe_int (fun _ _ => rfl))) (blkOk_by (N := NDu) (by kernel_rfl)) (fun _ _ _ _ _ => (pg_name (i := 10) nd rfl (Or.inl rfl) (hf := Or.inr rfl))) (fun _ _ _ _ _ => pts_one (pt_cmpR (r := rIn K true) op_notIn_seq (pv 10) (pv 6) (by rfl))) (fun _ _ _ _ _ => (pv 10))) (pe_lst pa_nil) (nomark _))) (fun _ _ _ _ _ => (pv 2))))
      (pss_cons (ps_if (pt_cmpR (op_eqD hr.units) (pv 9) (pe_lst pa_nil) (nomark _)) (pss_one (ps_ret (pe_tup (pa_cons pe_str (pa_cons pe_str pa_nil))))) pss_nil)
      (pss_cons (ps_expr (pe_bm PySem.F.plainAttrs_list PySem.F.slot_list_append PySem.F.type_list_append mt_append (pv 6) (pa_cons (pe_ix (r := rIxL K) ix_list (pv 9) pe_int (fun _ _ => rfl)) pa_nil)))
      (pss_one (ps_set (i := 7) nd rfl (Or.inl rfl) (pe_op op_cat (pv 7) (pe_lc (own := [("name", 2), ("core", 11)]) (g := gTup K 2 (gCons (gName 2) (gCons (gName 11) gNil))) (tt := tYes) rfl nd (pi_list (pe_ix (r := rIxT K) ix_tup (pe_dget hu (pv 1) (pe_ix (r := rIxL K) ix_list (pv 9) pe_int (fun _ _ => rfl)) (fun _ _ => rfl)) pe_int (fun _ _ => rfl))) (blkOk_by (N := NDu) (sc := defScope sDue) (by decide +kernel)) (fun _ _ _ _ _ => (pg_tup rfl (pgs_cons (pg_name (i := 2) nd rfl (Or.inl rfl) (hf := Or.inr rfl)) (pgs_cons (pg_name (i := 11) nd rfl (Or.inl rfl) (hf := Or.inr rfl)) pgs_nil)))) (fun _ _ _ _ _ => pts_nil) (fun _ _ _ _ _ => (pe_tup (pa_cons (pe_ix (r := rIxL K) ix_list (pv 9) pe_int (fun _ _ => rfl)) (pa_cons (pv 2) (pa_cons (pv 11) pa_nil))))))))))))))
    (pss_one (ps_ret (pe_tup (pa_cons pe_str (pa_cons (pv 7) pa_nil))))))))))), ?_⟩
  intro T hT
  have s0 : Sm No H (upd H T (.dK [])) := Sm.new hT
  refine ⟨_, rfl, a, rfl, ⟨_, SqL.of (s0.lst0 ha)⟩, ?_⟩
  refine for_list (xs := us) (fun i σ H' => ∃ (v2 v3 v4 : Option V) (u : Str → Addr × Addr × Addr), σ = [some (.ref a), some (.ref T), v2, v3, v4, none, none, none, none, none, none, none] ∧ H' T = some (.dK (dkm ((rows.take i).map (·.n)) fun n => .ref (u n).1)) ∧
    (∀ r ∈ rows.take i, TabA H' (u r.n) r) ∧ ((rows.take i).map (·.n)).Nodup ∧ Sm No H H')
    ⟨none, none, none, fun _ => (0, 0, 0), rfl, by rw [List.take_zero]; exact upd_same, by simp, by simp, s0⟩ (fun i σ H' _ ⟨_, _, _, _, _, _, _, _, s⟩ => SqL.of (s.lst0 ha)) ?_ ?_
  · rintro i x σ H1 hi ⟨v2, v3, v4, u, rfl, d1, ur, ndi, s1⟩
    obtain ⟨r, hri, hrr⟩ := al.2 i x hi
    obtain ⟨t, ia, db, ds, rfl, g1, g2, g3, g4⟩ := hrr.sm s1
    obtain ⟨o, dg, eo⟩ := dget0 (n := r.n) (.inl d1)
    refine ⟨t, _, rfl, SqT.of g1, rfl, _, _, rfl, _, _, rfl, _, _, rfl, rfl, ?_⟩
    refine ⟨_, rfl, _, rfl, T, o, rfl, dg, ?_⟩
    have mr := List.mem_of_getElem? hri
    by_cases hc : r.n ∈ (rows.take i).map (·.n)
    · rw [eo, List.contains_iff_mem.mpr hc]
      refine ⟨_, rfl, iteT ?_⟩
      rw [link_dup (dup_at hri ndi (fun _ _ z => nomatch z) (.inr hc))] at q
      exact ⟨_, rfl, by show 2 ≤ sizeLine; decide, fun p hp => q _ _ (s1.trans (Sm.new hp)) ⟨p, rfl, upd_same⟩⟩
    · rw [eo, show ((rows.take i).map (·.n)).contains r.n = false by cases q : ((rows.take i).map (·.n)).contains r.n with | false => rfl | true => exact absurd (List.contains_iff_mem.mp q) hc]
      refine ⟨_, rfl, iteF ?_⟩
      have et : (rows.take (i + 1)).map (·.n) = (rows.take i).map (·.n) ++ [r.n] := by rw [take_nx hri, List.map_append]; rfl
      refine ⟨_, rfl, _, rfl, by show 2 ≤ sizeLine; decide, fun p hp => ?_⟩
      have s2 : Sm No H1 (upd H1 p (.tup [.ref ia, .ref db])) := Sm.new hp
      have d2 := s2.dk (fun z => z) d1
      refine ⟨_, rfl, _, rfl, T, _, rfl, .inl ⟨_, .inr r.n, d2, rfl, ?_, rfl⟩, ?_⟩
      · rw [dkm_len, List.length_map, List.length_take]
        exact Nat.lt_of_le_of_lt (Nat.min_le_right _ _) (line_of (Nat.le_trans O.1 (by decide)))
      refine ⟨_, _, _, fun n => if n = r.n then (p, ia, db) else u n, rfl, ?_, fun q hq => ?_, ?_, (s1.trans s2).mut hT (ntbl_d d2)⟩
      · rw [upd_same, put_new hc, et]
        refine congrArg (fun z => some (HO.dK z)) (dkm_congr fun n _ => ?_)
        show (if n = r.n then V.ref p else V.ref (u n).1) = V.ref (if n = r.n then (p, ia, db) else u n).1
        by_cases e : n = r.n
        · rw [if_pos e, if_pos e]
        · rw [if_neg e, if_neg e]
      · rw [take_nx hri] at hq
        show TabA _ (if q.n = r.n then (p, ia, db) else u q.n) q
        rcases List.mem_append.mp hq with hq | hq
        · rw [if_neg fun e => hc (List.mem_map.mpr ⟨q, hq, e⟩)]; exact ((ur q hq).sm s2).put d2
        · have : q = r := by simpa using hq
          rw [this, if_pos rfl]
          exact TabA.put ⟨ds, upd_same, s2.lst0 g2, s2.lst0 g3, g4.mono fun _ _ d => d.sm s2⟩ d2
      · rw [et, List.nodup_append]
        exact ⟨ndi, by simp, fun b hb c hc' e => hc (by have : c = r.n := by simpa using hc'
                                                        rw [← this, ← e]; exact hb)⟩
  rintro σ H1 ⟨v2, v3, v4, u, rfl, d1, ur, ndr, s1⟩
  rw [al.len, List.take_length] at d1 ur ndr
  have hdup : dupF [] rows = none := (dup_none rows []).mpr ⟨ndr, fun _ _ z => nomatch z⟩
  have GO := grok_of O ndr
  have it : ∀ n ∈ rows.map (·.n), ∃ r ∈ rows, r.n = n := fun n m => let ⟨r, hr, e⟩ := List.mem_map.mp m; ⟨r, hr, e⟩
  refine ⟨_, rfl, T, _, rows.map (·.n), rfl, .inl d1, dkm_keys, Nat.lt_of_le_of_lt GO.ln (by decide), fun ys p pm so hp => ⟨p, rfl, ⟨_, SqL.of upd_same⟩, ?_⟩⟩
  have es := srt_of pm so
  subst es
  refine for_list (xs := (srt (rows.map (·.n))).map V.str) (fun i σ H' => ∃ v2 v5, σ = [some (.ref a), some (.ref T), v2, v3, v4, v5, none, none, none, none, none, none] ∧ Sm No H1 H' ∧ H' p = some (.lst ((srt (rows.map (·.n))).map V.str)) ∧ ∀ a ∈ (srt (rows.map (·.n))).take i, ∀ b ∈ imF rows a, b ∈ rows.map (·.n))
    ⟨v2, none, rfl, Sm.new hp, upd_same, by simp⟩ (fun i σ H' _ ⟨_, _, _, _, h1, _⟩ => SqL.of h1) ?_ ?_
  · rintro i x σ H2 hi ⟨v2', v5, rfl, s2, h2, al2⟩
    obtain ⟨n, hn, rfl⟩ := map_get hi
    have mn : n ∈ rows.map (·.n) := srt_mem.mp (List.mem_of_getElem? hn)
    obtain ⟨r, hr', rfl⟩ := it n mn
    obtain ⟨ds, g1, g2, g3, g4⟩ := (ur r hr').sm s2
    have d2 := s2.dk (fun z => z) d1
    refine ⟨_, rfl, _, rfl, T, _, rfl, dget (.inl d2) mn, _, _, 0, _, rfl, rfl, SqT.of g1, rfl, _, rfl, ⟨_, SqL.of g2⟩, ?_⟩
    refine for_list (xs := r.im.map V.str) (fun j σ H' => ∃ v5, σ = [some (.ref a), some (.ref T), some (.str r.n), v3, v4, v5, none, none, none, none, none, none] ∧ Sm No H1 H' ∧ H' p = some (.lst ((srt (rows.map (·.n))).map V.str)) ∧ ∀ b ∈ (imF rows r.n).take j, b ∈ rows.map (·.n))
      ⟨v5, rfl, s2, h2, by simp⟩ (fun j σ H' _ ⟨_, _, s3, _, _⟩ => by obtain ⟨ds, g1, g2, g3, g4⟩ := (ur r hr').sm s3; exact SqL.of g2) ?_ ?_
    · rintro j x σ H3 hj ⟨v5', rfl, s3, h3, bl⟩
      obtain ⟨m, hm, rfl⟩ := map_get hj
      have hm' : (imF rows r.n)[j]? = some m := by rw [imF_of ndr hr']; exact hm
      obtain ⟨o, dg, eo⟩ := dget0 (n := m) (.inl (s3.dk (fun z => z) d1))
      refine ⟨_, rfl, _, rfl, T, o, rfl, dg, ?_⟩
      by_cases hc : m ∈ rows.map (·.n)
      · rw [eo, List.contains_iff_mem.mpr hc]
        exact ⟨_, rfl, iteF ⟨_, rfl, s3, h3, take_mem hm' bl hc⟩⟩
      · rw [eo, show (rows.map (·.n)).contains m = false by cases q : (rows.map (·.n)).contains m with | false => rfl | true => exact absurd (List.contains_iff_mem.mp q) hc]
        rw [link_unk hdup (unk_at hn hm' al2 bl hc)] at q
        exact ⟨_, rfl, iteT ⟨_, rfl, by show 2 ≤ sizeLine; decide, fun p' hp' => q _ _ ((s1.trans s3).trans (Sm.new hp')) ⟨p', rfl, upd_same⟩⟩⟩
    · rintro σ H3 ⟨v5', rfl, s3, h3, bl⟩
      refine ⟨_, _, rfl, s3, h3, take_mem hn al2 fun b mb => bl b ?_⟩
      rw [List.length_map, ← imF_of ndr hr', List.take_length]; exact mb
  rintro σ H2 ⟨v2', v5, rfl, s2, h2, al2⟩
  rw [List.length_map, List.take_length] at al2
  have hunk : unkF (rows.map (·.n)) (imF rows) = none := unk_none al2
  have d2 := s2.dk (fun z => z) d1
  clear h2
  have s12 := s1.trans s2
  have ur2 := fun r hr => (ur r hr).sm s2
  refine ⟨by show 0 ≤ sizeLine; decide, fun dn hdn => ?_⟩
  refine ⟨by show 0 ≤ sizeLine; decide, fun fo0 hfo0 => ?_⟩
  have nf0 : dn ≠ fo0 := fun z => by rw [← z, upd_same] at hfo0; cases hfo0
  have s4 : Sm No H2 (upd (upd H2 dn (.lst [])) fo0 (.lst [])) := (Sm.new hdn : Sm No H2 _).trans (Sm.new hfo0)
  refine ⟨_, rfl, T, _, rfl, s4.dk (fun z => z) d2, _, rfl, by rw [dkm_len]; have := GO.ln; omega, by rw [dkm_len]; have := GO.ln; omega, ?_⟩
  rw [dkm_len]
  refine for_range (lo := 0) (n := (rows.map (·.n)).length) (fun k σ H' => ∃ (w2 w5 v8 v9 : Option V) (fo : Addr) (done : List Str) (vs : List V), σ = [some (.ref a), some (.ref T), w2, v3, v4, w5, some (.ref dn), some (.ref fo), v8, v9, none, none] ∧ H' dn = some (.lst (done.map V.str)) ∧ H' fo = some (.lst vs) ∧ Al (OuR H') vs (outF (dfF rows) done) ∧ vs.length ≤ 3 * k ∧
    done.length = k ∧ (∀ n ∈ done, n ∈ rows.map (·.n)) ∧ ordF (rows.map (·.n)) (imF rows) ((rows.map (·.n)).length - k) done = ordF (rows.map (·.n)) (imF rows) (rows.map (·.n)).length [] ∧ dn ≠ fo ∧ Sm No H2 H')
    ⟨v2', v5, none, none, fo0, [], [], rfl, by rw [upd_ne nf0, upd_same]; rfl, upd_same, Al.nil, Nat.zero_le _, rfl, fun n m => (nomatch m), rfl, nf0, s4⟩ ?_ ?_
  · rintro k σ H5 hk ⟨w2, w5, v8, v9, fo, done, vs, rfl, h5, f5, al5, lv, ld, dm, eo, nf, s5⟩
    have k8 : k ≤ 8 := by have := GO.ln; omega
    refine ⟨_, rfl, T, _, rows.map (·.n), rfl, .inl (s5.dk (fun z => z) d2), dkm_keys, Nat.lt_of_le_of_lt GO.ln (by decide), fun ys p1 pm1 so1 hp1 => ⟨p1, rfl, ⟨_, SqL.of upd_same⟩, fun L hL => ?_⟩⟩
    have es := srt_of pm1 so1
    subst es
    have s6 : Sm No H5 (upd H5 p1 (.lst ((srt (rows.map (·.n))).map V.str))) := Sm.new hp1
    have srl : (srt (rows.map (·.n))).length ≤ 8 := by rw [srt_len]; exact GO.ln
    refine lc_list (xs := (srt (rows.map (·.n))).map V.str) (fun j H' => H' L = some (.lst ((((srt (rows.map (·.n))).take j).filter fun n => !(done.contains n)).map V.str)) ∧ H' p1 = some (.lst ((srt (rows.map (·.n))).map V.str)) ∧ Sm No H5 H') ⟨by rw [List.take_zero]; exact upd_same, by rw [upd_ne (fun z => by rw [← z, upd_same] at hL; cases hL), upd_same], s6.trans (Sm.new hL)⟩ (fun j H' _ ⟨_, e, _⟩ => SqL.of e) ?_ ?_
    · rintro j x H7 hj ⟨h7, e7, s7⟩
      obtain ⟨n, hn, rfl⟩ := map_get hj
      refine ⟨rfl, _, rfl, _, rfl, dn, _, rfl, .inl (SqL.of (s7.lst0 h5)), rfl, flat_str, _, rfl, ?_⟩
      rw [if_pos rfl, inV_str]
      have hL5 : H5 L = none := s6.dom L hL
      have et := filt_take (f := fun n => !(done.contains n)) hn
      cases e : done.contains n with
      | true =>
        refine iteF ⟨?_, e7, s7⟩
        rw [et, if_neg (by rw [e]; decide), List.append_nil]; exact h7
      | false =>
        refine iteT ⟨_, rfl, _, h7, ?_, ?_, ?_, s7.mut hL5 (ntbl_l h7)⟩
        · rw [List.length_map]
          exact line_of (Nat.le_trans (List.length_filter_le _ _) (Nat.le_trans (by rw [List.length_take]; exact Nat.min_le_right _ _) (Nat.le_trans srl (by decide))))
        · rw [upd_same, et, if_pos (by rw [e]; rfl), List.map_append]; rfl
        · rw [upd_ne (fun z => by rw [z, upd_same] at hL; cases hL)]; exact e7
    rintro H7 ⟨h7, _, s7⟩
    rw [List.length_map, List.take_length] at h7
    have s57 := s5.trans s7
    refine ⟨_, rfl, L, rfl, ⟨_, SqL.of h7⟩, fun L2 hL2 => ?_⟩
    refine lc_list (xs := ((srt (rows.map (·.n))).filter fun n => !(done.contains n)).map V.str) (fun j H' => H' L2 = some (.lst (((((srt (rows.map (·.n))).filter fun n => !(done.contains n)).take j).filter fun n => (imF rows n).all fun i => done.contains i).map V.str)) ∧ Sm No H7 H') ⟨by rw [List.take_zero]; exact upd_same, Sm.new hL2⟩ (fun j H' _ ⟨_, s⟩ => SqL.of (s.lst0 h7)) ?_ ?_
    · rintro j x H8 hj ⟨h8, s8⟩
      obtain ⟨n, hn, rfl⟩ := map_get hj
      have mn : n ∈ rows.map (·.n) := srt_mem.mp (List.mem_filter.mp (List.mem_of_getElem? hn)).1
      obtain ⟨r, hr', rfl⟩ := it n mn
      have s58 := s57.trans s8
      obtain ⟨ds, g1, g2, g3, g4⟩ := (ur2 r hr').sm s58
      refine ⟨rfl, _, rfl, _, rfl, T, _, rfl, dget (.inl (s58.dk (fun z => z) d2)) mn, _, _, 0, _, rfl, rfl, SqT.of g1, rfl, _, rfl, ⟨_, SqL.of g2⟩, fun L3 hL3 => ?_⟩
      refine lc_list (xs := r.im.map V.str) (fun j H' => H' L3 = some (.lst (((r.im.take j).filter fun n => !(done.contains n)).map V.str)) ∧ Sm No H8 H') ⟨by rw [List.take_zero]; exact upd_same, Sm.new hL3⟩ (fun j H' _ ⟨_, s⟩ => SqL.of (s.lst0 g2)) ?_ ?_
      · rintro i x H9 hi ⟨h9, s9⟩
        obtain ⟨m, hm, rfl⟩ := map_get hi
        refine ⟨rfl, _, rfl, _, rfl, dn, _, rfl, .inl (SqL.of ((s7.trans (s8.trans s9)).lst0 h5)), rfl, flat_str, _, rfl, ?_⟩
        rw [if_pos rfl, inV_str]
        have et := filt_take (f := fun n => !(done.contains n)) hm
        cases e : done.contains m with
        | true =>
          refine iteF ⟨?_, s9⟩
          rw [et, if_neg (by rw [e]; decide), List.append_nil]; exact h9
        | false =>
          refine iteT ⟨_, rfl, _, h9, ?_, ?_, s9.mut hL3 (ntbl_l h9)⟩
          · rw [List.length_map]
            exact line_of (Nat.le_trans (List.length_filter_le _ _) (Nat.le_trans (by rw [List.length_take]; exact Nat.min_le_right _ _) (Nat.le_trans (O.2 r hr').li (by decide))))
          · rw [upd_same, et, if_pos (by rw [e]; rfl), List.map_append]; rfl
      rintro H9 ⟨h9, s9⟩
      rw [List.length_map, List.take_length] at h9
      refine ⟨by show 0 ≤ sizeLine; decide, fun e0 he0 => ?_⟩
      have s10 : Sm No H9 (upd H9 e0 (.lst [])) := Sm.new he0
      refine ⟨_, _, .lst (SqL.of (s10.lst0 h9)) dpAll_str, .lst (SqL.of upd_same) .nil, shaped_strs (fun y m => ((O.2 r hr').zi y (List.mem_filter.mp m).1).2), shaped_no, _, rfl, ?_⟩
      rw [eqv_no, none_left]
      have et := filt_take (f := fun n => (imF rows n).all fun i => done.contains i) hn
      rw [imF_of ndr hr'] at et
      have h10 := (s9.trans s10).lst0 h8
      cases e : r.im.all fun i => done.contains i with
      | false =>
        refine iteF ⟨?_, s8.trans (s9.trans s10)⟩
        rw [et, if_neg (by rw [e]; decide), List.append_nil]; exact h10
      | true =>
        refine iteT ⟨_, rfl, _, h10, ?_, ?_, (s8.trans (s9.trans s10)).mut hL2 (ntbl_l h10)⟩
        · rw [List.length_map]
          exact line_of (Nat.le_trans (List.length_filter_le _ _) (Nat.le_trans (by rw [List.length_take]; exact Nat.min_le_right _ _) (Nat.le_trans (List.length_filter_le _ _) (Nat.le_trans srl (by decide)))))
        · rw [upd_same, et, if_pos e, List.map_append]; rfl
    rintro H8 ⟨h8, s8⟩
    rw [List.length_map, List.take_length, rdy_filter] at h8
    have s58 := s57.trans s8
    have s78 := s7.trans s8
    refine ⟨_, rfl, by show 0 ≤ sizeLine; decide, fun e1 he1 => ?_⟩
    have s9 : Sm No H8 (upd H8 e1 (.lst [])) := Sm.new he1
    refine ⟨_, _, .lst (SqL.of (s9.lst0 h8)) dpAll_str, .lst (SqL.of upd_same) .nil, shaped_strs (fun y m => ?_), shaped_no, _, rfl, ?_⟩
    · obtain ⟨r, hr', rfl⟩ := it y (srt_mem.mp (List.mem_filter.mp m).1)
      exact (O.2 r hr').n.2
    rw [eqv_no]
    have s59 := s58.trans s9
    have s5' := s78.trans s9
    have h9 := s9.lst0 h8
    have f9 := s5'.lst0 f5
    have d9 := s5'.lst0 h5
    have al9 : Al (OuR (upd H8 e1 (.lst []))) vs (outF (dfF rows) done) := al5.mono fun _ _ q => q.sm s5'
    generalize upd H8 e1 (.lst []) = H9 at s59 s5' h9 f9 d9 al9 s9
    have nxe : nxt (rows.map (·.n)) (imF rows) done = ((srt (rows.map (·.n))).filter (rdyB (imF rows) done)).head? := find_filter
    obtain ⟨k', hk'⟩ : ∃ k', (rows.map (·.n)).length - k = k' + 1 := ⟨(rows.map (·.n)).length - k - 1, by omega⟩
    rw [hk'] at eo
    rw [show ordF (rows.map (·.n)) (imF rows) (k' + 1) done = (match nxt (rows.map (·.n)) (imF rows) done with | none => none | some n => ordF (rows.map (·.n)) (imF rows) k' (done ++ [n])) from rfl, nxe] at eo
    cases hf : (srt (rows.map (·.n))).filter (rdyB (imF rows) done) with
    | nil =>
      rw [hf] at eo
      refine iteT ?_
      rw [List.length_map] at eo
      rw [link_ring hdup hunk eo.symm] at q
      exact ⟨by show 2 ≤ sizeLine; decide, fun p' hp' => q _ _ ((s12.trans s59).trans (Sm.new hp')) ⟨p', rfl, upd_same⟩⟩
    | cons y rest =>
      rw [hf] at eo h9
      refine iteF ?_
      have my : y ∈ rows.map (·.n) := srt_mem.mp (List.mem_filter.mp (by rw [hf]; exact List.mem_cons_self)).1
      obtain ⟨r, hr', rfl⟩ := it y my
      obtain ⟨ds, g1, g2, g3, g4⟩ := (ur2 r hr').sm s59
      have dT := s59.dk (fun z => z) d2
      refine ⟨_, rfl, .inl ⟨rfl, _, SqL.of d9⟩, _, rfl, _, _, 0, _, rfl, rfl, SqL.of h9, at0, dn, _, _, rfl, rfl, d9, by rw [List.length_map]; exact line_of (by omega), ?_⟩
      have s10 : Sm No H2 (upd H9 dn (.lst (done.map V.str ++ [.str r.n]))) := s59.mut hdn (ntbl_l d9)
      have Ldn : L2 ≠ dn := fun z => by
        have := s7.lst0 h5
        rw [z, this] at hL2; cases hL2
      have h10 : upd H9 dn (.lst (done.map V.str ++ [.str r.n])) L2 = some (.lst ((r.n :: rest).map V.str)) := by rw [upd_ne Ldn]; exact h9
      have f10 : upd H9 dn (.lst (done.map V.str ++ [.str r.n])) fo = some (.lst vs) := by rw [upd_ne (Ne.symm nf)]; exact f9
      have d10 : upd H9 dn (.lst (done.map V.str ++ [.str r.n])) dn = some (.lst ((done ++ [r.n]).map V.str)) := by rw [upd_same, List.map_append]; rfl
      have al10 : Al (OuR (upd H9 dn (.lst (done.map V.str ++ [.str r.n])))) vs (outF (dfF rows) done) := al9.mono fun _ _ q => q.put d9
      dsimp only
      generalize upd H9 dn (.lst (done.map V.str ++ [.str r.n])) = H10 at s10 h10 f10 d10 al10
      clear g1 g2 g3 g4 dT
      have dT := s10.dk (fun z => z) d2
      obtain ⟨ds', g1, g2, g3, g4⟩ := (ur2 r hr').sm s10
      refine ⟨_, rfl, _, rfl, _, rfl, _, _, 0, _, rfl, rfl, SqL.of h10, at0, T, _, rfl, dget (.inl dT) my, _, _, 1, _, rfl, rfl, SqT.of g1, rfl, _, rfl, ⟨_, SqL.of g3⟩, fun L4 hL4 => ?_⟩
      refine lc_list (xs := ds') (fun j H' => ∃ ws, H' L4 = some (.lst ws) ∧ Al (OuR H') ws ((r.df.take j).map fun d => (r.n, d.1, d.2)) ∧ ws.length = j ∧ Sm No H10 H') ⟨[], upd_same, by rw [List.take_zero]; exact Al.nil, rfl, Sm.new hL4⟩ (fun j H' _ ⟨_, _, _, _, s⟩ => SqL.of (s.lst0 g3)) ?_ ?_
      · rintro j x H11 hj ⟨ws, h11, al11, lw, s11⟩
        obtain ⟨⟨wd, kk⟩, hd7, q7, c7, rfl, t7, t8⟩ := g4.2 j x hj
        have jl := (List.getElem?_eq_some_iff.mp hd7).1
        have t7' := s11.tup (fun z => z) t7
        have t8' := s11.tup (fun z => z) t8
        have ldf := (O.2 r hr').ld
        refine ⟨q7, _, rfl, SqT.of t7', rfl, _, _, rfl, _, _, rfl, rfl, rfl, _, rfl, _, _, 0, _, rfl, rfl, SqL.of (s11.lst0 h10), at0, _, rfl, _, rfl, by show 3 ≤ sizeLine; decide, fun qn hqn => ?_⟩
        have s12' : Sm No H11 (upd H11 qn (.tup [.str r.n, .str wd, .ref c7])) := Sm.new hqn
        have h12 := s12'.lst0 h11
        have qL : qn ≠ L4 := fun z => by rw [z, h11] at hqn; cases hqn
        have qc : c7 ≠ qn := fun z => by rw [← z, t8'] at hqn; cases hqn
        have cL : c7 ≠ L4 := fun z => by rw [z, h11] at t8'; cases t8'
        refine ⟨ws, h12, line_of (by omega), ws ++ [.ref qn], upd_same, ?_, by rw [List.length_append, lw]; rfl, (s11.trans s12').mut hL4 (ntbl_l h12)⟩
        have e1 : (r.df.take (j + 1)).map (fun d => (r.n, d.1, d.2)) = ((r.df.take j).map fun d => (r.n, d.1, d.2)) ++ [(r.n, wd, kk)] := by
          rw [take_nx hd7, List.map_append]; rfl
        rw [e1]
        exact (al11.mono fun v y h => (h.sm s12').put h12).snoc ⟨qn, c7, rfl, by rw [upd_ne qL, upd_same], by rw [upd_ne cL, upd_ne qc]; exact t8'⟩
      rintro H11 ⟨ws, h11, al11, lw, s11⟩
      rw [g4.len, List.take_length] at al11
      have ldf := (O.2 r hr').ld
      rw [g4.len] at lw
      refine ⟨fo, L4, vs, ws, rfl, rfl, s11.lst0 f10, h11, Nat.le_of_lt (line_of (by omega)), fun pn hpn => ?_⟩
      have s13 : Sm No H11 (upd H11 pn (.lst (vs ++ ws))) := Sm.new hpn
      have dn11 := s11.lst0 d10
      refine ⟨w2, w5, _, _, pn, done ++ [r.n], vs ++ ws, rfl, s13.lst0 dn11, upd_same, ?_, by rw [List.length_append]; omega, by rw [List.length_append, ld]; rfl, fun n m => ?_, ?_, (fun z => by rw [← z, dn11] at hpn; cases hpn), (s10.trans s11).trans s13⟩
      · have e1 : outF (dfF rows) (done ++ [r.n]) = outF (dfF rows) done ++ r.df.map fun d => (r.n, d.1, d.2) := by
          unfold outF
          rw [List.flatMap_append, List.flatMap_cons, List.flatMap_nil, List.append_nil, dfF_of ndr hr']
        rw [e1]
        exact (al10.mono fun _ _ q => q.sm (s11.trans s13)).app (al11.mono fun _ _ q => q.sm s13)
      · rcases List.mem_append.mp m with m | m
        · exact dm n m
        · have : n = r.n := by simpa using m
          rw [this]; exact my
      · rw [show (rows.map (·.n)).length - (k + 1) = k' by omega]
        exact eo
  rintro σ H5 ⟨w2, w5, v8, v9, fo, done, vs, rfl, h5, f5, al5, lv, ld, dm, eo, nf, s5⟩
  rw [Nat.sub_self] at eo
  have eo2 : ordF (rows.map (·.n)) (imF rows) rows.length [] = some done := by rw [← List.length_map (f := (·.n)) (as := rows)]; exact eo.symm
  rw [link_ok hdup hunk eo2] at q
  exact ⟨_, rfl, by show 2 ≤ sizeLine; decide, fun p' hp' => q _ _ ((s12.trans s5).trans (Sm.new hp')) ⟨p', fo, vs, rfl, upd_same, (Sm.new hp' : Sm No H5 _).lst0 f5, al5.mono fun _ _ q => q.sm (Sm.new hp')⟩⟩
end
end My
namespace My
open PySem PySem.Spec PyProof.Rows L2 TL
/-! ### _law_told -/
def rIsN (K : PySem.W.Frag) (C a : Addr) (cls : Value) (d : Option Addr) : List V → Hp → VK → Prop := fun xs H Q => ∃ (c : V) (cv : Value) (b : Bool), xs = [.ref a, c] ∧ (∀ u, RelV c u → u = cv) ∧ cls = .ref C ∧ d = none ∧ PySem.W.kitOne K (.ref C) cv = some b ∧ Q (.bl b) H
theorem call_isN {X : Cx} {a C : Addr} {cls : Value} {d : Option Addr} {oe : Obj} {pn : List (Addr × Obj)} (T : ExcC X.K C) (hz : Zc cls d oe) (hf : ∃ vs, oe.data = .fields vs) : CallR (X.suite a ((a, oe) :: pn)) (.builtin "isinstance") (rIsN X.K C a cls d) := by
  intro pins s σ H xs us Q I r h
  obtain ⟨c, cv, b, e0, hcv, ec, ed, e, q⟩ := h
  subst ec ed
  exact call_isE T hz hf pins s σ H xs us Q I r ⟨c, cv, b, e0, hcv, e, q⟩
structure MkU (P : Program) (w : World) (K : PySem.W.Frag) (mg : Str → Option Value) (base : Heap) (C fI : Addr) (fdI : FuncData) : Prop where
  m : Mk K C fI
  ok : FnOk P w K mg base CX0 1 fI fdI ["self", "name", "imports", "exports", "macros", "definitions"] (spUni C)
  g : mg "Unit" = some (.ref C)
  b : Binds K fdI ["self", "name", "imports", "exports", "macros", "definitions"] []
/-- the classes that are asked -/
structure ToldC (K : PySem.W.Frag) (mg : Str → Option Value) (F D U R : Addr) : Prop where
  gF : mg "FoldError" = some (.ref F)
  gD : mg "DuplicateName" = some (.ref D)
  gU : mg "UnknownModule" = some (.ref U)
  gR : mg "ModuleRing" = some (.ref R)
  dd : PySem.W.exmOne K (.ref D) (.ref D) = some true
  ud : PySem.W.exmOne K (.ref U) (.ref D) = some false
  uu : PySem.W.exmOne K (.ref U) (.ref U) = some true
  rd : PySem.W.exmOne K (.ref R) (.ref D) = some false
  ru : PySem.W.exmOne K (.ref R) (.ref U) = some false
  rr : PySem.W.exmOne K (.ref R) (.ref R) = some true
  xD : XfC K D
  xU : XfC K U
  nD : PySem.W.findIn K (.ref D) "name" = some none
  nU : PySem.W.findIn K (.ref U) "name" = some none
  cR : ExcC K R
  k : PySem.W.kitOne K (.ref R) (.ref F) = some true
/-- a unit whose lists are others than the one at D -/
def UnN (C D : Addr) (H : Hp) (v : V) (r : Rw) : Prop := ∃ p : Addr × Addr × Addr, v = .ref p.1 ∧ UnA C H p r ∧ p.2.1 ≠ D ∧ p.2.2 ≠ D
abbrev sTold : Stmt := top 18
abbrev NTo : List Str := ["rows", "units", "error", "name", "imports", "definitions"]
section
variable {P : Program} {w : World} {K : PySem.W.Frag} {mg : Str → Option Value} {base : Heap}
theorem scTold : FnScope NTo ["rows"] (defScope sTold) := ⟨rfl, rfl, rfl, by decide +kernel, rfl, by decide +kernel, by decide +kernel⟩
theorem ok_told {f fL fI C F D U R : Addr} {fd dL dI : FuncData} (Fn : Fun K "_law_told" "_law_told" sTold f fd) (B : Blt mg) (T : ToldC K mg F D U R) (GL : Cal P w K mg base (L2.CX P w) 5 "link" ["units"] (spLnk C D U R) fL dL) (M : MkU P w K mg base C fI dI) :
    FnOk P w K mg base CX0 6 f fd ["rows"] spDue := by
  refine Fn.ok scTold (fun vs H Q E h => ?_) (fun cdv A outer s H vs Q E hr h => ?_)
  · obtain ⟨a, us, rows, rfl, _⟩ := h
    rfl
  obtain ⟨a, us, rows, rfl, ha, al, O, q⟩ := h
  have nd := scTold.nd
  have hu := units1 hr.units
  have r2 := hr.mono (show 2 ≤ 5 by decide)
  have isb : bootBuiltins "isinstance" = some (.builtin "isinstance") := by decide +kernel
  refine ⟨_, pss_cons (ps_setLc (i := 1) (own := [("name", 3), ("imports", 4), ("definitions", 5)]) (g := gTup K 3 (gCons (gName 3) (gCons (gName 4) (gCons (gName 5) gNil)))) (tt := tYes) rfl nd rfl rfl (sw_true rfl rfl rfl (by decide +kernel)) (pi_list (pv 0)) (blkOk_by (N := NTo) (sc := defScope sTold) (by decide +kernel)) (fun _ _ _ _ _ => (pg_tup rfl (pgs_cons (pg_name (i := 3) nd rfl (Or.inl rfl) (hf := Or.inr rfl)) (pgs_cons (pg_name (i := 4) nd rfl (Or.inl rfl) (hf := Or.inr rfl)) (pgs_cons (pg_name (i := 5) nd rfl (Or.inl rfl) (hf := Or.inr rfl)) pgs_nil))))) (fun _ _ _ _ _ => pts_nil)
      (fun _ _ _ _ _ => pe_make (E := fun _ _ _ => False) M.m M.ok r2 rfl M.g M.b .nil pass0 (pa_cons (pv 3) (pa_cons (pe_callTy (r := rListOf K) call_list_of (by rfl) B.list (by decide +kernel) (pa_cons (pv 4) pa_nil)) (pa_cons pe_dnewK (pa_cons pe_dnewK (pa_cons (pe_callTy (r := rListOf K) call_list_of (by rfl) B.list (by decide +kernel) (pa_cons (pv 5) pa_nil)) pa_nil)))))))
    (pss_cons (ps_try_mas (n := "error") (i := 2) (Wout := fun _ _ _ _ => False) rfl rfl nd rfl rfl (fun u s' ⟨a, B, sI, pins, σ, H, cls, d, e, I, nb, up, sky, na, os, ag, w⟩ => w.elim)
        (fun W pn xe tk _ => pss_one (ps_ret (pe_tup (pa_cons pe_str (pa_cons (pe_callS GL.ok hr rfl GL.g GL.k GL.b (fun σ => passAt tk σ) (pa_cons (pv 1) pa_nil)) pa_nil)))))
        (.cons (c := .ref D) ⟨rfl, by decide +kernel, .inl T.gD⟩ (fun a oe cls d pn hzc hf => pss_one (ps_ret (pe_tup (pa_cons pe_str (pa_cons (pe_xf T.xD T.nD hzc hf (pv 2)) pa_nil)))))
          (.cons (c := .ref U) ⟨rfl, by decide +kernel, .inl T.gU⟩ (fun a oe cls d pn hzc hf => pss_one (ps_ret (pe_tup (pa_cons pe_str (pa_cons (pe_xf T.xU T.nU hzc hf (pv 2)) pa_nil)))))
            (.cons (c := .ref R) ⟨rfl, by decide +kernel, .inl T.gR⟩ (fun a oe cls d pn hzc hf => pss_one (ps_if (pt_val (pe_callB (call_isN T.cR hzc hf) (by rfl) B.isinstance isb (pa_cons (pv 2) (pa_cons (pe_glob (v := .ref F) rfl T.gF rfl) pa_nil)))) (pss_one (ps_ret (pe_tup (pa_cons pe_str (pa_cons pe_str pa_nil))))) pss_nil))
              .nil))))
    (pss_one (ps_ret (pe_tup (pa_cons pe_str (pa_cons pe_str pa_nil)))))), ?_⟩
  refine ⟨_, rfl, a, rfl, ⟨_, SqL.of ha⟩, fun Dn hDn => ?_⟩
  refine lc_list (xs := us) (fun i H' => ∃ ws, H' Dn = some (.lst ws) ∧ Al (UnN C Dn H') ws (rows.take i) ∧ ws.length = i ∧ Sm No H H') ⟨[], upd_same, by rw [List.take_zero]; exact Al.nil, rfl, Sm.new hDn⟩ (fun i H' _ ⟨_, _, _, _, s⟩ => SqL.of (s.lst0 ha)) ?_ ?_
  · rintro i x H1 hi ⟨ws, h1, al1, lw, s1⟩
    obtain ⟨r, hri, hrr⟩ := al.2 i x hi
    have il : i < us.length := (List.getElem?_eq_some_iff.mp hi).1
    have lus := al.len
    have lr := O.1
    obtain ⟨t, ia, db, ds, rfl, g1, g2, g3, g4⟩ := hrr.sm s1
    refine ⟨t, _, rfl, SqT.of g1, rfl, _, _, rfl, _, _, rfl, _, _, rfl, rfl, rfl, _, rfl, _, rfl, ia, _, rfl, .inl (SqL.of g2), fun l1 hl1 e1 he1 m1 hm1 => ?_⟩
    have s2 : Sm No H1 (upd (upd (upd H1 l1 (.lst (r.im.map V.str))) e1 (.dK [])) m1 (.dK [])) := ((Sm.new hl1 : Sm No H1 _).trans (Sm.new he1)).trans (Sm.new hm1)
    have k2 : upd (upd (upd H1 l1 (.lst (r.im.map V.str))) e1 (.dK [])) m1 (.dK []) l1 = some (.lst (r.im.map V.str)) := ((Sm.new he1 : Sm No _ _).trans (Sm.new hm1)).lst0 upd_same
    dsimp only
    generalize upd (upd (upd H1 l1 (.lst (r.im.map V.str))) e1 (.dK [])) m1 (.dK []) = H2 at s2 k2
    refine ⟨_, rfl, db, _, rfl, .inl (SqL.of (s2.lst0 g3)), fun l2 hl2 x dx hx hdx nx => ?_⟩
    have s3 : Sm No H2 (upd H2 l2 (.lst ds)) := Sm.new hl2
    have s4 : Sm No (upd H2 l2 (.lst ds)) (upd (upd (upd H2 l2 (.lst ds)) dx (.own x)) x (.ins C dx [])) := (Sm.new hdx : Sm No _ _).trans (Sm.new (by rw [upd_ne (Ne.symm nx)]; exact hx))
    refine ⟨x, dx, _, _, _, _, _, rfl, upd_same, rfl, ?_⟩
    rw [upd_upd]
    have s5 : Sm No (upd H2 l2 (.lst ds)) (upd (upd (upd H2 l2 (.lst ds)) dx (.own x)) x (.ins C dx (uFs (.str r.n) (.ref l1) (.ref e1) (.ref m1) (.ref l2)))) := (Sm.new hdx : Sm No _ _).trans (Sm.new (by rw [upd_ne (Ne.symm nx)]; exact hx))
    have kx : (upd (upd (upd H2 l2 (.lst ds)) dx (.own x)) x (.ins C dx (uFs (.str r.n) (.ref l1) (.ref e1) (.ref m1) (.ref l2)))) x = some (.ins C dx (uFs (.str r.n) (.ref l1) (.ref e1) (.ref m1) (.ref l2))) := upd_same
    have k3 := (s3.trans s5).lst0 k2
    have k4 := s5.lst0 (show upd H2 l2 (.lst ds) l2 = some (.lst ds) from upd_same)
    have s15 := s2.trans (s3.trans s5)
    generalize upd (upd (upd H2 l2 (.lst ds)) dx (.own x)) x (.ins C dx (uFs (.str r.n) (.ref l1) (.ref e1) (.ref m1) (.ref l2))) = H6 at s5 kx k3 k4 s15
    have h6 := s15.lst0 h1
    refine ⟨ws, h6, line_of (by omega), ws ++ [.ref x], upd_same, ?_, by rw [List.length_append, lw]; rfl, (s1.trans s15).mut hDn (ntbl_l h6)⟩
    have putL : ∀ {p : Addr × Addr × Addr} {r' : Rw}, UnA C H6 p r' → p.2.1 ≠ Dn → p.2.2 ≠ Dn → UnA C (upd H6 Dn (.lst (ws ++ [.ref x]))) p r' := fun {p r'} hp n1 n2 => by
      obtain ⟨dx', e', m', ds', q1, q2, q3, q4⟩ := hp
      refine ⟨dx', e', m', ds', by rw [upd_ne (fun z => by rw [z, h6] at q1; cases q1)]; exact q1, by rw [upd_ne n1]; exact q2, by rw [upd_ne n2]; exact q3, q4.mono fun v y ⟨p', c', t1, t2, t3⟩ => ⟨p', c', t1, ?_, ?_⟩⟩
      · rw [upd_ne (fun z => by rw [z, h6] at t2; cases t2)]; exact t2
      · rw [upd_ne (fun z => by rw [z, h6] at t3; cases t3)]; exact t3
    have n1 : l1 ≠ Dn := fun z => by rw [z, h1] at hl1; cases hl1
    have n2 : l2 ≠ Dn := fun z => by rw [z, s2.lst0 h1] at hl2; cases hl2
    rw [take_nx hri]
    refine Al.snoc (al1.mono fun v y ⟨p, ep, hp, q1, q2⟩ => ⟨p, ep, putL (hp.sm s15) q1 q2, q1, q2⟩) ⟨(x, l1, l2), rfl, putL ⟨dx, _, _, ds, kx, k3, k4, g4.mono fun _ _ d => d.sm s15⟩ n1 n2, n1, n2⟩
  rintro H1 ⟨ws, h1, al1, lw, s1⟩
  rw [al.len, List.take_length] at al1
  refine ⟨_, rfl, Dn, ws, rows, rfl, h1, al1.mono fun _ _ ⟨p, a, b, _⟩ => ⟨p, a, b⟩, O, ?_⟩
  cases e : linkF rows with
  | dup n =>
    rw [e] at q
    intro H' d sm hd hx
    refine ⟨true, T.dd, fun _ a ha => ?_, fun z => nomatch z⟩
    exact ⟨_, rfl, rfl, rfl, d, _, _, rfl, hx, rfl, by show 2 ≤ sizeLine; decide, fun p hp => q _ _ ((s1.trans sm).trans (Sm.new hp)) ⟨p, rfl, upd_same⟩⟩
  | unk n =>
    rw [e] at q
    intro H' d sm hd hx
    refine ⟨false, T.ud, fun z => (nomatch z), fun _ => ⟨true, T.uu, fun _ a ha => ?_, fun z => nomatch z⟩⟩
    exact ⟨_, rfl, rfl, rfl, d, _, _, rfl, hx, rfl, by show 2 ≤ sizeLine; decide, fun p hp => q _ _ ((s1.trans sm).trans (Sm.new hp)) ⟨p, rfl, upd_same⟩⟩
  | ring =>
    rw [e] at q
    intro H' sm
    refine ⟨false, T.rd, fun z => (nomatch z), fun _ => ⟨false, T.ru, fun z => (nomatch z), fun _ => ⟨true, T.rr, fun _ a ha => ?_, fun z => nomatch z⟩⟩⟩
    refine ⟨_, rfl, .ref F, .ref F, true, rfl, (fun u r => r), rfl, rfl, T.k, _, rfl, iteT ?_⟩
    exact ⟨by show 2 ≤ sizeLine; decide, fun p hp => q _ _ ((s1.trans sm).trans (Sm.new hp)) ⟨p, rfl, upd_same⟩⟩
  | linked l =>
    rw [e] at q
    intro H' L vs sm hL h al'
    exact ⟨by show 2 ≤ sizeLine; decide, fun p hp => q _ _ ((s1.trans sm).trans (Sm.new hp)) ⟨p, L, vs, rfl, upd_same, (Sm.new hp : Sm No _ _).lst0 h, al'.mono fun _ _ q => q.sm (Sm.new hp)⟩⟩
end
end My
namespace My
open PySem PySem.Spec PyProof.Rows L2 TL
/-! ### the drawn rows -/
theorem atN {l : List V} {i : Nat} {x : V} (h : l[i]? = some x) : atI l (i : Int) = some x := by
  have hi := (List.getElem?_eq_some_iff.mp h).1
  unfold atI ixN
  rw [if_pos (by omega), if_pos (by omega)]
  simpa using h
theorem cut_hi {xs : List V} {k : Nat} (h : k ≤ xs.length) : cutV xs none (some (k : Int)) = xs.take k := by
  unfold cutV
  rw [HT.sIx_none, HT.sIx_nat, List.drop_zero, show min k xs.length - 0 = k by omega]
theorem cut_hi' {xs : List V} {k : Nat} : cutV xs none (some (k : Int)) = xs.take k := by
  unfold cutV
  rw [HT.sIx_none, HT.sIx_nat, List.drop_zero, show min k xs.length - 0 = min k xs.length by omega, List.take_eq_take_iff.mpr]
  omega
theorem cut_lo {xs : List V} {k : Nat} (h : k ≤ xs.length) : cutV xs (some (k : Int)) none = xs.drop k := by
  unfold cutV
  rw [HT.sIx_none, HT.sIx_nat, show min k xs.length = k by omega]
  exact List.take_of_length_le (by rw [List.length_drop]; omega)
/-- a test whose answer may be either -/
def AnyT (t : TT) (σ : L2.St) (H : Hp) : Prop := ∀ Q : Bool → Hp → Prop, (∀ b, Q b H) → t σ H Q
theorem AnyT.and {t u : TT} {σ : L2.St} {H : Hp} (a : AnyT t σ H) (b : AnyT u σ H) : AnyT (tAnd t u) σ H := fun Q q => a _ fun x => by
  cases x with
  | false => first | exact q false | (show (if false = true then _ else _); exact iteF (q false))
  | true => first | exact b Q q | (show (if true = true then _ else _); exact iteT (b Q q))
theorem AnyT.or {t u : TT} {σ : L2.St} {H : Hp} (a : AnyT t σ H) (b : AnyT u σ H) : AnyT (tOr t u) σ H := fun Q q => a _ fun x => by
  cases x with
  | true => first | exact q true | (show (if true = true then _ else _); exact iteT (q true))
  | false => first | exact b Q q | (show (if false = true then _ else _); exact iteF (b Q q))
theorem AnyT.iff {t : TT} {σ : L2.St} {H : Hp} {a b : TS} {D : Ends} (h : AnyT t σ H) (ha : a D σ H) (hb : b D σ H) : tIfS t a b D σ H := h _ fun x => by
  cases x with
  | true => exact iteT ha
  | false => exact iteF hb
def spCell (K : PySem.W.Frag) : Sp := fun vs H Q _ => ∃ (s : Addr) (ns : List Int) (k : Nat), vs = [.ref s, .int (k : Nat)] ∧ SqL K H s (ns.map V.int) ∧ k ≤ 100 ∧ ∀ c : Int, Q (.int c) H
abbrev sCell : Stmt := top 14
def spIms : Sp := fun vs H Q _ => ∃ (n : Addr) (nms : List Str) (k : Nat) (c s : Int), vs = [.ref n, .int (k : Nat), .int c, .int s] ∧ H n = some (.lst (nms.map V.str)) ∧ nms.length ≤ 7 ∧
  ∀ (L : Addr) (im : List Str) (H' : Hp), Sm No H H' → H L = none → H' L = some (.lst (im.map V.str)) → im.length ≤ 20 → (∀ m ∈ im, m ∈ nms ∨ m = "zoo" ∨ m = "cat") → Q (.ref L) H'
abbrev sIms : Stmt := top 15
abbrev NIs : List Str := ["names", "k", "cell", "shape", "imports", "j"]
def spRows (K : PySem.W.Frag) : Sp := fun vs H Q _ => ∃ (s : Addr) (ns : List Int), vs = [.ref s] ∧ SqL K H s (ns.map V.int) ∧
  ∀ (L : Addr) (us : List V) (rows : List Rw) (H' : Hp), Sm No H H' → H' L = some (.lst us) → Al (RowR H') us rows → RwsOk rows → Q (.ref L) H'
abbrev sRows : Stmt := top 16
abbrev NRo : List Str := ["script", "shape", "pool", "turn", "names", "rows", "k", "cell", "definitions", "n"]
section
variable {P : Program} {w : World} {K : PySem.W.Frag} {mg : Str → Option Value} {base : Heap}
theorem scCell : FnScope ["script", "k"] ["script", "k"] (defScope sCell) := ⟨rfl, rfl, rfl, by decide +kernel, rfl, by decide +kernel, by decide +kernel⟩
theorem ok_cell {f : Addr} {fd : FuncData} (F : Fun K "_law_cell" "_law_cell" sCell f fd) (B : Blt mg) : FnOk P w K mg base CX0 1 f fd ["script", "k"] (spCell K) := by
  refine F.ok scCell (fun vs H Q E h => ?_) (fun cdv A outer s H vs Q E hr h => ?_)
  · obtain ⟨s, ns, k, rfl, _⟩ := h
    rfl
  obtain ⟨s, ns, k, rfl, hs, hk, q⟩ := h
  have nd := scCell.nd
  refine ⟨_, (pss_cons (ps_if (pt_cmpR op_lt (pv 1) (pe_callB call_len_seq (by rfl) B.len PySem.boot_len (pa_cons (pv 0) pa_nil)) (nomark _)) (pss_one (ps_ret (pe_callTy call_int1 (by rfl) B.int (by decide +kernel) (pa_cons (pe_ix (r := rIxL K) ix_list (pv 0) (pv 1) (fun _ _ => rfl)) pa_nil)))) pss_nil)
    (pss_one (ps_ret (pe_op op_mul pe_int (pv 1))))), ?_⟩
  refine ⟨_, rfl, _, rfl, s, _, rfl, .inl hs, _, _, rfl, rfl, _, rfl, ?_⟩
  rw [List.length_map]
  by_cases hlt : k < ns.length
  · rw [decide_eq_true (show ((k : Nat) : Int) < ((ns.length : Nat) : Int) by omega)]
    refine iteT ?_
    have e : (ns.map V.int)[k]? = some (.int ns[k]) := by rw [List.getElem?_map, List.getElem?_eq_getElem hlt]; rfl
    exact ⟨_, rfl, _, rfl, s, _, _, _, rfl, rfl, hs, atN e, .inl ⟨_, rfl, q _⟩⟩
  · rw [decide_eq_false (show ¬ ((k : Nat) : Int) < ((ns.length : Nat) : Int) by omega)]
    exact iteF ⟨_, rfl, _, _, rfl, rfl, .inr ⟨by omega, by omega⟩, q _⟩
theorem scIms : FnScope NIs ["names", "k", "cell", "shape"] (defScope sIms) := ⟨rfl, rfl, rfl, by decide +kernel, rfl, by decide +kernel, by decide +kernel⟩
theorem ok_ims {f : Addr} {fd : FuncData} (F : Fun K "_law_imports" "_law_imports" sIms f fd) (B : Blt mg) : FnOk P w K mg base CX0 1 f fd ["names", "k", "cell", "shape"] spIms := by
  refine F.ok scIms (fun vs H Q E h => ?_) (fun cdv A outer s H vs Q E hr h => ?_)
  · obtain ⟨n, nms, k, c, s, rfl, _⟩ := h
    rfl
  obtain ⟨n, nms, k, c, sh, rfl, hn, ln, q⟩ := h
  have nd := scIms.nd
  refine ⟨_, (pss_cons (ps_set (i := 4) nd rfl (Or.inl rfl) (pe_lst pa_nil))
    (pss_cons (ps_for PassesOwn.never rfl (pi_range1 (by rfl) B.range (pa_cons (pe_callB call_len_seq (by rfl) B.len PySem.boot_len (pa_cons (pv 0) pa_nil)) pa_nil)) (pg_name (i := 5) nd rfl (Or.inl rfl))
      (pss_one (ps_if (PW.pt (pw_and (pt_cmpR op_eq (pe_op op_mod (pe_op op_fdiv (pv 2) (pe_op op_mul pe_int (pe_op op_add (pv 5) pe_int))) pe_int) pe_int (nomark _)) (pw_and1 (PW.pt (pw_or (pt_cmpR op_lt (pv 5) (pv 1) (nomark _)) (pw_or1 (PW.pt (pw_and (pt_cmpR op_eq (pe_op op_mod (pe_op op_fdiv (pv 3) pe_int) pe_int) pe_int (nomark _)) (pw_and1 (pt_cmpR op_ne (pv 5) (pv 1) (nomark _))))))))))) (pss_one (ps_expr (pe_bm PySem.F.plainAttrs_list PySem.F.slot_list_append PySem.F.type_list_append mt_append (pv 4) (pa_cons (pe_ix (r := rIxL K) ix_list (pv 0) (pv 5) (fun _ _ => rfl)) pa_nil)))) (pss_one (ps_if (PW.pt (pw_and (pt_cmpR op_eq (pv 5) (pv 1) (nomark _)) (pw_and (pt_cmpR op_eq (pe_op op_mod (pe_op op_fdiv (pv 3) pe_int) pe_int) pe_int (nomark _)) (pw_and1 (pt_cmpR op_eq (pe_op op_mod (pv 2) pe_int) pe_int (nomark _)))))) (pss_one (ps_expr (pe_bm PySem.F.plainAttrs_list PySem.F.slot_list_append PySem.F.type_list_append mt_append (pv 4) (pa_cons (pe_ix (r := rIxL K) ix_list (pv 0) (pv 5) (fun _ _ => rfl)) pa_nil)))) pss_nil)))))
    (C8.pss_cut (ps_if (pt_cmpR op_eq (pe_op op_mod (pv 2) pe_int) pe_int (nomark _)) (pss_one (ps_set (i := 4) nd rfl (Or.inl rfl) (pe_listRev rfl (by rfl) B.list (by rfl) B.reversed (pv 4)))) pss_nil)
    (pss_cons (ps_if (PW.pt (pw_and (pt_cmpR op_eq (pe_op op_mod (pe_op op_fdiv (pv 3) pe_int) pe_int) pe_int (nomark _)) (pw_and1 (pt_cmpR op_eq (pe_op op_mod (pv 2) pe_int) pe_int (nomark _))))) (pss_one (ps_ret (pe_op op_cat (pe_op op_cat (pe_lst (pa_cons pe_str pa_nil)) (pv 4)) (pe_lst (pa_cons pe_str pa_nil))))) pss_nil)
    (pss_one (ps_ret (pv 4))))))), ?_⟩
  refine ⟨by show 0 ≤ sizeLine; decide, fun p hp => ?_⟩
  have s1 : Sm No H (upd H p (.lst [])) := Sm.new hp
  refine ⟨_, rfl, n, _, rfl, .inl (SqL.of (s1.lst0 hn)), _, rfl, by rw [List.length_map]; omega, by rw [List.length_map]; omega, ?_⟩
  rw [List.length_map]
  refine for_range (lo := 0) (n := nms.length) (fun j σ H' => ∃ (im : List Str) (v5 : Option V), σ = [some (.ref n), some (.int (k : Nat)), some (.int c), some (.int sh), some (.ref p), v5] ∧ H' p = some (.lst (im.map V.str)) ∧ im.length ≤ j ∧ (∀ m ∈ im, m ∈ nms) ∧ Sm No H H')
    ⟨[], none, rfl, upd_same, Nat.zero_le _, fun m h => (nomatch h), s1⟩ ?_ ?_
  · rintro j σ H1 hj ⟨im, v5, rfl, h1, li, mi, s2⟩
    have ej : (0 : Int) + (j : Int) = (j : Nat) := Int.zero_add _
    show tIfS _ _ _ _ [some (.ref n), some (.int (k : Nat)), some (.int c), some (.int sh), some (.ref p), some (.int (0 + (j : Int)))] H1
    rw [ej]
    obtain ⟨x, hx⟩ : ∃ x, nms[j]? = some x := ⟨nms[j], List.getElem?_eq_getElem hj⟩
    have ex : (nms.map V.str)[j]? = some (.str x) := by rw [List.getElem?_map, hx]; rfl
    have mx := List.mem_of_getElem? hx
    have app : ∀ {D : Ends}, (D.nx = fun σ H' => ∃ (im : List Str) (v5 : Option V), σ = [some (.ref n), some (.int (k : Nat)), some (.int c), some (.int sh), some (.ref p), v5] ∧ H' p = some (.lst (im.map V.str)) ∧ im.length ≤ j + 1 ∧ (∀ m ∈ im, m ∈ nms) ∧ Sm No H H') →
        tDrop (tBM K "list" rAppend (tVar 4) (tCons (tOp (rIxL K) (tVar 0) (tVar 5)) tNil)) D [some (.ref n), some (.int (k : Nat)), some (.int c), some (.int sh), some (.ref p), some (.int ((j : Nat) : Int))] H1 := fun {D} eD => by
      refine ⟨_, rfl, .inl ⟨rfl, _, SqL.of h1⟩, _, rfl, _, rfl, n, _, _, _, rfl, rfl, SqL.of (s2.lst0 hn), atN ex, p, _, _, rfl, rfl, h1, by rw [List.length_map]; exact line_of (by omega), ?_⟩
      rw [eD]
      refine ⟨im ++ [x], _, rfl, by rw [upd_same, List.map_append]; rfl, by rw [List.length_append]; simp; omega, fun m hm => ?_, s2.mut hp (ntbl_l h1)⟩
      rcases List.mem_append.mp hm with hm | hm
      · exact mi m hm
      · have : m = x := by simpa using hm
        rw [this]; exact mx
    have skip : ∃ (im : List Str) (v5 : Option V), [some (V.ref n), some (.int (k : Nat)), some (.int c), some (.int sh), some (.ref p), some (.int ((j : Nat) : Int))] = [some (.ref n), some (.int (k : Nat)), some (.int c), some (.int sh), some (.ref p), v5] ∧ H1 p = some (.lst (im.map V.str)) ∧ im.length ≤ j + 1 ∧ (∀ m ∈ im, m ∈ nms) ∧ Sm No H H1 :=
      ⟨im, _, rfl, h1, by omega, mi, s2⟩
    refine AnyT.iff (AnyT.and (fun Q q => ?_) (AnyT.or (fun Q q => ?_) (AnyT.and (fun Q q => ?_) (fun Q q => ?_)))) (app rfl) (AnyT.iff (AnyT.and (fun Q q => ?_) (AnyT.and (fun Q q => ?_) (fun Q q => ?_))) (app rfl) skip)
    · exact ⟨_, rfl, _, rfl, _, _, rfl, rfl, _, _, rfl, rfl, .inl ⟨by omega, by omega⟩, _, _, rfl, rfl, ⟨by omega, by omega⟩, _, _, rfl, rfl, by show (0 : Int) < _; decide, rfl, _, rfl, q _⟩
    · exact ⟨_, rfl, _, rfl, _, _, rfl, rfl, _, rfl, q _⟩
    · exact ⟨_, rfl, _, _, rfl, rfl, ⟨by decide, by decide⟩, _, _, rfl, rfl, by show (0 : Int) < _; decide, rfl, _, rfl, q _⟩
    · exact ⟨_, rfl, _, rfl, rfl, _, rfl, q _⟩
    · exact ⟨_, rfl, _, rfl, rfl, _, rfl, q _⟩
    · exact ⟨_, rfl, _, _, rfl, rfl, ⟨by decide, by decide⟩, _, _, rfl, rfl, by show (0 : Int) < _; decide, rfl, _, rfl, q _⟩
    · exact ⟨_, rfl, _, _, rfl, rfl, by show (0 : Int) < _; decide, rfl, _, rfl, q _⟩
  · rintro σ H1 ⟨im, v5, rfl, h1, li, mi, s2⟩
    -- the two ends
    have ends : ∀ {D : Ends} (p' : Addr) (im' : List Str) (H2 : Hp), D.rt = Q → H p' = none → H2 p' = some (.lst (im'.map V.str)) → im'.length ≤ 7 → (∀ m ∈ im', m ∈ nms) → Sm No H H2 →
        tSeq (tIfS (tAnd (tTest (tOp rEq (tOp (rI (fun x j => 0 < j) fun i j => V.int (i % j)) (tOp (rI CDiv fun i j => V.int (i / j)) (tVar 3) (tC (.int 392))) (tC (.int 5))) (tC (.int 2)))) (tTest (tOp rEq (tOp (rI (fun x j => 0 < j) fun i j => V.int (i % j)) (tVar 2) (tC (.int 5))) (tC (.int 3)))))
            (tRet (tOp rCat (tOp rCat (tLst (tCons (tC (.str "zoo")) tNil)) (tVar 4)) (tLst (tCons (tC (.str "cat")) tNil)))) tNext) (tRet (tVar 4)) D [some (.ref n), some (.int (k : Nat)), some (.int c), some (.int sh), some (.ref p'), v5] H2 := fun {D} p' im' H2 eD n2 h2 l2 m2 s3 => by
      refine AnyT.iff (AnyT.and (fun Q q => ?_) (fun Q q => ?_)) ?_ ?_
      · exact ⟨_, rfl, _, _, rfl, rfl, ⟨by decide, by decide⟩, _, _, rfl, rfl, by show (0 : Int) < _; decide, rfl, _, rfl, q _⟩
      · exact ⟨_, rfl, _, _, rfl, rfl, by show (0 : Int) < _; decide, rfl, _, rfl, q _⟩
      · refine ⟨by show 1 ≤ sizeLine; decide, fun a1 ha1 => ⟨_, rfl, a1, p', _, _, rfl, rfl, upd_same, (Sm.new ha1 : Sm No H2 _).lst0 h2, ?_, fun a2 ha2 => ⟨by show 1 ≤ sizeLine; decide, fun a3 ha3 => ?_⟩⟩⟩
        · rw [List.length_map]; exact Nat.le_of_lt (line_of (show 1 + im'.length ≤ 1000 by omega))
        refine ⟨a2, a3, _, _, rfl, rfl, (Sm.new ha3 : Sm No _ _).lst0 upd_same, upd_same, ?_, fun a4 ha4 => ?_⟩
        · exact Nat.le_of_lt (line_of (by simp; omega))
        show D.rt _ _
        rw [eD]
        refine q a4 ((("zoo" : Str) :: im') ++ [("cat" : Str)]) _ ((((s3.trans (Sm.new ha1)).trans (Sm.new ha2)).trans (Sm.new ha3)).trans (Sm.new ha4)) ((((s3.trans (Sm.new ha1)).trans (Sm.new ha2)).trans (Sm.new ha3)).dom a4 ha4) ?_ (by simp; omega) fun m hm => ?_
        · rw [upd_same, List.map_append]; rfl
        · rcases List.mem_append.mp hm with hm | hm
          · rcases List.mem_cons.mp hm with rfl | hm
            · exact .inr (.inl rfl)
            · exact .inl (m2 m hm)
          · exact .inr (.inr (by simpa using hm))
      · refine ⟨_, rfl, ?_⟩
        rw [eD]
        exact q p' im' H2 s3 n2 h2 (by omega) fun m hm => .inl (m2 m hm)
    refine ⟨fun σ' H' => ∃ (p' : Addr) (im' : List Str), σ' = [some (.ref n), some (.int (k : Nat)), some (.int c), some (.int sh), some (.ref p'), v5] ∧ H p' = none ∧ H' p' = some (.lst (im'.map V.str)) ∧ im'.length ≤ 7 ∧ (∀ m ∈ im', m ∈ nms) ∧ Sm No H H', ?_, ?_⟩
    · refine AnyT.iff (fun Q q => ?_) ?_ ?_
      · exact ⟨_, rfl, _, _, rfl, rfl, by show (0 : Int) < _; decide, rfl, _, rfl, q _⟩
      · refine ⟨_, rfl, p, _, rfl, SqL.of h1, fun p' hp' => ?_⟩
        exact ⟨p', im.reverse, rfl, s2.dom p' hp', by rw [upd_same, List.map_reverse], by rw [List.length_reverse]; omega, fun m hm => mi m (List.mem_reverse.mp hm), s2.trans (Sm.new hp')⟩
      · exact ⟨p, im, rfl, hp, h1, by omega, mi, s2⟩
    · rintro σ' H' ⟨p', im', rfl, n2, h2, l2, m2, s3⟩
      exact ends p' im' H' rfl n2 h2 l2 m2 s3
end
end My
namespace My
open PySem PySem.Spec PyProof.Rows L2 TL
/-- a row whose lists are others than the one at R -/
def RowN (R : Addr) (H : Hp) (v : V) (r : Rw) : Prop := ∃ (t a b : Addr) (ds : List V), v = .ref t ∧ H t = some (.tup [.str r.n, .ref a, .ref b]) ∧ H a = some (.lst (r.im.map V.str)) ∧ H b = some (.lst ds) ∧ Al (DfR H) ds r.df ∧ a ≠ R ∧ b ≠ R
theorem RowN.sm {R : Addr} {H H' : Hp} {v : V} {r : Rw} (h : RowN R H v r) (e : Sm No H H') : RowN R H' v r :=
  let ⟨t, a, b, ds, h1, h2, h3, h4, h5, h6⟩ := h
  ⟨t, a, b, ds, h1, e.tup (fun z => z) h2, e.lst0 h3, e.lst0 h4, h5.mono fun _ _ d => d.sm e, h6⟩
theorem DfR.put {H : Hp} {v : V} {x : Str × Int} {a : Addr} {ys : List V} {o : HO} (h : DfR H v x) (ha : H a = some (.lst ys)) : DfR (upd H a o) v x := by
  obtain ⟨p, c, h1, h2, h3⟩ := h
  refine ⟨p, c, h1, ?_, ?_⟩
  · rw [upd_ne (fun z => by rw [z, ha] at h2; cases h2)]; exact h2
  · rw [upd_ne (fun z => by rw [z, ha] at h3; cases h3)]; exact h3
theorem RowN.put {R : Addr} {H : Hp} {v : V} {r : Rw} {ys : List V} {o : HO} (h : RowN R H v r) (hR : H R = some (.lst ys)) : RowN R (upd H R o) v r := by
  obtain ⟨t, a, b, ds, h1, h2, h3, h4, h5, n1, n2⟩ := h
  exact ⟨t, a, b, ds, h1, by rw [upd_ne (fun z => by rw [z, hR] at h2; cases h2)]; exact h2, by rw [upd_ne n1]; exact h3, by rw [upd_ne n2]; exact h4, h5.mono fun _ _ d => d.put hR, n1, n2⟩
theorem RowN.row {R : Addr} {H : Hp} {v : V} {r : Rw} (h : RowN R H v r) : RowR H v r :=
  let ⟨t, a, b, ds, h1, h2, h3, h4, h5, _⟩ := h
  ⟨t, a, b, ds, h1, h2, h3, h4, h5⟩
theorem dwOk : ∀ i : Nat, i < 3 → okS (("d" : Str) ++ Str.ofString (toString ((0 : Int) + (i : Int)))) ∧ ("d" : Str).length + (Str.ofString (toString ((0 : Int) + (i : Int)))).length ≤ sizeLine
  | 0, _ => ⟨⟨by decide +kernel, by decide +kernel⟩, by decide +kernel⟩
  | 1, _ => ⟨⟨by decide +kernel, by decide +kernel⟩, by decide +kernel⟩
  | 2, _ => ⟨⟨by decide +kernel, by decide +kernel⟩, by decide +kernel⟩
  | _ + 3, h => by omega
theorem poolOk : ∀ z ∈ (["ash", "bay", "elm", "fir", "oak", "yew", "b"] : List Str), okS z := by
  intro z hz
  have key : (["ash", "bay", "elm", "fir", "oak", "yew", "b"] : List Str).all (fun z => decide (z.length ≤ 1000) && PyData.strOk z) = true := by decide +kernel
  have := List.all_eq_true.mp key z hz
  rw [Bool.and_eq_true] at this
  exact ⟨of_decide_eq_true this.1, this.2⟩
theorem zooOk : okS "zoo" ∧ okS "cat" := ⟨⟨by decide +kernel, by decide +kernel⟩, ⟨by decide +kernel, by decide +kernel⟩⟩
theorem small_of {i : Int} {n : Nat} (hn : 0 < n) : ∃ k : Nat, i % (n : Int) = (k : Int) ∧ k < n := by
  have h0 := Int.emod_nonneg i (b := (n : Int)) (by omega)
  have h1 := Int.emod_lt_of_pos i (b := (n : Int)) (by omega)
  exact ⟨(i % (n : Int)).toNat, by omega, by omega⟩
section
variable {P : Program} {w : World} {K : PySem.W.Frag} {mg : Str → Option Value} {base : Heap}
theorem scRows : FnScope NRo ["script"] (defScope sRows) := ⟨rfl, rfl, rfl, by decide +kernel, rfl, by decide +kernel, by decide +kernel⟩
def poolS : List Str := ["ash", "bay", "elm", "fir", "oak", "yew", "b"]
theorem ok_rows {f fC fI : Addr} {fd dC dI : FuncData} (F : Fun K "_law_rows" "_law_rows" sRows f fd) (B : Blt mg) (GC : Cal P w K mg base CX0 1 "_law_cell" ["script", "k"] (spCell K) fC dC) (GI : Cal P w K mg base CX0 1 "_law_imports" ["names", "k", "cell", "shape"] spIms fI dI) :
    FnOk P w K mg base CX0 2 f fd ["script"] (spRows K) := by
  refine F.ok scRows (fun vs H Q E h => ?_) (fun cdv A outer s H vs Q E hr h => ?_)
  · obtain ⟨s, ns, rfl, _⟩ := h
    rfl
  obtain ⟨s, ns, rfl, hs, q⟩ := h
  have nd := scRows.nd
  refine ⟨_, (pss_cons (ps_set (i := 1) nd rfl (Or.inl rfl) (pe_call GC.ok hr rfl GC.g GC.k GC.b .nil pass0 (pa_cons (pv 0) (pa_cons pe_int pa_nil))))
    (pss_cons (ps_set (i := 2) nd rfl (Or.inl rfl) (pe_lst (pa_cons pe_str (pa_cons pe_str (pa_cons pe_str (pa_cons pe_str (pa_cons pe_str (pa_cons pe_str (pa_cons pe_str pa_nil)))))))))
    (pss_cons (ps_set (i := 3) nd rfl (Or.inl rfl) (pe_op op_mod (pe_op op_fdiv (pv 1) pe_int) pe_int))
    (pss_cons (ps_set (i := 4) nd rfl (Or.inl rfl) (pe_slice sl_list (pe_op op_cat (pe_slice sl_list (pv 2) (po_some (pv 3)) po_none) (pe_slice sl_list (pv 2) po_none (po_some (pv 3)))) po_none (po_some (pe_op op_add pe_int (pe_op op_mod (pv 1) pe_int)))))
    (C8.pss_cut (ps_if (pt_cmpR op_eq (pe_op op_mod (pe_op op_fdiv (pv 1) pe_int) pe_int) pe_int (nomark _)) (pss_one (ps_set (i := 4) nd rfl (Or.inl rfl) (pe_listRev rfl (by rfl) B.list (by rfl) B.reversed (pv 4)))) pss_nil)
    (pss_cons (ps_set (i := 5) nd rfl (Or.inl rfl) (pe_lst pa_nil))
    (pss_cons (ps_for PassesOwn.never rfl (pi_range1 (by rfl) B.range (pa_cons (pe_callB call_len_seq (by rfl) B.len PySem.boot_len (pa_cons (pv 4) pa_nil)) pa_nil)) (pg_name (i := 6) nd rfl (Or.inr rfl))
      (pss_cons (ps_set (i := 7) nd rfl (Or.inl rfl) (pe_call GC.ok hr rfl GC.g GC.k GC.b .nil pass0 (pa_cons (pv 0) (pa_cons (pe_op op_add (pv 6) pe_int) pa_nil))))
      (pss_cons (ps_setLc (i := 8) (own := [("n", 9)]) (g := gName 9) (tt := tYes) rfl nd rfl rfl (sw_true rfl rfl rfl (by decide +kernel)) (pi_range1 (by rfl) B.range (pa_cons (pe_op op_mod (pe_op op_fdiv (pv 7) pe_int) pe_int) pa_nil)) (blkOk_by (N := NRo) (sc := defScope sRows) (by decide +kernel)) (fun _ _ _ _ _ => (pg_name (i := 9) nd rfl (Or.inl rfl) (hf := Or.inr rfl))) (fun _ _ _ _ _ => pts_nil) (fun _ _ _ _ _ => (pe_tup (pa_cons (pe_op op_add_str pe_str (pe_callTy call_str_int (by rfl) B.str (by decide +kernel) (pa_cons (pv 9) pa_nil))) (pa_cons (pe_tup (pa_cons pe_str (pa_cons (pe_op op_add (pe_op op_mul pe_int (pv 6)) (pv 9)) pa_nil))) pa_nil)))))
      (pss_one (ps_expr (pe_bm PySem.F.plainAttrs_list PySem.F.slot_list_append PySem.F.type_list_append mt_append (pv 5) (pa_cons (pe_tup (pa_cons (pe_ix (r := rIxL K) ix_list (pv 4) (pv 6) (fun _ _ => rfl)) (pa_cons (pe_call GI.ok hr rfl GI.g GI.k GI.b .nil pass0 (pa_cons (pv 4) (pa_cons (pv 6) (pa_cons (pv 7) (pa_cons (pv 1) pa_nil))))) (pa_cons (pv 8) pa_nil)))) pa_nil)))))))
    (C8.pss_cut (ps_if (pt_cmpR op_eq (pe_op op_mod (pe_op op_fdiv (pv 1) pe_int) pe_int) pe_int (nomark _)) (pss_one (ps_expr (pe_bm PySem.F.plainAttrs_list PySem.F.slot_list_append PySem.F.type_list_append mt_append (pv 5) (pa_cons (pe_tup (pa_cons (pe_ix (r := rIxL K) ix_list (pv 4) (pe_op op_mod (pe_op op_fdiv (pv 1) pe_int) (pe_callB call_len_seq (by rfl) B.len PySem.boot_len (pa_cons (pv 4) pa_nil))) (fun _ _ => rfl)) (pa_cons (pe_lst pa_nil) (pa_cons (pe_lst pa_nil) pa_nil)))) pa_nil)))) pss_nil)
    (pss_cons (ps_set (i := 3) nd rfl (Or.inl rfl) (pe_op op_mod (pe_op op_fdiv (pv 1) pe_int) (pe_callB call_len_seq (by rfl) B.len PySem.boot_len (pa_cons (pv 5) pa_nil))))
    (pss_one (ps_ret (pe_op op_cat (pe_slice sl_list (pv 5) (po_some (pv 3)) po_none) (pe_slice sl_list (pv 5) po_none (po_some (pv 3))))))))))))))), ?_⟩
  refine ⟨_, rfl, s, ns, 0, rfl, hs, by omega, fun shp => ?_⟩
  refine ⟨by show 7 ≤ sizeLine; decide, fun p hp => ?_⟩
  have s1 : Sm No H (upd H p (.lst (poolS.map V.str))) := Sm.new hp
  have h1 : upd H p (.lst (poolS.map V.str)) p = some (.lst (poolS.map V.str)) := upd_same
  show tSeq _ _ _ _ (upd H p (.lst (poolS.map V.str)))
  generalize upd H p (.lst (poolS.map V.str)) = H1 at s1 h1
  refine ⟨_, rfl, _, _, rfl, rfl, ⟨by decide, by decide⟩, _, _, rfl, rfl, by show (0 : Int) < _; decide, ?_⟩
  obtain ⟨t, et, lt⟩ := small_of (i := shp / 7) (n := 7) (by decide)
  obtain ⟨b, eb, lb⟩ := small_of (i := shp) (n := 7) (by decide)
  have et' : shp / 7 % 7 = (t : Int) := et
  show gName 3 (V.int (shp / 7 % 7)) _ _ _
  rw [et']
  have lp : (poolS.map V.str).length = 7 := rfl
  have c1 : cutV (poolS.map V.str) (some (t : Int)) none = (poolS.drop t).map V.str := by rw [cut_lo (by rw [lp]; omega), List.map_drop]
  have c2 : cutV (poolS.map V.str) none (some (t : Int)) = (poolS.take t).map V.str := by rw [cut_hi (by rw [lp]; omega), List.map_take]
  refine ⟨_, rfl, _, rfl, _, rfl, p, _, rfl, SqL.of h1, fun p2 hp2 => ?_⟩
  rw [c1]
  have s2 : Sm No H1 (upd H1 p2 (.lst ((poolS.drop t).map V.str))) := Sm.new hp2
  have e2 := s2.lst0 h1
  have f2 : upd H1 p2 (.lst ((poolS.drop t).map V.str)) p2 = some (.lst ((poolS.drop t).map V.str)) := upd_same
  generalize upd H1 p2 (.lst ((poolS.drop t).map V.str)) = H2 at s2 e2 f2
  refine ⟨_, rfl, _, rfl, _, rfl, p, _, rfl, SqL.of e2, fun p3 hp3 => ?_⟩
  rw [c2]
  have s3 : Sm No H2 (upd H2 p3 (.lst ((poolS.take t).map V.str))) := Sm.new hp3
  have e3 := s3.lst0 f2
  have f3 : upd H2 p3 (.lst ((poolS.take t).map V.str)) p3 = some (.lst ((poolS.take t).map V.str)) := upd_same
  generalize upd H2 p3 (.lst ((poolS.take t).map V.str)) = H3 at s3 e3 f3
  refine ⟨p2, p3, _, _, rfl, rfl, e3, f3, ?_, fun p4 hp4 => ?_⟩
  · rw [List.length_map, List.length_map, List.length_drop, List.length_take]
    exact Nat.le_of_lt (line_of (by show 7 - t + min t 7 ≤ 1000; omega))
  rw [← List.map_append]
  have s4 : Sm No H3 (upd H3 p4 (.lst ((poolS.drop t ++ poolS.take t).map V.str))) := Sm.new hp4
  have f4 : upd H3 p4 (.lst ((poolS.drop t ++ poolS.take t).map V.str)) p4 = some (.lst ((poolS.drop t ++ poolS.take t).map V.str)) := upd_same
  generalize upd H3 p4 (.lst ((poolS.drop t ++ poolS.take t).map V.str)) = H4 at s4 f4
  have s14 := ((s1.trans s2).trans s3).trans s4
  refine ⟨_, rfl, _, _, rfl, rfl, by show (0 : Int) < _; decide, _, _, rfl, rfl, _, rfl, p4, _, rfl, SqL.of f4, fun p5 hp5 => ?_⟩
  have eb' : (1 : Int) + shp % 7 = ((1 + b : Nat) : Int) := by
    have : shp % 7 = (b : Int) := eb
    rw [this]; omega
  rw [eb', cut_hi', ← List.map_take]
  have s5 : Sm No H4 (upd H4 p5 (.lst (((poolS.drop t ++ poolS.take t).take (1 + b)).map V.str))) := Sm.new hp5
  have f5 : upd H4 p5 (.lst (((poolS.drop t ++ poolS.take t).take (1 + b)).map V.str)) p5 = some (.lst (((poolS.drop t ++ poolS.take t).take (1 + b)).map V.str)) := upd_same
  have l5 : ((poolS.drop t ++ poolS.take t).take (1 + b)).length ≤ 7 ∧ 1 ≤ ((poolS.drop t ++ poolS.take t).take (1 + b)).length := by
    rw [List.length_take, List.length_append, List.length_drop, List.length_take]
    have : poolS.length = 7 := rfl
    omega
  have m5 : ∀ m ∈ (poolS.drop t ++ poolS.take t).take (1 + b), okS m := fun m hm => by
    rcases List.mem_append.mp (List.mem_of_mem_take hm) with h | h
    · exact poolOk m (List.mem_of_mem_drop h)
    · exact poolOk m (List.mem_of_mem_take h)
  generalize (poolS.drop t ++ poolS.take t).take (1 + b) = nm0 at s5 f5 l5 m5
  show C8.tCut _ _ _ _ (upd H4 p5 (.lst (nm0.map V.str)))
  generalize upd H4 p5 (.lst (nm0.map V.str)) = H5 at s5 f5
  have s15 := s14.trans s5
  refine ⟨fun σ' H' => ∃ (pn : Addr) (nms : List Str), σ' = [some (.ref s), some (.int shp), some (.ref p), some (.int (t : Int)), some (.ref pn), none, none, none, none, none] ∧ H' pn = some (.lst (nms.map V.str)) ∧ (nms.length ≤ 7 ∧ 1 ≤ nms.length) ∧ (∀ m ∈ nms, okS m) ∧ Sm No H H', ?_, ?_⟩
  · refine AnyT.iff (fun Q q => ?_) ?_ ?_
    · exact ⟨_, rfl, _, _, rfl, rfl, ⟨by decide, by decide⟩, _, _, rfl, rfl, by show (0 : Int) < _; decide, rfl, _, rfl, q _⟩
    · refine ⟨_, rfl, p5, _, rfl, SqL.of f5, fun p' hp' => ?_⟩
      exact ⟨p', nm0.reverse, rfl, by rw [upd_same, List.map_reverse], by rw [List.length_reverse]; exact l5, fun m hm => m5 m (List.mem_reverse.mp hm), s15.trans (Sm.new hp')⟩
    · exact ⟨p5, nm0, rfl, f5, l5, m5, s15⟩
  rintro σ H6 ⟨pn, nms, rfl, f6, ⟨l6, l6'⟩, m6, s6⟩
  refine ⟨by show 0 ≤ sizeLine; decide, fun R hR => ?_⟩
  have s7 : Sm No H6 (upd H6 R (.lst [])) := Sm.new hR
  refine ⟨_, rfl, pn, _, rfl, .inl (SqL.of (s7.lst0 f6)), _, rfl, by rw [List.length_map]; omega, by rw [List.length_map]; omega, ?_⟩
  rw [List.length_map]
  refine for_range (lo := 0) (n := nms.length) (fun k σ H' => ∃ (v6 v7 v8 : Option V) (us : List V) (rows : List Rw), σ = [some (.ref s), some (.int shp), some (.ref p), some (.int (t : Int)), some (.ref pn), some (.ref R), v6, v7, v8, none] ∧ H' R = some (.lst us) ∧ Al (RowN R H') us rows ∧ rows.length = k ∧ (∀ r ∈ rows, RwOk r) ∧ Sm No H6 H')
    ⟨none, none, none, [], [], rfl, upd_same, Al.nil, rfl, fun r h => (nomatch h), s7⟩ ?_ ?_
  · rintro k σ H7 hk ⟨v6, v7, v8, us, rows, rfl, hR7, al7, lr, or_, s7⟩
    have ej : (0 : Int) + (k : Int) = (k : Nat) := Int.zero_add _
    show tSeq _ _ _ [some (.ref s), some (.int shp), some (.ref p), some (.int (t : Int)), some (.ref pn), some (.ref R), some (.int (0 + (k : Int))), v7, v8, none] H7
    rw [ej]
    have hs7 := (s6.trans s7).seq (fun z => z) hs
    refine ⟨_, rfl, _, rfl, _, _, rfl, rfl, s, ns, k + 1, rfl, hs7, by omega, fun c => ?_⟩
    obtain ⟨d, ed, ld⟩ := small_of (i := c / 11) (n := 4) (by decide)
    have ed' : c / 11 % 4 = (d : Int) := ed
    refine ⟨_, rfl, _, _, rfl, rfl, ⟨by decide, by decide⟩, _, _, rfl, rfl, by show (0 : Int) < _; decide, _, rfl, by rw [ed']; omega, by rw [ed']; omega, fun Dd hDd => ?_⟩
    refine lc_range (lo := 0) (n := (c / 11 % 4).toNat) (fun i H' => ∃ (ws : List V) (df : List (Str × Int)), H' Dd = some (.lst ws) ∧ Al (DfR H') ws df ∧ df.length = i ∧ (∀ x ∈ df, okS x.1) ∧ Sm No H7 H') ⟨[], [], upd_same, Al.nil, rfl, fun x h => (nomatch h), Sm.new hDd⟩ ?_ ?_
    · rintro i H8 hi ⟨ws, df, h8, al8, ldf, odf, s8⟩
      have i3 : i < 3 := by omega
      refine ⟨rfl, _, rfl, _, rfl, ?_, _, _, rfl, rfl, (dwOk i i3).2, _, rfl, _, _, rfl, rfl, .inl ⟨by decide, by decide⟩, _, rfl, _, _, rfl, rfl, by show 2 ≤ sizeLine; decide, fun c1 hc1 => ⟨by show 2 ≤ sizeLine; decide, fun t2 ht2 => ?_⟩⟩
      · exact Nat.lt_of_le_of_lt (Nat.log2_le_self _) (by omega)
      have q1 : Sm No H8 (upd H8 c1 (.tup [.str "int", .int (10 * (k : Int) + (0 + (i : Int)))])) := Sm.new hc1
      have q2 := q1.trans (Sm.new (o := .tup [.str (("d" : Str) ++ Str.ofString (toString ((0 : Int) + (i : Int)))), .ref c1]) ht2)
      have h9 := q2.lst0 h8
      have tD : t2 ≠ Dd := fun z => by rw [z, q1.lst0 h8] at ht2; cases ht2
      have cD : c1 ≠ Dd := fun z => by rw [z, h8] at hc1; cases hc1
      have tc : c1 ≠ t2 := fun z => by rw [← z, upd_same] at ht2; cases ht2
      refine ⟨ws, h9, ?_, ws ++ [.ref t2], df ++ [(("d" : Str) ++ Str.ofString (toString ((0 : Int) + (i : Int))), 10 * (k : Int) + (0 + (i : Int)))], upd_same, ?_, by rw [List.length_append, ldf]; rfl, fun x hx => ?_, (s8.trans q2).mut hDd (ntbl_l h9)⟩
      · have := al8.len
        exact line_of (by omega)
      · exact (al8.mono fun v y h => (h.sm q2).put h9).snoc ⟨t2, c1, rfl, by rw [upd_ne tD, upd_same], by rw [upd_ne cD, upd_ne tc, upd_same]⟩
      · rcases List.mem_append.mp hx with hx | hx
        · exact odf x hx
        · have : x = (("d" : Str) ++ Str.ofString (toString ((0 : Int) + (i : Int))), 10 * (k : Int) + (0 + (i : Int))) := by simpa using hx
          rw [this]; exact (dwOk i i3).1
    rintro H8 ⟨ws, df, h8, al8, ldf, odf, s8⟩
    have hR8 := s8.lst0 hR7
    have f8 := (s7.trans s8).lst0 f6
    obtain ⟨x, hx⟩ : ∃ x, nms[k]? = some x := ⟨nms[k], List.getElem?_eq_getElem hk⟩
    have ex : (nms.map V.str)[k]? = some (.str x) := by rw [List.getElem?_map, hx]; rfl
    refine ⟨_, rfl, .inl ⟨rfl, _, SqL.of hR8⟩, _, rfl, _, rfl, pn, _, _, _, rfl, rfl, SqL.of f8, atN ex, _, rfl, _, rfl, _, rfl, _, rfl, pn, nms, k, c, shp, rfl, f8, l6, fun L im H9 s9 hL hL9 li mi => ⟨_, rfl, by show 3 ≤ sizeLine; decide, fun tt htt => ?_⟩⟩
    have s10 : Sm No H9 (upd H9 tt (.tup [.str x, .ref L, .ref Dd])) := Sm.new htt
    have s910 := s9.trans s10
    have hR10 := s910.lst0 hR8
    have lus := al7.len
    refine ⟨R, _, _, rfl, rfl, hR10, line_of (by omega), ?_⟩
    have LR : L ≠ R := fun z => by rw [z, hR8] at hL; cases hL
    have DR : Dd ≠ R := fun z => by rw [z, hR7] at hDd; cases hDd
    refine ⟨_, _, _, us ++ [.ref tt], rows ++ [⟨x, im, df⟩], rfl, upd_same, ?_, by rw [List.length_append, lr]; rfl, fun r hr' => ?_, ((s7.trans s8).trans s910).mut hR (ntbl_l hR10)⟩
    · refine (al7.mono fun v r h => (h.sm (s8.trans s910)).put hR10).snoc (RowN.put ⟨tt, L, Dd, ws, rfl, upd_same, s10.lst0 hL9, s910.lst0 h8, al8.mono fun _ _ d => d.sm s910, LR, DR⟩ hR10)
    · rcases List.mem_append.mp hr' with hr' | hr'
      · exact or_ r hr'
      · have : r = ⟨x, im, df⟩ := by simpa using hr'
        rw [this]
        refine ⟨m6 x (List.mem_of_getElem? hx), li, fun m hm => ?_, by show df.length ≤ 3; omega, odf⟩
        rcases mi m hm with h | rfl | rfl
        · exact m6 m h
        · exact zooOk.1
        · exact zooOk.2
  rintro σ H7 ⟨v6, v7, v8, us, rows, rfl, hR7, al7, lr, or_, s7⟩
  have lus := al7.len
  have f7 := s7.lst0 f6
  refine ⟨fun σ' H' => ∃ (us : List V) (rows : List Rw), σ' = [some (.ref s), some (.int shp), some (.ref p), some (.int (t : Int)), some (.ref pn), some (.ref R), v6, v7, v8, none] ∧ H' R = some (.lst us) ∧ Al (RowR H') us rows ∧ (1 ≤ rows.length ∧ rows.length ≤ 8) ∧ (∀ r ∈ rows, RwOk r) ∧ Sm No H6 H', ?_, ?_⟩
  · refine AnyT.iff (fun Q q => ?_) ?_ ?_
    · exact ⟨_, rfl, _, _, rfl, rfl, ⟨by decide, by decide⟩, _, _, rfl, rfl, by show (0 : Int) < _; decide, rfl, _, rfl, q _⟩
    · obtain ⟨j, ejj, lj⟩ := small_of (i := shp / 5) (n := nms.length) (by omega)
      obtain ⟨x, hx⟩ : ∃ x, nms[j]? = some x := ⟨nms[j], List.getElem?_eq_getElem lj⟩
      have ex : (nms.map V.str)[j]? = some (.str x) := by rw [List.getElem?_map, hx]; rfl
      refine ⟨_, rfl, .inl ⟨rfl, _, SqL.of hR7⟩, _, rfl, _, rfl, _, _, rfl, rfl, ⟨by decide, by decide⟩, _, rfl, pn, _, rfl, .inl (SqL.of f7), _, _, rfl, rfl, ?_, pn, _, _, _, rfl, rfl, SqL.of f7, by rw [List.length_map, ejj]; exact atN ex, by show 0 ≤ sizeLine; decide, fun l1 hl1 => ⟨by show 0 ≤ sizeLine; decide, fun l2 hl2 => ⟨by show 3 ≤ sizeLine; decide, fun tt htt => ?_⟩⟩⟩
      · show (0 : Int) < _
        rw [List.length_map]; omega
      have q1 : Sm No H7 (upd H7 l1 (.lst [])) := Sm.new hl1
      have q2 : Sm No (upd H7 l1 (.lst [])) (upd (upd H7 l1 (.lst [])) l2 (.lst [])) := Sm.new hl2
      have q3 : Sm No (upd (upd H7 l1 (.lst [])) l2 (.lst [])) (upd (upd (upd H7 l1 (.lst [])) l2 (.lst [])) tt (.tup [.str x, .ref l1, .ref l2])) := Sm.new htt
      have q13 := (q1.trans q2).trans q3
      have hR10 := q13.lst0 hR7
      have e1 := (q2.trans q3).lst0 (show upd H7 l1 (.lst []) l1 = some (.lst []) from upd_same)
      have e2 := q3.lst0 (show upd (upd H7 l1 (.lst [])) l2 (.lst []) l2 = some (.lst []) from upd_same)
      have n1 : l1 ≠ R := fun z => by rw [z, hR7] at hl1; cases hl1
      have n2 : l2 ≠ R := fun z => by rw [z, q1.lst0 hR7] at hl2; cases hl2
      refine ⟨R, _, _, rfl, rfl, hR10, line_of (by omega), ?_⟩
      refine ⟨us ++ [.ref tt], rows ++ [⟨x, [], []⟩], rfl, upd_same, ?_, ⟨by rw [List.length_append]; simp, by rw [List.length_append, lr]; simp; omega⟩, fun r hr' => ?_, (s7.trans q13).mut hR (ntbl_l hR10)⟩
      · exact ((al7.mono fun v r h => (h.sm q13).put hR10).snoc (RowN.put (r := ⟨x, [], []⟩) ⟨tt, l1, l2, [], rfl, upd_same, e1, e2, Al.nil, n1, n2⟩ hR10)).mono fun _ _ h => h.row
      · rcases List.mem_append.mp hr' with hr' | hr'
        · exact or_ r hr'
        · have : r = ⟨x, [], []⟩ := by simpa using hr'
          rw [this]
          exact ⟨m6 x (List.mem_of_getElem? hx), Nat.zero_le _, fun m hm => (nomatch hm), Nat.zero_le _, fun d hd => (nomatch hd)⟩
    · exact ⟨us, rows, rfl, hR7, al7.mono fun _ _ h => h.row, ⟨by omega, by omega⟩, or_, s7⟩
  rintro σ H8 ⟨us, rows, rfl, hR8, al8, ⟨l1, l2⟩, or_, s8⟩
  have lu := al8.len
  obtain ⟨j, ejj, lj⟩ := small_of (i := shp / 13) (n := us.length) (by omega)
  refine ⟨_, rfl, _, _, rfl, rfl, ⟨by decide, by decide⟩, _, rfl, R, _, rfl, .inl (SqL.of hR8), _, _, rfl, rfl, by show (0 : Int) < _; omega, ?_⟩
  show gName 3 (V.int (shp / 13 % (us.length : Int))) _ _ _
  rw [ejj]
  have k1 : cutV us (some (j : Int)) none = us.drop j := cut_lo (by omega)
  have k2 : cutV us none (some (j : Int)) = us.take j := cut_hi (by omega)
  refine ⟨_, rfl, _, rfl, _, rfl, R, _, rfl, SqL.of hR8, fun a1 ha1 => ?_⟩
  rw [k1]
  have q1 : Sm No H8 (upd H8 a1 (.lst (us.drop j))) := Sm.new ha1
  refine ⟨_, rfl, _, rfl, _, rfl, R, _, rfl, SqL.of (q1.lst0 hR8), fun a2 ha2 => ?_⟩
  rw [k2]
  have q2 : Sm No (upd H8 a1 (.lst (us.drop j))) (upd (upd H8 a1 (.lst (us.drop j))) a2 (.lst (us.take j))) := Sm.new ha2
  refine ⟨a1, a2, _, _, rfl, rfl, q2.lst0 upd_same, upd_same, ?_, fun a3 ha3 => ?_⟩
  · rw [List.length_drop, List.length_take]
    exact Nat.le_of_lt (line_of (by omega))
  have q13 := (q1.trans q2).trans (Sm.new (o := .lst (us.drop j ++ us.take j)) ha3)
  refine q a3 (us.drop j ++ us.take j) (rows.drop j ++ rows.take j) _ ((s6.trans s8).trans q13) upd_same (((al8.drop j).app (al8.take j)).mono fun _ _ h => h.sm q13) ⟨?_, fun r hr' => ?_⟩
  · rw [List.length_append, List.length_drop, List.length_take]; omega
  · rcases List.mem_append.mp hr' with h | h
    · exact or_ r (List.mem_of_mem_drop h)
    · exact or_ r (List.mem_of_mem_take h)
end
end My
namespace My
open PySem PySem.Spec PyProof.Rows L2 TL
abbrev sLaw : Stmt := top 19
abbrev NLw : List Str := ["script", "rows", "due"]
def spLaw (K : PySem.W.Frag) : Sp := fun vs H Q _ => ∃ (a : Addr) (ns : List Int), vs = [.ref a] ∧ SqL K H a (ns.map V.int) ∧ ∀ H', Q (.bl true) H'
section
variable {P : Program} {w : World} {K : PySem.W.Frag} {mg : Str → Option Value} {base : Heap}
theorem scLaw : FnScope NLw ["script"] (defScope sLaw) := ⟨rfl, rfl, rfl, by decide +kernel, rfl, by decide +kernel, by decide +kernel⟩
theorem ok_law {f fR fD fT : Addr} {fd dR dD dT : FuncData} (F : Fun K "law" "law" sLaw f fd) (B : Blt mg) (GR : Cal P w K mg base CX0 2 "_law_rows" ["script"] (spRows K) fR dR) (GD : Cal P w K mg base CX0 1 "_law_due" ["rows"] spDue fD dD)
    (GT : Cal P w K mg base CX0 6 "_law_told" ["rows"] spDue fT dT) : FnOk P w K mg base CX0 7 f fd ["script"] (spLaw K) := by
  refine F.ok scLaw (fun vs H Q E h => ?_) (fun cdv A outer s H vs Q E hr h => ?_)
  · obtain ⟨a, ns, rfl, _⟩ := h
    rfl
  obtain ⟨a, ns, rfl, hs, q⟩ := h
  have nd := scLaw.nd
  have r1 : Room 1 _ := hr.mono (show 1 ≤ 6 by decide)
  have r2 : Room 2 _ := hr.mono (show 2 ≤ 6 by decide)
  refine ⟨_, (pss_cons (ps_set (i := 1) nd rfl (Or.inl rfl) (pe_call GR.ok r2 rfl GR.g GR.k GR.b .nil pass0 (pa_cons (pv 0) pa_nil)))
    (pss_cons (ps_set (i := 2) nd rfl (Or.inl rfl) (pe_call GD.ok r1 rfl GD.g GD.k GD.b .nil pass0 (pa_cons (pv 1) pa_nil)))
    (pss_cons (ps_if (pt_cmpR (op_neD hr.units) (pe_call GT.ok hr rfl GT.g GT.k GT.b .nil pass0 (pa_cons (pv 1) pa_nil)) (pv 2) (nomark _)) (pss_one (ps_ret pe_bl)) pss_nil)
    (pss_cons (ps_if (pt_cmpR op_ne (pe_ix (r := rIxT K) ix_tup (pv 2) pe_int (fun _ _ => rfl)) pe_str (nomark _)) (pss_one (ps_ret pe_bl)) pss_nil)
    (pss_one (ps_ret (pe_cmpR (op_eqD hr.units) (pe_call GT.ok hr rfl GT.g GT.k GT.b .nil pass0 (pa_cons (pe_listRev rfl (by rfl) B.list (by rfl) B.reversed (pv 1)) pa_nil)) (pv 2) (nomark _)))))))), ?_⟩
  refine ⟨_, rfl, a, ns, rfl, hs, fun L us rows H1 s1 h1 al O => ?_⟩
  have OK := link_rsok O
  refine ⟨_, rfl, L, us, rows, rfl, h1, al, O, fun vd H2 s2 rd => ?_⟩
  refine ⟨_, rfl, L, us, rows, rfl, s2.lst0 h1, al.mono fun _ _ r => r.sm s2, O, fun vt H3 s3 rt => ⟨_, rfl, _, _, rt.dp, (rd.sm s3).dp, datR_shaped OK, datR_shaped OK, _, rfl, ?_⟩⟩
  rw [datR_refl OK]
  refine iteF ?_
  have rd3 := rd.sm s3
  cases e : linkF rows with
  | dup n =>
    rw [e] at rd3
    obtain ⟨p, rfl, hp⟩ := rd3
    refine ⟨_, rfl, p, _, 0, _, rfl, rfl, SqT.of hp, rfl, rfl, _, rfl, ?_⟩
    rw [show decide (V.str "duplicate" = V.str "linked") = false from by decide +kernel]
    exact iteT (q _)
  | unk n =>
    rw [e] at rd3
    obtain ⟨p, rfl, hp⟩ := rd3
    refine ⟨_, rfl, p, _, 0, _, rfl, rfl, SqT.of hp, rfl, rfl, _, rfl, ?_⟩
    rw [show decide (V.str "unknown" = V.str "linked") = false from by decide +kernel]
    exact iteT (q _)
  | ring =>
    rw [e] at rd3
    obtain ⟨p, rfl, hp⟩ := rd3
    refine ⟨_, rfl, p, _, 0, _, rfl, rfl, SqT.of hp, rfl, rfl, _, rfl, ?_⟩
    rw [show decide (V.str "ring" = V.str "linked") = false from by decide +kernel]
    exact iteT (q _)
  | linked l =>
    have rd4 := rd3
    rw [e] at rd3
    obtain ⟨p, L', vs, rfl, hp, hL', al'⟩ := rd3
    refine ⟨_, rfl, p, _, 0, _, rfl, rfl, SqT.of hp, rfl, rfl, _, rfl, ?_⟩
    rw [show decide (V.str "linked" = V.str "linked") = true from by decide +kernel]
    refine iteF ?_
    have s13 := s2.trans s3
    refine ⟨_, rfl, L, us, rfl, SqL.of (s13.lst0 h1), fun rv hrv => ?_⟩
    have s4 : Sm No H3 (upd H3 rv (.lst us.reverse)) := Sm.new hrv
    refine ⟨rv, us.reverse, rows.reverse, rfl, upd_same, (al.mono fun _ _ r => r.sm (s13.trans s4)).rev, ⟨by rw [List.length_reverse]; exact O.1, fun r m => O.2 r (List.mem_reverse.mp m)⟩, fun v2 H5 s5 r5 => ?_⟩
    have e2 : linkF rows.reverse = linkF rows := by rw [e]; exact link_perm (List.reverse_perm rows).symm e
    rw [e2] at r5
    refine ⟨_, rfl, _, _, r5.dp, (rd4.sm (s4.trans s5)).dp, datR_shaped OK, datR_shaped OK, ?_⟩
    rw [datR_refl OK]
    exact q _
end
end My
namespace My
open PySem PySem.Spec PyProof.Rows L2 He
abbrev dd (i : Nat) (x : Str) : DefD := ⟨(x, none), x, x, defArgs (top i), defBody (top i), defScope (top i), [], []⟩
abbrev dc (i j : Nat) (x m q : Str) : DefD := ⟨(x, some m), m, q, defArgs (inClass (top i) j), defBody (inClass (top i) j), defScope (inClass (top i) j), [], []⟩
def fnK : List DefD := [dc 4 0 "DuplicateName" "__init__" "DuplicateName.__init__", dc 5 0 "UnknownModule" "__init__" "UnknownModule.__init__", dc 7 0 "Unit" "__init__" "Unit.__init__", dd 9 "check_modules_are_there", dd 10 "importing_modules", dd 11 "linking_order",
  dd 12 "link", dd 14 "_law_cell", dd 15 "_law_imports", dd 16 "_law_rows", dd 17 "_law_due", dd 18 "_law_told",
  dd 19 "law"]
def faK : List Fa := [.glo "FoldError", .glo "ModuleRing", .glo "DuplicateName", .glo "UnknownModule", .glo "Unit", .glo "check_modules_are_there",
  .glo "importing_modules", .glo "linking_order", .glo "link", .glo "_law_cell", .glo "_law_imports", .glo "_law_rows",
  .glo "_law_due", .glo "_law_told", .glo "law", .exc "ModuleRing", .cls "Unit", .mkr "Unit",
  .noat "Unit" "name", .noat "Unit" "imports", .noat "Unit" "exports", .noat "Unit" "macros", .noat "Unit" "definitions", .exm "DuplicateName" "DuplicateName" true,
  .exm "UnknownModule" "DuplicateName" false, .exm "UnknownModule" "UnknownModule" true, .exm "ModuleRing" "DuplicateName" false, .exm "ModuleRing" "UnknownModule" false, .exm "ModuleRing" "ModuleRing" true, .free "int",
  .free "len", .free "range", .free "str", .free "list", .free "sorted", .free "reversed",
  .free "isinstance", .free "ValueError"]
def tfK : List Defn := []
/-- an exception's class over own ones and ValueError -/
def excB (K : PySem.W.Frag) (C : Addr) : Bool := match K.lookup C with
  | some ⟨.type "type", _, .cls cd, sl⟩ => (match cd.mro, sl.toList with
    | .ref C' :: bm, [_, _, _, _, some (.builtin n), _] => C' == C && (n == "ValueError.__new__" && (!cd.hasDel && (cd.hasDict && PySem.HandSPX.refsVE bm)))
    | _, _ => false)
  | _ => false
/-- all that is asked of one exception class with fields at -/
def excAll (K : PySem.W.Frag) (x : Str) : Bool :=
  excB K (ga K x) && (eqO (PySem.W.findIn K (.ref (ga K x)) "__setattr__") (some (some (.builtin "object.__setattr__"))) &&
  (decide (PySem.W.subIn K (.ref (ga K x)) (.type "BaseException") = some true) && (decide (PySem.W.typeIn K (.ref (ga K x)) = some (.type "type")) && (PySem.W.keepIn K (.ref (ga K x)) &&
  (eqO (PySem.W.findIn K (.ref (ga K x)) "__getattribute__") (some (some (.builtin "BaseException.__getattribute__"))) && (eqO (PySem.W.findIn K (.ref (ga K x)) "__getattr__") (some none) &&
  (PySem.W.hasDictIn K (ga K x) && (eqO (PySem.W.findIn K (.ref (ga K x)) "__class__") (some (some (.builtin "object.__class__"))) && (decide (PySem.W.mroIn K (ga K x) (.type "object") = some true) &&
  eqO (PySem.W.findIn K (.ref (ga K x)) "name") (some none))))))))))
def iniB (K : PySem.W.Frag) (x : Str) : Bool := eqO (PySem.W.findIn K (.ref (ga K x)) "__init__") (some (some (.ref (ma K (ga K x) "__init__")))) && decide (PySem.W.typeIn K (.ref (ma K (ga K x) "__init__")) = some (.type "function"))
def kitB (K : PySem.W.Frag) (x y : Str) (b : Bool) : Bool := decide (PySem.W.kitOne K (.ref (ga K x)) (.ref (ga K y)) = some b)
def valB (r : Option PySem.W.CFound) (n : String) : Bool := match r with
  | some (.val (.builtin m)) => m == n
  | _ => false
theorem valB_ok {r : Option PySem.W.CFound} {n : String} (h : valB r n = true) : r = some (.val (.builtin n)) := by
  unfold valB at h
  split at h
  · rw [eq_of_beq h]
  · cases h
def heapB (K : PySem.W.Frag) (x : Str) (n : String) : Bool := eqO (PySem.W.nsIn K mainGlobals x) (some (some (.builtin n)))
def exK (K : PySem.W.Frag) : Bool := (excAll K "DuplicateName" && (excAll K "UnknownModule" && excAll K "ModuleRing")) && ((iniB K "DuplicateName" && iniB K "UnknownModule") && ((heapB K "heappush" "_heapq.heappush" && heapB K "heappop" "_heapq.heappop") &&
  (kitB K "ModuleRing" "FoldError" true && ((eqO (PySem.W.specialIn K (.builtin "object.__class__") "__get__") (some (some (.builtin "getset_descriptor.__get__"))) && decide (PySem.W.takesIn K (.builtin "object.__class__") = some true)) &&
  (PySem.W.readsIn K (ga K "FoldError") (.type "type") && (eqO (PySem.W.specialIn K (.ref (ga K "FoldError")) "__getattribute__") (some (some (.builtin "type.__getattribute__"))) && valB (PySem.W.findCls K (.ref (ga K "FoldError")) (.type "type") "__init__") "ValueError.__init__"))))))
/-! ### the hook: what the module's names reach, and the statics -/
def reach (g : Addr → Option Obj) : List Addr := He.asD g 5 ++ [cStatics]
theorem says_of {fa : List Fa} {fn : List DefD} {ts : List Tab} {tf : List Defn} {ex : PySem.W.Frag → Bool} {w : World} {h : Heap} {as : List Addr} (e1 : obsT fa fn ts (frT h.get? as) = valT fn ts w)
    (e2 : (ex (frT h.get? as) && tabsB h.get? tf (frT h.get? as)) = true) : SaysX fa fn ts tf ex w h (frT h.get? as) := by
  obtain ⟨x1, x2⟩ := ba e2
  have key : ∀ p ∈ tf, PySem.W.codeHdIn (frT h.get? as) (cT (frT h.get? as) p).1 (cT (frT h.get? as) p).2 = true ∧ ∃ o, h.get? (cT (frT h.get? as) p).2 = some o ∧ emptyTab o = true := by
    intro p hp
    obtain ⟨y1, y2⟩ := ba (List.all_eq_true.mp x2 p hp)
    cases q : h.get? (cT (frT h.get? as) p).2 with
    | none => rw [q] at y2; cases y2
    | some o => rw [q] at y2; exact ⟨y1, o, rfl, y2⟩
  refine ⟨e1, x1, fun p hp => (key p hp).1, fun p hp => ?_, fun p hp => ?_⟩
  · obtain ⟨_, o, q, z⟩ := key p hp
    exact frT_none q z
  · obtain ⟨_, o, q, z⟩ := key p hp
    rw [q, emptyTab_eq z]
abbrev AlY : Type := AlT × Bool
def obsY (fa : List Fa) (fn : List DefD) (tf : List Defn) (ex : PySem.W.Frag → Bool) (g : Addr → Option Obj) : AlY := (obsT fa fn [] (frT g (reach g)), ex (frT g (reach g)) && tabsB g tf (frT g (reach g)))
def hookY (fa : List Fa) (fn : List DefD) (tf : List Defn) (ex : PySem.W.Frag → Bool) : PySem.W.Hook where
  α := AlY
  obs := fun s => obsY fa fn tf ex s.heap.get?
  val := fun w => (valT fn [] w, true)
  says := fun w h => ∃ K : PySem.W.Frag, K.In h ∧ SaysX fa fn [] tf ex w h K
  of := fun _ _ e => ⟨_, frT_in, says_of (congrArg (fun z : AlY => z.1) e) (congrArg (fun z : AlY => z.2) e)⟩
  keeps := fun _ _ _ ⟨K, hK, c⟩ k => ⟨K, PySem.W.Frag.In.keeps hK k, ⟨c.t, c.more, c.hd, c.out, fun p hp => k _ _ (c.empty p hp)⟩⟩
abbrev R : PySem.W.OpenRow := PySem.W.OpenLaw.row PySem.Challenge.rw_aliasfold_k70_linking_puts_needed_module
abbrev hk : PySem.W.Hook := hookY faK fnK tfK exK
def ob (s : PySem.W.SharedT) : AlY := obsY faK fnK tfK exK (HandSHeadRun.getT s)
theorem ob_eq (s : PySem.W.SharedT) : ob s = hk.obs s.abs := by
  have e : HandSHeadRun.getT s = s.abs.heap.get? := funext (HandSHeadRun.getT_eq s)
  unfold ob
  rw [e] <;> rfl
def loose : List Str := [("FoldError" : Str), ("ModuleRing" : Str), ("DuplicateName" : Str), ("UnknownModule" : Str), ("Unit" : Str), ("check_modules_are_there" : Str),
  ("importing_modules" : Str), ("linking_order" : Str), ("link" : Str), ("_law_cell" : Str), ("_law_imports" : Str), ("_law_rows" : Str),
  ("_law_due" : Str), ("_law_told" : Str)]
theorem headRun (w : World) : HandSHeadRun.RunEqI R (PySem.W.view R.prog [0, 19]) hk ob 4000 loose w := by
  unfold HandSHeadRun.RunEqI
  kernel_rfl
end My
namespace My
open PySem PySem.Spec PyProof.Rows L2 TL
section
open He
variable {K : PySem.W.Frag} {h : Heap} {mg : Str → Option Value} {w : World}
theorem fun_of {x q : Str} {st : Stmt} {f : Addr} {fd : FuncData} (F : FunD K x q (defArgs st) (defBody st) (defScope st) [] [] f fd) : Fun K x q st f fd := by
  obtain ⟨oc, od, dV, kV, doc, pm, an, cdv, ct, osl, e, lk, hcd, hD, hK⟩ := F.ex
  rcases hD with ⟨_, rfl⟩ | ⟨e, _⟩
  · exact ⟨⟨oc, od, kV, doc, pm, an, cdv, ct, osl, e, lk, hcd⟩, F.kp⟩
  · exact absurd rfl e
theorem excB_ok {C : Addr} (q : excB K C = true) : ∃ nm q N bs bm sn sub ab col dd k0 k1 k2 k3 k5, K.lookup C = some (excClassObj nm q C N bs bm true sn sub ab col dd k0 k1 k2 k3 k5 "ValueError.__new__") ∧ PySem.HandSPX.refsVE bm = true := by
  unfold excB at q
  split at q
  · rename_i dd cd sl ho
    split at q
    · rename_i C' bm k0 k1 k2 k3 n k5 hm hs
      simp only [Bool.and_eq_true, beq_iff_eq, Bool.not_eq_true'] at q
      obtain ⟨e1, e2, hdel, hd, hr⟩ := q
      obtain ⟨nm, bs, mro, ns, qn, hdct, sn, sub, ab, col, del⟩ := cd
      dsimp only at hm hdel hd
      subst hm hdel hd e1 e2
      have hsl : sl = #[k0, k1, k2, k3, some (.builtin "ValueError.__new__"), k5] := by
        obtain ⟨l⟩ := sl
        simp only at hs
        rw [hs]
      subst hsl
      exact ⟨nm, qn, ns, bs, bm, sn, sub, ab, col, dd, k0, k1, k2, k3, k5, ho, hr⟩
    · cases q
  · cases q
structure ExAll (K : PySem.W.Frag) (C : Addr) : Prop where
  o : OexC K C
  ga : PySem.W.findIn K (.ref C) "__getattribute__" = some (some (.builtin "BaseException.__getattribute__"))
  gg : PySem.W.findIn K (.ref C) "__getattr__" = some none
  hd : PySem.W.hasDictIn K C = true
  cl : PySem.W.findIn K (.ref C) "__class__" = some (some (.builtin "object.__class__"))
  mro : PySem.W.mroIn K C (.type "object") = some true
  no : PySem.W.findIn K (.ref C) "name" = some none
theorem excAll_ok {x : Str} (q : excAll K x = true) : ExAll K (ga K x) := by
  obtain ⟨c1, q⟩ := ba q
  obtain ⟨c2, q⟩ := ba q
  obtain ⟨c3, q⟩ := ba q
  obtain ⟨c4, q⟩ := ba q
  obtain ⟨c5, q⟩ := ba q
  obtain ⟨c6, q⟩ := ba q
  obtain ⟨c7, q⟩ := ba q
  obtain ⟨c8, q⟩ := ba q
  obtain ⟨c9, q⟩ := ba q
  obtain ⟨c10, q⟩ := ba q
  exact ⟨⟨excB_ok c1, eqO_ok c2, of_decide_eq_true c3, of_decide_eq_true c4, c5⟩, eqO_ok c6, eqO_ok c7, c8, eqO_ok c9, of_decide_eq_true c10, eqO_ok q⟩
theorem iniB_ok {x : Str} (q : iniB K x = true) : PySem.W.findIn K (.ref (ga K x)) "__init__" = some (some (.ref (ma K (ga K x) "__init__"))) ∧ PySem.W.typeIn K (.ref (ma K (ga K x) "__init__")) = some (.type "function") := by
  obtain ⟨a, b⟩ := ba q
  exact ⟨eqO_ok a, of_decide_eq_true b⟩
end
end My
namespace My
open PySem PySem.Spec PyProof.Rows L2 TL He
abbrev row70 : PySem.W.OpenLaw := PySem.Challenge.rw_aliasfold_k70_linking_puts_needed_module
theorem facts {K : PySem.W.Frag} {h : Heap} {mg : Str → Option Value} {w : World} {fa : Addr} (c : SaysX faK fnK [] tfK exK w h K) (X : K.In h) (G : h.Ns mainGlobals mg) (hfa : mg ("law" : Str) = some (.ref fa)) :
    LamX.LawAtS row70 w K CX0 7 63 "script" mg fa h := by
  have d := c.t.d
  have glo : ∀ x : Str, Fa.glo x ∈ faK → mg x = some (.ref (ga K x)) := fun x m => glo_ok X G (d.facts m)
  have fre : ∀ x : Str, Fa.free x ∈ faK → mg x = none := fun x m => free_ok X G (d.facts m)
  have B : Blt mg := ⟨fre _ (by simp [faK]), fre _ (by simp [faK]), fre _ (by simp [faK]), fre _ (by simp [faK]), fre _ (by simp [faK]), fre _ (by simp [faK]), fre _ (by simp [faK]), fre _ (by simp [faK])⟩
  obtain ⟨e1, m1⟩ := ba c.more
  obtain ⟨e2, m2⟩ := ba m1
  obtain ⟨e3, m3⟩ := ba m2
  obtain ⟨e4, m4⟩ := ba m3
  obtain ⟨e5, m5⟩ := ba m4
  obtain ⟨e6, m6⟩ := ba m5
  obtain ⟨e7, e8⟩ := ba m6
  obtain ⟨e1a, e1b⟩ := ba e1
  obtain ⟨e1b, e1c⟩ := ba e1b
  obtain ⟨e2a, e2b⟩ := ba e2
  obtain ⟨e3a, e3b⟩ := ba e3
  obtain ⟨e5a, e5b⟩ := ba e5
  have eD := excAll_ok e1a
  have eU := excAll_ok e1b
  have eR := excAll_ok e1c
  have iD := iniB_ok e2a
  have iU := iniB_ok e2b
  have HQ : Heq mg := ⟨PySem.W.mg_of X G (eqO_ok e3a), PySem.W.mg_of X G (eqO_ok e3b)⟩
  have gFo := glo "FoldError" (by simp [faK])
  have gxD := glo "DuplicateName" (by simp [faK])
  have gxU := glo "UnknownModule" (by simp [faK])
  have gxR := glo "ModuleRing" (by simp [faK])
  have gUn := glo "Unit" (by simp [faK])
  have BC : BaseC K mg (ga K "FoldError") := ⟨gFo, e6, eqO_ok e7, valB_ok e8⟩
  obtain ⟨q1, q2, q3, q4⟩ := exc_ok (d.facts (f := .exc "ModuleRing") (by simp [faK]))
  have xR : PlainC K mg "ModuleRing" (ga K "ModuleRing") := ⟨q1, gxR, q2, q3, q4⟩
  have UC : UniC K (ga K "Unit") := ⟨cls_ok (d.facts (f := .cls "Unit") (by simp [faK])), noat_ok (d.facts (f := .noat "Unit" "name") (by simp [faK])), noat_ok (d.facts (f := .noat "Unit" "imports") (by simp [faK])), noat_ok (d.facts (f := .noat "Unit" "exports") (by simp [faK])), noat_ok (d.facts (f := .noat "Unit" "macros") (by simp [faK])), noat_ok (d.facts (f := .noat "Unit" "definitions") (by simp [faK]))⟩
  have TC : ToldC K mg (ga K "FoldError") (ga K "DuplicateName") (ga K "UnknownModule") (ga K "ModuleRing") := ⟨gFo, gxD, gxU, gxR, exm_ok (d.facts (f := .exm "DuplicateName" "DuplicateName" true) (by simp [faK])), exm_ok (d.facts (f := .exm "UnknownModule" "DuplicateName" false) (by simp [faK])), exm_ok (d.facts (f := .exm "UnknownModule" "UnknownModule" true) (by simp [faK])), exm_ok (d.facts (f := .exm "ModuleRing" "DuplicateName" false) (by simp [faK])), exm_ok (d.facts (f := .exm "ModuleRing" "UnknownModule" false) (by simp [faK])), exm_ok (d.facts (f := .exm "ModuleRing" "ModuleRing" true) (by simp [faK])),
    ⟨eD.ga, eD.gg, eD.o.exC, eD.hd⟩, ⟨eU.ga, eU.gg, eU.o.exC, eU.hd⟩, eD.no, eU.no, ⟨eR.ga, eR.gg, eR.o.exC, eR.hd, eR.cl, eqO_ok e5a, of_decide_eq_true e5b, eR.mro⟩, of_decide_eq_true e4⟩
  obtain ⟨dDuplicatename_Init, DDuplicatename_Init⟩ := d.def_ 0 (d := dc 4 0 "DuplicateName" "__init__" "DuplicateName.__init__") rfl
  have FDuplicatename_Init : Fun K "__init__" "DuplicateName.__init__" (inClass (top 4) 0) (ma K (ga K "DuplicateName") "__init__") dDuplicatename_Init := fun_of DDuplicatename_Init
  have bDuplicatename_Init : Binds K dDuplicatename_Init ["self", "name"] [] := FDuplicatename_Init.binds fun _ _ _ _ _ _ us hl => match us, hl with | [_, _], _ => rfl
  obtain ⟨dUnknownmodule_Init, DUnknownmodule_Init⟩ := d.def_ 1 (d := dc 5 0 "UnknownModule" "__init__" "UnknownModule.__init__") rfl
  have FUnknownmodule_Init : Fun K "__init__" "UnknownModule.__init__" (inClass (top 5) 0) (ma K (ga K "UnknownModule") "__init__") dUnknownmodule_Init := fun_of DUnknownmodule_Init
  have bUnknownmodule_Init : Binds K dUnknownmodule_Init ["self", "name"] [] := FUnknownmodule_Init.binds fun _ _ _ _ _ _ us hl => match us, hl with | [_, _], _ => rfl
  obtain ⟨dUnit_Init, DUnit_Init⟩ := d.def_ 2 (d := dc 7 0 "Unit" "__init__" "Unit.__init__") rfl
  have FUnit_Init : Fun K "__init__" "Unit.__init__" (inClass (top 7) 0) (ma K (ga K "Unit") "__init__") dUnit_Init := fun_of DUnit_Init
  have bUnit_Init : Binds K dUnit_Init ["self", "name", "imports", "exports", "macros", "definitions"] [] := FUnit_Init.binds fun _ _ _ _ _ _ us hl => match us, hl with | [_, _, _, _, _, _], _ => rfl
  obtain ⟨dCheckModulesAreThere, DCheckModulesAreThere⟩ := d.def_ 3 (d := dd 9 "check_modules_are_there") rfl
  have FCheckModulesAreThere : Fun K "check_modules_are_there" "check_modules_are_there" (top 9) (ga K "check_modules_are_there") dCheckModulesAreThere := fun_of DCheckModulesAreThere
  have bCheckModulesAreThere : Binds K dCheckModulesAreThere ["imports"] [] := FCheckModulesAreThere.binds fun _ _ _ _ _ _ us hl => match us, hl with | [_], _ => rfl
  obtain ⟨dImportingModules, DImportingModules⟩ := d.def_ 4 (d := dd 10 "importing_modules") rfl
  have FImportingModules : Fun K "importing_modules" "importing_modules" (top 10) (ga K "importing_modules") dImportingModules := fun_of DImportingModules
  have bImportingModules : Binds K dImportingModules ["imports"] [] := FImportingModules.binds fun _ _ _ _ _ _ us hl => match us, hl with | [_], _ => rfl
  obtain ⟨dLinkingOrder, DLinkingOrder⟩ := d.def_ 5 (d := dd 11 "linking_order") rfl
  have FLinkingOrder : Fun K "linking_order" "linking_order" (top 11) (ga K "linking_order") dLinkingOrder := fun_of DLinkingOrder
  have bLinkingOrder : Binds K dLinkingOrder ["imports"] [] := FLinkingOrder.binds fun _ _ _ _ _ _ us hl => match us, hl with | [_], _ => rfl
  obtain ⟨dLink, DLink⟩ := d.def_ 6 (d := dd 12 "link") rfl
  have FLink : Fun K "link" "link" (top 12) (ga K "link") dLink := fun_of DLink
  have bLink : Binds K dLink ["units"] [] := FLink.binds fun _ _ _ _ _ _ us hl => match us, hl with | [_], _ => rfl
  obtain ⟨dLCell, DLCell⟩ := d.def_ 7 (d := dd 14 "_law_cell") rfl
  have FLCell : Fun K "_law_cell" "_law_cell" (top 14) (ga K "_law_cell") dLCell := fun_of DLCell
  have bLCell : Binds K dLCell ["script", "k"] [] := FLCell.binds fun _ _ _ _ _ _ us hl => match us, hl with | [_, _], _ => rfl
  obtain ⟨dLImports, DLImports⟩ := d.def_ 8 (d := dd 15 "_law_imports") rfl
  have FLImports : Fun K "_law_imports" "_law_imports" (top 15) (ga K "_law_imports") dLImports := fun_of DLImports
  have bLImports : Binds K dLImports ["names", "k", "cell", "shape"] [] := FLImports.binds fun _ _ _ _ _ _ us hl => match us, hl with | [_, _, _, _], _ => rfl
  obtain ⟨dLRows, DLRows⟩ := d.def_ 9 (d := dd 16 "_law_rows") rfl
  have FLRows : Fun K "_law_rows" "_law_rows" (top 16) (ga K "_law_rows") dLRows := fun_of DLRows
  have bLRows : Binds K dLRows ["script"] [] := FLRows.binds fun _ _ _ _ _ _ us hl => match us, hl with | [_], _ => rfl
  obtain ⟨dLDue, DLDue⟩ := d.def_ 10 (d := dd 17 "_law_due") rfl
  have FLDue : Fun K "_law_due" "_law_due" (top 17) (ga K "_law_due") dLDue := fun_of DLDue
  have bLDue : Binds K dLDue ["rows"] [] := FLDue.binds fun _ _ _ _ _ _ us hl => match us, hl with | [_], _ => rfl
  obtain ⟨dLTold, DLTold⟩ := d.def_ 11 (d := dd 18 "_law_told") rfl
  have FLTold : Fun K "_law_told" "_law_told" (top 18) (ga K "_law_told") dLTold := fun_of DLTold
  have bLTold : Binds K dLTold ["rows"] [] := FLTold.binds fun _ _ _ _ _ _ us hl => match us, hl with | [_], _ => rfl
  obtain ⟨dLaw, DLaw⟩ := d.def_ 12 (d := dd 19 "law") rfl
  have FLaw : Fun K "law" "law" (top 19) (ga K "law") dLaw := fun_of DLaw
  have bLaw : Binds K dLaw ["script"] [] := FLaw.binds fun _ _ _ _ _ _ us hl => match us, hl with | [_], _ => rfl
  have gCheckModulesAreThere := glo "check_modules_are_there" (by simp [faK])
  have gImportingModules := glo "importing_modules" (by simp [faK])
  have gLinkingOrder := glo "linking_order" (by simp [faK])
  have gLink := glo "link" (by simp [faK])
  have gLCell := glo "_law_cell" (by simp [faK])
  have gLImports := glo "_law_imports" (by simp [faK])
  have gLRows := glo "_law_rows" (by simp [faK])
  have gLDue := glo "_law_due" (by simp [faK])
  have gLTold := glo "_law_told" (by simp [faK])
  have gLaw := glo "law" (by simp [faK])
  cases hfa.symm.trans gLaw
  refine ⟨dLaw, tfK.map (cT K), spLaw K, ?_, ?_, ?_, fun s u => FunD.bindsA (ps := ["script"]) DLaw (fun _ _ _ _ _ _ us hl => match us, hl with | [_], _ => rfl) s [u] rfl, ?_, fun base KX GX hT => ?_⟩
  · intro p hp
    obtain ⟨t, ht, rfl⟩ := List.mem_map.mp hp
    exact c.empty t ht
  · intro p hp
    obtain ⟨t, ht, rfl⟩ := List.mem_map.mp hp
    exact c.out t ht
  · intro p hp
    obtain ⟨t, ht, rfl⟩ := List.mem_map.mp hp
    exact PySem.W.codeHd_of_K X (c.hd t ht)
  · intro H a ns hl _ hH hS
    exact ⟨a, ns, rfl, hS, fun _ => rfl⟩
  have xD : ErrN row70.prog w K mg base "DuplicateName" (ga K "DuplicateName") _ dDuplicatename_Init := ⟨eD.o, gxD, iD.1, iD.2, ok_iniD FDuplicatename_Init BC eD.o eD.no, bDuplicatename_Init⟩
  have xU : ErrN row70.prog w K mg base "UnknownModule" (ga K "UnknownModule") _ dUnknownmodule_Init := ⟨eU.o, gxU, iU.1, iU.2, ok_iniU FUnknownmodule_Init BC eU.o eU.no, bUnknownmodule_Init⟩
  have MU : MkU row70.prog w K mg base (ga K "Unit") _ dUnit_Init := ⟨mkr_ok (d.facts (f := .mkr "Unit") (by simp [faK])), ok_uni FUnit_Init UC, gUn, bUnit_Init⟩
  have cCk : Cal row70.prog w K mg base (L2.CX row70.prog w) 3 "check_modules_are_there" ["imports"] (spChk (ga K "UnknownModule")) _ _ := ⟨ok_chk FCheckModulesAreThere B xU, FCheckModulesAreThere.kp, gCheckModulesAreThere, bCheckModulesAreThere⟩
  have cIm : Cal row70.prog w K mg base CX0 3 "importing_modules" ["imports"] spImp _ _ := ⟨ok_imp (P := row70.prog) (w := w) (base := base) FImportingModules B, FImportingModules.kp, gImportingModules, bImportingModules⟩
  have cOr : Cal row70.prog w K mg base (L2.CX row70.prog w) 4 "linking_order" ["imports"] (spOrd (ga K "UnknownModule") (ga K "ModuleRing")) _ _ := ⟨ok_ord FLinkingOrder B HQ cCk cIm xR, FLinkingOrder.kp, gLinkingOrder, bLinkingOrder⟩
  have cLk : Cal row70.prog w K mg base (L2.CX row70.prog w) 5 "link" ["units"] (spLnk (ga K "Unit") (ga K "DuplicateName") (ga K "UnknownModule") (ga K "ModuleRing")) _ _ := ⟨ok_lnk FLink B cOr xD UC, FLink.kp, gLink, bLink⟩
  have cCe : Cal row70.prog w K mg base CX0 1 "_law_cell" ["script", "k"] (spCell K) _ _ := ⟨ok_cell (P := row70.prog) (w := w) (base := base) FLCell B, FLCell.kp, gLCell, bLCell⟩
  have cIs : Cal row70.prog w K mg base CX0 1 "_law_imports" ["names", "k", "cell", "shape"] spIms _ _ := ⟨ok_ims (P := row70.prog) (w := w) (base := base) FLImports B, FLImports.kp, gLImports, bLImports⟩
  have cRo : Cal row70.prog w K mg base CX0 2 "_law_rows" ["script"] (spRows K) _ _ := ⟨ok_rows FLRows B cCe cIs, FLRows.kp, gLRows, bLRows⟩
  have cDu : Cal row70.prog w K mg base CX0 1 "_law_due" ["rows"] spDue _ _ := ⟨ok_due (P := row70.prog) (w := w) (base := base) FLDue B, FLDue.kp, gLDue, bLDue⟩
  have cTo : Cal row70.prog w K mg base CX0 6 "_law_told" ["rows"] spDue _ _ := ⟨ok_told FLTold B TC cLk MU, FLTold.kp, gLTold, bLTold⟩
  exact ok_law FLaw B cRo cDu cTo
end My
open PySem PySem.W PySem.Calls PyProof.Rows
theorem PySem.Challenge.cw_aliasfold_k70_linking_puts_needed_module_holds : PySem.Challenge.rw_aliasfold_k70_linking_puts_needed_module.Holds := by
  w_on; o_law
  refine HandSHeadRun.head_imp (r := OpenLaw.row PySem.Challenge.rw_aliasfold_k70_linking_puts_needed_module) (q := view (OpenLaw.row PySem.Challenge.rw_aliasfold_k70_linking_puts_needed_module).prog [0, 19]) (H := My.hk) (ob := My.ob) (M := 4000) (loose := My.loose) (d := HandSHeadRun.topDef (OpenLaw.row PySem.Challenge.rw_aliasfold_k70_linking_puts_needed_module).prog 19) (kwd := []) My.ob_eq
    My.headRun (by kernel_rfl) (by kernel_rfl) (by kernel_rfl) (by rfl) (by first | assumption | decide +kernel) (by decide +kernel) ⟨rfl, rfl, rfl, rfl, rfl, by decide +kernel⟩ ?hw ?hc
  case hw => w_witness2
  case hc =>
    refine LamX.walk_ofTsE (l := PySem.Challenge.rw_aliasfold_k70_linking_puts_needed_module) (n := 63) (k := 7) (x := "script") (CX := fun _ => L2.CX0) rfl (by decide) (by kernel_rfl) ⟨rfl, by decide, by decide⟩ ?F (fun _ _ _ _ _ z => z)
    intro w mg fa h Y G hmg0
    obtain ⟨K, KX, c⟩ := Y
    have hmg : mg ("law" : PySem.Str) = some (.ref fa) := by
      have e : (HandSHeadRun.topDef (OpenLaw.row PySem.Challenge.rw_aliasfold_k70_linking_puts_needed_module).prog 19).name = ("law" : PySem.Str) := by kernel_rfl
      rw [← e]
      exact hmg0
    exact ⟨K, KX, My.facts c KX G hmg⟩
