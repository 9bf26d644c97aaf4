import PyProof.Rows.All
import Wide.All
import OpenK.AllK
import Wide.FinOn
import HandS.ForMost
import HandS.ForExc
import HandS.Wide
import HandS.Codes
import HandS.AnyAll
import HandS.StrMore
import HandS.FStr
import HandS.IsInst
import HandS.ExcInit
import HandS.ExcIs
import HandS.ExcField
import HandS.Replace
import HandS.ReplaceLit
import HandS.Flow
import HandS.NoneIn
import HandS.Style
import PySem.Challenge.RW_aliasfold_k10_words
import KE.KExcIs
import HandS.RaiseMore
import HandS.Head0
import HandS.Head1
import HandS.Head2
import HandS.HeadEnd
import HandS.HeadHook1
import HandS.HeadHook2
import HandS.HeadHook4
import HandS.HeadNt
import HandS.HeadWalk
set_option Elab.async false
set_option linter.all false
set_option maxRecDepth 100000
set_option maxHeartbeats 0
namespace My
open PySem L2

/-! ### heaps -/
def isTbl : HO → Bool
  | .tbl _ => true
  | _ => false
/-- what was tracked stays, but for what X names; tables stay tables; nothing is forgotten -/
structure Sm (X : Addr → Prop) (H H' : Hp) : Prop where
  keep : ∀ b o, ¬ X b → isTbl o = false → H b = some o → H' b = some o
  tab : ∀ P, GxR.TabG H P → GxR.TabG H' P
  dom : ∀ b, H' b = none → H b = none
abbrev No : Addr → Prop := fun _ => False
abbrev Two (S L : Addr) : Addr → Prop := fun b => b = S ∨ b = L
theorem Sm.refl (X : Addr → Prop) (H : Hp) : Sm X H H := ⟨fun _ _ _ _ h => h, fun _ h => h, fun _ h => h⟩
theorem Sm.trans {X : Addr → Prop} {H H1 H2 : Hp} (a : Sm X H H1) (b : Sm X H1 H2) : Sm X H H2 :=
  ⟨fun c o n t h => b.keep c o n t (a.keep c o n t h), fun P h => b.tab P (a.tab P h), fun c h => a.dom c (b.dom c h)⟩
theorem Sm.wide {X Y : Addr → Prop} {H H' : Hp} (a : Sm X H H') (h : ∀ b, X b → Y b) : Sm Y H H' :=
  ⟨fun c o n t q => a.keep c o (fun z => n (h c z)) t q, a.tab, a.dom⟩
theorem Sm.no {Y : Addr → Prop} {H H' : Hp} (a : Sm No H H') : Sm Y H H' := a.wide fun _ z => z.elim
theorem tab_upd {H : Hp} {p : Addr} {o : HO} (h : ∀ ps, H p ≠ some (.tbl ps)) : ∀ P, GxR.TabG H P → GxR.TabG (upd H p o) P := fun P ⟨ps, h1, h2⟩ =>
  ⟨ps, by rw [upd_ne (fun z => h ps (by rw [← z]; exact h1))]; exact h1, h2⟩
theorem upd_dom {H : Hp} {p : Addr} {o : HO} : ∀ b, upd H p o b = none → H b = none := fun b h => by
  by_cases hb : b = p
  · rw [hb, upd_same] at h; cases h
  · rw [upd_ne hb] at h; exact h
theorem Sm.new {X : Addr → Prop} {H : Hp} {p : Addr} {o : HO} (h : H p = none) : Sm X H (upd H p o) :=
  ⟨fun b u _ _ e => by rw [upd_ne (ne_of_none e h)]; exact e, tab_upd (fun ps z => by rw [h] at z; cases z), upd_dom⟩
theorem Sm.set {X : Addr → Prop} {H : Hp} {p : Addr} {o : HO} (h : X p) (ht : ∀ ps, H p ≠ some (.tbl ps)) : Sm X H (upd H p o) :=
  ⟨fun b u n _ e => by rw [upd_ne (fun z => n (by rw [z]; exact h))]; exact e, tab_upd ht, upd_dom⟩
theorem Sm.tabbed {X : Addr → Prop} {H H' : Hp} {P : Addr} (h0 : GxR.TabG H P) (h : GxR.Tabbed P H H') : Sm X H H' := by
  obtain ⟨ht, hk⟩ := h
  refine ⟨fun b o _ n e => ?_, fun Z hz => ?_, fun b h => ?_⟩
  · by_cases hb : b = P
    · obtain ⟨ps, h1, _⟩ := h0
      rw [hb, h1] at e
      cases e
      cases n
    · rw [hk b hb]; exact e
  · by_cases hb : Z = P
    · rw [hb]; exact ht
    · obtain ⟨ps, h1, h2⟩ := hz
      exact ⟨ps, by rw [hk Z hb]; exact h1, h2⟩
  · by_cases hb : b = P
    · obtain ⟨ps, h1, _⟩ := ht
      rw [hb, h1] at h
      cases h
    · rw [← hk b hb]; exact h
theorem Sm.seq {X : Addr → Prop} {K : PySem.W.Frag} {H H' : Hp} {a : Addr} {xs : List V} (e : Sm X H H') (n : ¬ X a) (h : SqL K H a xs) : SqL K H' a xs := by
  rcases h with (h | ⟨o, h⟩) | h
  · exact .inl (.inl (e.keep _ _ n rfl h))
  · exact .inl (.inr ⟨o, e.keep _ _ n rfl h⟩)
  · exact .inr h
theorem Sm.lst {X : Addr → Prop} {H H' : Hp} {a : Addr} {xs : List V} (e : Sm X H H') (n : ¬ X a) (h : H a = some (.lst xs)) : H' a = some (.lst xs) := e.keep _ _ n rfl h
theorem Sm.lst0 {H H' : Hp} {a : Addr} {xs : List V} (e : Sm No H H') (h : H a = some (.lst xs)) : H' a = some (.lst xs) := e.keep _ _ (fun z => z) rfl h
/-- what H did not know may change -/
theorem Sm.mut {X : Addr → Prop} {H H' : Hp} {p : Addr} {o : HO} (e : Sm X H H') (h : H p = none) (ht : ∀ ps, H' p ≠ some (.tbl ps)) : Sm X H (upd H' p o) :=
  ⟨fun b u n t q => by rw [upd_ne (ne_of_none q h)]; exact e.keep b u n t q, fun P h => tab_upd ht P (e.tab P h), fun b q => e.dom b (upd_dom b q)⟩
theorem ntbl_l {H : Hp} {a : Addr} {xs : List V} (h : H a = some (.lst xs)) : ∀ ps, H a ≠ some (.tbl ps) := fun ps z => by rw [h] at z; cases z

/-! ### the state of the draws -/
/-- at S: the rest of the script, at L, and what is left of the cell -/
def LS (H : Hp) (S L : Addr) : Prop := ∃ (cs : List Int) (d : Int), H S = some (.lst [.ref L, .int d]) ∧ H L = some (.lst (cs.map V.int)) ∧ 0 ≤ d ∧ cs.length ≤ 63
theorem LS.ne {H : Hp} {S L : Addr} (h : LS H S L) : S ≠ L := by
  obtain ⟨cs, d, h1, h2, _⟩ := h
  refine ne_of h1 h2 fun z => ?_
  cases cs with
  | nil => cases z
  | cons c r => cases z
theorem LS.sm {H H' : Hp} {S L : Addr} (h : LS H S L) (e : Sm No H H') : LS H' S L := by
  obtain ⟨cs, d, h1, h2, h3⟩ := h
  exact ⟨cs, d, e.lst0 h1, e.lst0 h2, h3⟩
theorem LS.some {H : Hp} {S L : Addr} (h : LS H S L) : H S ≠ none ∧ H L ≠ none := by
  obtain ⟨cs, d, h1, h2, h3⟩ := h
  exact ⟨by rw [h1]; simp, by rw [h2]; simp⟩
/-! ### the draws, as functions -/
def spMixed : Sp := fun vs H Q _ => ∃ c : Int, vs = [.int c] ∧ ∀ n : Int, 0 ≤ n → Q (.int n) H
def spTake : Sp := fun vs H Q _ => ∃ (S L : Addr) (n : Int), vs = [.ref S, .int n] ∧ LS H S L ∧ 0 < n ∧ n.natAbs < 2 ^ 8000 ∧
  ∀ (g : Int) (H' : Hp), 0 ≤ g → g < n → LS H' S L → Sm (Two S L) H H' → Q (.int g) H'
def spState (K : PySem.W.Frag) : Sp := fun vs H Q _ => ∃ (a : Addr) (ns : List Int), vs = [.ref a] ∧ SqL K H a (ns.map V.int) ∧ ns.length ≤ 63 ∧
  ∀ (S L : Addr) (H' : Hp), H S = none → H L = none → LS H' S L → Sm No H H' → Q (.ref S) H'
end My
namespace My
open PySem L2
def top (i : Nat) : Stmt := PySem.Challenge.pw_aliasfold_k10_words.main.body.getD i (.Pass ⟨0, 0, 0, 0⟩)
abbrev sMixed : Stmt := top 23
abbrev sTake : Stmt := top 24
abbrev sState : Stmt := top 25
/-- names of builtins that no module name hides -/
structure Blt (mg : Str → Option Value) : Prop where
  int : mg "int" = none
  abs : mg "abs" = none
  len : mg "len" = none
  range : mg "range" = none
  str : mg "str" = none
  isinstance : mg "isinstance" = none
  all : mg "all" = none
  list : mg "list" = none
  tuple : mg "tuple" = none
  bool : mg "bool" = none
section
variable {P : Program} {w : World} {K : PySem.W.Frag} {mg : Str → Option Value} {base : Heap}
theorem scMixed : FnScope ["cell", "seed", "number", "k"] ["cell"] (defScope sMixed) := ⟨rfl, rfl, rfl, by decide +kernel, rfl, by decide +kernel, by decide +kernel⟩
theorem ok_mixed {f : Addr} {fd : FuncData} (F : Fun K "_law_mixed" "_law_mixed" sMixed f fd) (B : Blt mg) : FnOk P w K mg base CX0 1 f fd ["cell"] spMixed := by
  refine F.ok scMixed (fun vs H Q E h => ?_) (fun cdv A outer s H vs Q E hr h => ?_)
  · obtain ⟨c, rfl, _⟩ := h
    rfl
  obtain ⟨c, rfl, q⟩ := h
  have M : (0 : Int) < 1000000007 := by decide
  refine ⟨_, pss_cons (ps_set (i := 1) scMixed.nd rfl (Or.inl rfl) (pe_op op_mod (pe_callTy call_int1 (by rfl) B.int (by decide +kernel) (pa_cons (pv 0) pa_nil)) pe_int))
    (pss_cons (ps_set (i := 2) scMixed.nd rfl (Or.inl rfl) pe_int)
    (pss_cons (ps_for PassesOwn.never rfl (pi_range1 (by rfl) B.range (pa_cons pe_int pa_nil)) (pg_name (i := 3) scMixed.nd rfl (Or.inl rfl))
      (pss_cons (ps_set (i := 1) scMixed.nd rfl (Or.inl rfl) (pe_op op_mod (pe_callTy call_int1 (by rfl) B.int (by decide +kernel)
          (pa_cons (pe_op op_add (pe_op op_add (pe_op op_mul (pv 1) pe_int) pe_int) (pe_op op_mul pe_int (pv 3))) pa_nil)) pe_int))
      (pss_one (ps_set (i := 2) scMixed.nd rfl (Or.inl rfl) (pe_op op_add (pe_op op_mul (pv 2) pe_int) (pv 1))))))
    (pss_one (ps_ret (pv 2))))), ?_⟩
  refine ⟨_, rfl, .inl ⟨_, rfl, _, _, rfl, rfl, M, ?_⟩⟩
  refine ⟨6, rfl, by decide, by decide, for_range (n := 6) (fun i σ H' => ∃ (sd nb : Int) (v : Option V), σ = [some (.int c), some (.int sd), some (.int nb), v] ∧ 0 ≤ nb ∧ H' = H)
    ⟨_, 0, none, rfl, by omega, rfl⟩ ?_ ?_⟩
  · rintro i σ H' hi ⟨sd, nb, v, rfl, h0, rfl⟩
    refine ⟨_, rfl, _, _, rfl, rfl, .inr ⟨by decide, by decide⟩, _, _, rfl, rfl, _, rfl, _, _, rfl, rfl, .inl ⟨by decide, by decide⟩, _, _, rfl, rfl, .inl ⟨_, rfl, _, _, rfl, rfl, M, ?_⟩⟩
    refine ⟨_, rfl, _, _, rfl, rfl, .inr ⟨by decide, by decide⟩, _, rfl, _, _, rfl, rfl, _, _, _, rfl, ?_, rfl⟩
    have := Int.emod_nonneg (sd * 48271 + 12820163 + 7 * (0 + (i : Int))) (b := 1000000007) (by decide)
    omega
  · rintro σ H' ⟨sd, nb, v, rfl, h0, rfl⟩
    exact ⟨_, rfl, q nb h0⟩
end
end My
namespace My
open PySem L2
section
variable {P : Program} {w : World} {K : PySem.W.Frag} {mg : Str → Option Value} {base : Heap}
theorem scTake : FnScope ["state", "limit", "cell", "digit"] ["state", "limit"] (defScope sTake) := ⟨rfl, rfl, rfl, by decide +kernel, rfl, by decide +kernel, by decide +kernel⟩
theorem at0 {α : Type} (x : α) (r : List α) : atI (x :: r) 0 = some x := atI_nat (xs := x :: r) (j := 0) rfl
theorem at1 {α : Type} (x y : α) (r : List α) : atI (x :: y :: r) 1 = some y := atI_nat (xs := x :: y :: r) (j := 1) rfl
theorem ok_take {f fM : Addr} {fd fdM : FuncData} (F : Fun K "_law_take" "_law_take" sTake f fd) (B : Blt mg) (FM : Fun K "_law_mixed" "_law_mixed" sMixed fM fdM) (gM : mg "_law_mixed" = some (.ref fM))
    (bM : Binds K fdM ["cell"] []) : FnOk P w K mg base CX0 2 f fd ["state", "limit"] spTake := by
  have GM : FnOk P w K mg base CX0 1 fM fdM ["cell"] spMixed := ok_mixed FM B
  refine F.ok scTake (fun vs H Q E h => ?_) (fun cdv A outer s H vs Q E hr h => ?_)
  · obtain ⟨S, L, n, rfl, _⟩ := h
    rfl
  obtain ⟨S, L, n, rfl, hL, n0, nb, q⟩ := h
  have hSL := hL.ne
  obtain ⟨cs, d, hS, hL', d0, l63⟩ := hL
  refine ⟨_, C8.pss_cut (ps_if (PW.pt (pw_and (pt_cmpR op_lt (pe_ix ix_list (pv 0) pe_int (fun _ _ => rfl)) (pv 1) (nomark _))
        (pw_and1 (pt_cmpR op_gt (pe_callB call_len_seq (by rfl) B.len PySem.boot_len (pa_cons (pe_ix ix_list (pv 0) pe_int (fun _ _ => rfl)) pa_nil)) pe_int (nomark _)))))
      (pss_cons (ps_set (i := 2) scTake.nd rfl (Or.inl rfl) (pe_callB call_abs (by rfl) B.abs (by decide +kernel) (pa_cons (pe_callTy call_int1 (by rfl) B.int (by decide +kernel)
          (pa_cons (pe_bm PySem.F.plainAttrs_list PySem.F.slot_list_pop PySem.F.type_list_pop mt_popAt (pe_ix ix_list (pv 0) pe_int (fun _ _ => rfl)) (pa_cons pe_int pa_nil)) pa_nil)) pa_nil)))
      (C8.pss_cut (ps_if (pt_cmpR op_lt (pv 2) (pe_op op_pow pe_int pe_int) (nomark _)) (pss_one (ps_set (i := 2) scTake.nd rfl (Or.inl rfl) (pe_call GM (hr.mono (by decide)) rfl gM FM.kp bM .nil pass0 (pa_cons (pv 2) pa_nil)))) pss_nil)
      (pss_one (ps_asg (pv 2) (pg_sub (pv 0) pe_int set_list))))) pss_nil)
    (pss_cons (ps_set (i := 3) scTake.nd rfl (Or.inl rfl) (pe_op op_mod (pe_callTy call_int1 (by rfl) B.int (by decide +kernel) (pa_cons (pe_ix ix_list (pv 0) pe_int (fun _ _ => rfl)) pa_nil)) (pv 1)))
    (pss_cons (ps_asg (pe_op op_fdivW (pe_ix ix_list (pv 0) pe_int (fun _ _ => rfl)) (pv 1)) (pg_sub (pv 0) pe_int set_list))
    (pss_one (ps_ret (pv 3))))), ?_⟩
  -- behind the first if
  refine ⟨fun σ H' => ∃ (v : Option V), σ = [some (.ref S), some (.int n), v, none] ∧ LS H' S L ∧ Sm (Two S L) H H', ?_, ?_⟩
  · refine ⟨_, rfl, S, _, _, _, rfl, rfl, SqL.of hS, at1 _ _ _, _, rfl, _, _, rfl, rfl, _, rfl, ?_⟩
    refine ite2 (fun c => ?_) (fun c => ?_)
    · refine ⟨_, rfl, S, _, _, _, rfl, rfl, SqL.of hS, at0 _ _, L, _, rfl, .inl (SqL.of hL'), _, _, rfl, rfl, _, rfl, ?_⟩
      refine ite2 (fun c2 => ?_) (fun c2 => ?_)
      · have c2' := of_decide_eq_true c2
        rw [List.length_map] at c2'
        cases cs with
        | nil => exact absurd c2' (by decide)
        | cons c0 cr =>
          refine ⟨_, rfl, S, _, _, _, rfl, rfl, SqL.of hS, at0 _ _, .inl ⟨rfl, _, SqL.of hL'⟩, L, _, 0, 0, _, rfl, rfl, hL', by decide, by decide, ?_, rfl, ?_⟩
          · unfold seqIndex?
            simp
          refine .inl ⟨_, rfl, _, rfl, ?_⟩
          refine ⟨fun σ H' => ∃ (m : Int), σ = [some (.ref S), some (.int n), some (.int m), none] ∧ 0 ≤ m ∧ H' = upd H L (.lst (cr.map V.int)), ?_, ?_⟩
          · refine ⟨_, rfl, _, _, rfl, rfl, ⟨by decide, by decide, by decide⟩, _, _, rfl, rfl, _, rfl, ?_⟩
            refine ite2 (fun _ => ?_) (fun _ => ?_)
            · exact ⟨_, rfl, _, rfl, fun m m0 => ⟨m, rfl, m0, rfl⟩⟩
            · refine ⟨_, rfl, ?_, rfl⟩
              by_cases hc : c0 < 0
              · rw [if_pos hc]; omega
              · rw [if_neg hc]; omega
          · rintro σ H' ⟨m, rfl, m0, rfl⟩
            have hS1 : upd H L (.lst (cr.map V.int)) S = some (.lst [.ref L, .int d]) := by rw [upd_ne hSL]; exact hS
            refine ⟨_, rfl, _, rfl, S, _, _, 1, rfl, rfl, hS1, rfl, ?_⟩
            refine ⟨_, rfl, ⟨cr, m, upd_same, by rw [upd_ne hSL.symm, upd_same], m0, by simp at l63; omega⟩, ?_⟩
            exact (Sm.set (.inr rfl) (ntbl_l hL')).trans (Sm.set (.inl rfl) (ntbl_l hS1))
      · exact ⟨_, rfl, ⟨_, d, hS, hL', d0, l63⟩, Sm.refl _ _⟩
    · exact ⟨_, rfl, ⟨_, d, hS, hL', d0, l63⟩, Sm.refl _ _⟩
  · rintro σ H' ⟨v, rfl, ⟨cs', d', h1, h2, d1, l1⟩, sm⟩
    refine ⟨_, rfl, S, _, _, _, rfl, rfl, SqL.of h1, at1 _ _ _, .inl ⟨_, rfl, _, rfl, _, _, rfl, rfl, n0, ?_⟩⟩
    refine ⟨_, rfl, S, _, _, _, rfl, rfl, SqL.of h1, at1 _ _ _, _, rfl, _, _, rfl, rfl, wide_div n0 nb (by decide) (by decide), ?_⟩
    refine ⟨_, rfl, S, _, _, 1, rfl, rfl, h1, rfl, _, rfl, ?_⟩
    refine q (d' % n) _ (Int.emod_nonneg _ (by omega)) (Int.emod_lt_of_pos _ n0) ⟨cs', d' / n, upd_same, by rw [upd_ne hSL.symm]; exact h2, Int.ediv_nonneg d1 (by omega), l1⟩ (sm.trans (Sm.set (.inl rfl) (ntbl_l h1)))
end
end My
namespace My
open PySem L2
section
variable {P : Program} {w : World} {K : PySem.W.Frag} {mg : Str → Option Value} {base : Heap}
theorem scState : FnScope ["script", "cell"] ["script"] (defScope sState) := ⟨rfl, rfl, rfl, by decide +kernel, rfl, by decide +kernel, by decide +kernel⟩
theorem map_at {xs : List Int} {i : Nat} {y : V} (h : (xs.map V.int)[i]? = some y) : ∃ z, xs[i]? = some z ∧ y = .int z := by
  rw [List.getElem?_map] at h
  cases e : xs[i]? with
  | none => rw [e] at h; cases h
  | some z => rw [e] at h; exact ⟨z, rfl, (Option.some.inj h).symm⟩
theorem take_more {α : Type} {l : List α} {i : Nat} {x : α} (h : l[i]? = some x) : l.take (i + 1) = l.take i ++ [x] := by
  rw [List.take_add_one, h]; rfl
theorem cutV_ints (ns : List Int) (k : Nat) : cutV (ns.map V.int) none (some (k : Int)) = ((ns.take k).map V.int) := by
  unfold cutV
  rw [HT.sIx_none, HT.sIx_nat, List.drop_zero, List.length_map, ← List.map_take]
  congr 1
  rw [show min k ns.length - 0 = min k ns.length by omega, List.take_eq_take_iff.mpr]
  omega
theorem line_of {n : Nat} (h : n ≤ 1000) : n < sizeLine := small1000 h
theorem ok_state {f : Addr} {fd : FuncData} (F : Fun K "_law_state" "_law_state" sState f fd) (B : Blt mg) : FnOk P w K mg base CX0 1 f fd ["script"] (spState K) := by
  refine F.ok scState (fun vs H Q E h => ?_) (fun cdv A outer s H vs Q E hr h => ?_)
  · obtain ⟨a, ns, rfl, _⟩ := h
    rfl
  obtain ⟨a, ns, rfl, hS, h63, q⟩ := h
  refine ⟨_, pss_one (ps_ret (pe_lst (pa_cons (pe_lc (own := [("cell", 1)]) (g := gName 1) (tt := tYes) rfl scState.nd (pi_list (pe_slice sl_list (pv 0) po_none (po_some pe_int)))
      (blkOk_by (N := ["script", "cell"]) (sc := defScope sState) (by decide +kernel)) (fun _ _ _ _ _ => pg_name (i := 1) scState.nd rfl (Or.inl rfl)) (fun _ _ _ _ _ => pts_nil)
      (fun _ _ _ _ _ => pe_callTy call_int1 (by rfl) B.int (by decide +kernel) (pa_cons (pv 1) pa_nil))) (pa_cons pe_int pa_nil)))), ?_⟩
  refine ⟨_, rfl, _, rfl, a, _, rfl, hS, fun p hp => ?_⟩
  have ec := cutV_ints ns 63
  rw [show ((63 : Nat) : Int) = 63 from rfl] at ec
  rw [ec]
  have len63 : (ns.take 63).length ≤ 63 := by rw [List.length_take]; omega
  refine ⟨p, rfl, ⟨_, SqL.of upd_same⟩, fun D hD => ?_⟩
  have npD : p ≠ D := ne_of_none upd_same hD
  have hD0 : H D = none := upd_dom _ hD
  refine lc_list (xs := (ns.take 63).map V.int) (fun i H' => H' D = some (.lst (((ns.take 63).take i).map V.int)) ∧ H' p = some (.lst ((ns.take 63).map V.int)) ∧ Sm No H H') ⟨?_, ?_, ?_⟩ (fun i H' _ h => SqL.of h.2.1) ?_ ?_
  · rw [List.take_zero]; exact upd_same
  · rw [upd_ne npD]; exact upd_same
  · exact ((Sm.refl No H).mut hp (fun ps z => by rw [hp] at z; cases z)).mut hD0 (fun ps z => by rw [hD] at z; cases z)
  · rintro i x H' hi ⟨h1, h2, sm⟩
    obtain ⟨z, hz, rfl⟩ := map_at hi
    have ln : i < 64 := by
      have := (List.getElem?_eq_some_iff.mp hz).1
      omega
    refine ⟨rfl, ?_⟩
    refine ⟨_, rfl, .inl ⟨_, rfl, _, h1, ?_, ?_, ?_, ?_⟩⟩
    · rw [List.length_map, List.length_take]
      exact line_of (by omega)
    · rw [upd_same, take_more hz, List.map_append]; rfl
    · rw [upd_ne npD]; exact h2
    · exact sm.mut hD0 (ntbl_l h1)
  · rintro H' ⟨h1, h2, sm⟩
    rw [List.length_map, List.take_length] at h1
    refine ⟨by show 2 ≤ sizeLine; decide, fun S hSn => ?_⟩
    have hS0 := sm.dom S hSn
    have nSD : D ≠ S := ne_of_none h1 hSn
    exact q S D _ hS0 hD0 ⟨_, 0, upd_same, by rw [upd_ne nSD]; exact h1, by decide, len63⟩ (sm.mut hS0 fun ps z => by rw [hSn] at z; cases z)
end
end My
namespace My
open PySem PySem.Spec PyProof.Rows L2 GxR
theorem ad_lt {b N m : Nat} (e : b = N) (h : N + 1 ≤ m) : b < m := by omega
theorem ad_ltlt {b N m : Nat} (e : b < N) (h : N + 1 ≤ m) : b < m := by omega
theorem ad_no {b N : Nat} (e : b = N) (h : b < N) : False := by omega
theorem ad_no2 {b N m : Nat} (e : b = m) (h : b < N) (h2 : N + 1 ≤ m) : False := by omega
/-- the element of a generator expression over signs, where it may read the module's names -/
def EltG (prog : Program) (w : World) (mg : Str → Option Value) (sc : Scope) (x : Str) (e : Expr) (pb : Nat → Bool) : Prop :=
  ∀ (ce : Env) (A' : Around) (E' : Value → Shared → Prop) (c : Nat) (t : Tok) (z : Shared) (m : Str → Option Value),
    ce.scope = sc → ce.globals = mainGlobals → z.heap.Ns mainGlobals mg → z.heap.Ns ce.locals m → m x = some (.str ⟨#[c]⟩ t) →
    wpAny (model prog w) A' (eval e ce) (fun y z' => y = .bool (pb c) ∧ Keeps z z') E' z
/-- x in NAME, NAME a text of the module -/
theorem elt_inG {prog : Program} {w : World} {mg : Str → Option Value} {sc : Scope} {x g : Str} {k : Str} {tk : Tok} {p1 p2 p3 : Pos} (hk : sc.kind = .function)
    (hl : sc.names.lookup x = some .local) (hgl : sc.names.lookup g = some .globalImplicit) (hm : mg g = some (.str k tk))
    (hd : (x == ("__debug__" : Str)) = false := by decide) (hd2 : (g == ("__debug__" : Str)) = false := by decide) :
    EltG prog w mg sc x (.Compare (.Name x p1) [.In] [.Name g p2] p3) (fun c => decide (c ∈ k.cps.toList)) := by
  intro ce A' E' c t z m hs hg hG hn hx
  refine wpAny_Compare1 ?_
  refine wpAny_Name (wpAny_loadName_local (by rw [hs]; exact hk) (show ce.scope.names.lookup x = some .local by rw [hs]; exact hl) hn hx ?_) hd
  refine Calls.Name_function_global (by rw [hs]; exact hk) (show ce.scope.names.lookup g = some .globalImplicit by rw [hs]; exact hgl) (Calls.loadGlobal_global (by rw [hg]; exact hG) hm ?_) hd2
  exact PyProof.Rows.in_str ⟨congrArg Value.bool (PySem.StrLaws.found_one k c), keeps_refl _⟩
section
variable {X : Cx} {pins : List (Addr × Obj)} {σ : L2.St} {H : Hp} {s : Shared}
theorem genG {c P : Addr} {elt iter : Expr} {x : Str} {px gpos : Pos} {scope : Scope} {pb : Nat → Bool} {te : TE} {k : Nat} {Q' : Value → Shared → Prop} {R : Str → Hp → Prop}
    (hr : Room k X.A) (TB : TabB X.base X.mg c P) (hcode : X.env.code = .ref c) (S : GenS X.env scope x) (hi : PE X iter te)
    (hel : EltG X.prog X.w X.mg scope x elt pb) (hs : ∀ v, genFold iter X.env v = pure v) (I : Inv X pins σ H s)
    (h : te σ H fun v H1 => ∃ a : Str, v = .str a ∧ TabG H1 P ∧ R a H1)
    (hQ : ∀ a H1 g s5, R a H1 → Ready X pins σ H1 P a pb g s5 → Q' (.ref g) s5) :
    wpAny (model X.prog X.w) X.A (eval (.GeneratorExp elt [⟨.Name x px, iter, [], 0⟩] scope gpos) X.env) Q' X.xe s := by
  refine wpAny_GeneratorExp_walksQ hr.hd S.co (closure_ok S.free) S.cell S.dot S.loc S.kind hr.depth ?_ hs
  refine thn (hi.run pins s σ H _ I h) fun xv s1 hx => ?_
  obtain ⟨v, H1, J, rv, a, ev, ⟨ps, tP, tOk⟩, hR⟩ := hx
  subst ev
  obtain ⟨t, et⟩ := (show ∃ t, xv = Value.str a t from rv)
  subst et
  refine wpAny_pyIter_str fun o St W st0 => ?_
  generalize hN : s1.heap.objs.size = N at W st0 ⊢
  have gP : s1.heap.get? P = some { cls := .none, data := .fields ps } := J.hok P _ tP
  have ltP : P < N := by rw [← hN]; exact Heap.lt_size gP
  have szO : (s1.heap.push o).objs.size = N + 1 := by rw [Heap.size_push, hN]
  have kO : ∀ b u, s1.heap.get? b = some u → (s1.heap.push o).get? b = some u := fun b u e => Heap.get?_push_of_some _ e
  have codeO : PySem.W.CodeHd (s1.heap.push o) c P := TB.code.keeps fun b u e => kO b u (J.bk b u e)
  have limO : (s1.heap.push o).NoLimit := J.nolimit.push o
  have statics : cStatics < N := by
    obtain ⟨_, hn, _⟩ := J.nolimit
    rw [← hN]
    exact hn.lt
  have staticsP : cStatics ≠ P := fun e => by
    obtain ⟨_, hn, _⟩ := J.nolimit
    obtain ⟨q, _, _, hq, hqd, _⟩ := hn
    rw [e, gP] at hq
    cases hq
    cases hqd
  refine ⟨limO, ?_⟩
  have main : ∀ (code : Value) (h3 : Heap) (tk : Nat) (ps' : Array Value), Heap.ExtBut P (s1.heap.push o) h3 → N + 1 ≤ h3.objs.size →
      h3.get? P = some { cls := .none, data := .fields ps' } → (∃ more, ps' = ps ++ more) → TriplesOk ps'.toList →
      wpAny (model X.prog X.w) X.A (builtinsFor X.env.globals X.env.builtins) (fun bi s₄ =>
        ∃ Ia fp wr n₀ Pf St₀ pz F, Value.ref N = .ref Ia ∧ (∀ A' : Around, A'.handled = none → Walks X.prog X.w A' Ia fp wr n₀ Pf St₀) ∧ St₀ 0 s₄.heap ∧
          (∀ b ∈ fp, b < s₄.heap.objs.size) ∧ s₄.heap.NoLimit ∧ cStatics ∉ wr ∧
          (∀ href : Heap, (∀ b o, s₄.heap.get? b = some o → href.get? b = some o) →
            QuietGen X.prog X.w (genEnv scope (cloFrom X.env.cells scope.names []) s₄.heap.objs.size code bi X.env) x [] elt (List.range s₄.heap.objs.size) wr Pf pz F href) ∧
          (∀ a h₅ tk gs, gs.bare = true → s₄.heap.objs.size < a → h₅.objs.size = a + 1 → (∀ b o, s₄.heap.get? b = some o → h₅.get? b = some o) →
            WalksS X.prog X.w X.A.in4 a (a :: s₄.heap.objs.size :: List.range s₄.heap.objs.size) (s₄.heap.objs.size :: wr) (GenOnlyQ s₄.gens.size) (passing pz n₀ 0).length
              (fun j y => ∃ i, (passing pz n₀ 0)[j]? = some i ∧ F i y) (GenAt X.prog X.w X.A.in4 a s₄.gens.size s₄.heap.objs.size (List.range s₄.heap.objs.size) wr pz n₀ F) →
            GenAt X.prog X.w X.A.in4 a s₄.gens.size s₄.heap.objs.size (List.range s₄.heap.objs.size) wr pz n₀ F 0 { s₄ with gens := s₄.gens.push gs, toks := tk, heap := h₅ } →
            Q' (.ref a) { s₄ with gens := s₄.gens.push gs, toks := tk, heap := h₅ })) X.xe { s1 with heap := h3, toks := tk } := by
    intro code h3 tk ps' hx hsz hP3 hmore ht3
    have k3 : ∀ b u, b ≠ P → s1.heap.get? b = some u → h3.get? b = some u := fun b u hb e => hx b u hb (kO b u e)
    have glob3 : h3.Ns mainGlobals X.mg := ((J.mod.glob.keeps J.bk).push o).extBut hx TB.gP
    obtain ⟨bm, ob, b1, b2, b3, b4, b5, b6, b7, b8⟩ := TB.bm
    refine wpAny_builtinsFor (m := X.mg) (by rw [J.ok.glob]; exact glob3) b1 b2 (k3 _ _ b4 (J.bk _ _ b5)) b6 b7 b8 ?_
    refine ⟨N, [N], [N], a.cps.size, SignAt a, St, (fun _ => true), (fun i y => ∃ q, a.cps[i]? = some q ∧ y = .bool (pb q)), rfl, W, ?_, ?_, limO.extBut hx staticsP, ?_, ?_, ?_⟩
    · refine (W X.A hr.hd).frame _ _ _ st0 fun b hb u e => hx b u (fun z => ?_) e
      have eb : b = N := by simpa using hb
      exact ad_no (z.symm.trans eb) ltP
    · intro b hb
      have eb : b = N := by simpa using hb
      exact ad_lt eb hsz
    · intro z
      have eb : cStatics = N := by simpa using z
      rw [eb] at statics
      exact Nat.lt_irrefl _ statics
    · intro href keepH
      have ltG : mainGlobals < N := by
        obtain ⟨q, _, _, hq, _⟩ := J.mod.glob.keeps J.bk
        rw [← hN]
        exact Heap.lt_size hq
      refine ⟨fun A' E' i v z m hA hv hn hm hk => ?_, fun A' E' i v z m hA hv hp hn hm hk => ?_⟩
      · simp only [List.forIn_nil]
        exact wpAny_pure ⟨rfl, keeps_refl _⟩
      · obtain ⟨q, u, hq, ev⟩ := hv
        subst ev
        have globZ : z.heap.Ns mainGlobals X.mg := by
          obtain ⟨og, es, ep, ho, hrest⟩ := glob3
          refine ⟨og, es, ep, hk mainGlobals (List.mem_range.mpr ?_) (fun hw => ?_) og (keepH _ _ ho), hrest⟩
          · exact ad_ltlt ltG hsz
          · have eb : mainGlobals = N := by simpa using hw
            exact ad_no eb ltG
        exact wpAny_mono (hel _ A' E' q u z m rfl J.ok.glob globZ hn hm) (fun y z' r => ⟨⟨q, hq, r.1⟩, r.2⟩) fun _ _ e => e
    · intro g h5 tk5 gs hgb hag hsz5 hk5 W5 at0
      simp only [GxR.passing_true, List.length_range] at W5
      refine hQ a H1 g _ hR ⟨_, _, _, _, _, W5.in4_1, at0, ?_, fun s' mv => ?_⟩
      · rintro j y sj Qj Ej ⟨i, hij, q, hq, rfl⟩ hQj
        obtain ⟨hj, ej⟩ := List.getElem?_eq_some_iff.mp hij
        rw [List.getElem_range] at ej
        subst ej
        have e9 : a.cps.toList[j]? = some q := by rw [Array.getElem?_toList]; exact hq
        have hQ2 : Qj (trF pb a.cps.toList j) sj := hQj
        rw [trF_some e9] at hQ2
        exact wpAny_truthy_bool hQ2
      · obtain ⟨more, em⟩ := hmore
        have nwr : ∀ b u, s1.heap.get? b = some u → b ∉ h3.objs.size :: [N] := fun b u e hb => by
          have hl : b < N := by rw [← hN]; exact Heap.lt_size e
          rcases List.mem_cons.mp hb with z | z
          · exact ad_no2 z hl hsz
          · have eb : b = N := by simpa using z
            exact ad_no eb hl
        have K2 := inv_tab (more := more) (h' := s'.heap) (g' := s'.gens) (d' := s'.drawn) (t' := s'.toks) J tP
          (fun b u hb e => mv.heap b u (nwr b u e) (hk5 b u (k3 b u hb e))) (by rw [← em]; exact mv.heap P _ (nwr P _ gP) (hk5 P _ hP3)) (AllBare.movedS (J.bare.push hgb) mv)
        rw [sh_eta s1 s' mv.os] at K2
        exact ⟨upd H1 P (.tbl (ps ++ more)), ⟨⟨ps ++ more, upd_same, by rw [← em]; exact ht3⟩, fun b hb => upd_ne hb⟩, K2⟩
  cases hf : codeAmong gpos ps.toList with
  | none =>
    refine wpAny_genexprCodeX hcode (codeO.code (kO _ _ gP) tOk) (codeO.tab (kO _ _ gP)) hf fun c' h' tk hx hge hlt hco' _ htab' _ => ?_
    obtain ⟨o1, vs, f1, tf, fl, tg, inF, tx, tt, op, _, _, _, _, _, _, _, _, _, htr, _⟩ := hco'
    refine main _ h' tk _ hx ?_ htab'.2 ⟨_, rfl⟩ htr
    rw [szO] at hge
    exact Nat.le_trans hge (Nat.le_of_lt hlt)
  | some cv =>
    refine wpAny_genexprCode_hit hcode (codeO.code (kO _ _ gP) tOk) hf ?_
    exact main cv (s1.heap.push o) s1.toks ps (Heap.ExtBut.refl _ _) (Nat.le_of_eq szO.symm) (kO _ _ gP) ⟨#[], by simp⟩ tOk
/-- all(test for x in e), e a text -/
theorem pe_allG {c P : Addr} {elt iter : Expr} {x : Str} {px p pos gpos : Pos} {scope : Scope} {pb : Nat → Bool} {te : TE} {k : Nat}
    (hr : Room k X.A) (hg : Gl X "all") (hm : X.mg "all" = none) (hb : bootBuiltins "all" = some (.builtin "all")) (TB : TabB X.base X.mg c P) (hcode : X.env.code = .ref c) (S : GenS X.env scope x)
    (hi : PE X iter te) (hel : EltG X.prog X.w X.mg scope x elt pb) (hs : ∀ v, genFold iter X.env v = pure v)
    (he : starEach [.GeneratorExp elt [⟨.Name x px, iter, [], 0⟩] scope gpos] X.env = (false, eval (.GeneratorExp elt [⟨.Name x px, iter, [], 0⟩] scope gpos) X.env) :: starEach [] X.env := by rfl) :
    PE X (.Call (.Name "all" p) [.GeneratorExp elt [⟨.Name x px, iter, [], 0⟩] scope gpos] [] pos) (tAllS P pb te) := by
  refine ⟨fun pins s σ H Q I h => wpAny_Call_Name_kw (ld_blt I hg hm hb (PyProof.Rows.callWith_builtin1 ?_ he (by rfl)))⟩
  rw [he]
  show wpAny _ _ (spliced ((false, eval (.GeneratorExp elt [⟨.Name x px, iter, [], 0⟩] scope gpos) X.env) :: backTo pos (starEach [] X.env))) _ _ s
  refine Calls.spliced_cons (genG (R := fun a H1 => ∀ H2, Tabbed P H1 H2 → Q (.bl (a.cps.toList.all pb)) H2) hr TB hcode S hi hel hs I h fun a H1 g z hR rdy => Calls.spliced_nil ?_)
  obtain ⟨fp, wr, G, F, St, W, st0, tru, back⟩ := rdy
  refine call_all_walkS (W.self 0 _ _ _ st0 ⟨g, fp, wr, G, _, F, St, _, rfl, W, st0, tru, fun z' mv => ?_⟩)
  obtain ⟨H2, tb, K2⟩ := back z' mv
  have q := hR H2 tb
  rw [← all_signs a pb] at q
  exact ⟨.bl _, H2, K2, rfl, q⟩
end
end My
namespace My
open PySem L2 TL
/-! ### signs and words, by their codes -/
def sDig : Str := "0123456789"
def sSym : Str := "abcdefghijklmnopqrstuvwxyzABCDEFGHIJKLMNOPQRSTUVWXYZ0123456789-+*<=?!."
def sEnd : Str := " \n();"
def isDig (c : Nat) : Bool := decide (c ∈ sDig.cps.toList)
def isSym (c : Nat) : Bool := decide (c ∈ sSym.cps.toList)
def isEnd (c : Nat) : Bool := decide (c ∈ sEnd.cps.toList)
theorem dig_list : sDig.cps.toList = [48, 49, 50, 51, 52, 53, 54, 55, 56, 57] := by decide +kernel
theorem end_list : sEnd.cps.toList = [32, 10, 40, 41, 59] := by decide +kernel
theorem isDig_iff (c : Nat) : isDig c = true ↔ 48 ≤ c ∧ c ≤ 57 := by
  unfold isDig
  rw [dig_list, decide_eq_true_iff]
  simp only [List.mem_cons, List.not_mem_nil, or_false]
  omega
theorem isEnd_iff (c : Nat) : isEnd c = true ↔ c = 32 ∨ c = 10 ∨ c = 40 ∨ c = 41 ∨ c = 59 := by
  unfold isEnd
  rw [end_list, decide_eq_true_iff]
  simp only [List.mem_cons, List.not_mem_nil, or_false]
/-- what stands behind a sign ahead -/
def body : List Nat → List Nat
  | [] => []
  | c :: r => if c = 45 ∨ c = 43 then r else c :: r
def madeNum (l : List Nat) : Bool := !(body l).isEmpty && (body l).all isDig
def isSymL (l : List Nat) : Bool := !l.isEmpty && (!madeNum l && l.all isSym)
/-- without a minus ahead -/
def noMinus : List Nat → List Nat
  | [] => []
  | c :: r => if c = 45 then r else c :: r
def isIntL (l : List Nat) : Bool := madeNum l && (l.head? != some 43 && (decide ((noMinus l).length ≤ 40) && (l == [48] || (noMinus l).head? != some 48)))
/-! ### pieces of texts -/
theorem tl_cut0 (z : Str) (k : Nat) : tl (cutS z none (some (k : Int))) = (tl z).take k := by
  unfold cutS
  rw [HT.sIx_none, HT.sIx_nat]
  show ((z.cps.toList.drop 0).take (min k z.length - 0)) = _
  rw [List.drop_zero, Nat.sub_zero, List.take_eq_take_iff.mpr]
  have := len_tl z
  unfold tl at this
  omega
theorem tl_cut1 (z : Str) (k : Nat) : tl (cutS z (some (k : Int)) none) = (tl z).drop k := by
  unfold cutS
  rw [HT.sIx_none, HT.sIx_nat]
  show ((z.cps.toList.drop (min k z.length)).take (z.length - min k z.length)) = z.cps.toList.drop k
  have hz : z.length = z.cps.toList.length := len_tl z
  rw [hz]
  generalize z.cps.toList = l
  rw [List.take_of_length_le (by rw [List.length_drop]; omega)]
  by_cases h : k ≤ l.length
  · rw [Nat.min_eq_left h]
  · rw [Nat.min_eq_right (by omega), List.drop_of_length_le (Nat.le_refl l.length), List.drop_of_length_le (show l.length ≤ k by omega)]
theorem tl_cut2 (z : Str) (a b : Nat) (h : a ≤ b) (hb : b ≤ z.length) : tl (cutS z (some (a : Int)) (some (b : Int))) = ((tl z).drop a).take (b - a) := by
  unfold cutS
  rw [HT.sIx_nat, HT.sIx_nat]
  show ((z.cps.toList.drop (min a z.length)).take (min b z.length - min a z.length)) = _
  rw [Nat.min_eq_left hb, Nat.min_eq_left (Nat.le_trans h hb)]
theorem str_eq_iff (x y : Str) : (x = y) ↔ tl x = tl y := ⟨fun h => by rw [h], ext_tl⟩
theorem dec_str_tl (x y : Str) : decide (V.str x = V.str y) = decide (tl x = tl y) := by
  by_cases h : tl x = tl y
  · rw [decide_eq_true h, decide_eq_true (by rw [ext_tl h])]
  · rw [decide_eq_false h, decide_eq_false fun z => h (by cases z; rfl)]
theorem tl_removeprefix (x : Str) : tl (Txt.removeprefix x ("-" : Str)) = noMinus (tl x) := by
  have e1 : ("-" : Str).length = 1 := by decide +kernel
  have e2 : ("-" : Str).cps.toList = [45] := by decide +kernel
  rw [StrLaws.removeprefix_eq, StrLaws.subAt_eq, e1, e2, List.drop_zero]
  have hl := len_tl x
  show tl (if (decide (0 + 1 ≤ x.length) && ((tl x).take 1 == [45])) = true then (⟨(((tl x).drop 1).take (x.length - 1)).toArray⟩ : Str) else x) = noMinus (tl x)
  cases h : tl x with
  | nil =>
    rw [h] at hl
    rw [if_neg (by simp), h]
    rfl
  | cons c r =>
    rw [h] at hl
    have hl' : x.length = r.length + 1 := hl
    by_cases hc : c = 45
    · subst hc
      rw [if_pos (by simp [hl'])]
      show ((45 :: r).drop 1).take (x.length - 1) = noMinus (45 :: r)
      rw [hl']
      simp [noMinus]
    · rw [if_neg (by simp [hc]), h]
      simp [noMinus, hc]
theorem inV2 (x : Str) (a b : Str) : inV (.str x) [.str a, .str b] = (decide (tl x = tl a) || decide (tl x = tl b)) := by
  unfold inV
  simp only [List.any_cons, List.any_nil, Bool.or_false]
  have e : ∀ y : Str, eqV (.str y) (.str x) = decide (tl x = tl y) := fun y => by
    show decide (y = x) = _
    by_cases h : tl x = tl y
    · rw [decide_eq_true h, decide_eq_true (ext_tl h).symm]
    · rw [decide_eq_false h, decide_eq_false fun z => h (by rw [z])]
  rw [e, e]
end My
namespace My
open PySem L2 TL
/-! ### a def whose code object is known -/
structure FunC (K : PySem.W.Frag) (x : Str) (st : Stmt) (f : Addr) (fd : FuncData) (c : Addr) : Prop where
  ex : ∃ (oc : Value) (od : Option Addr) (kV doc pm : Value) (an : Option Addr) (ct : Value) (osl : Array (Option Value)),
    fd = PySem.W.fnOf x x (defArgs st) (defBody st) (defScope st) .none kV doc pm an (.ref c) ct ∧ K.lookup f = some ⟨oc, od, .func fd, osl⟩ ∧ PySem.W.codeIn K (.ref c) x = true
  kp : PySem.W.keepIn K (.ref f) = true
section
variable {P : Program} {w : World} {K : PySem.W.Frag} {mg : Str → Option Value} {base : Heap}
theorem FunC.ok {x : Str} {st : Stmt} {f c : Addr} {fd : FuncData} {N ps : List Str} {k : Nat} {sp : Sp} (F : FunC K x st f fd c) (S : FnScope N ps (defScope st)) (len : ∀ vs H Q E, sp vs H Q E → vs.length = ps.length)
    (hb : ∀ (A : Around) (outer : List Env) (s : Shared) (H : Hp) (vs : List V) (Q : VK) (E : XK), Room k (A.deeper (PyProof.Rows.envOfC x (defScope st) s.heap.objs.size f (.ref c))) → sp vs H Q E →
      ∃ t, PSs (cxOf CX0 P w K mg base N x (defScope st) f (.ref c) A outer s H E).nox (defBody st) t ∧ t { nx := fun _ H' => Q .non H', rt := Q } (start N vs) H) : FnOk P w K mg base CX0 (k + 1) f fd ps sp := by
  obtain ⟨oc, od, kV, doc, pm, an, ct, osl, e, lk, hcd⟩ := F.ex
  subst e
  refine fn_of lk hcd S len fun A outer s H vs Q E hr hsp => ?_
  obtain ⟨t, h, q⟩ := hb A outer s H vs Q E hr hsp
  exact ⟨t, h.nox, q⟩
end
abbrev sNum : Stmt := top 12
abbrev sSymb : Stmt := top 13
abbrev sInt : Stmt := top 14
/-- the module's texts and numbers -/
structure Sgn (mg : Str → Option Value) : Prop where
  dig : ∃ t, mg "DIGITS" = some (.str sDig t)
  sym : ∃ t, mg "SYMBOL_SIGNS" = some (.str sSym t)
structure Txs (mg : Str → Option Value) : Prop where
  dig : ∃ t, mg "DIGITS" = some (.str sDig t)
  sym : ∃ t, mg "SYMBOL_SIGNS" = some (.str sSym t)
  ends : ∃ t, mg "WORD_ENDS" = some (.str sEnd t)
  most : ∃ t, mg "MOST_DIGITS" = some (.int 40 t)
  deep : ∃ t, mg "DEEPEST_LIST" = some (.int 60 t)
theorem Txs.sgn {mg : Str → Option Value} (T : Txs mg) : Sgn mg := ⟨T.dig, T.sym⟩
def big : Nat := 1000000
theorem big_line {n : Nat} (h : n ≤ big) : n ≤ sizeLine := Nat.le_trans h (by decide)
theorem genS_of {env : Env} {sc : Scope} {x : Str} (a : sc.kind = .function) (b : sc.isCoroutine = false) (c : ∀ y ∈ sc.names, y.2 ≠ .cell) (d : sc.names.lookup (".0" : Str) = some NameKind.local) (e : sc.names.lookup x = some .local)
    (n : ∀ y ∈ sc.names, y.2 ≠ .free) : GxR.GenS env sc x := ⟨a, b, c, d, e, fun y hy z => absurd z (n y hy)⟩
/-- a text's test -/
def spTxt (g : List Nat → Bool) (Ps : List Addr) : Sp := fun vs H Q _ => ∃ z : Str, vs = [.str z] ∧ z.length ≤ big ∧ (∀ p ∈ Ps, GxR.TabG H p) ∧ ∀ H', Sm No H H' → Q (.bl (g (tl z))) H'
section
variable {P : Program} {w : World} {K : PySem.W.Frag} {mg : Str → Option Value} {base : Heap}
theorem scNum : FnScope ["word", "digits"] ["word"] (defScope sNum) := ⟨rfl, rfl, rfl, by decide +kernel, rfl, by decide +kernel, by decide +kernel⟩
theorem body_cases (l : List Nat) : (decide (l.take 1 = [45]) || decide (l.take 1 = [43])) = true ∧ body l = l.drop 1 ∨ (decide (l.take 1 = [45]) || decide (l.take 1 = [43])) = false ∧ body l = l := by
  cases l with
  | nil => right; exact ⟨rfl, rfl⟩
  | cons c r =>
    by_cases h : c = 45 ∨ c = 43
    · left
      refine ⟨?_, by simp [body, h]⟩
      rcases h with h | h <;> subst h <;> simp
    · right
      refine ⟨?_, by simp [body, h]⟩
      simp
      omega
theorem ok_num {f c P1 : Addr} {fd : FuncData} (F : FunC K "is_made_as_number" sNum f fd c) (B : Blt mg) (T : Sgn mg) (TB : GxR.TabB base mg c P1) : FnOk P w K mg base CX0 1 f fd ["word"] (spTxt madeNum [P1]) := by
  refine F.ok scNum (fun vs H Q E h => ?_) (fun A outer s H vs Q E hr h => ?_)
  · obtain ⟨z, rfl, _⟩ := h
    rfl
  obtain ⟨z, rfl, hz, ht, q⟩ := h
  have hT := ht P1 (by simp)
  obtain ⟨td, eD⟩ := T.dig
  refine ⟨_, pss_cons (ps_set (i := 1) scNum.nd rfl (Or.inl rfl) (pe_ifExp (pt_cmpR op_in_seq (pe_slice sl_str (pv 0) po_none (po_some pe_int)) (pe_tup (pa_cons pe_str (pa_cons pe_str pa_nil))) (by rfl))
      (pe_slice sl_str (pv 0) (po_some pe_int) po_none) (pv 0)))
    (pss_one (ps_ret (pe_and (pe_cmpR op_ne (pv 1) pe_str (nomark _)) (pe_one (pe_allG hr (by rfl) B.all (by decide +kernel) TB rfl (genS_of rfl rfl (by decide +kernel) rfl rfl (by decide +kernel)) (pv 1)
      (elt_inG rfl rfl rfl eD) (fun _ => rfl)))))), ?_⟩
  have fin : ∀ (d : Str) (p : Addr) (o : HO), H p = none → isTbl o = false → tl d = body (tl z) →
      (tAndV (tOp rNe (tVar 1) (tC (V.str ""))) (GxR.tAllS P1 (fun c => decide (c ∈ sDig.cps.toList)) (tVar 1))) [some (.str z), some (.str d)] (upd H p o) Q := by
    intro d p o hp _ e
    have sm1 : Sm No H (upd H p o) := Sm.new hp
    refine ⟨_, rfl, rfl, _, rfl, ?_⟩
    have e0 : tl ("" : Str) = [] := by decide +kernel
    rw [dec_str_tl, e, e0]
    by_cases hb : body (tl z) = []
    · rw [decide_eq_true hb]
      have g : madeNum (tl z) = false := by unfold madeNum; rw [hb]; rfl
      have r := q _ sm1
      rw [g] at r
      exact r
    · rw [decide_eq_false hb]
      refine ⟨_, rfl, d, rfl, sm1.tab _ hT, fun H2 tb => ?_⟩
      have g : madeNum (tl z) = d.cps.toList.all (fun c => decide (c ∈ sDig.cps.toList)) := by
        show madeNum (tl z) = (tl d).all (fun c => decide (c ∈ sDig.cps.toList))
        rw [e]
        unfold madeNum
        cases hx : body (tl z) with
        | nil => exact absurd hx hb
        | cons a r => rfl
      have r := q _ (sm1.trans (Sm.tabbed (sm1.tab _ hT) tb))
      rw [g] at r
      exact r
  refine ⟨_, rfl, _, rfl, z, rfl, big_line hz, ?_⟩
  refine ⟨by show 2 ≤ sizeLine; decide, fun p hp => ?_⟩
  refine ⟨p, _, rfl, .inr (SqT.of upd_same), rfl, rfl, _, rfl, ?_⟩
  rw [if_neg Bool.false_ne_true, inV2]
  have e1 : tl (cutS z none (some 1)) = (tl z).take 1 := tl_cut0 z 1
  have em : tl ("-" : Str) = [45] := by decide +kernel
  have ep : tl ("+" : Str) = [43] := by decide +kernel
  rw [e1, em, ep]
  rcases body_cases (tl z) with ⟨h1, h2⟩ | ⟨h1, h2⟩
  · rw [h1]
    refine ⟨_, rfl, _, rfl, z, rfl, big_line hz, ?_⟩
    exact fin _ p _ hp rfl (by rw [h2]; exact tl_cut1 z 1)
  · rw [h1]
    exact ⟨_, rfl, fin _ p _ hp rfl h2.symm⟩
end
end My
namespace My
open PySem L2 TL
section
variable {P : Program} {w : World} {K : PySem.W.Frag} {mg : Str → Option Value} {base : Heap}
theorem spTxt_len {g : List Nat → Bool} {Ps : List Addr} : ∀ vs H Q E, spTxt g Ps vs H Q E → vs.length = (["word"] : List Str).length := by
  intro vs H Q E h
  obtain ⟨z, rfl, _⟩ := h
  rfl
/-! ### is_symbol -/
theorem scSymb : FnScope ["text"] ["text"] (defScope sSymb) := ⟨rfl, rfl, rfl, by decide +kernel, rfl, by decide +kernel, by decide +kernel⟩
theorem ok_symb {f c P1 P2 fN : Addr} {fd fdN : FuncData} (F : FunC K "is_symbol" sSymb f fd c) (B : Blt mg) (T : Txs mg) (TB : GxR.TabB base mg c P2)
    (GN : FnOk P w K mg base CX0 1 fN fdN ["word"] (spTxt madeNum [P1])) (kN : PySem.W.keepIn K (.ref fN) = true) (gN : mg "is_made_as_number" = some (.ref fN)) (bN : Binds K fdN ["word"] []) :
    FnOk P w K mg base CX0 2 f fd ["text"] (spTxt isSymL [P1, P2]) := by
  refine F.ok scSymb (fun vs H Q E h => ?_) (fun A outer s H vs Q E hr h => ?_)
  · obtain ⟨z, rfl, _⟩ := h
    rfl
  obtain ⟨z, rfl, hz, ht, q⟩ := h
  have h1 := ht P1 (by simp)
  have h2 := ht P2 (by simp)
  obtain ⟨td, eD⟩ := T.sym
  refine ⟨_, pss_cons (ps_if (PW.pt (pw_or (pt_cmpR op_eq (pv 0) pe_str (nomark _)) (pw_or1 (pt_val (pe_call GN (hr.mono (by decide)) rfl gN kN bN .nil pass0 (pa_cons (pv 0) pa_nil)))))) (pss_one (ps_ret pe_bl)) pss_nil)
    (pss_one (ps_ret (pe_allG hr (by rfl) B.all (by decide +kernel) TB rfl (genS_of rfl rfl (by decide +kernel) rfl rfl (by decide +kernel)) (pv 0) (elt_inG rfl rfl rfl eD) (fun _ => rfl)))), ?_⟩
  have e0 : tl ("" : Str) = [] := by decide +kernel
  refine ⟨_, rfl, rfl, _, rfl, ?_⟩
  rw [dec_str_tl, e0]
  refine ite2 (fun c => ?_) (fun c => ?_)
  · have g : isSymL (tl z) = false := by
      have c' := of_decide_eq_true c
      unfold isSymL
      rw [c']; rfl
    have r := q H (Sm.refl _ _)
    rw [g] at r
    exact r
  · have c' : tl z ≠ [] := fun x => c (decide_eq_true x)
    have ne : (tl z).isEmpty = false := by
      cases hx : tl z with
      | nil => exact absurd hx c'
      | cons a r => rfl
    refine ⟨_, rfl, z, rfl, hz, ?_, fun H1 sm => ⟨_, rfl, ?_⟩⟩
    · intro p hp
      have : p = P1 := by simpa using hp
      rw [this]; exact h1
    refine ite2 (fun d => ?_) (fun d => ?_)
    · have g : isSymL (tl z) = false := by
        unfold isSymL
        rw [d, ne]; rfl
      have r := q H1 sm
      rw [g] at r
      exact r
    · refine ⟨_, rfl, z, rfl, sm.tab _ h2, fun H2 tb => ?_⟩
      have g : isSymL (tl z) = z.cps.toList.all (fun c => decide (c ∈ sSym.cps.toList)) := by
        unfold isSymL
        rw [ne, Bool.eq_false_iff.mpr d]
        rfl
      have r := q H2 (sm.trans (Sm.tabbed (sm.tab _ h2) tb))
      rw [g] at r
      exact r
/-! ### is_integer -/
theorem scInt : FnScope ["word", "digits"] ["word"] (defScope sInt) := ⟨rfl, rfl, rfl, by decide +kernel, rfl, by decide +kernel, by decide +kernel⟩
theorem made_ne {l : List Nat} (h : madeNum l = true) : l ≠ [] := by
  intro e
  subst e
  cases h
theorem ok_int {f P1 fN : Addr} {fd fdN : FuncData} (F : Fun K "is_integer" "is_integer" sInt f fd) (B : Blt mg) (T : Txs mg)
    (GN : FnOk P w K mg base CX0 1 fN fdN ["word"] (spTxt madeNum [P1])) (kN : PySem.W.keepIn K (.ref fN) = true) (gN : mg "is_made_as_number" = some (.ref fN)) (bN : Binds K fdN ["word"] []) :
    FnOk P w K mg base CX0 2 f fd ["word"] (spTxt isIntL [P1]) := by
  refine F.ok scInt spTxt_len (fun cdv A outer s H vs Q E hr h => ?_)
  obtain ⟨z, rfl, hz, ht, q⟩ := h
  obtain ⟨tm, eM⟩ := T.most
  have lz := len_tl z
  refine ⟨_, pss_cons (ps_if (PW.pt (pw_or (pt_not (pt_val (pe_call GN hr rfl gN kN bN .nil pass0 (pa_cons (pv 0) pa_nil)))) (pw_or1 (pt_cmpR op_eq (pe_ix ix_str (pv 0) pe_int (fun _ _ => rfl)) pe_str (nomark _))))) (pss_one (ps_ret pe_bl)) pss_nil)
    (pss_cons (ps_set (i := 1) scInt.nd rfl (Or.inl rfl) (pe_bm PySem.F.plainAttrs_str PySem.F.slot_str_removeprefix PySem.F.type_str_removeprefix mt_removeprefix (pv 0) (pa_cons pe_str pa_nil)))
    (pss_cons (ps_if (pt_cmpR op_gt (pe_callB call_len (by rfl) B.len PySem.boot_len (pa_cons (pv 1) pa_nil)) (pe_glob (v := .int 40) rfl eM ⟨_, rfl⟩) (nomark _)) (pss_one (ps_ret pe_bl)) pss_nil)
    (pss_one (ps_ret (pe_or (pe_cmpR op_eq (pv 0) pe_str (nomark _)) (pe_one (pe_cmpR op_ne (pe_ix ix_str (pv 1) pe_int (fun _ _ => rfl)) pe_str (nomark _)))))))), ?_⟩
  refine ⟨_, rfl, z, rfl, hz, ht, fun H1 sm => ⟨_, rfl, ?_⟩⟩
  cases hm : madeNum (tl z) with
  | false =>
    have g : isIntL (tl z) = false := by unfold isIntL; rw [hm]; rfl
    have r := q H1 sm
    rw [g] at r
    exact r
  | true =>
    cases hx : tl z with
    | nil => exact absurd hx (made_ne hm)
    | cons c0 r0 =>
      have g0 : isIntL (tl z) = ((tl z).head? != some 43 && (decide ((noMinus (tl z)).length ≤ 40) && (tl z == [48] || (noMinus (tl z)).head? != some 48))) := by
        unfold isIntL; rw [hm]; rfl
      have ea : atI z.cps.toList 0 = some c0 := by
        show atI (tl z) 0 = some c0
        rw [hx]; exact at0 _ _
      have one : ∀ (a b : Nat) (y : Str), tl y = [b] → decide (V.str ⟨#[a]⟩ = V.str y) = decide (a = b) := fun a b y e => by
        rw [dec_str_tl, e]
        show decide ([a] = [b]) = decide (a = b)
        by_cases h : a = b
        · rw [decide_eq_true h, decide_eq_true (by rw [h])]
        · rw [decide_eq_false h, decide_eq_false (fun e => h (List.cons.inj e).1)]
      refine ⟨_, rfl, z, _, c0, rfl, rfl, big_line hz, ea, rfl, _, rfl, ?_⟩
      rw [one c0 43 "+" (by decide +kernel)]
      by_cases h43 : c0 = 43
      · have g : isIntL (tl z) = false := by rw [g0, hx, h43]; rfl
        rw [decide_eq_true h43]
        have r := q H1 sm
        rw [g] at r
        exact r
      rw [decide_eq_false h43]
      have ed := tl_removeprefix z
      refine ⟨_, rfl, rfl, z, _, rfl, rfl, big_line hz, ?_⟩
      generalize Txt.removeprefix z ("-" : Str) = dz at ed
      have ld := len_tl dz
      have lnm : (noMinus (tl z)).length ≤ (tl z).length := by
        rw [hx]
        show (if c0 = 45 then r0 else c0 :: r0).length ≤ (c0 :: r0).length
        split <;> simp
      have ldz : dz.length ≤ sizeLine := by
        rw [ld, ed]
        exact Nat.le_trans lnm (by rw [← lz]; exact big_line hz)
      refine ⟨_, rfl, _, _, rfl, ⟨ldz, rfl⟩, _, _, rfl, rfl, _, rfl, ?_⟩
      rw [ld, ed]
      by_cases h40 : (noMinus (tl z)).length ≤ 40
      · rw [decide_eq_false (by omega)]
        have e48 : tl ("0" : Str) = [48] := by decide +kernel
        refine ⟨_, rfl, rfl, _, rfl, ?_⟩
        rw [dec_str_tl, e48]
        by_cases hz0 : tl z = [48]
        · rw [decide_eq_true hz0]
          have g : isIntL (tl z) = true := by rw [g0, hz0]; decide
          have r := q H1 sm
          rw [g] at r
          exact r
        · rw [decide_eq_false hz0]
          have dne : noMinus (tl z) ≠ [] := by
            intro e
            rw [hx] at e hm
            have e : (if c0 = 45 then r0 else c0 :: r0) = [] := e
            split at e
            · rename_i h45
              subst h45
              subst e
              cases hm
            · cases e
          cases hd : noMinus (tl z) with
          | nil => exact absurd hd dne
          | cons d0 dr =>
            have ead : atI dz.cps.toList 0 = some d0 := by
              show atI (tl dz) 0 = some d0
              rw [ed, hd]; exact at0 _ _
            refine ⟨_, rfl, dz, _, d0, rfl, rfl, ldz, ead, rfl, ?_⟩
            rw [one d0 48 "0" e48]
            have g : isIntL (tl z) = !decide (d0 = 48) := by
              rw [g0, hd, hx]
              rw [hd] at h40
              rw [hx] at hz0
              have n1 : ((c0 :: r0).head? != some 43) = true := by simp [h43]
              have n2 : ((c0 :: r0) == [48]) = false := beq_eq_false_iff_ne.mpr hz0
              rw [n1, n2, decide_eq_true h40]
              by_cases h0 : d0 = 48
              · subst h0; rfl
              · rw [decide_eq_false h0]; simp [h0]
            have r := q H1 sm
            rw [g] at r
            exact r
      · rw [decide_eq_true (by omega)]
        have g : isIntL (tl z) = false := by
          rw [g0, decide_eq_false h40]
          simp
        have r := q H1 sm
        rw [g] at r
        exact r
end
end My
namespace My
open PySem PySem.Spec PyProof.Rows L2 TL
/-- what is known of the base class of all the program's errors: its __init__ is ValueError's -/
structure BaseC (K : PySem.W.Frag) (mg : Str → Option Value) (F : Addr) : Prop where
  g : mg "FoldError" = some (.ref F)
  rd : PySem.W.readsIn K F (.type "type") = true
  ga : PySem.W.specialIn K (.ref F) "__getattribute__" = some (some (.builtin "type.__getattribute__"))
  ini : PySem.W.findCls K (.ref F) (.type "type") "__init__" = some (.val (.builtin "ValueError.__init__"))
theorem pe_baseInit {X : Cx} {e : Expr} {es : List Expr} {ta : TA} {p1 p2 pos : Pos} {F : Addr} {pl : Sem Bool} (B : BaseC X.K X.mg F) (hg : Gl X "FoldError") (ha : PA X (e :: es) ta)
    (hc : eval (.Call (.Attribute (.Name "FoldError" p1) "__init__" p2) (e :: es) [] pos) X.env = (do
      let ov ← eval (.Name "FoldError" p1) X.env
      standAt p2.atName
      let (f, first) ← holding [ov] (getMethod ov "__init__" pl)
      callWith pos f first (backTo pos (starEach (e :: es) X.env)) (backToKw pos (keywordEach [] X.env))) := by rfl)
    (he : starEach (e :: es) X.env = (false, eval e X.env) :: starEach es X.env := by rfl) (hpl : (backTo pos (starEach es X.env)).any (·.1) = false := by rfl) :
    PE X (.Call (.Attribute (.Name "FoldError" p1) "__init__" p2) (e :: es) [] pos) (tVeI X.K ta) := by
  refine ⟨fun pins s σ H Q I h => PySem.W.methodCall_KW (ld_glob I hg B.g ?_) hc⟩
  refine PySem.W.method_cls I.kIn B.ga (PySem.W.cls_value I.kIn B.rd B.ini rfl ?_)
  show wpAny _ _ (callWith pos (Value.builtin "ValueError.__init__") [] (backTo pos (starEach (e :: es) X.env)) []) _ _ _
  refine PyProof.Rows.callWith_method1 (thn (ha.run pos pins _ σ H _ (I.tok _) h) fun us s1 hh => ?_) he hpl
  obtain ⟨vs, H1, J, rv, a, C, ws, ev, hl, T, ea, q⟩ := hh
  subst ev
  cases rv with
  | @cons _ u0 _ ur r0 rr =>
    have eu : u0 = Value.ref a := r0
    subst eu
    refine oinit_ok T J ea ?_ fun s' J' => ⟨.non, H1, J', rfl, q⟩
    rw [← Paired.length rr]
    exact Nat.le_of_lt (small1000 hl)
/-- __init__(self, at) of an error with the field at -/
def spIni (K : PySem.W.Frag) (C : Addr) : Sp := fun vs H Q _ => ∃ (a : Addr) (i : Int), vs = [.ref a, .int i] ∧ H a = some (exo a C none) ∧ i.natAbs < 10 ^ 10 ∧
  ∀ d, H d = none → d ≠ a → Q .non (upd (upd H d (exd d [("at", .int i)])) a (exo a C (some d)))
theorem int_len {i : Int} (h : i.natAbs < 10 ^ 10) : (Str.ofString (toString i)).length ≤ 11 := by
  have e := int_text_length_le10 (k := 10) (by decide) h
  rw [PySem.ofString_length]
  omega
theorem int_log {i : Int} (h : i.natAbs < 10 ^ 10) : i.natAbs.log2 < 1920 := by
  have e : i.natAbs < 2 ^ 40 := Nat.lt_of_lt_of_le h (by decide)
  exact Nat.lt_of_lt_of_le (PySem.Flt.log2_lt_of (by decide) e) (by decide)
theorem app_len (x y : Str) : (x ++ y).length = x.length + y.length := by
  rw [len_tl, tl_append, List.length_append, ← len_tl, ← len_tl]
section
variable {P : Program} {w : World} {K : PySem.W.Frag} {mg : Str → Option Value} {base : Heap}
abbrev sIniE : Stmt := inClass (top 2) 0
abbrev sIniC : Stmt := inClass (top 3) 0
abbrev sIniW : Stmt := inClass (top 4) 0
theorem scIniW : FnScope ["self", "at"] ["self", "at"] (defScope sIniW) := ⟨rfl, rfl, rfl, by decide +kernel, rfl, by decide +kernel, by decide +kernel⟩
theorem ok_iniW {f F C : Addr} {fd : FuncData} (Fn : Fun K "__init__" "InvalidWord.__init__" sIniW f fd) (B : BaseC K mg F) (T : OexC K C) (hno : PySem.W.findIn K (.ref C) "at" = some none) :
    FnOk P w K mg base CX0 1 f fd ["self", "at"] (spIni K C) := by
  refine Fn.ok scIniW (fun vs H Q E h => ?_) (fun cdv A outer s H vs Q E hr h => ?_)
  · obtain ⟨a, i, rfl, _⟩ := h
    rfl
  obtain ⟨a, i, rfl, ea, hi, q⟩ := h
  refine ⟨_, pss_cons (ps_expr (pe_baseInit B rfl (pa_cons (pv 0) (pa_cons (pe_joined (PJ.cons pe_str (PJ.cons (pe_fmt (pv 1)) PJ.nil))) pa_nil))))
    (pss_one (ps_ost (pv 0) (pv 1))), ?_⟩
  have l1 := int_len hi
  refine ⟨_, rfl, _, rfl, by decide +kernel, _, rfl, .inr ⟨i, rfl, int_log hi, _, rfl, ?_, ?_⟩⟩
  · rw [app_len]
    exact Nat.le_trans (Nat.add_le_add (show _ ≤ 100 by decide +kernel) l1) (by decide)
  refine ⟨a, C, _, rfl, by show 1 ≤ 1000; decide, T, ea, ?_⟩
  refine ⟨_, rfl, _, rfl, a, C, rfl, T, hno, .inl ⟨ea, fun d hd hda => q d hd hda⟩⟩
end
end My
namespace My
open PySem PySem.Spec PyProof.Rows L2 TL
/-! ### words -/
theorem isInt_text {z : Str} (h : isIntL (tl z) = true) : (∃ n, intText? z = some n) ∧ z.length ≤ 640 := by
  have lz := len_tl z
  unfold isIntL madeNum at h
  simp only [Bool.and_eq_true, Bool.not_eq_true', bne_iff_ne, ne_eq, decide_eq_true_eq] at h
  obtain ⟨⟨hb, hd⟩, h43, h40, _⟩ := h
  have dig : ∀ l : List Nat, l.all isDig = true → NumText.AllDigits l := by
    intro l hl c hc
    exact (isDig_iff c).mp (List.all_eq_true.mp hl c hc)
  cases hx : tl z with
  | nil => rw [hx] at hb; cases hb
  | cons c r =>
    rw [hx] at hb hd h43 h40 lz
    have h43' : c ≠ 43 := fun e => h43 (by rw [e]; rfl)
    by_cases h45 : c = 45
    · subst h45
      have eb : body (45 :: r) = r := rfl
      have en : noMinus (45 :: r) = r := rfl
      rw [eb] at hb hd
      rw [en] at h40
      have lz' : z.length = r.length + 1 := lz
      have rne : r ≠ [] := fun e => by rw [e] at hb; cases hb
      exact ⟨⟨_, intText_neg (x := z) (cs := r) hx (dig r hd) rne (by omega)⟩, by omega⟩
    · have eb : body (c :: r) = c :: r := by simp [body, h45, h43']
      have en : noMinus (c :: r) = c :: r := by simp [noMinus, h45]
      rw [eb] at hd
      rw [en] at h40
      have h40' : r.length + 1 ≤ 40 := h40
      have lz' : z.length = r.length + 1 := lz
      have hx2 : z.cps.toList = c :: r := hx
      refine ⟨⟨_, intText_digits (x := z) (by rw [hx2]; exact dig _ hd) (by rw [hx2]; simp) (by omega)⟩, by omega⟩
def mkS (l : List Nat) : Str := ⟨l.toArray⟩
theorem mkS_tl (z : Str) : mkS (tl z) = z := mk_tl z
def wordV (l : List Nat) : Option V := if isIntL l = true then some (.int ((intText? (mkS l)).getD 0)) else if isSymL l = true then some (.str (mkS l)) else none
def spRead (C : Addr) (Ps : List Addr) : Sp := fun vs H Q E => ∃ (z : Str) (i : Int), vs = [.str z, .int i] ∧ z.length ≤ big ∧ i.natAbs < 10 ^ 10 ∧ (∀ p ∈ Ps, GxR.TabG H p) ∧
  (∀ v, wordV (tl z) = some v → ∀ H', Sm No H H' → Q v H') ∧
  (wordV (tl z) = none → ∀ H' d, Sm No H H' → H d = none → H' d = some (.xd [("at", .int i)]) → E (.ref C) (some d) H')
/-- what a class of errors with the field at must show where one is made -/
structure ErrC (P : Program) (w : World) (K : PySem.W.Frag) (mg : Str → Option Value) (base : Heap) (x : Str) (C fI : Addr) (fdI : FuncData) : Prop where
  o : OexC K C
  g : mg x = some (.ref C)
  iC : PySem.W.findIn K (.ref C) "__init__" = some (some (.ref fI))
  tI : PySem.W.typeIn K (.ref fI) = some (.type "function")
  f : FnOk P w K mg base CX0 1 fI fdI ["self", "at"] (spIni K C)
  b : Binds K fdI ["self", "at"] []
abbrev sRead : Stmt := top 15
abbrev sWEnd : Stmt := top 16
section
variable {P : Program} {w : World} {K : PySem.W.Frag} {mg : Str → Option Value} {base : Heap}
theorem scRead : FnScope ["word", "at"] ["word", "at"] (defScope sRead) := ⟨rfl, rfl, rfl, by decide +kernel, rfl, by decide +kernel, by decide +kernel⟩
/-- the reading of C(at): what is left behind it -/
theorem mkO_at {C : Addr} {H H0 : Hp} {i : Int} {Q : XK} {ta : TA} {σ : L2.St} (hi : i.natAbs < 10 ^ 10) (h : ∀ Q' : List V → Hp → Prop, Q' [.int i] H → ta σ H Q')
    (sm : Sm No H0 H) (q : ∀ H' d, Sm No H0 H' → H0 d = none → H' d = some (.xd [("at", .int i)]) → Q (.ref C) (some d) H') : tMkO C (spIni K C) [] ta σ H Q := by
  refine h _ ⟨by show 1 ≤ 1000; decide, fun a ha => ?_⟩
  refine ⟨a, i, rfl, upd_same, hi, fun d hd hda => ⟨rfl, d, [("at", .int i)], upd_same, ?_, ?_, ?_⟩⟩
  · rw [upd_ne hda, upd_same]
  · rw [upd_ne hda] at hd; exact hd
  have hd0 : H d = none := by rw [upd_ne hda] at hd; exact hd
  refine q _ d ?_ (sm.dom d hd0) upd_same
  have ne_a : ∀ {b : Addr} {o : HO}, H b = some o → b ≠ a := fun {b o} e z => by rw [z, ha] at e; cases e
  have ne_d : ∀ {b : Addr} {o : HO}, H b = some o → b ≠ d := fun {b o} e z => by rw [z, hd0] at e; cases e
  have val : ∀ {b : Addr} {o : HO}, H b = some o → (upd (L2.del (upd (upd (upd H a (exo a C none)) d (exd d [("at", V.int i)])) a (exo a C (some d))) a) d (.xd [("at", .int i)])) b = some o := fun {b o} e => by
    rw [upd_ne (ne_d e), del_ne (ne_a e), upd_ne (ne_a e), upd_ne (ne_d e), upd_ne (ne_a e)]
    exact e
  refine sm.trans ⟨fun b o _ _ e => val e, fun Z ⟨ps, z1, z2⟩ => ⟨ps, val z1, z2⟩, fun b e => ?_⟩
  cases q : H b with
  | none => rfl
  | some o => rw [val q] at e; cases e
theorem ok_read {f C fI fN fS P1 P2 : Addr} {fd fdI fdN fdS : FuncData} (F : Fun K "read_word" "read_word" sRead f fd) (B : Blt mg) (X : ErrC P w K mg base "InvalidWord" C fI fdI)
    (GN : FnOk P w K mg base CX0 2 fN fdN ["word"] (spTxt isIntL [P1])) (kN : PySem.W.keepIn K (.ref fN) = true) (gN : mg "is_integer" = some (.ref fN)) (bN : Binds K fdN ["word"] [])
    (GS : FnOk P w K mg base CX0 2 fS fdS ["text"] (spTxt isSymL [P1, P2])) (kS : PySem.W.keepIn K (.ref fS) = true) (gS : mg "is_symbol" = some (.ref fS)) (bS : Binds K fdS ["text"] []) :
    FnOk P w K mg base (L2.CX P w) 3 f fd ["word", "at"] (spRead C [P1, P2]) := by
  refine F.okX scRead (fun vs H Q E h => ?_) (fun cdv A outer s H vs Q E hr h => ?_)
  · obtain ⟨z, i, rfl, _⟩ := h
    rfl
  obtain ⟨z, i, rfl, hz, hi, ht, qV, qE⟩ := h
  refine ⟨_, pss_cons (ps_if (pt_val (pe_call GN hr rfl gN kN bN .nil pass0 (pa_cons (pv 0) pa_nil)))
      (pss_one (ps_ret (pe_callTy call_int_str (by rfl) B.int (by decide +kernel) (pa_cons (pv 0) pa_nil)))) pss_nil)
    (pss_cons (ps_if (pt_val (pe_call GS hr rfl gS kS bS .nil pass0 (pa_cons (pv 0) pa_nil))) (pss_one (ps_ret (pv 0))) pss_nil)
    (pss_one (ps_raise rfl (takes_of rfl rfl rfl rfl) (pmk_oex X.o X.iC X.tI X.f hr X.b .nil pass0 rfl X.g (pa_cons (pv 1) pa_nil))))), ?_⟩
  refine ⟨_, rfl, z, rfl, hz, fun p hp => ht p (by simp at hp; simp [hp]), fun H1 s1 => ⟨_, rfl, ?_⟩⟩
  cases h1 : isIntL (tl z) with
  | true =>
    obtain ⟨⟨n, hn⟩, hl⟩ := isInt_text h1
    refine ⟨_, rfl, z, n, rfl, hn, hl, qV (.int n) ?_ H1 s1⟩
    unfold wordV
    rw [if_pos h1, mkS_tl, hn]
    rfl
  | false =>
    refine ⟨_, rfl, z, rfl, hz, fun p hp => s1.tab p (ht p hp), fun H2 s2 => ⟨_, rfl, ?_⟩⟩
    cases h2 : isSymL (tl z) with
    | true =>
      refine ⟨_, rfl, qV (.str z) ?_ H2 (s1.trans s2)⟩
      unfold wordV
      rw [if_neg (by rw [h1]; simp), if_pos h2, mkS_tl]
    | false =>
      show tMkO C (spIni K C) [] (tCons (tVar 1) tNil) [some (.str z), some (.int i)] H2 (fun cls d H' => E cls d H')
      refine mkO_at hi (fun Q' q' => ⟨_, rfl, q'⟩) (s1.trans s2) fun H' d sm hd e => ?_
      refine qE ?_ H' d sm hd e
      unfold wordV
      rw [if_neg (by rw [h1]; simp), if_neg (by rw [h2]; simp)]
end
end My
namespace My
open PySem PySem.Spec PyProof.Rows L2 TL
/-! ### the reading of a text, as a function -/
inductive Dat where
  | int (i : Int)
  | sym (s : Str)
  | lst (ds : List Dat)
inductive Out where
  | ok (ds : List Dat)
  | word (i : Nat)
  | close (i : Nat)
  | deep
  | ends (i : Nat)
def datOf : V → Dat
  | .int i => .int i
  | .str s => .sym s
  | _ => .lst []
def noEnd (c : Nat) : Bool := !isEnd c
def noLine (c : Nat) : Bool := !decide (c = 10)
def run : Nat → List Nat → Nat → List (List Dat) → Out
  | 0, _, _, _ => .deep
  | _ + 1, [], i, st => match st with
    | [ds] => .ok ds
    | _ => .ends i
  | n + 1, c :: r, i, st =>
    if c = 59 then run n ((c :: r).dropWhile noLine) (i + ((c :: r).takeWhile noLine).length) st
    else if c = 40 then (if 60 < st.length then .deep else run n r (i + 1) ([] :: st))
    else if c = 41 then (match st with
      | t :: p :: rest => run n r (i + 1) ((p ++ [.lst t]) :: rest)
      | _ => .close i)
    else if c = 32 ∨ c = 10 then run n r (i + 1) st
    else match wordV ((c :: r).takeWhile noEnd), st with
      | some v, t :: rest => run n ((c :: r).dropWhile noEnd) (i + ((c :: r).takeWhile noEnd).length) ((t ++ [datOf v]) :: rest)
      | _, _ => .word i
/-- the reading with at most m lists, one in another -/
def runD (m : Nat) : Nat → List Nat → Nat → List (List Dat) → Out
  | 0, _, _, _ => .deep
  | _ + 1, [], i, st => match st with
    | [ds] => .ok ds
    | _ => .ends i
  | n + 1, c :: r, i, st =>
    if c = 59 then runD m n ((c :: r).dropWhile noLine) (i + ((c :: r).takeWhile noLine).length) st
    else if c = 40 then (if m < st.length then .deep else runD m n r (i + 1) ([] :: st))
    else if c = 41 then (match st with
      | t :: p :: rest => runD m n r (i + 1) ((p ++ [.lst t]) :: rest)
      | _ => .close i)
    else if c = 32 ∨ c = 10 then runD m n r (i + 1) st
    else match wordV ((c :: r).takeWhile noEnd), st with
      | some v, t :: rest => runD m n ((c :: r).dropWhile noEnd) (i + ((c :: r).takeWhile noEnd).length) ((t ++ [datOf v]) :: rest)
      | _, _ => .word i
theorem runD_run : runD 60 = run := by
  funext n
  induction n with
  | zero => rfl
  | succ n ih =>
    funext l i st
    cases l with
    | nil => rfl
    | cons c r =>
      show (if c = 59 then _ else _) = (if c = 59 then _ else _)
      rw [ih]
theorem span_at (p : Nat → Bool) (l : List Nat) : ∀ (n a k : Nat), k = a + n → k ≤ l.length → (∀ v c, a ≤ v → v < k → l[v]? = some c → p c = true) → (∀ c, l[k]? = some c → p c = false) →
    (l.drop a).takeWhile p = (l.drop a).take n ∧ (l.drop a).dropWhile p = l.drop k
  | 0, a, k, e, hk, _, h2 => by
    have e' : k = a := by omega
    subst e'
    cases hd : l.drop k with
    | nil => exact ⟨rfl, rfl⟩
    | cons c r =>
      have hc : l[k]? = some c := by
        have := congrArg (fun z : List Nat => z[0]?) hd
        simpa using this
      have pc := h2 c hc
      refine ⟨?_, ?_⟩
      · rw [List.takeWhile_cons, pc]; rfl
      · rw [List.dropWhile_cons, pc]; rfl
  | n + 1, a, k, e, hk, h1, h2 => by
    have lt : a < l.length := by omega
    have pc := h1 a l[a] (Nat.le_refl _) (by omega) (List.getElem?_eq_getElem lt)
    obtain ⟨i1, i2⟩ := span_at p l n (a + 1) k (by omega) hk (fun v c g1 g2 g3 => h1 v c (by omega) g2 g3) h2
    rw [List.drop_eq_getElem_cons lt, List.takeWhile_cons, List.dropWhile_cons, pc]
    refine ⟨?_, ?_⟩
    · show l[a] :: _ = l[a] :: (l.drop (a + 1)).take n
      rw [i1]
    · exact i2
/-! ### data in the heap: C names the closed lists -/
mutual
inductive Rep (C : Addr → Prop) (H : Hp) : V → Dat → Prop
  | int (i : Int) : Rep C H (.int i) (.int i)
  | sym (s : Str) : Rep C H (.str s) (.sym s)
  | lst {a : Addr} {vs : List V} {ds : List Dat} (hc : C a) (h : H a = some (.lst vs)) (r : RepL C H vs ds) : Rep C H (.ref a) (.lst ds)
inductive RepL (C : Addr → Prop) (H : Hp) : List V → List Dat → Prop
  | nil : RepL C H [] []
  | cons {v : V} {d : Dat} {vs : List V} {ds : List Dat} (h : Rep C H v d) (r : RepL C H vs ds) : RepL C H (v :: vs) (d :: ds)
end
/-- a list that C names stays as it is -/
def Kp (C : Addr → Prop) (H H' : Hp) : Prop := ∀ a vs, C a → H a = some (.lst vs) → H' a = some (.lst vs)
mutual
theorem Rep.keep {C C' : Addr → Prop} {H H' : Hp} (k : Kp C H H') (s : ∀ a, C a → C' a) : ∀ {v : V} {d : Dat}, Rep C H v d → Rep C' H' v d
  | _, _, .int i => .int i
  | _, _, .sym x => .sym x
  | _, _, .lst hc h r => .lst (s _ hc) (k _ _ hc h) (RepL.keep k s r)
theorem RepL.keep {C C' : Addr → Prop} {H H' : Hp} (k : Kp C H H') (s : ∀ a, C a → C' a) : ∀ {vs : List V} {ds : List Dat}, RepL C H vs ds → RepL C' H' vs ds
  | _, _, .nil => .nil
  | _, _, .cons h r => .cons (Rep.keep k s h) (RepL.keep k s r)
end
theorem RepL.snoc {C : Addr → Prop} {H : Hp} : ∀ {vs : List V} {ds : List Dat} {v : V} {d : Dat}, RepL C H vs ds → Rep C H v d → RepL C H (vs ++ [v]) (ds ++ [d])
  | _, _, _, _, .nil, h => .cons h .nil
  | _, _, _, _, .cons g r, h => .cons g (RepL.snoc r h)
/-- the open lists, the innermost first; ch: the list that is open within the first of them -/
def Opn (C : Addr → Prop) (H : Hp) : Option Addr → List Addr → List (List Dat) → Prop
  | _, [], [] => True
  | ch, a :: as, ds :: dss => (∃ vs, H a = some (.lst (vs ++ (ch.map V.ref).toList)) ∧ RepL C H vs ds) ∧ ¬ C a ∧ a ∉ as ∧ Opn C H (some a) as dss
  | _, _, _ => False
theorem Opn.len {C : Addr → Prop} {H : Hp} : ∀ {ch : Option Addr} {as : List Addr} {st : List (List Dat)}, Opn C H ch as st → as.length = st.length
  | _, [], [], _ => rfl
  | _, _ :: _, _ :: _, h => congrArg (· + 1) (Opn.len h.2.2.2)
  | _, [], _ :: _, h => h.elim
  | _, _ :: _, [], h => h.elim
theorem Opn.keep {C C' : Addr → Prop} {H H' : Hp} (s : ∀ a, C a → C' a) (k : Kp C H H') : ∀ {ch : Option Addr} {as : List Addr} {st : List (List Dat)}, Opn C H ch as st →
    (∀ a ∈ as, ∀ vs, H a = some (.lst vs) → H' a = some (.lst vs)) → (∀ a ∈ as, ¬ C' a) → Opn C' H' ch as st
  | _, [], [], _, _, _ => trivial
  | _, a :: as, ds :: dss, ⟨⟨vs, h1, h2⟩, h3, h4, h5⟩, ho, hn =>
    ⟨⟨vs, ho a List.mem_cons_self _ h1, h2.keep k s⟩, hn a List.mem_cons_self, h4, Opn.keep s k h5 (fun b hb => ho b (List.mem_cons_of_mem _ hb)) fun b hb => hn b (List.mem_cons_of_mem _ hb)⟩
  | _, [], _ :: _, h, _, _ => h.elim
  | _, _ :: _, [], h, _, _ => h.elim
theorem Opn.there {C : Addr → Prop} {H : Hp} : ∀ {ch : Option Addr} {as : List Addr} {st : List (List Dat)}, Opn C H ch as st → ∀ a ∈ as, ∃ vs, H a = some (.lst vs)
  | _, [], [], _, _, h => absurd h (by simp)
  | _, a :: as, ds :: dss, ⟨⟨vs, h1, h2⟩, h3, h4, h5⟩, b, hb => by
    rcases List.mem_cons.mp hb with e | e
    · exact ⟨_, by rw [e]; exact h1⟩
    · exact Opn.there h5 b e
  | _, [], _ :: _, h, _, _ => h.elim
  | _, _ :: _, [], h, _, _ => h.elim
theorem Opn.out {C : Addr → Prop} {H : Hp} : ∀ {ch : Option Addr} {as : List Addr} {st : List (List Dat)}, Opn C H ch as st → ∀ a ∈ as, ¬ C a
  | _, [], [], _, _, h => absurd h (by simp)
  | _, a :: as, ds :: dss, ⟨⟨vs, h1, h2⟩, h3, h4, h5⟩, b, hb => by
    rcases List.mem_cons.mp hb with e | e
    · rw [e]; exact h3
    · exact Opn.out h5 b e
  | _, [], _ :: _, h, _, _ => h.elim
  | _, _ :: _, [], h, _, _ => h.elim
theorem none_list (vs : List V) : vs ++ ((none : Option Addr).map V.ref).toList = vs := List.append_nil vs
/-- a datum is appended to the innermost list -/
theorem Opn.app {C : Addr → Prop} {H : Hp} {a : Addr} {as : List Addr} {t : List Dat} {rest : List (List Dat)} {v : V} {d : Dat} (h : Opn C H none (a :: as) (t :: rest)) (r : Rep C H v d) :
    ∃ vs, H a = some (.lst vs) ∧ ∀ H' : Hp, H' a = some (.lst (vs ++ [v])) → (∀ b, b ≠ a → (C b ∨ b ∈ as) → ∀ xs, H b = some (.lst xs) → H' b = some (.lst xs)) → Opn C H' none (a :: as) ((t ++ [d]) :: rest) := by
  obtain ⟨⟨vs, h1, h2⟩, h3, h4, h5⟩ := h
  rw [none_list] at h1
  refine ⟨vs, h1, fun H' e k => ?_⟩
  have kp : Kp C H H' := fun b xs hc hb => k b (fun z => h3 (z ▸ hc)) (.inl hc) xs hb
  refine ⟨⟨vs ++ [v], by rw [none_list]; exact e, (h2.keep kp fun _ z => z).snoc (r.keep kp fun _ z => z)⟩, h3, h4, ?_⟩
  exact h5.keep (fun _ z => z) kp (fun b hb xs hx => k b (fun z => h4 (z ▸ hb)) (.inr hb) xs hx) h5.out
/-- a list is begun -/
theorem Opn.beg {C : Addr → Prop} {H : Hp} {a n : Addr} {as : List Addr} {t : List Dat} {rest : List (List Dat)} (h : Opn C H none (a :: as) (t :: rest)) (hn : H n = none) (nC : ¬ C n) :
    ∃ vs, H a = some (.lst vs) ∧ ∀ H' : Hp, H' n = some (.lst []) → H' a = some (.lst (vs ++ [.ref n])) → (∀ b, b ≠ a → (C b ∨ b ∈ as) → ∀ xs, H b = some (.lst xs) → H' b = some (.lst xs)) → Opn C H' none (n :: a :: as) ([] :: t :: rest) := by
  have th := h.there
  obtain ⟨⟨vs, h1, h2⟩, h3, h4, h5⟩ := h
  rw [none_list] at h1
  refine ⟨vs, h1, fun H' e0 e k => ?_⟩
  have kp : Kp C H H' := fun b xs hc hb => k b (fun z => h3 (z ▸ hc)) (.inl hc) xs hb
  refine ⟨⟨[], by rw [none_list]; exact e0, .nil⟩, nC, ?_, ⟨vs, e, h2.keep kp fun _ z => z⟩, h3, h4, ?_⟩
  · intro hm
    obtain ⟨xs, hx⟩ := th n hm
    rw [hn] at hx
    cases hx
  · exact h5.keep (fun _ z => z) kp (fun b hb xs hx => k b (fun z => h4 (z ▸ hb)) (.inr hb) xs hx) h5.out
/-- the innermost list is closed -/
theorem Opn.cls {C : Addr → Prop} {H : Hp} {a b : Addr} {as : List Addr} {t p : List Dat} {rest : List (List Dat)} (h : Opn C H none (a :: b :: as) (t :: p :: rest)) :
    Opn (fun x => C x ∨ x = a) H none (b :: as) ((p ++ [.lst t]) :: rest) := by
  obtain ⟨⟨vs, h1, h2⟩, h3, h4, ⟨us, g1, g2⟩, g3, g4, g5⟩ := h
  rw [none_list] at h1
  have kp : Kp C H H := fun _ _ _ e => e
  have s : ∀ x, C x → C x ∨ x = a := fun _ z => .inl z
  refine ⟨⟨us ++ [.ref a], by rw [none_list]; exact g1, (g2.keep kp s).snoc (.lst (.inr rfl) h1 (h2.keep kp s))⟩, ?_, g4, ?_⟩
  · intro z
    rcases z with z | z
    · exact g3 z
    · exact h4 (by rw [← z]; exact List.mem_cons_self)
  · refine g5.keep s kp (fun _ _ _ e => e) fun x hx z => ?_
    rcases z with z | z
    · exact g5.out x hx z
    · exact h4 (by rw [← z]; exact List.mem_cons_of_mem _ hx)
theorem Opn.keepH {C : Addr → Prop} {H H' : Hp} {ch : Option Addr} {as : List Addr} {st : List (List Dat)} (h : Opn C H ch as st) (k : ∀ b xs, H b = some (.lst xs) → (C b ∨ b ∈ as) → H' b = some (.lst xs)) : Opn C H' ch as st :=
  h.keep (fun _ z => z) (fun b xs hc e => k b xs e (.inl hc)) (fun b hb xs e => k b xs e (.inr hb)) h.out
end My
namespace My
open PySem PySem.Spec PyProof.Rows L2 TL
abbrev sREnd : Stmt := top 17
abbrev sBeg : Stmt := top 18
abbrev sEndL : Stmt := top 19
/-- an own error without an __init__, made with one argument -/
theorem pmk_plain {X : Cx} {C : Addr} {bmB : List Value} {B newId initId : String} {x : Str} {e : Expr} {te : TE} {p pos : Pos} (F : ExcBaseFacts B newId initId bmB) (q : PySem.W.excIn X.K C bmB newId = true) (gC : X.mg x = some (.ref C))
    (kC : PySem.W.keepIn X.K (.ref C) = true) (r : Raises X (.ref C)) (hg : Gl X x) (he : PE X e te) (hdb : (x == ("__debug__" : Str)) = false := by decide)
    (hse : starEach [e] X.env = (false, eval e X.env) :: starEach [] X.env := by rfl) (hpl : (backTo pos (starEach [] X.env)).any (·.1) = false := by rfl) :
    PMk X (.Call (.Name x p) [e] [] pos) (fun σ H Q => tCons te tNil σ H fun vs H1 => vs.length = 1 ∧ Q (.ref C) none H1) := by
  intro pins s σ H Q I h
  refine wpAny_Call_Name_kw (ld_glob I hg gC ?_ hdb)
  have ha : PA X [e] (tCons te tNil) := pa_cons he pa_nil hse
  refine PySem.W.callWith_K (h₀ := X.base) I.ok.mod.kin kC (thn (ha.run pos pins s σ H _ I h) fun us s1 hh => ?_) hse hpl
  obtain ⟨vs, H1, J, rv, el, q1⟩ := hh
  have lu : us.length ≤ sizeLine := by
    rw [← Paired.length rv, el]
    decide
  obtain ⟨bm, N, nm, qn, bs, hdct, sn, sub, ab, col, dd, k0, k1, k2, k3, k5, mN, hC, hN, hni, T⟩ := exc_obj J.kIn q
  refine ⟨J.kIn, wpAny_call_exc_subT F T hC hN hni (fun h' e hm => ?_) lu⟩
  exact mk_of J hm r q1 (J.hok.gone hm.new)
def spScan (p : Nat → Bool) : Sp := fun vs H Q _ => ∃ (z : Str) (i : Nat), vs = [.str z, .int i] ∧ z.length ≤ big ∧ i ≤ z.length ∧ Q (.int ((i + (((tl z).drop i).takeWhile p).length : Nat) : Int)) H
section
variable {P : Program} {w : World} {K : PySem.W.Frag} {mg : Str → Option Value} {base : Heap}
theorem scWEnd : FnScope ["text", "at", "end"] ["text", "at"] (defScope sWEnd) := ⟨rfl, rfl, rfl, by decide +kernel, rfl, by decide +kernel, by decide +kernel⟩
theorem ok_wend {f : Addr} {fd : FuncData} (F : Fun K "word_end" "word_end" sWEnd f fd) (B : Blt mg) (T : Txs mg) : FnOk P w K mg base CX0 1 f fd ["text", "at"] (spScan noEnd) := by
  refine F.ok scWEnd (fun vs H Q E h => ?_) (fun cdv A outer s H vs Q E hr h => ?_)
  · obtain ⟨z, i, rfl, _⟩ := h
    rfl
  obtain ⟨z, i, rfl, hz, hi, q⟩ := h
  obtain ⟨te, eE⟩ := T.ends
  have lz := len_tl z
  refine ⟨_, pss_cons (ps_set (i := 2) scWEnd.nd rfl (Or.inl rfl) (pv 1))
    (pss_cons (ps_while PassesOwn.never (PW.pt (pw_and (pt_cmpR op_lt (pv 2) (pe_callB call_len (by rfl) B.len PySem.boot_len (pa_cons (pv 0) pa_nil)) (nomark _))
        (pw_and1 (pt_cmpR op_notIn_sign (pe_ix ix_str (pv 0) (pv 2) (fun _ _ => rfl)) (pe_glob (v := .str sEnd) rfl eE ⟨_, rfl⟩) (by rfl)))))
      (pss_one (ps_aug (i := 2) scWEnd.nd rfl (Or.inl rfl) pe_int ip_add)))
    (pss_one (ps_ret (pv 2)))), ?_⟩
  refine ⟨_, rfl, ?_⟩
  refine while_by (fun σ H' => ∃ k : Nat, σ = [some (.str z), some (.int i), some (.int (k : Nat))] ∧ H' = H ∧ i ≤ k ∧ k ≤ z.length ∧ ∀ v c, i ≤ v → v < k → (tl z)[v]? = some c → noEnd c = true)
    (fun σ _ => match σ with | [_, _, some (.int k)] => z.length - k.toNat | _ => 0) ⟨i, rfl, rfl, Nat.le_refl _, hi, fun v c h1 h2 => by omega⟩ ?_ ?_
  · rintro σ H' ⟨k, rfl, rfl, h1, h2, h3⟩
    refine ⟨_, rfl, _, rfl, _, _, rfl, ⟨big_line hz, rfl⟩, _, _, rfl, rfl, _, rfl, ?_⟩
    refine ite2 (fun c => ?_) (fun c => ?_)
    · have lt : k < z.length := by have := of_decide_eq_true c; omega
      have lt' : k < (tl z).length := by omega
      have ea : atI z.cps.toList (k : Int) = some (tl z)[k] := atI_nat (List.getElem?_eq_getElem lt')
      refine ⟨_, rfl, _, rfl, z, _, _, rfl, rfl, big_line hz, ea, _, _, rfl, rfl, _, rfl, ?_⟩
      refine ite2 (fun d => ?_) (fun d => ?_)
      · refine ⟨_, rfl, _, _, rfl, rfl, ⟨k + 1, rfl, rfl, by omega, by omega, fun v c g1 g2 g3 => ?_⟩, ?_⟩
        · by_cases hv : v = k
          · subst hv
            rw [List.getElem?_eq_getElem lt'] at g3
            rw [← Option.some.inj g3]
            exact d
          · exact h3 v c g1 (by omega) g3
        · show z.length - ((k : Int) + 1).toNat < z.length - ((k : Nat) : Int).toNat
          omega
      · refine ⟨_, rfl, ?_⟩
        obtain ⟨e1, e2⟩ := span_at noEnd (tl z) (k - i) i k (by omega) (by omega) h3 (fun c hc => by
          rw [List.getElem?_eq_getElem lt'] at hc
          rw [← Option.some.inj hc]
          exact Bool.eq_false_iff.mpr d)
        rw [e1, List.length_take, List.length_drop] at q
        rw [show i + min (k - i) ((tl z).length - i) = k by omega] at q
        exact q
    · have ge : ¬ k < z.length := fun h => c (decide_eq_true (by omega))
      refine ⟨_, rfl, ?_⟩
      obtain ⟨e1, e2⟩ := span_at noEnd (tl z) (k - i) i k (by omega) (by omega) h3 (fun c hc => by
        rw [List.getElem?_eq_none (by omega)] at hc
        cases hc)
      rw [e1, List.length_take, List.length_drop] at q
      rw [show i + min (k - i) ((tl z).length - i) = k by omega] at q
      exact q
  · intro σ H' Q1 Q2 hm h
    obtain ⟨v, e, v2, e2, x, n, e3, hl, i1, j1, e4, e5, b, e6, h7⟩ := h
    refine ⟨v, e, v2, e2, x, n, e3, hl, i1, j1, e4, e5, b, e6, ?_⟩
    revert h7
    refine fun h7 => ?_
    cases b with
    | true =>
      obtain ⟨u1, f1, u2, f2, y1, y2, y3, g1, g2, g3, g4, k1, k2, g5, g6, k3, g7, g8⟩ := h7
      exact ⟨u1, f1, u2, f2, y1, y2, y3, g1, g2, g3, g4, k1, k2, g5, g6, k3, g7, hm _ _ g8⟩
    | false => exact hm _ _ h7
end
end My
namespace My
open PySem PySem.Spec PyProof.Rows L2 TL
section
variable {P : Program} {w : World} {K : PySem.W.Frag} {mg : Str → Option Value} {base : Heap}
theorem scREnd : FnScope ["text", "at", "end"] ["text", "at"] (defScope sREnd) := ⟨rfl, rfl, rfl, by decide +kernel, rfl, by decide +kernel, by decide +kernel⟩
theorem line_sign : ("\n" : Str) = ⟨#[10]⟩ := by decide +kernel
theorem from_nat (n i : Nat) (h : i ≤ n) : PySem.fromIndex n (i : Int) = i := by
  unfold PySem.fromIndex
  omega
theorem getD_some {z : Str} {v c : Nat} (h : (tl z)[v]? = some c) : z.cps.getD v 0 = c := by
  have e : z.cps[v]? = some c := by rw [← Array.getElem?_toList]; exact h
  rw [Array.getD_eq_getD_getElem?, e]; rfl
theorem ok_rend {f : Addr} {fd : FuncData} (F : Fun K "remark_end" "remark_end" sREnd f fd) (B : Blt mg) : FnOk P w K mg base CX0 1 f fd ["text", "at"] (spScan noLine) := by
  refine F.ok scREnd (fun vs H Q E h => ?_) (fun cdv A outer s H vs Q E hr h => ?_)
  · obtain ⟨z, i, rfl, _⟩ := h
    rfl
  obtain ⟨z, i, rfl, hz, hi, q⟩ := h
  have lz := len_tl z
  refine ⟨_, pss_cons (ps_set (i := 2) scREnd.nd rfl (Or.inl rfl) (pe_bm PySem.F.plainAttrs_str PySem.F.slot_str_find PySem.F.type_str_find mt_find3 (pv 0) (pa_cons pe_str (pa_cons (pv 1) pa_nil))))
    (pss_one (ps_ret (pe_ifExp (pt_cmpR op_eq (pv 2) (pe_un un_neg pe_int) (nomark _)) (pe_callB call_len (by rfl) B.len PySem.boot_len (pa_cons (pv 0) pa_nil)) (pv 2)))), ?_⟩
  have fin : ∀ k : Nat, i ≤ k → k ≤ z.length → (∀ v, i ≤ v → v < k → z.cps.getD v 0 ≠ 10) → (k < z.length → z.cps.getD k 0 = 10) → Q (.int (k : Nat)) H := by
    intro k h1 h2 h3 h4
    obtain ⟨e1, e2⟩ := span_at noLine (tl z) (k - i) i k (by omega) (by omega) (fun v c g1 g2 g3 => by
      have := h3 v g1 g2
      rw [getD_some g3] at this
      simp [noLine, this]) (fun c hc => by
      have lt : k < z.length := by
        have := (List.getElem?_eq_some_iff.mp hc).1
        omega
      have := h4 lt
      rw [getD_some hc] at this
      simp [noLine, this])
    rw [e1, List.length_take, List.length_drop, show i + min (k - i) ((tl z).length - i) = k by omega] at q
    exact q
  refine ⟨_, rfl, rfl, _, rfl, z, _, _, rfl, rfl, ?_⟩
  rw [line_sign]
  have sp := StrLaws.find3_spec z 10 (i : Int)
  rw [from_nat z.length i hi] at sp
  rcases sp with ⟨e, hn⟩ | ⟨k, e, h1, h2, h3, h4⟩
  · rw [e]
    refine ⟨_, rfl, _, rfl, rfl, _, rfl, ?_⟩
    exact ⟨_, rfl, _, _, rfl, ⟨big_line hz, rfl⟩, fin z.length hi (Nat.le_refl _) (fun v g1 g2 => hn v g1 g2) (fun h => absurd h (Nat.lt_irrefl _))⟩
  · rw [e]
    refine ⟨_, rfl, _, rfl, rfl, _, rfl, ?_⟩
    have ne : decide (V.int (k : Int) = V.int (-1)) = false := decide_eq_false fun z => by
      have := V.int.inj z
      omega
    rw [ne]
    exact ⟨_, rfl, fin k h1 (by omega) h4 (fun _ => h3)⟩
/-! ### lists are begun and ended -/
theorem scBeg : FnScope ["rows", "deepest", "inner"] ["rows", "deepest"] (defScope sBeg) := ⟨rfl, rfl, rfl, by decide +kernel, rfl, by decide +kernel, by decide +kernel⟩
/-- TooDeep -/
structure DeepC (K : PySem.W.Frag) (mg : Str → Option Value) (C : Addr) : Prop where
  q : PySem.W.excIn K C [.type "ValueError", .type "Exception", .type "BaseException", .type "object"] "ValueError.__new__" = true
  g : mg "TooDeep" = some (.ref C)
  k : PySem.W.keepIn K (.ref C) = true
  s : PySem.W.subIn K (.ref C) (.type "BaseException") = some true
  t : PySem.W.typeIn K (.ref C) = some (.type "type")
def spBeg (C : Addr) : Sp := fun vs H Q E => ∃ (R a : Addr) (xs vs' : List V) (m : Nat), vs = [.ref R, .int (m : Nat)] ∧ H R = some (.lst (xs ++ [.ref a])) ∧ H a = some (.lst vs') ∧ R ≠ a ∧ xs.length ≤ big ∧ vs'.length ≤ big ∧ m ≤ big ∧
  (m < xs.length + 1 → E (.ref C) none H) ∧
  (¬ m < xs.length + 1 → ∀ n, H n = none → Q .non (upd (upd (upd H n (.lst [])) a (.lst (vs' ++ [.ref n]))) R (.lst (xs ++ [.ref a] ++ [.ref n]))))
theorem ok_beg {f C : Addr} {fd : FuncData} (F : Fun K "begin_list" "begin_list" sBeg f fd) (B : Blt mg) (D : DeepC K mg C) : FnOk P w K mg base (L2.CX P w) 2 f fd ["rows", "deepest"] (spBeg C) := by
  refine F.okX scBeg (fun vs H Q E h => ?_) (fun cdv A outer s H vs Q E hr h => ?_)
  · obtain ⟨R, a, xs, vs', m, rfl, _⟩ := h
    rfl
  obtain ⟨R, a, xs, vs', m, rfl, hR, ha, nRa, lx, lv, lm, qE, qQ⟩ := h
  refine ⟨_, pss_cons (ps_if (pt_cmpR op_gt (pe_callB call_len (by rfl) B.len PySem.boot_len (pa_cons (pv 0) pa_nil)) (pv 1) (nomark _))
      (pss_one (ps_raise rfl (takes_of rfl rfl rfl rfl) (pmk_plain PySem.F.excBase_ValueError D.q D.g D.k (raises_own D.s D.t) rfl (pe_joined (PJ.cons pe_str (PJ.cons (pe_fmt (pv 1)) (PJ.cons pe_str PJ.nil))))))) pss_nil)
    (pss_cons (ps_set (i := 2) scBeg.nd rfl (Or.inl rfl) (pe_lst pa_nil))
    (pss_cons (ps_expr (pe_bm PySem.F.plainAttrs_list PySem.F.slot_list_append PySem.F.type_list_append mt_append (pe_ix ix_list (pv 0) (pe_un un_neg pe_int) (fun _ _ => rfl)) (pa_cons (pv 2) pa_nil)))
    (pss_one (ps_expr (pe_bm PySem.F.plainAttrs_list PySem.F.slot_list_append PySem.F.type_list_append mt_append (pv 0) (pa_cons (pv 2) pa_nil)))))), ?_⟩
  have ll : (xs ++ [V.ref a]).length = xs.length + 1 := by simp
  refine ⟨_, rfl, _, _, rfl, .inl ⟨_, SqL.of hR, rfl⟩, _, rfl, _, _, rfl, rfl, _, rfl, ?_⟩
  rw [ll]
  by_cases hc : m < xs.length + 1
  · rw [decide_eq_true (by omega)]
    have hm10 : ((m : Nat) : Int).natAbs < 10 ^ 10 := Nat.lt_of_le_of_lt (show m ≤ big from lm) (by decide)
    have li := int_len hm10
    have l0 : (Str.empty ++ ("a list within " : Str)).length = 14 := by decide +kernel
    have l1 : (Str.empty ++ ("a list within " : Str) ++ Str.ofString (toString ((m : Nat) : Int))).length ≤ 25 := by
      rw [app_len, l0]; omega
    have l2 : (" lists" : Str).length = 6 := by decide +kernel
    refine ⟨_, rfl, by decide +kernel, _, rfl, .inr ⟨m, rfl, int_log hm10, _, rfl, Nat.le_trans l1 (by decide), _, rfl, ?_, rfl, qE hc⟩⟩
    rw [app_len, l2]
    exact Nat.le_trans (Nat.add_le_add_right l1 6) (by decide)
  · rw [decide_eq_false (by omega)]
    have gQ := qQ hc
    refine ⟨by decide, fun n hn => ?_⟩
    have gn := gQ n hn
    have nRn : R ≠ n := ne_of_none hR hn
    have nan : a ≠ n := ne_of_none ha hn
    have hR1 : upd H n (.lst []) R = some (.lst (xs ++ [V.ref a])) := by rw [upd_ne nRn]; exact hR
    have ha1 : upd H n (.lst []) a = some (.lst vs') := by rw [upd_ne nan]; exact ha
    refine ⟨_, rfl, _, rfl, R, _, _, _, rfl, rfl, SqL.of hR1, atI_last _ _, .inl ⟨rfl, _, SqL.of ha1⟩, _, rfl, a, _, _, rfl, rfl, ha1, Nat.lt_of_le_of_lt lv (by decide), ?_⟩
    have hR2 : upd (upd H n (.lst [])) a (.lst (vs' ++ [V.ref n])) R = some (.lst (xs ++ [V.ref a])) := by rw [upd_ne nRa]; exact hR1
    exact ⟨_, rfl, .inl ⟨rfl, _, SqL.of hR2⟩, _, rfl, R, _, _, rfl, rfl, hR2, by rw [ll]; exact Nat.lt_of_le_of_lt (Nat.add_le_add_right lx 1) (by decide), gn⟩
end
end My
namespace My
open PySem PySem.Spec PyProof.Rows L2 TL
/-- the classes of the errors of a text -/
structure Errs where
  w : Addr
  c : Addr
  e : Addr
  d : Addr
def atX (C : Addr) (i : Nat) (H : Hp) (E : XK) : Prop := ∀ H' d, Sm No H H' → H d = none → H' d = some (.xd [("at", .int (i : Nat))]) → E (.ref C) (some d) H'
/-- what comes out of a text -/
def outP (X : Errs) (H : Hp) (Q : VK) (E : XK) : Out → Prop
  | .ok ds => ∀ (D : Addr) (vs : List V) (C : Addr → Prop) (H' : Hp), Sm No H H' → H D = none → (∀ a, C a → H a = none) → ¬ C D → H' D = some (.lst vs) → RepL C H' vs ds → Q (.ref D) H'
  | .word i => atX X.w i H E
  | .close i => atX X.c i H E
  | .ends i => atX X.e i H E
  | .deep => ∀ H', Sm No H H' → E (.ref X.d) none H'
def spParse (X : Errs) (Ps : List Addr) : Sp := fun vs H Q E => ∃ z : Str, vs = [.str z] ∧ z.length ≤ big ∧ (∀ p ∈ Ps, GxR.TabG H p) ∧ outP X H Q E (run (z.length + 1) (tl z) 0 [[]])
def spData (X : Errs) (Ps : List Addr) : Sp := fun vs H Q E => ∃ (z : Str) (m : Nat), vs = [.str z, .int (m : Nat)] ∧ z.length ≤ big ∧ m ≤ big ∧ (∀ p ∈ Ps, GxR.TabG H p) ∧ outP X H Q E (runD m (z.length + 1) (tl z) 0 [[]])
abbrev sParse : Stmt := top 21
abbrev sData : Stmt := top 20
def spEndL (C : Addr) : Sp := fun vs H Q E => ∃ (R : Addr) (xs : List V) (y : V) (i : Nat), vs = [.ref R, .int (i : Nat)] ∧ H R = some (.lst (xs ++ [y])) ∧ xs.length ≤ big ∧ i ≤ big ∧ (xs = [] → atX C i H E) ∧ (xs ≠ [] → Q .non (upd H R (.lst xs)))
theorem big10 {i : Nat} (h : i ≤ big) : ((i : Nat) : Int).natAbs < 10 ^ 10 := by
  have e : ((i : Nat) : Int).natAbs = i := rfl
  rw [e]
  exact Nat.lt_of_le_of_lt h (by decide)
section
variable {P : Program} {w : World} {K : PySem.W.Frag} {mg : Str → Option Value} {base : Heap}
theorem scEndL : FnScope ["rows", "at"] ["rows", "at"] (defScope sEndL) := ⟨rfl, rfl, rfl, by decide +kernel, rfl, by decide +kernel, by decide +kernel⟩
theorem ok_endl {f C fI : Addr} {fd fdI : FuncData} (F : Fun K "end_list" "end_list" sEndL f fd) (B : Blt mg) (X : ErrC P w K mg base "UnexpectedClose" C fI fdI) : FnOk P w K mg base (L2.CX P w) 3 f fd ["rows", "at"] (spEndL C) := by
  refine F.okX scEndL (fun vs H Q E h => ?_) (fun cdv A outer s H vs Q E hr h => ?_)
  · obtain ⟨R, xs, y, i, rfl, _⟩ := h
    rfl
  obtain ⟨R, xs, y, i, rfl, hR, lx, li, qE, qQ⟩ := h
  refine ⟨_, pss_cons (ps_if (pt_cmpR op_eq (pe_callB call_len (by rfl) B.len PySem.boot_len (pa_cons (pv 0) pa_nil)) pe_int (nomark _))
      (pss_one (ps_raise rfl (takes_of rfl rfl rfl rfl) (pmk_oex X.o X.iC X.tI X.f hr X.b .nil pass0 rfl X.g (pa_cons (pv 1) pa_nil)))) pss_nil)
    (pss_one (ps_expr (pe_bm0 PySem.F.plainAttrs_list PySem.F.slot_list_pop PySem.F.type_list_pop mt_pop (pv 0)))), ?_⟩
  have ll : (xs ++ [y]).length = xs.length + 1 := by simp
  refine ⟨_, rfl, _, _, rfl, .inl ⟨_, SqL.of hR, rfl⟩, rfl, _, rfl, ?_⟩
  rw [ll]
  cases xs with
  | nil =>
    show tMkO C (spIni K C) [] (tCons (tVar 1) tNil) [some (.ref R), some (.int i)] H (fun cls d H' => E cls d H')
    exact mkO_at (big10 li) (fun Q' q' => ⟨_, rfl, q'⟩) (Sm.refl _ H) fun H' d sm hd e => qE rfl H' d sm hd e
  | cons x r =>
    have ne : decide (V.int (((x :: r).length + 1 : Nat) : Int) = V.int 1) = false := decide_eq_false fun z => by
      have z' := V.int.inj z
      simp at z'
      omega
    rw [ne]
    refine ⟨_, rfl, .inl ⟨rfl, _, SqL.of hR⟩, R, _, y, rfl, rfl, hR, by simp, ?_⟩
    have g := qQ (by simp)
    have dl : ((x :: r) ++ [y]).dropLast = x :: r := List.dropLast_concat
    rw [dl]
    exact g
theorem scData : FnScope ["text", "deepest", "data", "rows", "at", "sign", "end"] ["text", "deepest"] (defScope sData) := ⟨rfl, rfl, rfl, by decide +kernel, rfl, by decide +kernel, by decide +kernel⟩
theorem scParse : FnScope ["text"] ["text"] (defScope sParse) := ⟨rfl, rfl, rfl, by decide +kernel, rfl, by decide +kernel, by decide +kernel⟩
end
end My
namespace My
open PySem PySem.Spec PyProof.Rows L2 TL
/-- the state of the reading at the place i; H: the heap ahead of it -/
structure PC (dm : Nat) (z : Str) (out : Out) (H : Hp) (R D : Addr) (i : Nat) (H' : Hp) (n : Nat) (st : List (List Dat)) (as : List Addr) (C : Addr → Prop) : Prop where
  le : i ≤ (tl z).length
  fuel : (tl z).length < n + i
  run : runD dm n ((tl z).drop i) i st = out
  last : ∃ bs, as = bs ++ [D]
  opn : Opn C H' none as st
  rows : H' R = some (.lst (as.reverse.map V.ref))
  nC : ¬ C R
  nR : R ∉ as
  sm : Sm No H H'
  new : ∀ a, C a ∨ a ∈ as ∨ a = R → H a = none
  small : ∀ a ∈ as, ∀ vs, H' a = some (.lst vs) → vs.length ≤ i
  deep : as.length ≤ dm + 1 ∧ dm ≤ big
  cn : ∀ a, C a → H' a ≠ none
section
variable {dm : Nat} {z : Str} {out : Out} {H H' : Hp} {R D : Addr} {i n : Nat} {st : List (List Dat)} {as : List Addr} {C : Addr → Prop}
theorem drop_at {l : List Nat} {i c : Nat} (h : l[i]? = some c) : l.drop i = c :: l.drop (i + 1) ∧ i < l.length := by
  obtain ⟨h1, h2⟩ := List.getElem?_eq_some_iff.mp h
  rw [← h2]
  exact ⟨List.drop_eq_getElem_cons h1, h1⟩
theorem dropW (p : Nat → Bool) : ∀ l : List Nat, l.dropWhile p = l.drop (l.takeWhile p).length
  | [] => rfl
  | c :: r => by
    rw [List.dropWhile_cons, List.takeWhile_cons]
    cases h : p c with
    | true => exact dropW p r
    | false => rfl
theorem takeW_le (p : Nat → Bool) : ∀ l : List Nat, (l.takeWhile p).length ≤ l.length
  | [] => Nat.le_refl _
  | c :: r => by
    rw [List.takeWhile_cons]
    cases h : p c with
    | true => exact Nat.succ_le_succ (takeW_le p r)
    | false => exact Nat.zero_le _
/-- no object is touched, the place moves on -/
theorem PC.move {m j : Nat} (h : PC dm z out H R D i H' n st as C) (hij : i ≤ j) (hj : j ≤ (tl z).length) (hf : (tl z).length < m + j) (hr : My.runD dm m ((tl z).drop j) j st = out) : PC dm z out H R D j H' m st as C :=
  ⟨hj, hf, hr, h.last, h.opn, h.rows, h.nC, h.nR, h.sm, h.new, fun a ha vs hv => Nat.le_trans (h.small a ha vs hv) hij, h.deep, h.cn⟩
theorem PC.fuel1 {c : Nat} (h : PC dm z out H R D i H' n st as C) (hc : (tl z)[i]? = some c) : ∃ m, n = m + 1 ∧ (tl z).length < m + (i + 1) ∧ i + 1 ≤ (tl z).length := by
  have l := (drop_at hc).2
  have f := h.fuel
  cases n with
  | zero => omega
  | succ m => exact ⟨m, rfl, by omega, by omega⟩
theorem PC.remark (h : PC dm z out H R D i H' n st as C) (hc : (tl z)[i]? = some 59) :
    i < i + (((tl z).drop i).takeWhile noLine).length ∧ ∃ m, PC dm z out H R D (i + (((tl z).drop i).takeWhile noLine).length) H' m st as C := by
  obtain ⟨m, e, f, l⟩ := h.fuel1 hc
  subst e
  have r := h.run
  obtain ⟨d1, d2⟩ := drop_at hc
  have pos : 0 < (((tl z).drop i).takeWhile noLine).length := by
    rw [d1, List.takeWhile_cons, show noLine 59 = true from rfl]
    exact Nat.succ_pos _
  have tk := takeW_le noLine ((tl z).drop i)
  rw [List.length_drop] at tk
  have r2 : My.runD dm m (((tl z).drop i).dropWhile noLine) (i + (((tl z).drop i).takeWhile noLine).length) st = out := by
    rw [d1] at r ⊢
    exact r
  rw [dropW, List.drop_drop] at r2
  exact ⟨by omega, m, h.move (by omega) (by omega) (by omega) r2⟩
theorem PC.blank {c : Nat} (h : PC dm z out H R D i H' n st as C) (hc : (tl z)[i]? = some c) (hb : c = 32 ∨ c = 10) : ∃ m, PC dm z out H R D (i + 1) H' m st as C := by
  obtain ⟨m, e, f, l⟩ := h.fuel1 hc
  subst e
  have r := h.run
  obtain ⟨d1, d2⟩ := drop_at hc
  rw [d1] at r
  have r2 : My.runD dm m ((tl z).drop (i + 1)) (i + 1) st = out := by
    rcases hb with hb | hb
    · subst hb; exact r
    · subst hb; exact r
  exact ⟨m, h.move (by omega) l f r2⟩
/-- the rows' list, from its end -/
theorem PC.split (h : PC dm z out H R D i H' n st as C) : ∃ (a : Addr) (bs : List Addr) (t : List Dat) (rest : List (List Dat)), as = a :: bs ∧ st = t :: rest ∧ H' R = some (.lst (bs.reverse.map V.ref ++ [.ref a])) ∧ a ∈ as ∧ R ≠ a ∧ (bs.reverse.map V.ref).length = bs.length := by
  obtain ⟨bs, e⟩ := h.last
  have l := h.opn.len
  cases as with
  | nil => cases bs <;> cases e
  | cons a r =>
    cases st with
    | nil => cases l
    | cons t rest =>
      refine ⟨a, r, t, rest, rfl, rfl, ?_, List.mem_cons_self, fun e => h.nR (by rw [e]; exact List.mem_cons_self), by simp⟩
      rw [h.rows, List.reverse_cons, List.map_append]
      rfl
theorem PC.sm' {H2 : Hp} (h : PC dm z out H R D i H' n st as C) (s : Sm No H' H2) : PC dm z out H R D i H2 n st as C := by
  refine ⟨h.le, h.fuel, h.run, h.last, h.opn.keepH fun b xs e _ => s.lst0 e, s.lst0 h.rows, h.nC, h.nR, h.sm.trans s, h.new, fun a ha vs hv => ?_, h.deep, fun a ha e => h.cn a ha (s.dom a e)⟩
  obtain ⟨us, hu⟩ := h.opn.there a ha
  have := s.lst0 hu
  rw [hv] at this
  cases this
  exact h.small a ha vs hu
theorem PC.beg (h : PC dm z out H R D i H' n st as C) (hc : (tl z)[i]? = some 40) (hz : z.length ≤ big) : ∃ (a : Addr) (xs vs : List V), H' R = some (.lst (xs ++ [.ref a])) ∧ H' a = some (.lst vs) ∧ R ≠ a ∧ xs.length ≤ big ∧ vs.length ≤ big ∧
    (dm < xs.length + 1 → out = .deep) ∧ (¬ dm < xs.length + 1 → ∀ q, H' q = none → ∃ m st' as' C', PC dm z out H R D (i + 1) (upd (upd (upd H' q (.lst [])) a (.lst (vs ++ [.ref q]))) R (.lst (xs ++ [.ref a] ++ [.ref q]))) m st' as' C') := by
  obtain ⟨m, e, f, l⟩ := h.fuel1 hc
  subst e
  have r := h.run
  obtain ⟨d1, d2⟩ := drop_at hc
  rw [d1] at r
  obtain ⟨a, bs, t, rest, ea, es, hR, ma, nRa, lb⟩ := h.split
  subst ea es
  obtain ⟨vs0, hv0⟩ := h.opn.there a ma
  have sm0 := h.small a ma vs0 hv0
  have lz := len_tl z
  have ol := h.opn.len
  have ls : (t :: rest).length = bs.length + 1 := by rw [← ol]; rfl
  refine ⟨a, _, vs0, hR, hv0, nRa, by rw [lb]; have d1 := h.deep.1; have d2 := h.deep.2; simp at d1; omega, by have := h.le; omega, fun g => ?_, fun g q hq => ?_⟩
  · rw [lb] at g
    have r2 : (if dm < (t :: rest).length then Out.deep else My.runD dm m ((tl z).drop (i + 1)) (i + 1) ([] :: t :: rest)) = out := r
    rw [if_pos (by rw [ls]; omega)] at r2
    exact r2.symm
  · rw [lb] at g
    have r2 : (if dm < (t :: rest).length then Out.deep else My.runD dm m ((tl z).drop (i + 1)) (i + 1) ([] :: t :: rest)) = out := r
    rw [if_neg (by rw [ls]; omega)] at r2
    have q0 : H q = none := h.sm.dom q hq
    have ne : ∀ {b : Addr} {o : HO}, H' b = some o → b ≠ q := fun {b o} e => ne_of_none e hq
    obtain ⟨vs, hv, big⟩ := h.opn.beg hq (fun z => h.cn q z hq)
    rw [hv0] at hv
    cases hv
    have nqR : R ≠ q := ne h.rows
    have naq : a ≠ q := ne hv0
    have at_ : ∀ {b : Addr} {o : HO}, H' b = some o → b ≠ a → b ≠ R → (upd (upd (upd H' q (.lst [])) a (.lst (vs0 ++ [.ref q]))) R (.lst (bs.reverse.map V.ref ++ [.ref a] ++ [.ref q]))) b = some o := fun {b o} e n1 n2 => by
      rw [upd_ne n2, upd_ne n1, upd_ne (ne e)]
      exact e
    have rn : ∀ b ∈ a :: bs, b ≠ R := fun b hb z => h.nR (z ▸ hb)
    have s1 : Sm No H (upd H' q (.lst [])) := h.sm.mut q0 fun ps z => by rw [hq] at z; cases z
    have s2 : Sm No H (upd (upd H' q (.lst [])) a (.lst (vs0 ++ [.ref q]))) := s1.mut (h.new a (.inr (.inl ma))) (ntbl_l (by rw [upd_ne naq]; exact hv0))
    have s3 := s2.mut (o := .lst (bs.reverse.map V.ref ++ [.ref a] ++ [.ref q])) (h.new R (.inr (.inr rfl))) (ntbl_l (by rw [upd_ne nRa, upd_ne nqR]; exact h.rows))
    have s0 := h.small a ma vs0 hv0
    obtain ⟨cs, el⟩ := h.last
    refine ⟨m, [] :: t :: rest, q :: a :: bs, C, ⟨l, f, r2, ⟨q :: cs, by rw [el]; rfl⟩, big _ ?_ ?_ ?_, ?_, h.nC, ?_, s3, ?_, ?_, ?_, ?_⟩⟩
    · rw [upd_ne nqR.symm, upd_ne naq.symm, upd_same]
    · rw [upd_ne nRa.symm, upd_same]
    · intro b hb hm xs e
      exact at_ e hb fun z => hm.elim (fun g => h.nC (z ▸ g)) fun g => h.nR (z ▸ List.mem_cons_of_mem _ g)
    · rw [upd_same, List.reverse_cons, List.reverse_cons, List.map_append, List.map_append]
      rfl
    · intro z
      rcases List.mem_cons.mp z with z | z
      · exact nqR z
      · exact h.nR z
    · intro b hb
      rcases hb with hb | hb | hb
      · exact h.new b (.inl hb)
      · rcases List.mem_cons.mp hb with e | e
        · rw [e]; exact q0
        · exact h.new b (.inr (.inl e))
      · exact h.new b (.inr (.inr hb))
    · intro b hb vs hv
      rcases List.mem_cons.mp hb with e | e
      · rw [e, upd_ne nqR.symm, upd_ne naq.symm, upd_same] at hv
        cases hv
        exact Nat.zero_le _
      · by_cases hba : b = a
        · rw [hba, upd_ne nRa.symm, upd_same] at hv
          cases hv
          simp
          exact s0
        · obtain ⟨us, hu⟩ := h.opn.there b e
          have hv2 := (at_ hu hba (rn b e)).symm.trans hv
          have ev : us = vs := by injection hv2 with z; injection z
          rw [← ev]
          exact Nat.le_succ_of_le (h.small b e us hu)
    · refine ⟨?_, h.deep.2⟩
      show (a :: bs).length + 1 ≤ dm + 1
      simp
      omega
    · intro b hb e
      exact h.cn b hb (upd_dom b (upd_dom b (upd_dom b e)))
end
end My
namespace My
open PySem PySem.Spec PyProof.Rows L2 TL
section
variable {dm : Nat} {z : Str} {out : Out} {H H' : Hp} {R D : Addr} {i n : Nat} {st : List (List Dat)} {as : List Addr} {C : Addr → Prop}
theorem PC.cls (h : PC dm z out H R D i H' n st as C) (hc : (tl z)[i]? = some 41) : ∃ (xs : List V) (y : V), H' R = some (.lst (xs ++ [y])) ∧ xs.length ≤ big ∧ (xs = [] → out = .close i) ∧
    (xs ≠ [] → ∃ m st' as' C', PC dm z out H R D (i + 1) (upd H' R (.lst xs)) m st' as' C') := by
  obtain ⟨m, e, f, l⟩ := h.fuel1 hc
  subst e
  have r := h.run
  obtain ⟨d1, d2⟩ := drop_at hc
  rw [d1] at r
  obtain ⟨a, bs, t, rest, ea, es, hR, ma, nRa, lb⟩ := h.split
  subst ea es
  have ol := h.opn.len
  have dp := h.deep
  refine ⟨_, _, hR, by rw [lb]; have d1 := dp.1; have d2 := dp.2; simp at d1; omega, fun g => ?_, fun g => ?_⟩
  · have b0 : bs = [] := by
      have := congrArg List.length g
      rw [lb] at this
      exact List.length_eq_zero_iff.mp this
    subst b0
    cases rest with
    | nil => exact r.symm
    | cons p q => cases ol
  · cases bs with
    | nil => exact absurd rfl g
    | cons b bs =>
      cases rest with
      | nil => cases ol
      | cons p rest =>
        have r2 : My.runD dm m ((tl z).drop (i + 1)) (i + 1) ((p ++ [.lst t]) :: rest) = out := r
        obtain ⟨cs, el⟩ := h.last
        have keepL : ∀ c xs, H' c = some (.lst xs) → ((C c ∨ c = a) ∨ c ∈ b :: bs) → (upd H' R (.lst ((b :: bs).reverse.map V.ref))) c = some (.lst xs) := fun c xs e hm => by
          rw [upd_ne (fun z => ?_)]
          · exact e
          · subst z
            rcases hm with (hm | hm) | hm
            · exact h.nC hm
            · exact nRa hm
            · exact h.nR (List.mem_cons_of_mem _ hm)
        refine ⟨m, (p ++ [.lst t]) :: rest, b :: bs, fun x => C x ∨ x = a, ⟨l, f, r2, ?_, h.opn.cls.keepH keepL, upd_same, ?_, fun z => h.nR (List.mem_cons_of_mem _ z), ?_, ?_, ?_, ?_, ?_⟩⟩
        · cases cs with
          | nil =>
            have e2 := (List.cons.inj el).2
            cases e2
          | cons c cs => exact ⟨cs, (List.cons.inj el).2⟩
        · intro z
          rcases z with z | z
          · exact h.nC z
          · exact nRa z
        · exact h.sm.mut (h.new R (.inr (.inr rfl))) (ntbl_l h.rows)
        · intro x hx
          rcases hx with (hx | hx) | hx | hx
          · exact h.new x (.inl hx)
          · exact h.new x (.inr (.inl (by rw [hx]; exact ma)))
          · exact h.new x (.inr (.inl (List.mem_cons_of_mem _ hx)))
          · exact h.new x (.inr (.inr hx))
        · intro x hx vs hv
          rw [upd_ne (fun z => h.nR (by rw [← z]; exact List.mem_cons_of_mem _ hx))] at hv
          exact Nat.le_succ_of_le (h.small x (List.mem_cons_of_mem _ hx) vs hv)
        · refine ⟨?_, dp.2⟩
          have d1 := dp.1
          simp at d1 ⊢
          omega
        · intro x hx e
          have e' := upd_dom x e
          rcases hx with hx | hx
          · exact h.cn x hx e'
          · obtain ⟨vs, hv⟩ := h.opn.there a ma
            rw [hx, hv] at e'
            cases e'
theorem wordV_rep {l : List Nat} {v : V} (h : wordV l = some v) (C : Addr → Prop) (H : Hp) : Rep C H v (datOf v) := by
  unfold wordV at h
  split at h
  · cases h; exact .int _
  · split at h
    · cases h; exact .sym _
    · cases h
theorem PC.word {c : Nat} (h : PC dm z out H R D i H' n st as C) (hc : (tl z)[i]? = some c) (hz : z.length ≤ big) (n1 : c ≠ 59) (n2 : c ≠ 40) (n3 : c ≠ 41) (n4 : c ≠ 32) (n5 : c ≠ 10) :
    ∃ (a : Addr) (xs vs : List V), H' R = some (.lst (xs ++ [.ref a])) ∧ H' a = some (.lst vs) ∧ vs.length ≤ big ∧ i < i + (((tl z).drop i).takeWhile noEnd).length ∧ i + (((tl z).drop i).takeWhile noEnd).length ≤ z.length ∧
    (wordV (((tl z).drop i).takeWhile noEnd) = none → out = .word i) ∧
    (∀ v, wordV (((tl z).drop i).takeWhile noEnd) = some v → ∀ H2, Sm No H' H2 → ∃ m st' as' C', PC dm z out H R D (i + (((tl z).drop i).takeWhile noEnd).length) (upd H2 a (.lst (vs ++ [v]))) m st' as' C') := by
  obtain ⟨m, e, f, l⟩ := h.fuel1 hc
  subst e
  have r := h.run
  obtain ⟨d1, d2⟩ := drop_at hc
  obtain ⟨a, bs, t, rest, ea, es, hR, ma, nRa, lb⟩ := h.split
  subst ea es
  obtain ⟨vs0, hv0⟩ := h.opn.there a ma
  have sm0 := h.small a ma vs0 hv0
  have lz := len_tl z
  have pos : 0 < (((tl z).drop i).takeWhile noEnd).length := by
    have ne : noEnd c = true := by
      unfold noEnd
      cases he : isEnd c with
      | false => rfl
      | true =>
        have := (isEnd_iff c).mp he
        omega
    rw [d1, List.takeWhile_cons, ne]
    exact Nat.succ_pos _
  have tk := takeW_le noEnd ((tl z).drop i)
  rw [List.length_drop] at tk
  have r2 : (match wordV (((tl z).drop i).takeWhile noEnd), t :: rest with
      | some v, t :: rest => My.runD dm m (((tl z).drop i).dropWhile noEnd) (i + (((tl z).drop i).takeWhile noEnd).length) ((t ++ [datOf v]) :: rest)
      | _, _ => Out.word i) = out := by
    rw [d1] at r ⊢
    have r' : (if c = 59 then _ else if c = 40 then _ else if c = 41 then _ else if c = 32 ∨ c = 10 then _ else _) = out := r
    rw [if_neg n1, if_neg n2, if_neg n3, if_neg (by omega)] at r'
    exact r'
  generalize hw : (((tl z).drop i).takeWhile noEnd) = wd at *
  refine ⟨a, _, vs0, hR, hv0, by have := h.le; omega, by omega, by omega, fun g => ?_, fun v g H2 s => ?_⟩
  · rw [g] at r2
    exact r2.symm
  · rw [g] at r2
    have r3 : My.runD dm m (((tl z).drop i).dropWhile noEnd) (i + wd.length) ((t ++ [datOf v]) :: rest) = out := r2
    rw [dropW, hw, List.drop_drop] at r3
    have h2 := h.sm' s
    obtain ⟨vs, hv, ap⟩ := h2.opn.app (wordV_rep g C H2)
    have hv1 := s.lst0 hv0
    rw [hv1] at hv
    cases hv
    refine ⟨m, (t ++ [datOf v]) :: rest, a :: bs, C, ⟨by omega, by omega, r3, h.last, ap _ upd_same ?_, ?_, h.nC, h.nR, ?_, h.new, ?_, h.deep, ?_⟩⟩
    · intro b hb _ xs e
      rw [upd_ne hb]; exact e
    · rw [upd_ne nRa]; exact h2.rows
    · exact h2.sm.mut (h.new a (.inr (.inl ma))) (ntbl_l hv1)
    · intro b hb vs hv
      by_cases hba : b = a
      · rw [hba, upd_same] at hv
        cases hv
        simp
        omega
      · rw [upd_ne hba] at hv
        exact Nat.le_trans (h2.small b hb vs hv) (by omega)
    · intro b hb e
      exact h2.cn b hb (upd_dom b e)
end
end My
namespace My
open PySem PySem.Spec PyProof.Rows L2 TL
/-- one callee: its promise, where it stands, how it binds -/
structure Cal (P : Program) (w : World) (K : PySem.W.Frag) (mg : Str → Option Value) (base : Heap) (CX : CXT) (k : Nat) (x : Str) (ps : List Str) (sp : Sp) (f : Addr) (fd : FuncData) : Prop where
  ok : FnOk P w K mg base CX k f fd ps sp
  k : PySem.W.keepIn K (.ref f) = true
  g : mg x = some (.ref f)
  b : Binds K fd ps []
section
variable {P : Program} {w : World} {K : PySem.W.Frag} {mg : Str → Option Value} {base : Heap}
theorem ok_data {f fRE fB fE fW fR CE fI P1 P2 : Addr} {fd dRE dB dE dW dR fdI : FuncData} {X : Errs} (F : Fun K "read_data" "read_data" sData f fd) (B : Blt mg)
    (GRE : Cal P w K mg base CX0 1 "remark_end" ["text", "at"] (spScan noLine) fRE dRE) (GW : Cal P w K mg base CX0 1 "word_end" ["text", "at"] (spScan noEnd) fW dW)
    (GB : Cal P w K mg base (L2.CX P w) 2 "begin_list" ["rows", "deepest"] (spBeg X.d) fB dB) (GE : Cal P w K mg base (L2.CX P w) 3 "end_list" ["rows", "at"] (spEndL X.c) fE dE)
    (GR : Cal P w K mg base (L2.CX P w) 3 "read_word" ["word", "at"] (spRead X.w [P1, P2]) fR dR) (XE : ErrC P w K mg base "UnexpectedEnd" X.e fI fdI) :
    FnOk P w K mg base (L2.CX P w) 4 f fd ["text", "deepest"] (spData X [P1, P2]) := by
  refine F.okX scData (fun vs H Q E h => ?_) (fun cdv A outer s H vs Q E hr h => ?_)
  · obtain ⟨z, dm, rfl, _⟩ := h
    rfl
  obtain ⟨z, dm, rfl, hz, hdm, ht, hq⟩ := h
  have lz := len_tl z
  have hr1 : Room 1 _ := hr.mono (show 1 ≤ 3 by decide)
  have hr2 : Room 2 _ := hr.mono (show 2 ≤ 3 by decide)
  have nd := scData.nd
  refine ⟨_, pss_cons (ps_set (i := 2) nd rfl (Or.inl rfl) (pe_lst pa_nil))
    (pss_cons (ps_set (i := 3) nd rfl (Or.inl rfl) (pe_lst (pa_cons (pv 2) pa_nil)))
    (pss_cons (ps_set (i := 4) nd rfl (Or.inl rfl) pe_int)
    (C8.pss_cut (ps_while (passes_of rfl) (pt_cmpR op_lt (pv 4) (pe_callB call_len (by rfl) B.len PySem.boot_len (pa_cons (pv 0) pa_nil)) (nomark _))
      (pss_cons (ps_set (i := 5) nd rfl (Or.inl rfl) (pe_ix ix_str (pv 0) (pv 4) (fun _ _ => rfl)))
      (pss_cons (ps_set (i := 6) nd rfl (Or.inl rfl) (pe_op op_add (pv 4) pe_int))
      (C8.pss_cut (ps_if (pt_cmpR op_eq (pv 5) pe_str (nomark _)) (pss_one (ps_set (i := 6) nd rfl (Or.inl rfl) (pe_call GRE.ok hr1 rfl GRE.g GRE.k GRE.b .nil pass0 (pa_cons (pv 0) (pa_cons (pv 4) pa_nil)))))
        (pss_one (ps_if (pt_cmpR op_eq (pv 5) pe_str (nomark _)) (pss_one (ps_expr (pe_call GB.ok hr2 rfl GB.g GB.k GB.b .nil (passes_call (takes_of rfl rfl rfl rfl) fun _ _ _ _ h => h) (pa_cons (pv 3) (pa_cons (pv 1) pa_nil)))))
        (pss_one (ps_if (pt_cmpR op_eq (pv 5) pe_str (nomark _)) (pss_one (ps_expr (pe_call GE.ok hr rfl GE.g GE.k GE.b .nil (passes_call (takes_of rfl rfl rfl rfl) fun _ _ _ _ h => h) (pa_cons (pv 3) (pa_cons (pv 4) pa_nil)))))
        (pss_one (ps_if (pt_cmpR op_notIn_sign (pv 5) pe_str (by rfl))
          (pss_cons (ps_set (i := 6) nd rfl (Or.inl rfl) (pe_call GW.ok hr1 rfl GW.g GW.k GW.b .nil pass0 (pa_cons (pv 0) (pa_cons (pv 4) pa_nil))))
          (pss_one (ps_expr (pe_bm PySem.F.plainAttrs_list PySem.F.slot_list_append PySem.F.type_list_append mt_append (pe_ix ix_list (pv 3) (pe_un un_neg pe_int) (fun _ _ => rfl))
            (pa_cons (pe_call GR.ok hr rfl GR.g GR.k GR.b .nil (passes_call (takes_of rfl rfl rfl rfl) fun _ _ _ _ h => h) (pa_cons (pe_slice sl_str (pv 0) (po_some (pv 4)) (po_some (pv 6))) (pa_cons (pv 4) pa_nil))) pa_nil)))))
          pss_nil)))))))
      (pss_one (ps_set (i := 4) nd rfl (Or.inl rfl) (pv 6)))))))
    (pss_cons (ps_if (pt_cmpR op_gt (pe_callB call_len (by rfl) B.len PySem.boot_len (pa_cons (pv 3) pa_nil)) pe_int (nomark _))
      (pss_one (ps_raise rfl (takes_of rfl rfl rfl rfl) (pmk_oex XE.o XE.iC XE.tI XE.f hr2 XE.b .nil pass0 rfl XE.g (pa_cons (pe_callB call_len (by rfl) B.len PySem.boot_len (pa_cons (pv 0) pa_nil)) pa_nil)))) pss_nil)
    (pss_one (ps_ret (pv 2))))))), ?_⟩
  generalize hO : My.runD dm (z.length + 1) (tl z) 0 [[]] = out at hq
  refine ⟨by decide, fun D hD => ?_⟩
  have hD1 : upd H D (.lst []) D = some (.lst []) := upd_same
  refine ⟨_, rfl, by show 1 ≤ sizeLine; decide, fun R hR => ?_⟩
  have nRD : R ≠ D := fun e => by rw [e, hD1] at hR; cases hR
  have hR0 : H R = none := upd_dom R hR
  have start0 : PC dm z out H R D 0 (upd (upd H D (.lst [])) R (.lst [.ref D])) (z.length + 1) [[]] [D] (fun _ => False) := by
    refine ⟨Nat.zero_le _, by omega, hO, ⟨[], rfl⟩, ⟨⟨[], ?_, .nil⟩, fun z => z, by simp, trivial⟩, upd_same, fun z => z, by simpa using nRD, ?_, ?_, ?_, ⟨Nat.le_add_left 1 dm, hdm⟩, fun _ z => z.elim⟩
    · rw [upd_ne nRD.symm]; exact hD1
    · exact (Sm.new hD).mut hR0 fun ps e => by rw [hR] at e; cases e
    · intro a ha
      rcases ha with ha | ha | ha
      · exact ha.elim
      · rw [List.mem_singleton.mp ha]; exact hD
      · rw [ha]; exact hR0
    · intro a ha vs hv
      rw [List.mem_singleton.mp ha, upd_ne nRD.symm, hD1] at hv
      cases hv
      exact Nat.le_refl _
  have errAt : ∀ {C : Addr} {i : Nat} {H2 : Hp}, atX C i H E → Sm No H H2 → atX C i H2 E := fun q s H' d s' hd e => q H' d (s.trans s') (s.dom d hd) e
  refine ⟨fun σ H' => ∃ (v4 v5 : Option V) (n : Nat) (st : List (List Dat)) (as : List Addr) (C : Addr → Prop), σ = [some (.str z), some (.int (dm : Nat)), some (.ref D), some (.ref R), some (.int ((tl z).length : Nat)), v4, v5] ∧ PC dm z out H R D (tl z).length H' n st as C, ?_, ?_⟩
  · refine while_by (fun σ H' => ∃ (i : Nat) (v4 v5 : Option V) (n : Nat) (st : List (List Dat)) (as : List Addr) (C : Addr → Prop), σ = [some (.str z), some (.int (dm : Nat)), some (.ref D), some (.ref R), some (.int (i : Nat)), v4, v5] ∧ PC dm z out H R D i H' n st as C)
      (fun σ _ => match σ with | [_, _, _, _, some (.int k), _, _] => z.length - k.toNat | _ => 0) ⟨0, none, none, _, _, _, _, rfl, start0⟩ ?_ ?_
    · rintro σ H' ⟨i, v4, v5, n, st, as, C, rfl, pc⟩
      refine ⟨_, rfl, _, rfl, _, _, rfl, ⟨big_line hz, rfl⟩, _, _, rfl, rfl, _, rfl, ?_⟩
      refine ite2 (fun c => ?_) (fun c => ?_)
      · have lt : i < (tl z).length := by have := of_decide_eq_true c; omega
        have hc : (tl z)[i]? = some (tl z)[i] := List.getElem?_eq_getElem lt
        generalize (tl z)[i] = sg at hc
        have ea : atI z.cps.toList (i : Int) = some sg := atI_nat hc
        have htH : ∀ p ∈ [P1, P2], GxR.TabG H' p := fun p hp => pc.sm.tab p (ht p hp)
        refine ⟨_, rfl, _, rfl, z, _, _, rfl, rfl, big_line hz, ea, _, rfl, _, _, rfl, rfl, ?_⟩
        refine ⟨fun σ H2 => ∃ (j : Nat) (v4 : Option V) (n : Nat) (st : List (List Dat)) (as : List Addr) (C : Addr → Prop), σ = [some (.str z), some (.int (dm : Nat)), some (.ref D), some (.ref R), some (.int (i : Nat)), v4, some (.int (j : Nat))] ∧ i < j ∧ PC dm z out H R D j H2 n st as C, ?_, ?_⟩
        · have one : ∀ (b : Nat) (y : Str), tl y = [b] → decide (V.str ⟨#[sg]⟩ = V.str y) = decide (sg = b) := fun b y e => by
            rw [dec_str_tl, e]
            show decide ([sg] = [b]) = decide (sg = b)
            by_cases h : sg = b
            · rw [decide_eq_true h, decide_eq_true (by rw [h])]
            · rw [decide_eq_false h, decide_eq_false (fun e => h (List.cons.inj e).1)]
          have el : ∀ {k : Nat} {L : List Nat}, k = L.length → L.take k = L := fun {k L} e => by rw [e, List.take_length]
          have tw : ∀ (p : Nat → Bool) (l : List Nat), l.take (l.takeWhile p).length = l.takeWhile p := by
            intro p l
            induction l with
            | nil => rfl
            | cons c r ih =>
              rw [List.takeWhile_cons]
              cases p c with
              | true => exact congrArg (c :: ·) ih
              | false => rfl
          refine ⟨_, rfl, rfl, _, rfl, ?_⟩
          rw [one 59 ";" (by decide +kernel)]
          by_cases h59 : sg = 59
          · subst h59
            obtain ⟨lj, m, pj⟩ := pc.remark hc
            exact ⟨_, rfl, _, rfl, z, i, rfl, hz, by omega, ⟨_, _, m, st, as, C, rfl, lj, pj⟩⟩
          rw [decide_eq_false h59]
          refine ⟨_, rfl, rfl, _, rfl, ?_⟩
          rw [one 40 "(" (by decide +kernel)]
          by_cases h40 : sg = 40
          · subst h40
            obtain ⟨a, xs, vs, hR1, ha, nRa, lx, lv, gE, gQ⟩ := pc.beg hc hz
            refine ⟨_, rfl, _, rfl, R, a, xs, vs, dm, rfl, hR1, ha, nRa, lx, lv, hdm, fun g => ?_, fun g q hq' => ?_⟩
            · have e := gE g
              rw [e] at hq
              exact hq H' pc.sm
            · obtain ⟨m, st', as', C', pj⟩ := gQ g q hq'
              exact ⟨i + 1, _, m, st', as', C', rfl, Nat.lt_succ_self i, pj⟩
          rw [decide_eq_false h40]
          refine ⟨_, rfl, rfl, _, rfl, ?_⟩
          rw [one 41 ")" (by decide +kernel)]
          by_cases h41 : sg = 41
          · subst h41
            obtain ⟨xs, y, hR1, lx, gE, gQ⟩ := pc.cls hc
            refine ⟨_, rfl, _, rfl, R, xs, y, i, rfl, hR1, lx, by omega, fun g => ?_, fun g => ?_⟩
            · have e := gE g
              rw [e] at hq
              exact errAt hq pc.sm
            · obtain ⟨m, st', as', C', pj⟩ := gQ g
              exact ⟨i + 1, _, m, st', as', C', rfl, Nat.lt_succ_self i, pj⟩
          rw [decide_eq_false h41]
          have bl : (" \n" : Str).cps.toList = [32, 10] := by decide +kernel
          refine ⟨_, rfl, sg, _, rfl, rfl, _, rfl, ?_⟩
          rw [bl]
          by_cases hb : sg = 32 ∨ sg = 10
          · have e : decide (sg ∈ [32, 10]) = true := decide_eq_true (by simpa using hb)
            rw [e]
            obtain ⟨m, pj⟩ := pc.blank hc hb
            exact ⟨i + 1, _, m, st, as, C, rfl, Nat.lt_succ_self i, pj⟩
          · have e : decide (sg ∈ [32, 10]) = false := decide_eq_false (by simpa using hb)
            rw [e]
            obtain ⟨a, xs, vs, hR1, ha, lv, lj, le, gE, gQ⟩ := pc.word hc hz h59 h40 h41 (fun z => hb (.inl z)) (fun z => hb (.inr z))
            have ec : tl (cutS z (some (i : Int)) (some ((i + (((tl z).drop i).takeWhile noEnd).length : Nat) : Int))) = ((tl z).drop i).takeWhile noEnd := by
              rw [tl_cut2 z i _ (by omega) le, show i + (((tl z).drop i).takeWhile noEnd).length - i = (((tl z).drop i).takeWhile noEnd).length by omega]
              exact tw _ _
            refine ⟨_, rfl, _, rfl, z, i, rfl, hz, by omega, ?_⟩
            refine ⟨_, rfl, _, rfl, R, _, _, _, rfl, rfl, SqL.of hR1, atI_last _ _, .inl ⟨rfl, _, SqL.of ha⟩, ?_⟩
            refine ⟨_, rfl, _, rfl, _, rfl, _, rfl, _, rfl, z, rfl, big_line hz, _, rfl, ?_⟩
            refine ⟨_, _, rfl, Nat.le_trans (cutS_length z _ _) hz, big10 (by omega), htH, fun v hv H2 s2 => ?_, fun hv H2 d s2 hd e => ?_⟩
            · rw [ec] at hv
              obtain ⟨m, st', as', C', pj⟩ := gQ v hv H2 s2
              exact ⟨a, vs, v, rfl, rfl, s2.lst0 ha, Nat.lt_of_le_of_lt lv (by decide), ⟨_, _, m, st', as', C', rfl, lj, pj⟩⟩
            · rw [ec] at hv
              have e0 := gE hv
              rw [e0] at hq
              exact hq H2 d (pc.sm.trans s2) (pc.sm.dom d hd) e
        · rintro σ H2 ⟨j, w4, m, st', as', C', rfl, lj, pj⟩
          refine ⟨_, rfl, ⟨j, w4, _, m, st', as', C', rfl, pj⟩, ?_⟩
          show z.length - ((j : Nat) : Int).toNat < z.length - ((i : Nat) : Int).toNat
          have := pj.le
          omega
      · have e : i = (tl z).length := by
          have : ¬ i < z.length := fun h => c (decide_eq_true (by omega))
          have := pc.le
          omega
        subst e
        exact ⟨v4, v5, n, st, as, C, rfl, pc⟩
    · rintro σ H' Q1 Q2 hm ⟨v, e, v2, e2, x, n, e3, hl, i1, j1, e4, e5, b, e6, h7⟩
      exact ⟨v, e, v2, e2, x, n, e3, hl, i1, j1, e4, e5, b, e6, hm _ _ h7⟩
  · rintro σ H' ⟨v4, v5, n, st, as, C, rfl, pc⟩
    obtain ⟨a, bs, t, rest, ea, es, hR1, ma, nRa, lb⟩ := pc.split
    subst ea es
    have ol := pc.opn.len
    have r := pc.run
    have f := pc.fuel
    have dn : (tl z).drop (tl z).length = [] := List.drop_length
    refine ⟨_, rfl, _, _, rfl, .inl ⟨_, SqL.of hR1, rfl⟩, _, _, rfl, rfl, _, rfl, ?_⟩
    have ll : (bs.reverse.map V.ref ++ [V.ref a]).length = bs.length + 1 := by rw [List.length_append, lb]; rfl
    rw [ll]
    cases n with
    | zero => omega
    | succ m =>
      rw [dn] at r
      cases bs with
      | nil =>
        cases rest with
        | cons p q => cases ol
        | nil =>
          have r2 : Out.ok t = out := r
          rw [← r2] at hq
          obtain ⟨cs, el⟩ := pc.last
          have eD : a = D := by
            cases cs with
            | nil => exact (List.cons.inj el).1
            | cons c cs => cases cs <;> cases el
          obtain ⟨⟨vs, h1, h2⟩, h3, _⟩ := pc.opn
          rw [none_list] at h1
          rw [eD] at h1 h3
          exact ⟨_, rfl, hq D vs C H' pc.sm hD (fun x hx => pc.new x (.inl hx)) h3 h1 h2⟩
      | cons b bs =>
        cases rest with
        | nil => cases ol
        | cons p q =>
          have r2 : Out.ends (tl z).length = out := r
          rw [← r2] at hq
          rw [decide_eq_true (by simp; omega)]
          show tMkO X.e (spIni K X.e) [] (tCons (tCB (fun xs H Q => ∃ x n, xs = [x] ∧ LenV K x H n ∧ Q (V.int (n : Nat)) H) (tCons (tVar 0) tNil)) tNil) [some (V.str z), some (V.int (dm : Nat)), some (V.ref D), some (V.ref R), some (V.int ((tl z).length : Nat)), v4, v5] H' (fun cls d H' => E cls d H')
          refine mkO_at (i := ((tl z).length : Nat)) (big10 (by omega)) (fun Q' q' => ?_) (Sm.refl _ H') fun H2 d s2 hd e => hq H2 d (pc.sm.trans s2) (pc.sm.dom d hd) e
          refine ⟨_, rfl, _, _, rfl, ⟨big_line hz, rfl⟩, ?_⟩
          rw [lz]
          exact q'
theorem ok_parse {f fD P1 P2 : Addr} {fd dD : FuncData} {X : Errs} (F : Fun K "parse_all" "parse_all" sParse f fd) (T : Txs mg)
    (GD : Cal P w K mg base (L2.CX P w) 4 "read_data" ["text", "deepest"] (spData X [P1, P2]) fD dD) : FnOk P w K mg base (L2.CX P w) 5 f fd ["text"] (spParse X [P1, P2]) := by
  refine F.okX scParse (fun vs H Q E h => ?_) (fun cdv A outer s H vs Q E hr h => ?_)
  · obtain ⟨z, rfl, _⟩ := h
    rfl
  obtain ⟨z, rfl, hz, ht, hq⟩ := h
  obtain ⟨td, eD⟩ := T.deep
  refine ⟨_, pss_one (ps_ret (pe_call GD.ok hr rfl GD.g GD.k GD.b .nil (passes_call (takes_of rfl rfl rfl rfl) fun _ _ _ _ h => h) (pa_cons (pv 0) (pa_cons (pe_glob (v := .int 60) rfl eD ⟨_, rfl⟩) pa_nil)))), ?_⟩
  refine ⟨_, rfl, z, 60, rfl, hz, by decide, ht, ?_⟩
  rw [runD_run]
  exact hq
end
end My
namespace My
open PySem PySem.Spec PyProof.Rows L2 TL
/-- a comprehension over the signs of a text -/
theorem lc_str {x : Str} {g : TG} {tt : TT} {te : TE} {vs : List Nat} {σ : L2.St} {H1 : Hp} {D : Addr} {Qd : Hp → Prop} (Pv : Nat → Hp → Prop) (h0 : Pv 0 (upd H1 D (.lst [])))
    (hs : ∀ i c H, (tl x)[i]? = some c → Pv i H → g (.str ⟨#[c]⟩) (wipe σ vs) H fun σ2 H2 => wipe σ2 vs = wipe σ vs ∧ tt σ2 H2 fun b H3 =>
      if b = true then te σ2 H3 fun y H4 => ∃ acc, H4 D = some (.lst acc) ∧ acc.length < sizeLine ∧ Pv (i + 1) (upd H4 D (.lst (acc ++ [y]))) else Pv (i + 1) H3)
    (hd : ∀ H, Pv (tl x).length H → Qd H) :
    ∃ W : Nat → Nat → Hp → Prop, (∃ m, W 0 m (upd H1 D (.lst []))) ∧ ∀ i m H, W i m H →
      ((Its x).stop i H ∧ Qd H) ∨ ((Its x).go i H ∧ ∃ Nx : Hp → Prop, (∀ H', Nx H' → ∃ m', m' < m ∧ W (i + 1) m' H') ∧
        ∀ v H', (Its x).yld i H v H' → g v (wipe σ vs) H' fun σ2 H2 => wipe σ2 vs = wipe σ vs ∧ tt σ2 H2 fun b H3 =>
          if b = true then te σ2 H3 fun y H4 => ∃ acc, H4 D = some (.lst acc) ∧ acc.length < sizeLine ∧ Nx (upd H4 D (.lst (acc ++ [y]))) else Nx H3) := by
  have sz : x.cps.size = (tl x).length := by simp [tl]
  refine ⟨fun i m H => m + i = (tl x).length ∧ Pv i H, ⟨(tl x).length, rfl, h0⟩, ?_⟩
  rintro i m H ⟨e, p⟩
  by_cases lt : i < (tl x).length
  · refine .inr ⟨show i < x.cps.size by omega, Pv (i + 1), fun H' p' => ⟨m - 1, by omega, by omega, p'⟩, ?_⟩
    rintro v H' ⟨eh, c, hc, ev⟩
    subst eh ev
    exact hs i c _ (by show x.cps.toList[i]? = some c; rw [Array.getElem?_toList]; exact hc) p
  · have ei : i = (tl x).length := by omega
    subst ei
    exact .inl ⟨show x.cps.size ≤ (tl x).length by omega, hd H p⟩
abbrev sNumeral : Stmt := top 27
section
variable {P : Program} {w : World} {K : PySem.W.Frag} {mg : Str → Option Value} {base : Heap}
theorem scNumeral : FnScope ["word", "digits", "sign"] ["word"] (defScope sNumeral) := ⟨rfl, rfl, rfl, by decide +kernel, rfl, by decide +kernel, by decide +kernel⟩
theorem filt0 {α : Type} (p : α → Bool) (l : List α) : ((l.filter fun c => !p c).length = 0) ↔ l.all p = true := by
  rw [List.length_eq_zero_iff, List.filter_eq_nil_iff, List.all_eq_true]
  constructor
  · intro h c hc
    have := h c hc
    simpa using this
  · intro h c hc
    simp [h c hc]
theorem ok_numeral {f : Addr} {fd : FuncData} (F : Fun K "_law_is_numeral" "_law_is_numeral" sNumeral f fd) (B : Blt mg) : FnOk P w K mg base CX0 1 f fd ["word"] (spTxt madeNum []) := by
  refine F.ok scNumeral spTxt_len (fun cdv A outer s H vs Q E hr h => ?_)
  obtain ⟨z, rfl, hz, _, q⟩ := h
  have nd := scNumeral.nd
  refine ⟨_, pss_cons (ps_set (i := 1) nd rfl (Or.inl rfl) (pv 0))
    (C8.pss_cut (ps_if (pt_cmpR op_in_seq (pe_slice sl_str (pv 0) po_none (po_some pe_int)) (pe_lst (pa_cons pe_str (pa_cons pe_str pa_nil))) (by rfl)) (pss_one (ps_set (i := 1) nd rfl (Or.inl rfl) (pe_slice sl_str (pv 0) (po_some pe_int) po_none))) pss_nil)
    (pss_one (ps_ret (pe_and (pe_cmpR op_ne (pv 1) pe_str (nomark _)) (pe_one (pe_cmpR op_eq (pe_callB call_len (by rfl) B.len PySem.boot_len (pa_cons
      (pe_lc (own := [("sign", 2)]) (g := gName 2) rfl nd (pi_str (pv 1)) (blkOk_by (N := ["word", "digits", "sign"]) (sc := defScope sNumeral) (by decide +kernel)) (fun _ _ _ _ _ => pg_name (i := 2) nd rfl (Or.inl rfl))
        (fun _ _ _ _ _ => pts_one (pt_cmpR op_notIn_sign (pv 2) pe_str (by rfl))) (fun _ _ _ _ _ => pv 2)) pa_nil)) pe_int (nomark _))))))), ?_⟩
  refine ⟨_, rfl, ?_⟩
  refine ⟨fun σ H' => ∃ d : Str, σ = [some (.str z), some (.str d), none] ∧ tl d = body (tl z) ∧ d.length ≤ big ∧ Sm No H H', ?_, ?_⟩
  · refine ⟨_, rfl, _, rfl, z, rfl, big_line hz, by show 2 ≤ sizeLine; decide, fun p hp => ?_⟩
    refine ⟨p, _, rfl, .inl (SqL.of upd_same), rfl, rfl, _, rfl, ?_⟩
    have e1 : tl (cutS z none (some 1)) = (tl z).take 1 := tl_cut0 z 1
    have em : tl ("-" : Str) = [45] := by decide +kernel
    have ep : tl ("+" : Str) = [43] := by decide +kernel
    rw [if_neg Bool.false_ne_true, inV2, e1, em, ep]
    rcases body_cases (tl z) with ⟨h1, h2⟩ | ⟨h1, h2⟩
    · rw [h1]
      exact ⟨_, rfl, _, rfl, z, rfl, big_line hz, _, rfl, by rw [h2]; exact tl_cut1 z 1, Nat.le_trans (cutS_length z _ _) hz, Sm.new hp⟩
    · rw [h1]
      exact ⟨z, rfl, h2.symm, hz, Sm.new hp⟩
  · rintro σ H' ⟨d, rfl, ed, ld, sm⟩
    have e0 : tl ("" : Str) = [] := by decide +kernel
    refine ⟨_, rfl, rfl, _, rfl, ?_⟩
    rw [dec_str_tl, ed, e0]
    by_cases hb : body (tl z) = []
    · rw [decide_eq_true hb]
      have g : madeNum (tl z) = false := by unfold madeNum; rw [hb]; rfl
      have r := q H' sm
      rw [g] at r
      exact r
    · rw [decide_eq_false hb]
      refine ⟨_, rfl, d, rfl, fun D hD => ?_⟩
      have hD0 : H D = none := sm.dom D hD
      refine lc_str (fun i H2 => ∃ acc, H2 D = some (.lst acc) ∧ acc.length = (((tl d).take i).filter fun c => !isDig c).length ∧ Sm No H H2) ⟨[], upd_same, rfl, sm.mut hD0 fun ps z => by rw [hD] at z; cases z⟩ ?_ ?_
      · rintro i c H2 hc ⟨acc, a1, a2, a3⟩
        have i1 : i < (tl d).length := (List.getElem?_eq_some_iff.mp hc).1
        have la : acc.length ≤ (tl d).length := by
          rw [a2]
          exact Nat.le_trans (List.length_filter_le _ _) (by rw [List.length_take]; omega)
        have ld' : (tl d).length ≤ big := by rw [← len_tl]; exact ld
        have em : (((tl d).take (i + 1)).filter fun c => !isDig c).length = (((tl d).take i).filter fun c => !isDig c).length + (if isDig c then 0 else 1) := by
          rw [take_more hc, List.filter_append, List.length_append]
          congr 1
          cases h : isDig c <;> simp [h]
        refine ⟨rfl, _, rfl, c, _, rfl, rfl, _, rfl, ?_⟩
        have sd : decide (c ∈ ("0123456789" : Str).cps.toList) = isDig c := rfl
        rw [sd]
        cases h : isDig c with
        | true => exact ⟨acc, a1, by rw [em, h, a2]; rfl, a3⟩
        | false =>
          exact ⟨_, rfl, acc, a1, Nat.lt_of_le_of_lt (Nat.le_trans la ld') (by decide), acc ++ [V.str ⟨#[c]⟩], upd_same, by rw [em, h, List.length_append, a2]; rfl, a3.mut hD0 (ntbl_l a1)⟩
      · rintro H2 ⟨acc, a1, a2, a3⟩
        rw [List.take_length] at a2
        refine ⟨_, _, rfl, .inl ⟨_, SqL.of a1, rfl⟩, rfl, ?_⟩
        have g : madeNum (tl z) = decide (V.int ((acc.length : Nat) : Int) = V.int 0) := by
          have e : madeNum (tl z) = (body (tl z)).all isDig := by
            unfold madeNum
            cases hx : body (tl z) with
            | nil => exact absurd hx hb
            | cons a r => rfl
          rw [e, ← ed]
          by_cases ha : (tl d).all isDig = true
          · rw [ha]
            have := (filt0 isDig (tl d)).mpr ha
            rw [this] at a2
            rw [a2]
            exact (decide_eq_true rfl).symm
          · rw [Bool.eq_false_iff.mpr ha]
            refine (decide_eq_false fun z => ha ((filt0 isDig (tl d)).mp ?_)).symm
            have := V.int.inj z
            omega
        have r := q H2 a3
        rw [g] at r
        exact r
end
end My
namespace My
open PySem PySem.Spec PyProof.Rows L2 TL
def All (_ : Addr) : Prop := True
def tyD : Dat → String
  | .int _ => "int"
  | .sym _ => "str"
  | .lst _ => "list"
theorem Rep.sm {C : Addr → Prop} {H H' : Hp} {v : V} {d : Dat} (r : Rep C H v d) (s : Sm No H H') : Rep C H' v d := r.keep (fun a vs _ e => s.lst0 e) fun _ z => z
theorem RepL.sm {C : Addr → Prop} {H H' : Hp} {v : List V} {d : List Dat} (r : RepL C H v d) (s : Sm No H H') : RepL C H' v d := r.keep (fun a vs _ e => s.lst0 e) fun _ z => z
theorem Rep.all {C : Addr → Prop} {H : Hp} {v : V} {d : Dat} (r : Rep C H v d) : Rep All H v d := r.keep (fun _ _ _ e => e) fun _ _ => trivial
theorem RepL.all {C : Addr → Prop} {H : Hp} {v : List V} {d : List Dat} (r : RepL C H v d) : RepL All H v d := r.keep (fun _ _ _ e => e) fun _ _ => trivial
theorem RepL.len {C : Addr → Prop} {H : Hp} : ∀ {vs : List V} {ds : List Dat}, RepL C H vs ds → vs.length = ds.length
  | _, _, .nil => rfl
  | _, _, .cons _ r => congrArg (· + 1) (RepL.len r)
theorem RepL.get {C : Addr → Prop} {H : Hp} : ∀ {vs : List V} {ds : List Dat} {i : Nat}, RepL C H vs ds → i < ds.length → ∃ v d, vs[i]? = some v ∧ ds[i]? = some d ∧ Rep C H v d
  | _, _, 0, .cons h r, _ => ⟨_, _, rfl, rfl, h⟩
  | _, _, i + 1, .cons h r, l => by
    obtain ⟨v, d, e1, e2, x⟩ := RepL.get (i := i) r (Nat.lt_of_succ_lt_succ l)
    exact ⟨v, d, by simpa using e1, by simpa using e2, x⟩
theorem Rep.ty {K : PySem.W.Frag} {C : Addr → Prop} {H : Hp} {v : V} {d : Dat} (r : Rep C H v d) : TyX K H v (.type (tyD d)) := by
  cases r with
  | int i => exact .base (.int i)
  | sym s => exact .base (.str s)
  | lst hc h r => exact .base (.lst h)
/-- an expression gives True or False, what was there stays -/
def EvB (t : TE) (σ : L2.St) (H : Hp) (b : Bool) : Prop := ∀ Q : VK, (∀ H', Sm No H H' → Q (.bl b) H') → t σ H Q
def EvI (t : TE) (σ : L2.St) (H : Hp) (i : Int) : Prop := ∀ Q : VK, (∀ H', Sm No H H' → Q (.int i) H') → t σ H Q
section
variable {K : PySem.W.Frag} {σ : L2.St} {H : Hp} {i : Nat} {v : V} {d : Dat} {b : Bool}
abbrev tIsiT (K : PySem.W.Frag) (i : Nat) : TE := tCB (rIsiT K) (tCons (tVar i) (tCons (tTup (tCons (tC (.ty "list")) (tCons (tC (.ty "tuple")) tNil))) tNil))
abbrev tIsi (K : PySem.W.Frag) (i : Nat) (T : String) : TE := tCB (rIsi K) (tCons (tVar i) (tCons (tC (.ty T)) tNil))
theorem ev_isiT (h : σ[i]? = some (some v)) (r : Rep All H v d) : EvB (tIsiT K i) σ H (decide (tyD d = "list")) := fun Q q => by
  refine ⟨v, h, by show 2 ≤ sizeLine; decide, fun p hp => ?_⟩
  have s : Sm No H (upd H p (.tup [.ty "list", .ty "tuple"])) := Sm.new hp
  refine ⟨v, p, _, _, [.type "list", .type "tuple"], _, rfl, upd_same, .cons (.ty _) (.cons (.ty _) .nil), (r.sm s).ty, ?_, q _ s⟩
  have ki : ∀ (b : String) (r : Bool), kitB "int" b = some r → PySem.W.kitOne K (.type "int") (.type b) = some r := fun _ _ h => kit_ty h
  have ks : ∀ (b : String) (r : Bool), kitB "str" b = some r → PySem.W.kitOne K (.type "str") (.type b) = some r := fun _ _ h => kit_ty h
  have kl : ∀ (b : String) (r : Bool), kitB "list" b = some r → PySem.W.kitOne K (.type "list") (.type b) = some r := fun _ _ h => kit_ty h
  cases d with
  | int i => exact kitAny_cons (ki "list" false (by decide +kernel)) (fun _ => kitAny_cons (ki "tuple" false (by decide +kernel)) (fun _ => rfl) (fun z => nomatch z)) (fun z => nomatch z)
  | sym s => exact kitAny_cons (ks "list" false (by decide +kernel)) (fun _ => kitAny_cons (ks "tuple" false (by decide +kernel)) (fun _ => rfl) (fun z => nomatch z)) (fun z => nomatch z)
  | lst ds => exact kitAny_cons (kl "list" true (by decide +kernel)) (fun z => nomatch z) (fun _ => rfl)
theorem ev_isi {T : String} (h : σ[i]? = some (some v)) (r : Rep All H v d) (k : kitB (tyD d) T = some b) : EvB (tIsi K i T) σ H b := fun Q q =>
  ⟨v, h, v, _, _, .type T, b, rfl, .ty T, r.ty, kit_ty k, q H (Sm.refl _ _)⟩
end
/-- how deep a datum is, and how long its lists are at the most -/
def DepLe : Nat → Dat → Prop
  | 0, _ => False
  | n + 1, .lst ds => ds.length ≤ big ∧ ∀ d ∈ ds, DepLe n d
  | _ + 1, _ => True
def spSame (n : Nat) : Sp := fun vs H Q _ => ∃ (v1 v2 : V) (d : Dat), vs = [v1, v2] ∧ DepLe n d ∧ Rep All H v1 d ∧ Rep All H v2 d ∧ ∀ H', Sm No H H' → Q (.bl true) H'
abbrev sSame : Stmt := top 26
section
variable {P : Program} {w : World} {K : PySem.W.Frag} {mg : Str → Option Value} {base : Heap}
theorem scSame : FnScope ["one", "two", "k"] ["one", "two"] (defScope sSame) := ⟨rfl, rfl, rfl, by decide +kernel, rfl, by decide +kernel, by decide +kernel⟩
theorem ok_same {n : Nat} {f : Addr} {fd : FuncData} (F : Fun K "_law_same" "_law_same" sSame f fd) (B : Blt mg) (g : mg "_law_same" = some (.ref f)) (bn : Binds K fd ["one", "two"] []) (G : FnOk P w K mg base CX0 n f fd ["one", "two"] (spSame n)) :
    FnOk P w K mg base CX0 (n + 1) f fd ["one", "two"] (spSame (n + 1)) := by
  refine F.ok scSame (fun vs H Q E h => ?_) (fun cdv A outer s H vs Q E hr h => ?_)
  · obtain ⟨v1, v2, d, rfl, _⟩ := h
    rfl
  obtain ⟨v1, v2, d, rfl, dep, r1, r2, q⟩ := h
  have nd := scSame.nd
  refine ⟨_, pss_cons (ps_if (PW.pt (pw_and (pt_val (pe_callB call_isiT (by rfl) B.isinstance (by decide +kernel) (pa_cons (pv 0) (pa_cons (pe_tup (pa_cons (pe_bltn (v := .ty "list") (by rfl) B.list (by decide +kernel) rfl) (pa_cons (pe_bltn (v := .ty "tuple") (by rfl) B.tuple (by decide +kernel) rfl) pa_nil))) pa_nil))))
        (pw_and1 (pt_val (pe_callB call_isiT (by rfl) B.isinstance (by decide +kernel) (pa_cons (pv 1) (pa_cons (pe_tup (pa_cons (pe_bltn (v := .ty "list") (by rfl) B.list (by decide +kernel) rfl) (pa_cons (pe_bltn (v := .ty "tuple") (by rfl) B.tuple (by decide +kernel) rfl) pa_nil))) pa_nil)))))))
      (pss_cons (ps_if (PW.pt (pw_or (pt_cmpR op_ne (pe_callB call_isi (by rfl) B.isinstance (by decide +kernel) (pa_cons (pv 0) (pa_cons (pe_bltn (v := .ty "list") (by rfl) B.list (by decide +kernel) rfl) pa_nil))) (pe_callB call_isi (by rfl) B.isinstance (by decide +kernel) (pa_cons (pv 1) (pa_cons (pe_bltn (v := .ty "list") (by rfl) B.list (by decide +kernel) rfl) pa_nil))) (nomark _))
          (pw_or1 (pt_cmpR op_ne (pe_callB call_len (by rfl) B.len PySem.boot_len (pa_cons (pv 0) pa_nil)) (pe_callB call_len (by rfl) B.len PySem.boot_len (pa_cons (pv 1) pa_nil)) (nomark _))))) (pss_one (ps_ret pe_bl)) pss_nil)
      (pss_one (ps_ret (pe_cmpR op_eq (pe_callB call_len (by rfl) B.len PySem.boot_len (pa_cons
        (pe_lc (own := [("k", 2)]) (g := gName 2) rfl nd (pi_range1 (by rfl) B.range (pa_cons (pe_callB call_len (by rfl) B.len PySem.boot_len (pa_cons (pv 0) pa_nil)) pa_nil)) (blkOk_by (N := ["one", "two", "k"]) (sc := defScope sSame) (by decide +kernel)) (fun _ _ _ _ _ => pg_name (i := 2) nd rfl (Or.inl rfl))
          (fun _ _ _ _ _ => pts_one (pt_not (pt_val (pe_call G hr rfl g F.kp bn .nil pass0 (pa_cons (pe_ix (r := rIxL K) ix_list (pv 0) (pv 2) (fun _ _ => rfl)) (pa_cons (pe_ix (r := rIxL K) ix_list (pv 1) (pv 2) (fun _ _ => rfl)) pa_nil)))))) (fun _ _ _ _ _ => pv 2)) pa_nil)) pe_int (nomark _))))) pss_nil)
    (pss_cons (ps_if (PW.pt (pw_and (pt_val (pe_callB call_isi (by rfl) B.isinstance (by decide +kernel) (pa_cons (pv 0) (pa_cons (pe_bltn (v := .ty "int") (by rfl) B.int (by decide +kernel) rfl) pa_nil)))) (pw_and1 (pt_val (pe_callB call_isi (by rfl) B.isinstance (by decide +kernel) (pa_cons (pv 1) (pa_cons (pe_bltn (v := .ty "int") (by rfl) B.int (by decide +kernel) rfl) pa_nil)))))))
      (pss_one (ps_ret (pe_and (pe_not (pe_callB call_isi (by rfl) B.isinstance (by decide +kernel) (pa_cons (pv 0) (pa_cons (pe_bltn (v := .ty "bool") (by rfl) B.bool (by decide +kernel) rfl) pa_nil)))) (pe_and (pe_not (pe_callB call_isi (by rfl) B.isinstance (by decide +kernel) (pa_cons (pv 1) (pa_cons (pe_bltn (v := .ty "bool") (by rfl) B.bool (by decide +kernel) rfl) pa_nil)))) (pe_one (pe_cmpR op_eq (pv 0) (pv 1) (nomark _))))))) pss_nil)
    (pss_one (ps_ret (pe_and (pe_callB call_isi (by rfl) B.isinstance (by decide +kernel) (pa_cons (pv 0) (pa_cons (pe_bltn (v := .ty "str") (by rfl) B.str (by decide +kernel) rfl) pa_nil))) (pe_and (pe_callB call_isi (by rfl) B.isinstance (by decide +kernel) (pa_cons (pv 1) (pa_cons (pe_bltn (v := .ty "str") (by rfl) B.str (by decide +kernel) rfl) pa_nil))) (pe_one (pe_cmpR op_eq (pv 0) (pv 1) (nomark _)))))))), ?_⟩
  refine ev_isiT (i := 0) rfl r1 _ fun H1 s1 => ⟨_, rfl, ?_⟩
  cases d with
  | lst ds =>
    have tl1 : decide (tyD (.lst ds) = "list") = true := rfl
    rw [tl1]
    refine ev_isiT (i := 1) rfl (r2.sm s1) _ fun H2 s2 => ⟨_, rfl, ?_⟩
    rw [tl1]
    have s12 := s1.trans s2
    refine ev_isi (i := 0) (T := "list") (b := true) rfl (r1.sm s12) (show kitB "list" "list" = some true by decide +kernel) _ fun H3 s3 => ?_
    refine ev_isi (i := 1) (T := "list") (b := true) rfl (r2.sm (s12.trans s3)) (show kitB "list" "list" = some true by decide +kernel) _ fun H4 s4 => ?_
    have s14 := s12.trans (s3.trans s4)
    have r1' := r1.sm s14
    have r2' := r2.sm s14
    cases r1 with
    | @lst a1 vs1 _ _ g1 l1 =>
    cases r2 with
    | @lst a2 vs2 _ _ g2 l2 =>
    have e1 := s14.lst0 g1
    have e2 := s14.lst0 g2
    have n1 := l1.len
    have n2 := l2.len
    obtain ⟨db, dd⟩ := dep
    refine ⟨rfl, _, rfl, ?_⟩
    refine ⟨_, rfl, _, _, rfl, .inl ⟨_, SqL.of e1, rfl⟩, _, rfl, _, _, rfl, .inl ⟨_, SqL.of e2, rfl⟩, rfl, _, rfl, ?_⟩
    rw [n1, n2, decide_eq_true (show V.int ((ds.length : Nat) : Int) = V.int ((ds.length : Nat) : Int) from rfl)]
    have db' : (ds.length : Int) ≤ 1000000 := by have : ds.length ≤ 1000000 := db; omega
    refine ⟨_, rfl, _, _, rfl, .inl ⟨_, SqL.of e1, rfl⟩, _, rfl, by rw [n1]; omega, by rw [n1]; omega, fun D hD => ?_⟩
    have hD0 : H D = none := s14.dom D hD
    refine lc_range (lo := 0) (fun i H' => H' D = some (.lst []) ∧ Sm No H H') ⟨upd_same, s14.mut hD0 fun ps z => by rw [hD] at z; cases z⟩ ?_ ?_
    · rintro i H5 hi ⟨p1, p2⟩
      rw [n1, Int.toNat_natCast] at hi
      obtain ⟨x1, d1, f1, f2, f3⟩ := l1.get hi
      obtain ⟨x2, d2, f4, f5, f6⟩ := l2.get hi
      rw [f2] at f5
      cases f5
      have a0 : (0 : Int) + (i : Int) = ((i : Nat) : Int) := by omega
      rw [a0]
      refine ⟨rfl, ?_⟩
      refine ⟨_, rfl, _, rfl, a1, _, _, _, rfl, rfl, SqL.of (p2.lst0 g1), atI_nat f1, _, rfl, _, rfl, a2, _, _, _, rfl, rfl, SqL.of (p2.lst0 g2), atI_nat f4, ?_⟩
      refine ⟨x1, x2, d1, rfl, dd d1 (List.mem_of_getElem? f2), f3.sm p2, f6.sm p2, fun H6 s6 => ⟨_, rfl, ?_⟩⟩
      exact ⟨s6.lst0 p1, p2.trans s6⟩
    · rintro H5 ⟨p1, p2⟩
      refine ⟨_, _, rfl, .inl ⟨_, SqL.of p1, rfl⟩, rfl, ?_⟩
      exact q H5 p2
  | int i =>
    have tl1 : decide (tyD (.int i) = "list") = false := rfl
    rw [tl1]
    refine ev_isi (i := 0) (T := "int") (b := true) rfl (r1.sm s1) (show kitB "int" "int" = some true by decide +kernel) _ fun H2 s2 => ⟨_, rfl, ?_⟩
    refine ev_isi (i := 1) (T := "int") (b := true) rfl (r2.sm (s1.trans s2)) (show kitB "int" "int" = some true by decide +kernel) _ fun H3 s3 => ⟨_, rfl, ?_⟩
    refine ev_isi (i := 0) (T := "bool") (b := false) rfl (r1.sm (s1.trans (s2.trans s3))) (show kitB "int" "bool" = some false by decide +kernel) _ fun H4 s4 => ⟨_, rfl, _, rfl, ?_⟩
    refine ev_isi (i := 1) (T := "bool") (b := false) rfl (r2.sm (s1.trans (s2.trans (s3.trans s4)))) (show kitB "int" "bool" = some false by decide +kernel) _ fun H5 s5 => ⟨_, rfl, _, rfl, ?_⟩
    cases r1
    cases r2
    refine ⟨_, rfl, _, rfl, rfl, ?_⟩
    have r := q H5 (s1.trans (s2.trans (s3.trans (s4.trans s5))))
    rw [decide_eq_true rfl]
    exact r
  | sym i =>
    have tl1 : decide (tyD (.sym i) = "list") = false := rfl
    rw [tl1]
    refine ev_isi (i := 0) (T := "int") (b := false) rfl (r1.sm s1) (show kitB "str" "int" = some false by decide +kernel) _ fun H2 s2 => ⟨_, rfl, ?_⟩
    refine ev_isi (i := 0) (T := "str") (b := true) rfl (r1.sm (s1.trans s2)) (show kitB "str" "str" = some true by decide +kernel) _ fun H3 s3 => ⟨_, rfl, ?_⟩
    refine ev_isi (i := 1) (T := "str") (b := true) rfl (r2.sm (s1.trans (s2.trans s3))) (show kitB "str" "str" = some true by decide +kernel) _ fun H4 s4 => ⟨_, rfl, ?_⟩
    cases r1
    cases r2
    refine ⟨_, rfl, _, rfl, rfl, ?_⟩
    have r := q H4 (s1.trans (s2.trans (s3.trans s4)))
    rw [decide_eq_true rfl]
    exact r
theorem same_none {f : Addr} {fd : FuncData} : FnOk P w K mg base CX0 0 f fd ["one", "two"] (spSame 0) := by
  have no : ∀ vs H Q E, ¬ spSame 0 vs H Q E := by
    rintro vs H Q E ⟨v1, v2, d, _, h, _⟩
    exact h.elim
  exact ⟨fun vs H Q E h => absurd h (no vs H Q E), fun A outer s H args us vs Q E _ _ _ _ h => absurd h (no vs H Q E)⟩
theorem ok_sameN {f : Addr} {fd : FuncData} (F : Fun K "_law_same" "_law_same" sSame f fd) (B : Blt mg) (g : mg "_law_same" = some (.ref f)) (bn : Binds K fd ["one", "two"] []) : ∀ n : Nat, FnOk P w K mg base CX0 n f fd ["one", "two"] (spSame n)
  | 0 => same_none
  | n + 1 => ok_same F B g bn (ok_sameN F B g bn n)
end
end My
namespace My
open PySem PySem.Spec PyProof.Rows L2 TL
/-! ### a text times a small number -/
def rMulS : R2 := fun x y H Q => ∃ (z : Str) (n : Int), x = .str z ∧ y = .int n ∧ 0 ≤ n ∧ n ≤ 1000 ∧ z.length ≤ 1000 ∧ ∀ r : Str, tl r = (List.replicate n.toNat (tl z)).flatten → Q (.str r) H
theorem fold_app (a : Array Nat) : ∀ (k : Nat) (b : Array Nat), ((List.replicate k a).foldl (· ++ ·) b).toList = b.toList ++ (List.replicate k a.toList).flatten
  | 0, b => by simp
  | k + 1, b => by
    rw [List.replicate_succ, List.foldl_cons, fold_app a k, List.replicate_succ, List.flatten_cons, Array.toList_append, List.append_assoc]
theorem op_mulS {X : Cx} : OpR X (binaryOp .Mult) rMulS := by
  intro pins s σ H x y v u Q I rx ry h
  obtain ⟨z, n, ex, ey, n0, n1, lz, q⟩ := h
  subst ex ey
  obtain ⟨t, et⟩ := (show ∃ t, v = Value.str z t from rx)
  obtain ⟨t', et'⟩ := (show ∃ t, u = Value.int n t from ry)
  subst et et'
  have nat : n = ((n.toNat : Nat) : Int) := by omega
  have small : z.length * n.toNat ≤ 1000 * 1000 := Nat.mul_le_mul lz (by omega)
  refine PySem.P.mul_str ?_ (fun h1 _ => ?_) (fun h1 _ => ?_) ?_
  · have a : ¬ n < -(2 ^ 63 : Int) := by omega
    have b : ¬ n ≥ 2 ^ 63 := by omega
    rw [decide_eq_false a, decide_eq_false b]; rfl
  · have p : (0 : Int) < n := by omega
    have lz' : (z.length : Int) ≤ 1000 := by omega
    have hd : (1000 : Int) ≤ (2 ^ 63 - 1) / n := by
      rw [Int.le_ediv_iff_mul_le p]
      omega
    omega
  · unfold Builtin.Str.tooLong
    refine decide_eq_false ?_
    show ¬ z.length * n.toNat > 2 ^ 24
    omega
  by_cases h1 : n < 1
  · rw [if_pos h1]
    have e : n.toNat = 0 := by omega
    rw [e] at q
    exact ⟨by decide, .str Str.empty, H, I.tok _, ⟨_, rfl⟩, q Str.empty rfl⟩
  · rw [if_neg h1]
    by_cases h2 : (n == 1 || z.length == 0) = true
    · rw [if_pos h2]
      refine ⟨.str z, H, I, ⟨t, rfl⟩, q z ?_⟩
      rw [Bool.or_eq_true, beq_iff_eq, beq_iff_eq] at h2
      rcases h2 with h2 | h2
      · rw [h2]; simp
      · have e : tl z = [] := List.length_eq_zero_iff.mp (by rw [← len_tl]; exact h2)
        rw [e]; simp
    · rw [if_neg h2]
      have e : tl (⟨(List.replicate n.toNat z.cps).foldl (· ++ ·) #[]⟩ : Str) = (List.replicate n.toNat (tl z)).flatten := by
        show ((List.replicate n.toNat z.cps).foldl (· ++ ·) #[]).toList = _
        rw [fold_app]; rfl
      refine ⟨?_, .str _, H, I.tok _, ⟨_, rfl⟩, q _ e⟩
      rw [len_tl, e, List.length_flatten, List.map_replicate, List.sum_replicate_nat, ← len_tl, Nat.mul_comm]
      exact Nat.le_trans small (by decide)
/-! ### texts of signs that part no words -/
def Wd (l : List Nat) : Prop := ∀ c ∈ l, noEnd c = true
def WordOk (z : Str) : Prop := tl z ≠ [] ∧ Wd (tl z) ∧ z.length ≤ 100
theorem Wd.app {a b : List Nat} (x : Wd a) (y : Wd b) : Wd (a ++ b) := fun c hc => (List.mem_append.mp hc).elim (x c) (y c)
theorem Wd.sub {a b : List Nat} (x : Wd a) (h : ∀ c ∈ b, c ∈ a) : Wd b := fun c hc => x c (h c hc)
theorem Wd.of {l : List Nat} (h : l.all noEnd = true) : Wd l := fun c hc => List.all_eq_true.mp h c hc
theorem wd_num {n : Nat} : Wd (numL n) := fun c hc => by
  unfold noEnd
  cases he : isEnd c with
  | false => rfl
  | true =>
    have h := (isEnd_iff c).mp he
    have d := numL_digits n c hc
    omega
theorem tl_join0 (ys : List Str) : tl (Txt.join ("" : Str) ys) = (ys.map tl).flatten := by
  have e0 : tl ("" : Str) = [] := by decide +kernel
  rw [join_eq, tl_join, e0]
  induction ys with
  | nil => rfl
  | cons y r ih =>
    cases r with
    | nil => simp [joinL]
    | cons x r => rw [List.map_cons, List.map_cons, List.flatten_cons, joinL, List.nil_append, ← List.map_cons, ih]
end My
namespace My
open PySem PySem.Spec PyProof.Rows L2 TL
theorem atI_some {α : Type} {xs : List α} {g : Int} (h0 : 0 ≤ g) (h1 : g < (xs.length : Nat)) : ∃ v, atI xs g = some v ∧ v ∈ xs := by
  have e : g = ((g.toNat : Nat) : Int) := by omega
  have lt : g.toNat < xs.length := by omega
  refine ⟨xs[g.toNat], ?_, List.getElem_mem lt⟩
  have q := atI_nat (List.getElem?_eq_getElem lt)
  rw [← e] at q
  exact q
theorem LS.two {H : Hp} {S L p : Addr} (h : LS H S L) (hp : H p = none) : ¬ Two S L p := by
  obtain ⟨h1, h2⟩ := h.some
  intro z
  rcases z with z | z
  · rw [z] at hp; exact h1 hp
  · rw [z] at hp; exact h2 hp
theorem LS.new {H : Hp} {S L p : Addr} {o : HO} (h : LS H S L) (hp : H p = none) : LS (upd H p o) S L := h.sm (Sm.new hp)
theorem ev_take {σ : L2.St} {H : Hp} {S L : Addr} {n : Int} {E : XK} (h : σ[0]? = some (some (.ref S))) (hl : LS H S L) (n0 : 0 < n) (nb : n.natAbs < 2 ^ 8000) {Q : VK}
    (q : ∀ (g : Int) (H' : Hp), 0 ≤ g → g < n → LS H' S L → Sm (Two S L) H H' → Q (.int g) H') : tCall spTake [] E (tCons (tVar 0) (tCons (tC (.int n)) tNil)) σ H Q :=
  ⟨_, h, S, L, n, rfl, hl, n0, nb, q⟩
/-- a drawn one of a written list of texts -/
theorem ev_pick {K : PySem.W.Frag} {σ : L2.St} {H : Hp} {S L : Addr} {n : Int} {E : XK} {ta : TA} {ys : List Str} (h : σ[0]? = some (some (.ref S))) (hl : LS H S L) (n0 : 0 < n) (nb : n.natAbs < 2 ^ 8000) (len : n = (ys.length : Nat)) (lz : ys.length ≤ 1000)
    (ha : ∀ (H : Hp) (Q : List V → Hp → Prop), Q (ys.map V.str) H → ta σ H Q) {Q : VK}
    (q : ∀ (y : Str) (H' : Hp), y ∈ ys → LS H' S L → Sm (Two S L) H H' → Q (.str y) H') : tOp (rIxL K) (tLst ta) (tCall spTake [] E (tCons (tVar 0) (tCons (tC (.int n)) tNil))) σ H Q := by
  refine ha _ _ ⟨by rw [List.length_map]; exact Nat.le_of_lt (small1000 lz), fun p hp => ?_⟩
  refine ev_take h (hl.new hp) n0 nb fun g H' g0 g1 l s => ?_
  obtain ⟨y, e, m⟩ := atI_some (xs := ys.map V.str) g0 (by rw [List.length_map]; omega)
  obtain ⟨u, hu, ey⟩ := List.mem_map.mp m
  subst ey
  exact ⟨p, _, g, _, rfl, rfl, SqL.of (s.lst (hl.two hp) upd_same), e, q u H' hu l ((Sm.new hp).trans s)⟩
theorem nb {n : Int} (h : n.natAbs ≤ 1000000) : n.natAbs < 2 ^ 8000 :=
  Nat.lt_of_lt_of_le (Nat.lt_of_le_of_lt h (show 1000000 < 2 ^ 20 by decide)) (Nat.pow_le_pow_right (by decide) (by decide))
theorem fact_of {ys : List Str} (h : ys.all (fun y => (tl y).all noEnd && decide (y.length ≤ 10)) = true) : ∀ y ∈ ys, Wd (tl y) ∧ y.length ≤ 10 := fun y hy => by
  have q := List.all_eq_true.mp h y hy
  rw [Bool.and_eq_true] at q
  exact ⟨Wd.of q.1, of_decide_eq_true q.2⟩
theorem num_len {n : Nat} (h : n < 10 ^ 5) : (numL n).length ≤ 5 := numL_len (by decide) h
/-- a written number's text -/
theorem num_txt {m : Int} (h0 : 0 ≤ m) (h1 : m < 100000) : ∃ n : Nat, tl (Str.ofString (toString m)) = numL n ∧ (Str.ofString (toString m)).length ≤ 5 := by
  have e : m = ((m.toNat : Nat) : Int) := by omega
  have q : tl (Str.ofString (toString m)) = numL m.toNat := by
    rw [e, Int.toNat_natCast]
    exact tl_num _
  exact ⟨m.toNat, q, by rw [len_tl, q]; exact num_len (by omega)⟩
theorem one_tl (c : Nat) : tl ⟨#[c]⟩ = [c] := rfl
theorem flat_wd {ys : List Str} (h : ∀ y ∈ ys, Wd (tl y)) : Wd ((ys.map tl).flatten) := fun c hc => by
  obtain ⟨l, hl, hcl⟩ := List.mem_flatten.mp hc
  obtain ⟨y, hy, e⟩ := List.mem_map.mp hl
  subst e
  exact h y hy c hcl
theorem flat_len {ys : List Str} (h : ∀ y ∈ ys, y.length = 1) : ((ys.map tl).flatten).length = ys.length ∧ (ys.map (·.length)).sum = ys.length := by
  induction ys with
  | nil => exact ⟨rfl, rfl⟩
  | cons y r ih =>
    obtain ⟨i1, i2⟩ := ih fun x hx => h x (List.mem_cons_of_mem _ hx)
    have e := h y List.mem_cons_self
    refine ⟨?_, ?_⟩
    · rw [List.map_cons, List.flatten_cons, List.length_append, i1, ← len_tl, e, List.length_cons]
      omega
    · rw [List.map_cons, List.sum_cons, i2, e, List.length_cons]
      omega
/-- a row of drawn signs that is being made at D -/
def RowP (S L D : Addr) (H0 : Hp) (i : Nat) (H' : Hp) : Prop :=
  ∃ ys : List Str, H' D = some (.lst (ys.map V.str)) ∧ ys.length = i ∧ (∀ y ∈ ys, Wd (tl y) ∧ y.length = 1) ∧ LS H' S L ∧ Sm (Two S L) H0 H'
theorem RowP.start {S L D : Addr} {H0 : Hp} (h : LS H0 S L) (hD : H0 D = none) : RowP S L D H0 0 (upd H0 D (.lst [])) := ⟨[], upd_same, rfl, by simp, h.new hD, Sm.new hD⟩
theorem row_turn {S L D : Addr} {H0 H : Hp} {σ : L2.St} {i : Nat} {lim : Int} {src : Str} {E : XK} {ts : TE} (hts : ∀ Q : VK, Q (.str src) H → ts σ H Q) (h : σ[0]? = some (some (.ref S))) (n0 : 0 < lim) (len : lim = (src.length : Nat)) (lsrc : src.length ≤ 1000)
    (wd : Wd (tl src)) (l0 : LS H0 S L) (hD0 : H0 D = none) (hi : i ≤ 1000) (p : RowP S L D H0 i H) :
    tOp rIxS ts (tCall spTake [] E (tCons (tVar 0) (tCons (tC (.int lim)) tNil))) σ H (fun y H4 => ∃ acc, H4 D = some (.lst acc) ∧ acc.length < sizeLine ∧ RowP S L D H0 (i + 1) (upd H4 D (.lst (acc ++ [y])))) := by
  obtain ⟨ys, p1, p2, p3, p4, p5⟩ := p
  refine hts _ (ev_take h p4 n0 (nb (by omega)) fun g H' g0 g1 l s => ?_)
  have lt := len_tl src
  obtain ⟨c, e, m⟩ := atI_some (xs := tl src) g0 (by omega)
  have nD := l0.two hD0
  have p1' := s.lst nD p1
  refine ⟨src, g, c, rfl, rfl, Nat.le_of_lt (small1000 lsrc), e, ys.map V.str, p1', by rw [List.length_map, p2]; exact small1000 hi, ys ++ [⟨#[c]⟩], by rw [upd_same, List.map_append]; rfl, by simp [p2], ?_, ?_, ?_⟩
  · intro y hy
    rcases List.mem_append.mp hy with z | z
    · exact p3 y z
    · rw [List.mem_singleton.mp z]
      refine ⟨?_, rfl⟩
      intro x hx
      rw [one_tl, List.mem_singleton] at hx
      rw [hx]
      exact wd c m
  · obtain ⟨cs, d, a1, a2, a3⟩ := l
    refine ⟨cs, d, ?_, ?_, a3⟩
    · rw [upd_ne (fun z => nD (.inl z.symm))]; exact a1
    · rw [upd_ne (fun z => nD (.inr z.symm))]; exact a2
  · exact (p5.trans s).mut hD0 (ntbl_l p1')
/-- the text of such a row -/
theorem RowP.text {S L D : Addr} {H0 H' : Hp} {n : Nat} (p : RowP S L D H0 n H') : ∃ ys : List Str, H' D = some (.lst (ys.map V.str)) ∧ Wd (tl (Txt.join ("" : Str) ys)) ∧ (Txt.join ("" : Str) ys).length = n ∧ (ys.map (·.length)).sum + ys.length * ("" : Str).length = n ∧ LS H' S L ∧ Sm (Two S L) H0 H' := by
  obtain ⟨ys, p1, p2, p3, p4, p5⟩ := p
  have e := tl_join0 ys
  obtain ⟨f1, f2⟩ := flat_len fun y hy => (p3 y hy).2
  refine ⟨ys, p1, ?_, ?_, ?_, p4, p5⟩
  · rw [e]; exact flat_wd fun y hy => (p3 y hy).1
  · rw [len_tl, e, f1, p2]
  · have e0 : ("" : Str).length = 0 := by decide +kernel
    rw [f2, e0, p2]; omega
def spWord : Sp := fun vs H Q _ => ∃ S L : Addr, vs = [.ref S] ∧ LS H S L ∧ ∀ z H', WordOk z → LS H' S L → Sm (Two S L) H H' → Q (.str z) H'
abbrev sWord : Stmt := top 28
section
variable {P : Program} {w : World} {K : PySem.W.Frag} {mg : Str → Option Value} {base : Heap}
theorem scWord : FnScope ["state", "signs", "pick", "many", "digits", "word", "at", "other", "k"] ["state"] (defScope sWord) := ⟨rfl, rfl, rfl, by decide +kernel, rfl, by decide +kernel, by decide +kernel⟩
theorem ok_word {f fT : Addr} {fd dT : FuncData} (F : Fun K "_law_word" "_law_word" sWord f fd) (B : Blt mg) (G : Cal P w K mg base CX0 2 "_law_take" ["state", "limit"] spTake fT dT) : FnOk P w K mg base CX0 3 f fd ["state"] spWord := by
  refine F.ok scWord (fun vs H Q E h => ?_) (fun cdv A outer s H vs Q E hr h => ?_)
  · obtain ⟨S, L, rfl, _⟩ := h
    rfl
  obtain ⟨S, L, rfl, hl, q⟩ := h
  have nd := scWord.nd
  refine ⟨_, pss_cons (ps_set (i := 1) nd rfl (Or.inr rfl) pe_str)
    (pss_cons (ps_set (i := 2) nd rfl (Or.inl rfl) (pe_call G.ok hr rfl G.g G.k G.b .nil pass0 (pa_cons (pv 0) (pa_cons pe_int pa_nil))))
    (pss_cons (ps_if (pt_cmpR op_eq (pv 2) pe_int (nomark _)) (pss_one (ps_ret (pe_op op_add_str (pe_op op_add_str
        (pe_ix ix_list (pe_lst (pa_cons pe_str (pa_cons pe_str (pa_cons pe_str pa_nil)))) (pe_call G.ok hr rfl G.g G.k G.b .nil pass0 (pa_cons (pv 0) (pa_cons pe_int pa_nil))) (fun _ _ => rfl))
        (pe_op op_mulS pe_str (pe_call G.ok hr rfl G.g G.k G.b .nil pass0 (pa_cons (pv 0) (pa_cons pe_int pa_nil)))))
        (pe_callTy call_str_int (by rfl) B.str (by decide +kernel) (pa_cons (pe_call G.ok hr rfl G.g G.k G.b .nil pass0 (pa_cons (pv 0) (pa_cons pe_int pa_nil))) pa_nil))))) pss_nil)
    (pss_cons (ps_if (pt_cmpR op_eq (pv 2) pe_int (nomark _))
      (pss_cons (ps_set (i := 3) nd rfl (Or.inl rfl) (pe_op op_add pe_int (pe_call G.ok hr rfl G.g G.k G.b .nil pass0 (pa_cons (pv 0) (pa_cons pe_int pa_nil)))))
      (pss_cons (ps_set (i := 4) nd rfl (Or.inl rfl) (pe_bm PySem.F.plainAttrs_str PySem.F.slot_str_join PySem.F.type_str_join mt_join pe_str (pa_cons
        (pe_lc (own := [("k", 8)]) (g := gName 8) (tt := tYes) rfl nd (pi_range1 (by rfl) B.range (pa_cons (pv 3) pa_nil)) (blkOk_by (N := ["state", "signs", "pick", "many", "digits", "word", "at", "other", "k"]) (sc := defScope sWord) (by decide +kernel)) (fun _ _ _ _ _ => pg_name (i := 8) nd rfl (Or.inl rfl))
          (fun _ _ _ _ _ => pts_nil) (fun _ _ _ _ _ => pe_ix ix_str pe_str (pe_call G.ok hr rfl G.g G.k G.b .nil pass0 (pa_cons (pv 0) (pa_cons pe_int pa_nil))) (fun _ _ => rfl))) pa_nil)))
      (pss_one (ps_ret (pe_op op_add_str (pe_op op_add_str
        (pe_ix ix_list (pe_lst (pa_cons pe_str (pa_cons pe_str pa_nil))) (pe_call G.ok hr rfl G.g G.k G.b .nil pass0 (pa_cons (pv 0) (pa_cons pe_int pa_nil))) (fun _ _ => rfl))
        (pe_callTy call_str_int (by rfl) B.str (by decide +kernel) (pa_cons (pe_op op_add pe_int (pe_call G.ok hr rfl G.g G.k G.b .nil pass0 (pa_cons (pv 0) (pa_cons pe_int pa_nil)))) pa_nil)))
        (pe_slice sl_str (pv 4) (po_some pe_int) po_none)))))) pss_nil)
    (pss_cons (ps_set (i := 5) nd rfl (Or.inl rfl) (pe_bm PySem.F.plainAttrs_str PySem.F.slot_str_join PySem.F.type_str_join mt_join pe_str (pa_cons
        (pe_lc (own := [("k", 8)]) (g := gName 8) (tt := tYes) rfl nd (pi_range1 (by rfl) B.range (pa_cons (pe_op op_add pe_int (pe_call G.ok hr rfl G.g G.k G.b .nil pass0 (pa_cons (pv 0) (pa_cons pe_int pa_nil)))) pa_nil)) (blkOk_by (N := ["state", "signs", "pick", "many", "digits", "word", "at", "other", "k"]) (sc := defScope sWord) (by decide +kernel)) (fun _ _ _ _ _ => pg_name (i := 8) nd rfl (Or.inl rfl))
          (fun _ _ _ _ _ => pts_nil) (fun _ _ _ _ _ => pe_ix ix_str (pv 1) (pe_call G.ok hr rfl G.g G.k G.b .nil pass0 (pa_cons (pv 0) (pa_cons pe_int pa_nil))) (fun _ _ => rfl))) pa_nil)))
    (pss_cons (ps_if (pt_cmpR op_eq (pv 2) pe_int (nomark _))
      (pss_cons (ps_set (i := 6) nd rfl (Or.inl rfl) (pe_call G.ok hr rfl G.g G.k G.b .nil pass0 (pa_cons (pv 0) (pa_cons (pe_op op_add (pe_callB call_len (by rfl) B.len PySem.boot_len (pa_cons (pv 5) pa_nil)) pe_int) pa_nil))))
      (pss_cons (ps_set (i := 7) nd rfl (Or.inl rfl) pe_str)
      (pss_one (ps_ret (pe_op op_add_str (pe_op op_add_str (pe_slice sl_str (pv 5) po_none (po_some (pv 6)))
        (pe_ix ix_str (pv 7) (pe_call G.ok hr rfl G.g G.k G.b .nil pass0 (pa_cons (pv 0) (pa_cons (pe_callB call_len (by rfl) B.len PySem.boot_len (pa_cons (pv 7) pa_nil)) pa_nil))) (fun _ _ => rfl)))
        (pe_slice sl_str (pv 5) (po_some (pv 6)) po_none)))))) pss_nil)
    (pss_cons (ps_if (pt_cmpR op_eq (pv 2) pe_int (nomark _)) (pss_one (ps_ret (pe_ix ix_list (pe_lst (pa_cons pe_str (pa_cons pe_str (pa_cons pe_str (pa_cons pe_str (pa_cons pe_str (pa_cons pe_str (pa_cons pe_str (pa_cons pe_str
        (pa_cons pe_str (pa_cons pe_str (pa_cons pe_str (pa_cons pe_str (pa_cons pe_str (pa_cons pe_str (pa_cons pe_str (pa_cons pe_str pa_nil)))))))))))))))))
        (pe_call G.ok hr rfl G.g G.k G.b .nil pass0 (pa_cons (pv 0) (pa_cons pe_int pa_nil))) (fun _ _ => rfl)))) pss_nil)
    (pss_one (ps_ret (pv 5))))))))), ?_⟩
  have add3 : ∀ (a b c : Str), Wd (tl a) → Wd (tl b) → Wd (tl c) → a.length + b.length + c.length ≤ 100 → tl a ++ tl b ++ tl c ≠ [] → WordOk (a ++ b ++ c) := fun a b c wa wb wc ln ne => by
    refine ⟨by rw [tl_append, tl_append]; exact ne, by rw [tl_append, tl_append]; exact (wa.app wb).app wc, by rw [app_len, app_len]; exact ln⟩
  refine ev_take (n := 8) rfl hl (by decide) (nb (by decide)) fun pick H1 p0 p1 l1 s1 => ?_
  refine ⟨_, rfl, rfl, _, rfl, ?_⟩
  refine ite2 (fun c => ?_) (fun c => ?_)
  · refine ev_pick (ys := ["", "-", "+"]) rfl l1 (by decide) (nb (by decide)) rfl (by decide) (fun H Q q => q) fun y H2 hy l2 s2 => ?_
    obtain ⟨wy, ly⟩ := fact_of (ys := ["", "-", "+"]) (by decide +kernel) y hy
    refine ev_take (n := 3) rfl l2 (by decide) (nb (by decide)) fun g H3 g0 g1 l3 s3 => ?_
    refine ⟨_, g, rfl, rfl, g0, by omega, by decide +kernel, fun r er => ?_⟩
    have e48 : tl ("0" : Str) = [48] := by decide +kernel
    rw [e48] at er
    have lr : r.length ≤ 3 := by
      rw [len_tl, er]
      simp
      omega
    have wr : Wd (tl r) := by
      rw [er]
      intro c hc
      have : c = 48 := by
        obtain ⟨l, hl, hcl⟩ := List.mem_flatten.mp hc
        have := List.eq_of_mem_replicate hl
        subst this
        exact List.mem_singleton.mp hcl
      rw [this]; decide +kernel
    refine ⟨_, _, rfl, rfl, Nat.le_trans (Nat.add_le_add ly lr) (by decide), ?_⟩
    refine ev_take (n := 1000) rfl l3 (by decide) (nb (by decide)) fun m H4 m0 m1 l4 s4 => ?_
    obtain ⟨nn, en, ln⟩ := num_txt m0 (by omega)
    refine ⟨m, rfl, int_log (by omega), _, _, rfl, rfl, ?_, ?_⟩
    · rw [app_len]
      exact Nat.le_trans (Nat.add_le_add (Nat.add_le_add ly lr) ln) (by decide)
    · refine q _ H4 (add3 _ _ _ wy wr (by rw [en]; exact wd_num) (by omega) ?_) l4 (s1.trans (s2.trans (s3.trans s4)))
      rw [en]
      intro z
      exact numL_ne nn (List.append_eq_nil_iff.mp z).2
  refine ⟨_, rfl, rfl, _, rfl, ?_⟩
  refine ite2 (fun c2 => ?_) (fun c2 => ?_)
  · refine ev_take (n := 4) rfl l1 (by decide) (nb (by decide)) fun g H2 g0 g1 l2 s2 => ?_
    refine ⟨_, _, rfl, rfl, ?_⟩
    refine ⟨rfl, _, rfl, _, rfl, by omega, by omega, fun D hD => ?_⟩
    have em : (39 + g).toNat = 39 + g.toNat := by omega
    refine lc_range (lo := 0) (RowP S L D H2) (RowP.start l2 hD) (fun i H3 hi p => ⟨rfl, ?_⟩) (fun H3 p => ?_)
    · exact row_turn (σ := [some (V.ref S), some (V.str "abcxyzABCXYZ0123456789-+*<=?!."), some (V.int pick), some (V.int (39 + g)), none, none, none, none, some (V.int (0 + (i : Int)))]) (ts := tC (.str "0123456789")) (src := "0123456789") (lim := 10) (fun Q q => q) rfl (by decide) (by decide +kernel) (by decide +kernel) (Wd.of (by decide +kernel)) l2 hD (by omega) p
    obtain ⟨ys, y1, y2, y3, y4, y5, y6⟩ := p.text
    refine ⟨_, D, ys, rfl, rfl, .inl (SqL.of y1), by rw [y4]; omega, ?_⟩
    generalize Txt.join ("" : Str) ys = row at y2 y3
    refine ev_pick (K := K) (σ := [some (V.ref S), some (V.str "abcxyzABCXYZ0123456789-+*<=?!."), some (V.int pick), some (V.int (39 + g)), some (V.str row), none, none, none, none]) (H := H3) (ta := tCons (tC (.str "")) (tCons (tC (.str "-")) tNil)) (ys := ["", "-"]) rfl y5 (by decide) (nb (by decide)) rfl (by decide) (fun H Q q => q) fun y H4 hy l4 s4 => ?_
    obtain ⟨wy, ly⟩ := fact_of (ys := ["", "-"]) (by decide +kernel) y hy
    refine ev_take (σ := [some (V.ref S), some (V.str "abcxyzABCXYZ0123456789-+*<=?!."), some (V.int pick), some (V.int (39 + g)), some (V.str row), none, none, none, none]) (n := 9) rfl l4 (by decide) (nb (by decide)) fun m H5 m0 m1 l5 s5 => ?_
    obtain ⟨nn, en, ln⟩ := num_txt (m := 1 + m) (by omega) (by omega)
    refine ⟨_, _, rfl, rfl, 1 + m, rfl, int_log (by omega), _, _, rfl, rfl, Nat.le_trans (Nat.add_le_add ly ln) (by decide), ?_⟩
    refine ⟨_, rfl, _, rfl, row, rfl, by rw [y3]; exact Nat.le_of_lt (small1000 (by omega)), ?_⟩
    have lc := cutS_length row (some 1) none
    have ec : tl (cutS row (some 1) none) = (tl row).drop 1 := tl_cut1 row 1
    refine ⟨_, _, rfl, rfl, ?_, ?_⟩
    · rw [app_len]
      exact Nat.le_trans (Nat.add_le_add (Nat.add_le_add ly ln) (Nat.le_trans lc (show row.length ≤ 100 by omega))) (by decide)
    · refine q _ H5 (add3 _ _ _ wy (by rw [en]; exact wd_num) ?_ (by omega) ?_) l5 (s1.trans (s2.trans (y6.trans (s4.trans s5))))
      · rw [ec]
        exact y2.sub fun c hc => List.mem_of_mem_drop hc
      · rw [en]
        intro z
        exact numL_ne nn (List.append_eq_nil_iff.mp (List.append_eq_nil_iff.mp z).1).2
  refine ⟨rfl, ev_take (σ := [some (V.ref S), some (V.str "abcxyzABCXYZ0123456789-+*<=?!."), some (V.int pick), none, none, none, none, none, none]) (n := 8) rfl l1 (by decide) (nb (by decide)) fun g H2 g0 g1 l2 s2 => ?_⟩
  refine ⟨_, _, rfl, rfl, _, rfl, by omega, by omega, fun D hD => ?_⟩
  refine lc_range (lo := 0) (RowP S L D H2) (RowP.start l2 hD) (fun i H3 hi p => ⟨rfl, ?_⟩) (fun H3 p => ?_)
  · exact row_turn (σ := [some (V.ref S), some (V.str "abcxyzABCXYZ0123456789-+*<=?!."), some (V.int pick), none, none, none, none, none, some (V.int (0 + (i : Int)))]) (ts := tVar 1) (src := "abcxyzABCXYZ0123456789-+*<=?!.") (lim := 30) (fun Q q => ⟨_, rfl, q⟩) rfl (by decide) (by decide +kernel) (by decide +kernel) (Wd.of (by decide +kernel)) l2 hD (by omega) p
  obtain ⟨ys, y1, y2, y3, y4, y5, y6⟩ := p.text
  refine ⟨_, D, ys, rfl, rfl, .inl (SqL.of y1), by rw [y4]; omega, ?_⟩
  generalize Txt.join ("" : Str) ys = word at y2 y3
  have lw : 1 ≤ word.length ∧ word.length ≤ 8 := by omega
  have ltw := len_tl word
  have wne : tl word ≠ [] := fun e => by rw [e] at ltw; simp at ltw; omega
  have s13 := s1.trans (s2.trans y6)
  refine ⟨_, rfl, rfl, _, rfl, ?_⟩
  refine ite2 (fun c3 => ?_) (fun c3 => ?_)
  · refine ⟨_, rfl, _, rfl, _, _, rfl, ⟨Nat.le_of_lt (small1000 (by omega)), rfl⟩, _, _, rfl, rfl, S, L, _, rfl, y5, by omega, nb (by omega), fun at_ H4 a0 a1 l4 s4 => ?_⟩
    obtain ⟨k, ek⟩ : ∃ k : Nat, at_ = (k : Int) := ⟨at_.toNat, by omega⟩
    subst ek
    have lo : ("#@$&'\",/:>[]{}^_`|~\\\t" : Str).length = 21 := by decide +kernel
    have wo : Wd (tl ("#@$&'\",/:>[]{}^_`|~\\\t" : Str)) := Wd.of (by decide +kernel)
    have lto := len_tl ("#@$&'\",/:>[]{}^_`|~\\\t" : Str)
    have lw' : word.length ≤ sizeLine := Nat.le_of_lt (small1000 (by omega))
    have e0 : tl (cutS word none (some (k : Int))) = (tl word).take k := tl_cut0 word k
    have e1 : tl (cutS word (some (k : Int)) none) = (tl word).drop k := tl_cut1 word k
    have l0 := cutS_length word none (some (k : Int))
    have l1' := cutS_length word (some (k : Int)) none
    refine ⟨_, rfl, _, rfl, _, rfl, word, rfl, lw', _, rfl, _, rfl, _, rfl, _, _, rfl, ⟨by rw [lo]; decide, rfl⟩, S, L, _, rfl, l4, by rw [lo]; decide, by rw [lo]; exact nb (by decide), fun g2 H5 b0 b1 l5 s5 => ?_⟩
    rw [lo] at b1
    obtain ⟨c, ec, mc⟩ := atI_some (xs := tl ("#@$&'\",/:>[]{}^_`|~\\\t" : Str)) b0 (by rw [← lto, lo]; exact b1)
    have wc : Wd (tl (⟨#[c]⟩ : Str)) := by
      rw [one_tl]
      intro x hx
      rw [List.mem_singleton.mp hx]
      exact wo c mc
    have l1c : (⟨#[c]⟩ : Str).length = 1 := rfl
    refine ⟨_, g2, c, rfl, rfl, by rw [lo]; decide, ec, _, _, rfl, rfl, Nat.le_trans (Nat.add_le_add (show _ ≤ 8 by omega) (Nat.le_of_eq l1c)) (by decide), ?_⟩
    refine ⟨_, rfl, _, rfl, _, rfl, word, rfl, lw', _, _, rfl, rfl, ?_, ?_⟩
    · rw [app_len]
      exact Nat.le_trans (Nat.add_le_add (Nat.add_le_add (show _ ≤ 8 by omega) (Nat.le_of_eq l1c)) (show _ ≤ 8 by omega)) (by decide)
    · refine q _ H5 (add3 _ _ _ ?_ wc ?_ (by omega) ?_) l5 (s13.trans (s4.trans s5))
      · rw [e0]; exact y2.sub fun c hc => List.mem_of_mem_take hc
      · rw [e1]; exact y2.sub fun c hc => List.mem_of_mem_drop hc
      · rw [one_tl]
        intro z
        have := (List.append_eq_nil_iff.mp z).1
        simp at this
  refine ⟨_, rfl, rfl, _, rfl, ?_⟩
  refine ite2 (fun c4 => ?_) (fun c4 => ?_)
  · refine ev_pick (ys := ["-", "+", "...", "--1", "1-", "-1-", "+-", "1.5", "1a", "a1", ".", "=", "<=", "-0", "+0", "0"]) rfl y5 (by decide) (nb (by decide)) rfl (by decide) (fun H Q q => q) fun y H4 hy l4 s4 => ?_
    have wk : ∀ y ∈ (["-", "+", "...", "--1", "1-", "-1-", "+-", "1.5", "1a", "a1", ".", "=", "<=", "-0", "+0", "0"] : List Str), (tl y).isEmpty = false := by
      have e : (["-", "+", "...", "--1", "1-", "-1-", "+-", "1.5", "1a", "a1", ".", "=", "<=", "-0", "+0", "0"] : List Str).all (fun y => !(tl y).isEmpty) = true := by decide +kernel
      intro y hy
      simpa using List.all_eq_true.mp e y hy
    obtain ⟨wy, ly⟩ := fact_of (ys := ["-", "+", "...", "--1", "1-", "-1-", "+-", "1.5", "1a", "a1", ".", "=", "<=", "-0", "+0", "0"]) (by decide +kernel) y hy
    refine q y H4 ⟨fun e => ?_, wy, by omega⟩ l4 (s13.trans s4)
    have := wk y hy
    rw [e] at this
    cases this
  · exact ⟨_, rfl, q word H3 ⟨wne, y2, by omega⟩ y5 s13⟩
end
end My
namespace My
open PySem PySem.Spec PyProof.Rows L2 TL
/-! ### where one token at least is out: str.replace asks for it -/
structure FnT (P : Program) (w : World) (K : PySem.W.Frag) (mg : Str → Option Value) (base : Heap) (CX : CXT) (k : Nat) (f : Addr) (fd : FuncData) (ps : List Str) (sp : Sp) : Prop where
  len : ∀ vs H Q E, sp vs H Q E → vs.length = ps.length
  run : ∀ (A : Around) (outer : List Env) (s : Shared) (H : Hp) (args : Args) (us : List Value) (vs : List V) (Q : VK) (E : XK), 1 ≤ s.toks → Room k A → Env0 P w K mg base A outer s H →
    BindsTo s fd args (ps.zip us) → Vals vs us → sp vs H Q E → codeAny (model P w) A (.call (.ref f) args) (CR CX outer P w H s Q E) s
section
variable {P : Program} {w : World} {K : PySem.W.Frag} {mg : Str → Option Value} {base : Heap}
theorem funT {x : Str} {st : Stmt} {f : Addr} {fd : FuncData} {N ps : List Str} {k : Nat} {sp : Sp} {CX : CXT} (F : Fun K x x st f fd) (S : FnScope N ps (defScope st)) (len : ∀ vs H Q E, sp vs H Q E → vs.length = ps.length)
    (hbody : ∀ (cdv : Value) (A : Around) (outer : List Env) (s : Shared) (H : Hp) (vs : List V) (Q : VK) (E : XK), Room k (A.deeper (envOfC x (defScope st) s.heap.objs.size f cdv)) → sp vs H Q E →
      ∃ t, PSsT (cxOf CX P w K mg base N x (defScope st) f cdv A outer s H E) (defBody st) t ∧ t { nx := fun _ H' => Q .non H', rt := Q } (start N vs) H) :
    FnT P w K mg base CX (k + 1) f fd ps sp := by
  obtain ⟨oc, od, kV, doc, pm, an, cdv, ct, osl, efd, lk, hcd⟩ := F.ex
  subst efd
  refine ⟨len, fun A outer s H args us vs Q E k0 hr e0 hb rv hsp => ?_⟩
  have KX : K.In s.heap := e0.mod.kin.keeps fun b o e => (e0.bs b o e).1
  have nl : s.heap.NoLimit := e0.mod.nolimit.keeps fun b o e => (e0.bs b o e).1
  have hkind : ∀ y ∈ ps.zip us, (defScope st).names.lookup y.1 = some .local ∨ ((defScope st).names.lookup y.1 = some .cell ∧ ((cellsFrom (s.heap.objs.size + 1) (defScope st).names []).lookup y.1).isSome = true) := by
    rintro ⟨n, v⟩ hy
    rcases S.par n (List.of_mem_zip hy).1 with q | q
    · exact .inl q
    · exact .inr ⟨q, PySem.W.cellsFrom_some _ _ _ (.inl q)⟩
  refine codeAny_call_function hr.depth (KX _ _ lk) rfl S.co S.gen rfl (PySem.W.codeRec_of KX hcd) (hb _ _ _ _ ?_)
  refine wpAny_with_toks k0 (wpAny_newFunctionEnv_cells S.kind hkind fun env he s1 x k1 => ?_)
  subst he
  refine ⟨nl.keeps x.toInCall.keep, codeAny_func ?_⟩
  obtain ⟨t, ht, hq⟩ := hbody cdv A outer s H vs Q E (hr.deeper _) hsp
  have I := inv_start (CX := CX) (E := E) (mg := mg) (base := base) S hr.hd e0 (len _ _ _ _ hsp) rv x
  refine wpAny_mono (ht [] s1 (start N vs) H _ k1 I hq) (fun fl s' hs => ?_) fun e s' hs => hs
  cases fl with
  | ret u =>
    obtain ⟨v, σ', H', J, r2, q⟩ := hs
    exact ⟨v, H', J.os, J.bare, J.base, J.hok, r2, q⟩
  | next =>
    obtain ⟨σ', H', J, q⟩ := hs
    exact ⟨V.non, H', J.os, J.bare, J.base, J.hok, rfl, q⟩
  | brk =>
    obtain ⟨_, _, _, q⟩ := hs
    exact False.elim q
  | cont =>
    obtain ⟨_, _, _, q⟩ := hs
    exact False.elim q
end
section
variable {X : Cx}
theorem pet_call {CX : CXT} {k : Nat} {f : Addr} {fd : FuncData} {ps : List Str} {sp : Sp} {E : XK} {x : Str} {p pos : Pos} {e : Expr} {es : List Expr} {t : TA} (F : FnT X.prog X.w X.K X.mg X.base CX k f fd ps sp) (hr : Room k X.A) (hg : Gl X x)
    (hm : X.mg x = some (.ref f)) (hk : PySem.W.keepIn X.K (.ref f) = true) (hb : Binds X.K fd ps []) (hx : Passes CX X E) (ha : PA X (e :: es) t) (hdb : (x == ("__debug__" : Str)) = false := by decide)
    (he : starEach (e :: es) X.env = (false, eval e X.env) :: starEach es X.env := by rfl) (hpl : (backTo pos (starEach es X.env)).any (·.1) = false := by rfl) : PET X (.Call (.Name x p) (e :: es) [] pos) (tCall sp [] E t) := by
  intro pins s σ H Q k0 I h
  refine wpAny_Call_Name_kw (ld_glob I hg hm ?_ hdb)
  refine PySem.W.callWith_K (h₀ := X.base) I.ok.mod.kin hk (wpAny_mono (wpAny_toks_of k0 (ha.run pos pins s σ H _ I h)) (fun us s1 hh => ?_) fun _ _ z => z.2) he hpl
  obtain ⟨k1, vs, H1, J, rv, q⟩ := hh
  have q' : sp vs H1 Q E := by
    have := q
    rw [List.append_nil] at this
    exact this
  have hl : us.length = ps.length := by rw [← rv.length]; exact F.len _ _ _ _ q'
  have bd := hb s1 us J.kIn (by rw [List.append_nil]; exact hl)
  rw [List.append_nil] at bd
  refine ⟨J.kIn, wpAny_call (codeAny_mono (F.run X.A X.stack s1 H1 ⟨us, []⟩ us vs Q E k1 hr J.env0 bd rv q') fun r s' hq => ?_)⟩
  cases r with
  | error er => exact hx pins σ H1 s1 er s' J hq
  | ok fl =>
    cases fl with
    | ret u => exact J.after hq
    | next => exact False.elim hq
    | brk => exact False.elim hq
    | cont => exact False.elim hq
theorem pst_set {i : Nat} {x : Str} {e : Expr} {te : TE} {pos pos' : Pos} (hN : X.N.Nodup) (hi : X.N[i]? = some x) (hx : Loc X.env.scope x) (he : PET X e te) (hs : swapsWith e (some (.Name x pos')) pos.line X.env = pure false := by rfl)
    (hf : X.fn x = true ∨ X.env.scope.names.lookup x = some .local := by first | exact .inl rfl | exact .inr rfl | assumption) : PST X (.Assign [.Name x pos'] e pos) (tAsg te (gName i)) := by
  intro pins s σ H D k0 I h
  refine wpAny_Assign_Name (thn (he pins s σ H _ k0 I h) fun v s1 hh => ?_) hs
  obtain ⟨y, H1, J, r1, q⟩ := hh
  exact store_ok J hN hi hx r1 (fun s2 I2 => ⟨_, H1, I2, q⟩) hf
/-- what is walked, one token out behind it -/
def PIB (X : Cx) (tg iter : Expr) (wi : TI) : Prop := ∀ (pins : List (Addr × Obj)) (s : Shared) (σ : L2.St) (H : Hp) (R : It → Hp → Prop), L2.Inv X pins σ H s → wi σ H R →
  wpAny (model X.prog X.w) X.A (eval iter X.env) (fun v s1 => 1 ≤ s1.toks ∧ wpAny (model X.prog X.w) X.A (pyIter v) (PIE X pins σ tg R) X.xe s1) X.xe s
theorem pib_range {tg : Expr} {c : Int} {j : Nat} {cp p pos : Pos} (hg : Gl X "range") (hm : X.mg "range" = none)
    (hs : starEach [.Constant (.int c) j cp] X.env = [(false, eval (.Constant (.int c) j cp) X.env)] := by rfl) : PIB X tg (.Call (.Name "range" p) [.Constant (.int c) j cp] [] pos) (iRng1 (tCons (tC (.int c)) tNil)) := by
  intro pins s σ H R I h
  obtain ⟨n, e, b1, b2, q⟩ := h
  have en : c = n := by injection e with e1; injection e1
  subst en
  refine Call_ (ld_blt I hg hm boot_range (PyProof.Rows.callWith_type1 ?_ hs rfl))
  rw [hs]
  show wpAny _ _ (spliced ((false, eval (.Constant (.int c) j cp) X.env) :: backTo pos [])) _ _ s
  refine Calls.spliced_cons (wpAny_Constant_int (Calls.spliced_nil ?_))
  refine wpAny_mono (wpAny_toks_of (n := 1) (by show 1 ≤ s.toks + 1; omega) (call_range_1 (range_it (I.tok (s.toks + 1)) (by omega) (by omega) b1 b2 (by simpa using q)))) (fun v s1 z => z) fun _ _ z => z.2
theorem ps_forB {tg iter : Expr} {body : List Stmt} {wi : TI} {g : TG} {tb : TS} {pos : Pos} (hp : PassesOwn (model X.prog X.w) X.A X.env X.xe) (hc : X.calm = true) (hi : PIB X tg iter wi) (hg : PG X tg g) (hb : PSsT X body tb)
    (hs : ∀ x, foldedSetIterable iter X.env x = pure x := by intro _; rfl) : PS X (.For tg iter body [] pos) (tFor wi g tb) := by
  refine ⟨fun pins s σ H D I h => wpAny_For (thn (hi pins s σ H _ I h) fun v s1 h1 => wpAny_mono (wpAny_toks_of h1.1 h1.2) (fun itv s2 hx => ?_) fun _ _ z => z.2) hs⟩
  obtain ⟨k2, it, fp, tn, J, H2, ev, I2, T, st2, f2, W, ⟨m0, w0⟩, turn⟩ := hx
  subst ev
  have still : ∀ {H' : Hp}, (∀ b ∈ fp, H' b = none) → ∀ b ∈ fp, FpOk X pins H' b := fun hn b hb => ⟨hn b hb, (f2 b hb).2⟩
  refine codeAny_forLoop_any (fun n z => 1 ≤ z.toks ∧ ∃ i σ' H', L2.Inv X pins σ' H' z ∧ tn i z.heap ∧ (∀ b ∈ fp, H' b = none) ∧ W i n σ' H') ?_ m0 ⟨k2, 0, σ, H2, I2, st2, fun b hb => (f2 b hb).1, w0⟩
  rintro n s3 ⟨k3, i, σ3, H3, I3, st3, fr3, w3⟩
  rcases turn i n σ3 H3 w3 with ⟨stop, qn⟩ | ⟨go, N, hN, step⟩
  · refine wpAny_passesOwn hp (thn (T.done X rfl rfl rfl hc i pins s3 σ3 H3 X.xe I3 (still fr3) st3 stop) fun r s4 z => ?_)
    obtain ⟨hr, I4⟩ := z
    subst hr
    exact wpAny_execs_nil ⟨σ3, H3, I4, qn⟩
  refine wpAny_passesOwn hp (wpAny_mono (wpAny_toks_of k3 (T.item X rfl rfl rfl hc i pins s3 σ3 H3 X.xe I3 (still fr3) st3 go)) (fun r s4 z => ?_) fun _ _ z => z.2)
  obtain ⟨k4, u, hr, h4⟩ := z
  subst hr
  refine wpAny_passesOwn hp (wpAny_mono (wpAny_toks_of k4 h4) (fun _ s5 z => ?_) fun _ _ z => z.2)
  obtain ⟨k5, x, H5, I5, r5, y5, st5, fr5⟩ := z
  have pinned := I5.pinned (still fr5) (T.obj _ _ st5)
  refine wpAny_passesOwn hp (wpAny_mono (wpAny_toks_of k5 (hg.run _ s5 σ3 H5 x u _ pinned r5 (step x H5 y5))) (fun _ s6 z => ?_) fun _ _ z => z.2)
  obtain ⟨k6, σ6, H6, I6, q6⟩ := z
  refine wpAny_passesOwn hp (wpAny_mono (wpAny_toks_of k6 (hb _ s6 σ6 H6 _ k6 I6 q6)) (fun f s7 z => ?_) fun _ _ z => z.2)
  obtain ⟨k7, q7⟩ := z
  have pin : ∀ b ∈ fp, ∀ o, s5.heap.get? b = some o → (b, o) ∈ X.pn ++ (pins ++ pinsAt fp s5.heap) := fun b hb o e => List.mem_append_right _ (List.mem_append_right _ (mem_pinsAt hb e))
  have again : ∀ (σ7 : L2.St) (H7 : Hp), L2.Inv X (pins ++ pinsAt fp s5.heap) σ7 H7 s7 → N σ7 H7 → ∃ m, m < n ∧ 1 ≤ s7.toks ∧ ∃ i σ' H', L2.Inv X pins σ' H' s7 ∧ tn i s7.heap ∧ (∀ b ∈ fp, H' b = none) ∧ W i m σ' H' := by
    intro σ7 H7 I7 n7
    obtain ⟨m', hm, w7⟩ := hN σ7 H7 n7
    refine ⟨m', hm, k7, i + 1, σ7, H7, I7.unpinned, T.keep _ _ _ st5 fun b hb o e => (I7.pin (b, o) (pin b hb o e)).1, fun b hb => ?_, w7⟩
    obtain ⟨o, e, _⟩ := T.obj _ _ st5 b hb
    exact (I7.pin (b, o) (pin b hb o e)).2.1
  cases f with
  | next =>
    obtain ⟨σ7, H7, I7, n7⟩ := q7
    exact again σ7 H7 I7 n7
  | cont =>
    obtain ⟨σ7, H7, I7, n7⟩ := q7
    exact again σ7 H7 I7 n7
  | brk =>
    obtain ⟨σ7, H7, I7, q8⟩ := q7
    exact ⟨σ7, H7, I7.unpinned, q8⟩
  | ret v =>
    obtain ⟨x7, σ7, H7, I7, r7, q8⟩ := q7
    exact ⟨x7, σ7, H7, I7.unpinned, r7, q8⟩
end
end My
namespace My
open PySem PySem.Spec PyProof.Rows L2 TL
theorem dig_filter {l : List Nat} (h : l.all isDig = true) : (l.filter (· != 45)).filter (· != 43) = l := by
  have a : ∀ c ∈ l, c ≠ 45 ∧ c ≠ 43 := fun c hc => by
    have := (isDig_iff c).mp (List.all_eq_true.mp h c hc)
    omega
  have e1 : l.filter (· != 45) = l := List.filter_eq_self.mpr fun c hc => by simp [(a c hc).1]
  have e2 : l.filter (· != 43) = l := List.filter_eq_self.mpr fun c hc => by simp [(a c hc).2]
  rw [e1, e2]
theorem made_filter {l : List Nat} (h : madeNum l = true) : (l.filter (· != 45)).filter (· != 43) = body l := by
  unfold madeNum at h
  rw [Bool.and_eq_true] at h
  cases l with
  | nil => cases h.1
  | cons c r =>
    have hd := h.2
    by_cases hc : c = 45 ∨ c = 43
    · have eb : body (c :: r) = r := by simp [body, hc]
      rw [eb] at hd ⊢
      rcases hc with hc | hc <;> subst hc
      · show (r.filter (· != 45)).filter (· != 43) = r
        exact dig_filter hd
      · show ((43 :: r.filter (· != 45)).filter (· != 43)) = r
        show (r.filter (· != 45)).filter (· != 43) = r
        exact dig_filter hd
    · have eb : body (c :: r) = c :: r := by simp [body, hc]
      rw [eb] at hd ⊢
      exact dig_filter hd
theorem made_body {l : List Nat} (h : madeNum l = true) (n : l.head? ≠ some 43) : noMinus l = body l := by
  cases l with
  | nil => rfl
  | cons c r =>
    have n' : c ≠ 43 := fun e => n (by rw [e]; rfl)
    by_cases e : c = 45
    · simp [noMinus, body, e]
    · simp [noMinus, body, e, n']
def dueV (l : List Nat) : V := (wordV l).getD .non
theorem due_num {l : List Nat} (h : madeNum l = true) : dueV l = if isIntL l = true then .int ((intText? (mkS l)).getD 0) else .non := by
  unfold dueV wordV
  by_cases e : isIntL l = true
  · rw [if_pos e, if_pos e]; rfl
  · have s : ¬ isSymL l = true := by
      unfold isSymL; rw [h]; simp
    rw [if_neg e, if_neg e, if_neg s]; rfl
theorem due_sym {l : List Nat} (h : madeNum l = false) (n : l ≠ []) : dueV l = if l.all isSym = true then .str (mkS l) else .non := by
  have e : ¬ isIntL l = true := by unfold isIntL; rw [h]; simp
  have ne : l.isEmpty = false := by cases l with
    | nil => exact absurd rfl n
    | cons a r => rfl
  have s : isSymL l = l.all isSym := by unfold isSymL; rw [h, ne]; rfl
  unfold dueV wordV
  rw [if_neg e, s]
  cases l.all isSym <;> rfl
def spDue : Sp := fun vs H Q _ => ∃ z : Str, vs = [.str z] ∧ WordOk z ∧ ∀ H', Sm No H H' → Q (dueV (tl z)) H'
abbrev sDue : Stmt := top 29
theorem one_dec (a b : Nat) (y : Str) (e : tl y = [b]) : decide (V.str ⟨#[a]⟩ = V.str y) = decide (a = b) := by
  rw [dec_str_tl, e]
  show decide ([a] = [b]) = decide (a = b)
  by_cases h : a = b
  · rw [decide_eq_true h, decide_eq_true (by rw [h])]
  · rw [decide_eq_false h, decide_eq_false (fun e => h (List.cons.inj e).1)]
section
variable {P : Program} {w : World} {K : PySem.W.Frag} {mg : Str → Option Value} {base : Heap}
theorem scDue : FnScope ["word", "digits", "signs", "sign"] ["word"] (defScope sDue) := ⟨rfl, rfl, rfl, by decide +kernel, rfl, by decide +kernel, by decide +kernel⟩
theorem ok_due {f fN : Addr} {fd dN : FuncData} (F : Fun K "_law_due" "_law_due" sDue f fd) (B : Blt mg) (G : Cal P w K mg base CX0 1 "_law_is_numeral" ["word"] (spTxt madeNum []) fN dN) : FnT P w K mg base CX0 2 f fd ["word"] spDue := by
  refine funT F scDue (fun vs H Q E h => ?_) (fun cdv A outer s H vs Q E hr h => ?_)
  · obtain ⟨z, rfl, _⟩ := h
    rfl
  obtain ⟨z, rfl, hz, q⟩ := h
  obtain ⟨z1, z2, z3⟩ := hz
  have nd := scDue.nd
  refine ⟨_, psst_cons (CwR.pst_if (pt_val (pe_call G.ok hr rfl G.g G.k G.b .nil pass0 (pa_cons (pv 0) pa_nil)))
      (psst_cons (pst_set (i := 1) nd rfl (Or.inl rfl) (CwR.pet_replT (CwR.pet_replC (pv 0) (by decide +kernel)) (by decide +kernel)))
        (PSsT.of (pss_cons (ps_if (PW.pt (pw_or (pt_cmpR op_eq (pe_ix ix_str (pv 0) pe_int (fun _ _ => rfl)) pe_str (nomark _)) (pw_or (pt_cmpR op_gt (pe_callB call_len (by rfl) B.len PySem.boot_len (pa_cons (pv 1) pa_nil)) pe_int (nomark _))
            (pw_or1 (PW.pt (pw_and (pt_cmpR op_eq (pe_ix ix_str (pv 1) pe_int (fun _ _ => rfl)) pe_str (nomark _)) (pw_and1 (pt_cmpR op_ne (pv 0) pe_str (nomark _)))))))))
          (pss_one (ps_ret pe_non)) pss_nil)
        (pss_one (ps_ret (pe_callTy call_int_str (by rfl) B.int (by decide +kernel) (pa_cons (pv 0) pa_nil))))))) CwR.psst_nil)
    (PSsT.of (pss_cons (ps_set (i := 2) nd rfl (Or.inr rfl) pe_str)
      (pss_cons (ps_if (pt_cmpR op_gt (pe_callB call_len (by rfl) B.len PySem.boot_len (pa_cons
          (pe_lc (own := [("sign", 3)]) (g := gName 3) rfl nd (pi_str (pv 0)) (blkOk_by (N := ["word", "digits", "signs", "sign"]) (sc := defScope sDue) (by decide +kernel)) (fun _ _ _ _ _ => pg_name (i := 3) nd rfl (Or.inl rfl))
            (fun _ _ _ _ _ => pts_one (pt_cmpR op_notIn_sign (pv 3) (pv 2) (by rfl))) (fun _ _ _ _ _ => pv 3)) pa_nil)) pe_int (nomark _)) (pss_one (ps_ret pe_non)) pss_nil)
      (pss_one (ps_ret (pv 0)))))), ?_⟩
  have hzb : z.length ≤ big := Nat.le_trans z3 (by decide)
  have lz := len_tl z
  have e48 : tl ("0" : Str) = [48] := by decide +kernel
  refine ⟨_, rfl, z, rfl, hzb, (fun p hp => absurd hp (by simp)), fun H1 s1 => ⟨_, rfl, ?_⟩⟩
  cases hm : madeNum (tl z) with
  | true =>
    have ey : ("-" : Str) = ⟨#[45]⟩ := by decide +kernel
    have ep : ("+" : Str) = ⟨#[43]⟩ := by decide +kernel
    have e0 : ("" : Str) = ⟨#[]⟩ := by decide +kernel
    have f1 : tl (Txt.replace z ("-" : Str) ("" : Str)) = (tl z).filter (· != 45) := by
      rw [ey, e0]; exact replace_strikes z 45
    have f2 : tl (Txt.replace (Txt.replace z ("-" : Str) ("" : Str)) ("+" : Str) ("" : Str)) = body (tl z) := by
      rw [← made_filter hm, ← f1, ep, e0]
      exact replace_strikes _ 43
    have n0 : ("" : Str).length = 0 := by decide +kernel
    have l1 : (Txt.replace z ("-" : Str) ("" : Str)).length ≤ 100 := by
      rw [len_tl, f1]
      exact Nat.le_trans (List.length_filter_le _ _) (by omega)
    refine ⟨_, rfl, _, rfl, by rw [n0]; omega, _, rfl, by rw [n0]; omega, ?_⟩
    generalize Txt.replace (Txt.replace z ("-" : Str) ("" : Str)) ("+" : Str) ("" : Str) = d at f2
    have ld := len_tl d
    rw [f2] at ld
    have lb : (body (tl z)).length ≤ (tl z).length := by
      rw [← made_filter hm]
      exact Nat.le_trans (List.length_filter_le _ _) (List.length_filter_le _ _)
    have dV := due_num hm
    cases hx : tl z with
    | nil => exact absurd hx (made_ne hm)
    | cons c0 r0 =>
      have g0 : isIntL (tl z) = ((tl z).head? != some 43 && (decide ((noMinus (tl z)).length ≤ 40) && (tl z == [48] || (noMinus (tl z)).head? != some 48))) := by
        unfold isIntL; rw [hm]; rfl
      have ea : atI z.cps.toList 0 = some c0 := by
        show atI (tl z) 0 = some c0
        rw [hx]; exact at0 _ _
      have ldl : d.length ≤ sizeLine := Nat.le_trans (show d.length ≤ 100 by omega) (by decide)
      refine ⟨_, rfl, z, _, c0, rfl, rfl, big_line hzb, ea, rfl, _, rfl, ?_⟩
      rw [one_dec c0 43 "+" (by decide +kernel)]
      by_cases h43 : c0 = 43
      · have g : isIntL (tl z) = false := by rw [g0, hx, h43]; rfl
        rw [decide_eq_true h43]
        have r := q H1 s1
        rw [dV, g] at r
        exact r
      have hh : (tl z).head? ≠ some 43 := by rw [hx]; intro e; exact h43 (Option.some.inj e)
      have en := made_body hm hh
      rw [en] at g0
      rw [decide_eq_false h43]
      refine ⟨_, rfl, _, _, rfl, ⟨ldl, rfl⟩, _, _, rfl, rfl, _, rfl, ?_⟩
      rw [ld]
      by_cases h40 : (body (tl z)).length ≤ 40
      · rw [decide_eq_false (by omega)]
        have bne : body (tl z) ≠ [] := fun e => by
          unfold madeNum at hm
          rw [e] at hm
          cases hm
        cases hb : body (tl z) with
        | nil => exact absurd hb bne
        | cons d0 dr =>
          have ead : atI d.cps.toList 0 = some d0 := by
            show atI (tl d) 0 = some d0
            rw [f2, hb]; exact at0 _ _
          have fin : isIntL (tl z) = true → tCB (fun xs H Q => ∃ x n, xs = [V.str x] ∧ intText? x = some n ∧ x.length ≤ 640 ∧ Q (.int n) H) (tCons (tVar 0) tNil) [some (V.str z), some (V.str d), none, none] H1 Q := fun hi => by
            obtain ⟨⟨n, hn⟩, hl⟩ := isInt_text hi
            refine ⟨_, rfl, z, n, rfl, hn, hl, ?_⟩
            have r := q H1 s1
            rw [dV, hi, if_pos rfl, mkS_tl, hn] at r
            exact r
          have n1 : ((tl z).head? != some 43) = true := by rw [bne_iff_ne]; exact hh
          refine ⟨_, rfl, d, _, d0, rfl, rfl, ldl, ead, rfl, _, rfl, ?_⟩
          rw [one_dec d0 48 "0" e48]
          by_cases h0 : d0 = 48
          · rw [decide_eq_true h0]
            refine ⟨_, rfl, rfl, _, rfl, ?_⟩
            rw [dec_str_tl, e48]
            by_cases hw : tl z = [48]
            · rw [decide_eq_true hw]
              have g : isIntL (tl z) = true := by rw [hw]; decide
              exact fin g
            · rw [decide_eq_false hw]
              have n2 : (tl z == [48]) = false := beq_eq_false_iff_ne.mpr hw
              have g : isIntL (tl z) = false := by
                rw [g0, n1, n2, hb, h0]
                simp
              have r := q H1 s1
              rw [dV, g] at r
              exact r
          · rw [decide_eq_false h0]
            have g : isIntL (tl z) = true := by
              rw [g0, n1, decide_eq_true h40, hb]
              simp [h0]
            exact fin g
      · rw [decide_eq_true (by omega)]
        have g : isIntL (tl z) = false := by
          rw [g0, decide_eq_false h40]
          simp
        have r := q H1 s1
        rw [dV, g] at r
        exact r
  | false =>
    have dV := due_sym hm z1
    refine ⟨_, rfl, z, rfl, fun D hD => ?_⟩
    have hD0 : H D = none := s1.dom D hD
    refine lc_str (fun i H2 => ∃ acc, H2 D = some (.lst acc) ∧ acc.length = (((tl z).take i).filter fun c => !isSym c).length ∧ Sm No H H2) ⟨[], upd_same, rfl, s1.mut hD0 fun ps z => by rw [hD] at z; cases z⟩ ?_ ?_
    · rintro i c H2 hc ⟨acc, a1, a2, a3⟩
      have i1 : i < (tl z).length := (List.getElem?_eq_some_iff.mp hc).1
      have la : acc.length ≤ (tl z).length := by
        rw [a2]
        exact Nat.le_trans (List.length_filter_le _ _) (by rw [List.length_take]; omega)
      have em : (((tl z).take (i + 1)).filter fun c => !isSym c).length = (((tl z).take i).filter fun c => !isSym c).length + (if isSym c then 0 else 1) := by
        rw [take_more hc, List.filter_append, List.length_append]
        congr 1
        cases h : isSym c <;> simp [h]
      refine ⟨rfl, _, rfl, _, rfl, c, _, rfl, rfl, _, rfl, ?_⟩
      have sd : decide (c ∈ ("abcdefghijklmnopqrstuvwxyzABCDEFGHIJKLMNOPQRSTUVWXYZ0123456789-+*<=?!." : Str).cps.toList) = isSym c := rfl
      rw [sd]
      cases h : isSym c with
      | true => exact ⟨acc, a1, by rw [em, h, a2]; rfl, a3⟩
      | false =>
        exact ⟨_, rfl, acc, a1, small1000 (by omega), acc ++ [V.str ⟨#[c]⟩], upd_same, by rw [em, h, List.length_append, a2]; rfl, a3.mut hD0 (ntbl_l a1)⟩
    · rintro H2 ⟨acc, a1, a2, a3⟩
      rw [List.take_length] at a2
      refine ⟨_, _, rfl, .inl ⟨_, SqL.of a1, rfl⟩, _, _, rfl, rfl, _, rfl, ?_⟩
      have r := q H2 a3
      by_cases ha : (tl z).all isSym = true
      · have := (filt0 isSym (tl z)).mpr ha
        rw [decide_eq_false (by omega)]
        rw [dV, if_pos ha, mkS_tl] at r
        exact ⟨_, rfl, r⟩
      · have : acc.length ≠ 0 := fun e => ha ((filt0 isSym (tl z)).mp (by omega))
        rw [decide_eq_true (by omega)]
        rw [dV, if_neg ha] at r
        exact r
end
end My
namespace My
open PySem PySem.Spec PyProof.Rows L2 TL
/-! ### isinstance of a caught error that has fields -/
def rIsD (K : PySem.W.Frag) (C a : Addr) (cls : Value) (d : Option Addr) : List V → Hp → VK → Prop := fun xs H Q => ∃ (c : V) (cv : Value) (b : Bool) (dd : Addr) (fs : List (Str × V)), xs = [.ref a, c] ∧ (∀ u, RelV c u → u = cv) ∧
  cls = .ref C ∧ d = some dd ∧ H dd = some (.xd fs) ∧ PySem.W.kitOne K (.ref C) cv = some b ∧ Q (.bl b) H
theorem call_isD {X : Cx} {a C : Addr} {cls : Value} {d : Option Addr} {oe : Obj} {pn : List (Addr × Obj)} (T : ExcC X.K C) (hz : Zc cls d oe) (hf : ∃ vs, oe.data = .fields vs) : CallR (X.suite a ((a, oe) :: pn)) (.builtin "isinstance") (rIsD X.K C a cls d) := by
  intro pins s σ H xs us Q I r h
  obtain ⟨c, cv, b, dd, fs, rfl, hcv, ec, ed, hd, e, q⟩ := h
  obtain ⟨u1, u2, rfl, r1, r2⟩ := vals2 r
  obtain rfl : u1 = Value.ref a := r1
  have e2 := hcv _ r2
  subst e2 ec ed
  obtain ⟨ha, _⟩ := I.pin (a, oe) (List.mem_append_left _ List.mem_cons_self)
  obtain ⟨vs, hv⟩ := hf
  obtain ⟨mA, hns, hr⟩ := (show ObjOk X.prog X.w H s.heap dd (.xd fs) from I.hok dd _ hd)
  obtain ⟨od, ho, hl⟩ := lookIn_ns hns
  have J : PySem.W.InstAt s.heap a oe C (some od) := ⟨ha, hz.1, by unfold PySem.W.notCls; rw [hv] <;> rfl, by rw [hz.2]; exact ho⟩
  obtain ⟨cd, hc, _⟩ := PySem.W.any_some T.hd
  exact PySem.W.kia_one (PySem.W.kitx_exc (by rw [hc]; rfl) T.hg T.hk T.hs T.ha T.hn T.ht T.hm) I.kIn J e (fun z => nomatch z) fun tk => ⟨.bl b, H, I.tok tk, rfl, q⟩
abbrev sTold : Stmt := top 30
/-- [told, value] -/
def spTold (X : Errs) (Ps : List Addr) : Sp := fun vs H Q _ => ∃ z : Str, vs = [.str z] ∧ z.length ≤ big ∧ (∀ p ∈ Ps, GxR.TabG H p) ∧
  ((∃ ds, run (z.length + 1) (tl z) 0 [[]] = .ok ds ∧ ∀ (D L : Addr) (vs : List V) (H' : Hp), Sm No H H' → H L = none → H' L = some (.lst [.str "read", .ref D]) → H' D = some (.lst vs) → RepL All H' vs ds → Q (.ref L) H') ∨
   (∃ i, run (z.length + 1) (tl z) 0 [[]] = .word i ∧ ∀ (L : Addr) (H' : Hp), Sm No H H' → H L = none → H' L = some (.lst [.str "wrong", .int (i : Nat)]) → Q (.ref L) H'))
/-- the classes that are asked -/
structure ToldC (K : PySem.W.Frag) (mg : Str → Option Value) (X : Errs) (F : Addr) : Prop where
  n : mg "FoldError" = some (.ref F)
  gw : mg "InvalidWord" = some (.ref X.w)
  ge : mg "UnexpectedEnd" = some (.ref X.e)
  ex : PySem.W.exmOne K (.ref X.w) (.ref F) = some true
  c : ExcC K X.w
  x : XfC K X.w
  no : PySem.W.findIn K (.ref X.w) "at" = some none
  k1 : PySem.W.kitOne K (.ref X.w) (.ref X.w) = some true
  k2 : PySem.W.kitOne K (.ref X.w) (.ref X.e) = some false
section
variable {P : Program} {w : World} {K : PySem.W.Frag} {mg : Str → Option Value} {base : Heap}
theorem scTold : FnScope ["text", "e"] ["text"] (defScope sTold) := ⟨rfl, rfl, rfl, by decide +kernel, rfl, by decide +kernel, by decide +kernel⟩
theorem ok_told {f fP F0 P1 P2 : Addr} {fd dP : FuncData} {X : Errs} (F : Fun K "_law_told" "_law_told" sTold f fd) (B : Blt mg) (T : ToldC K mg X F0) (G : Cal P w K mg base (L2.CX P w) 5 "parse_all" ["text"] (spParse X [P1, P2]) fP dP) : FnOk P w K mg base CX0 6 f fd ["text"] (spTold X [P1, P2]) := by
  refine F.ok scTold (fun vs H Q E h => ?_) (fun cdv A outer s H vs Q E hr h => ?_)
  · obtain ⟨z, rfl, _⟩ := h
    rfl
  obtain ⟨z, rfl, hz, ht, q⟩ := h
  have nd := scTold.nd
  have isb : bootBuiltins "isinstance" = some (.builtin "isinstance") := by decide +kernel
  refine ⟨_, pss_one (ps_try_as (i := 1) (Wout := fun _ _ _ _ => False) rfl rfl nd rfl rfl (c := .ref F0) ⟨rfl, by decide +kernel, .inl T.n⟩ (fun u s' ⟨a, B, sI, pins, σ, H, cls, d, e, I, nb, up, sky, na, os, ag, w⟩ => w.elim)
      (fun W pn xe tk _ => pss_one (ps_ret (pe_lst (pa_cons pe_str (pa_cons (pe_callS G.ok hr rfl G.g G.k G.b (fun σ => passAt tk σ) (pa_cons (pv 0) pa_nil)) pa_nil)))))
      (fun a oe cls d pn hzc hf => pss_cons (ps_if (PW.pt (pw_or (pt_not (pt_val (pe_callB (call_isD T.c hzc hf) (by rfl) B.isinstance isb (pa_cons (pv 1) (pa_cons (pe_glob (v := .ref X.w) rfl T.gw rfl) pa_nil)))))
          (pw_or (pt_val (pe_callB (call_isD T.c hzc hf) (by rfl) B.isinstance isb (pa_cons (pv 1) (pa_cons (pe_glob (v := .ref X.e) rfl T.ge rfl) pa_nil))))
          (pw_or1 (pt_val (pe_callB (r := rIsi K) call_isi (by rfl) B.isinstance isb (pa_cons (pe_xf T.x T.no hzc hf (pv 1)) (pa_cons (pe_bltn (v := .ty "bool") (by rfl) B.bool (by decide +kernel) rfl) pa_nil))))))))
        (pss_one (ps_ret (pe_lst (pa_cons pe_str (pa_cons pe_int pa_nil))))) pss_nil)
        (pss_one (ps_ret (pe_lst (pa_cons pe_str (pa_cons (pe_xf T.x T.no hzc hf (pv 1)) pa_nil))))))), ?_⟩
  refine ⟨_, rfl, z, rfl, hz, ht, ?_⟩
  rcases q with ⟨ds, e, q⟩ | ⟨i, e, q⟩
  · rw [e]
    intro D vs C H' sm hD hC nC hv hr
    refine ⟨by show 2 ≤ sizeLine; decide, fun p hp => ?_⟩
    have np : D ≠ p := fun z => by rw [z, hp] at hv; cases hv
    exact q D p vs _ (sm.trans (Sm.new hp)) (sm.dom p hp) upd_same (by rw [upd_ne np]; exact hv) (hr.sm (Sm.new hp)).all
  · rw [e]
    intro H' d sm hd hx
    refine ⟨true, T.ex, fun _ a ha => ?_, fun z => nomatch z⟩
    refine ⟨_, rfl, .ref X.w, .ref X.w, true, d, _, rfl, (fun u r => r), rfl, rfl, hx, T.k1, _, rfl, ?_⟩
    refine ⟨_, rfl, .ref X.e, .ref X.e, false, d, _, rfl, (fun u r => r), rfl, rfl, hx, T.k2, _, rfl, ?_⟩
    refine ⟨_, rfl, rfl, rfl, d, _, _, rfl, hx, rfl, _, _, .type "int", .type "bool", false, rfl, .ty "bool", .base (.int _), kit_ty (by decide +kernel), _, rfl, ?_⟩
    refine ⟨_, rfl, rfl, rfl, d, _, _, rfl, hx, rfl, by show 2 ≤ sizeLine; decide, fun p hp => ?_⟩
    exact q p _ (sm.trans (Sm.new hp)) (sm.dom p hp) upd_same
end
end My
namespace My
open PySem PySem.Spec PyProof.Rows L2 TL
/-! ### the reading of a text of words -/
def Runs (l : List Nat) (i : Nat) (st : List (List Dat)) (out : Out) : Prop := ∀ n, l.length < n → run n l i st = out
def Parted (r : List Nat) : Prop := r = [] ∨ ∃ c t, r = c :: t ∧ noEnd c = false
theorem span_wd {w r : List Nat} (hw : Wd w) (hr : Parted r) : (w ++ r).takeWhile noEnd = w ∧ (w ++ r).dropWhile noEnd = r := by
  induction w with
  | nil =>
    rcases hr with e | ⟨c, t, e, h⟩
    · subst e; exact ⟨rfl, rfl⟩
    · subst e
      refine ⟨?_, ?_⟩
      · rw [List.nil_append, List.takeWhile_cons, h]; rfl
      · rw [List.nil_append, List.dropWhile_cons, h]; rfl
  | cons c w ih =>
    have hc := hw c List.mem_cons_self
    obtain ⟨i1, i2⟩ := ih fun x hx => hw x (List.mem_cons_of_mem _ hx)
    refine ⟨?_, ?_⟩
    · rw [List.cons_append, List.takeWhile_cons, hc, i1]; rfl
    · rw [List.cons_append, List.dropWhile_cons, hc, i2]; rfl
theorem Runs.done {i : Nat} {ds : List Dat} : Runs [] i [ds] (.ok ds) := fun n h => by
  cases n with
  | zero => cases h
  | succ m => rfl
theorem Runs.blank {c : Nat} {r : List Nat} {i : Nat} {st : List (List Dat)} {out : Out} (hc : c = 32 ∨ c = 10) (h : Runs r (i + 1) st out) : Runs (c :: r) i st out := fun n hn => by
  cases n with
  | zero => cases hn
  | succ m =>
    have lt : r.length < m := Nat.lt_of_succ_lt_succ hn
    have n1 : c ≠ 59 := by omega
    have n2 : c ≠ 40 := by omega
    have n3 : c ≠ 41 := by omega
    unfold run
    rw [if_neg n1, if_neg n2, if_neg n3, if_pos hc]
    exact h m lt
theorem no_end {c : Nat} (h : noEnd c = true) : c ≠ 59 ∧ c ≠ 40 ∧ c ≠ 41 ∧ ¬ (c = 32 ∨ c = 10) := by
  have e : isEnd c = false := by
    unfold noEnd at h
    cases q : isEnd c with
    | false => rfl
    | true => rw [q] at h; cases h
  have z : ¬ (c = 32 ∨ c = 10 ∨ c = 40 ∨ c = 41 ∨ c = 59) := fun z => by
    rw [(isEnd_iff c).mpr z] at e; cases e
  omega
theorem Runs.word {w r : List Nat} {i : Nat} {t : List Dat} {st : List (List Dat)} {out : Out} {v : V} (ne : w ≠ []) (hw : Wd w) (hr : Parted r) (hv : wordV w = some v) (h : Runs r (i + w.length) ((t ++ [datOf v]) :: st) out) : Runs (w ++ r) i (t :: st) out := fun n hn => by
  obtain ⟨s1, s2⟩ := span_wd hw hr
  cases w with
  | nil => exact absurd rfl ne
  | cons c w =>
    cases n with
    | zero => cases hn
    | succ m =>
      have lt : r.length < m := by
        rw [List.length_append, List.length_cons] at hn
        omega
      obtain ⟨n1, n2, n3, n4⟩ := no_end (hw c List.mem_cons_self)
      rw [List.cons_append] at s1 s2 ⊢
      unfold run
      rw [if_neg n1, if_neg n2, if_neg n3, if_neg n4, s1, s2, hv]
      exact h m lt
theorem Runs.bad {w r : List Nat} {i : Nat} {t : List Dat} {st : List (List Dat)} (ne : w ≠ []) (hw : Wd w) (hr : Parted r) (hv : wordV w = none) : Runs (w ++ r) i (t :: st) (.word i) := fun n hn => by
  obtain ⟨s1, s2⟩ := span_wd hw hr
  cases w with
  | nil => exact absurd rfl ne
  | cons c w =>
    cases n with
    | zero => cases hn
    | succ m =>
      obtain ⟨n1, n2, n3, n4⟩ := no_end (hw c List.mem_cons_self)
      rw [List.cons_append] at s1 s2 ⊢
      unfold run
      rw [if_neg n1, if_neg n2, if_neg n3, if_neg n4, s1, s2, hv]
/-! ### what stands ahead -/
def av : Nat → List V
  | 0 => []
  | 1 => [.str "x"]
  | _ => [.int 7, .str "a.b"]
def ad : Nat → List Dat
  | 0 => []
  | 1 => [.sym "x"]
  | _ => [.int 7, .sym "a.b"]
def al : Nat → List Nat
  | 0 => []
  | 1 => [120, 32]
  | _ => [55, 32, 97, 46, 98, 32]
theorem av_rep (C : Addr → Prop) (H : Hp) : ∀ j, RepL C H (av j) (ad j)
  | 0 => .nil
  | 1 => .cons (.sym _) .nil
  | _ + 2 => .cons (.int _) (.cons (.sym _) .nil)
theorem parted32 (r : List Nat) : Parted (32 :: r) := .inr ⟨32, r, rfl, by decide +kernel⟩
theorem w_x : wordV [120] = some (.str "x") := by
  have a : isIntL [120] = false := by decide +kernel
  have b : isSymL [120] = true := by decide +kernel
  have e : mkS [120] = ("x" : Str) := by decide +kernel
  unfold wordV
  rw [a, b, e]; rfl
theorem w_ab : wordV [97, 46, 98] = some (.str "a.b") := by
  have a : isIntL [97, 46, 98] = false := by decide +kernel
  have b : isSymL [97, 46, 98] = true := by decide +kernel
  have e : mkS [97, 46, 98] = ("a.b" : Str) := by decide +kernel
  unfold wordV
  rw [a, b, e]; rfl
theorem w_y : wordV [121] = some (.str "y") := by
  have a : isIntL [121] = false := by decide +kernel
  have b : isSymL [121] = true := by decide +kernel
  have e : mkS [121] = ("y" : Str) := by decide +kernel
  unfold wordV
  rw [a, b, e]; rfl
theorem w_7 : wordV [55] = some (.int 7) := by
  have a : isIntL [55] = true := by decide +kernel
  have e : intText? (mkS [55]) = some 7 := by decide +kernel
  unfold wordV
  rw [a, e]; rfl
theorem Runs.ahead {l : List Nat} {out : Out} : ∀ (j : Nat), Runs l (al j).length [ad j] out → Runs (al j ++ l) 0 [[]] out
  | 0, h => h
  | 1, h => Runs.word (w := [120]) (r := 32 :: l) (by decide) (Wd.of (by decide +kernel)) (parted32 _) w_x (.blank (.inl rfl) h)
  | _ + 2, h => Runs.word (w := [55]) (r := 32 :: 97 :: 46 :: 98 :: 32 :: l) (by decide) (Wd.of (by decide +kernel)) (parted32 _) w_7 (.blank (.inl rfl)
      (Runs.word (w := [97, 46, 98]) (r := 32 :: l) (by decide) (Wd.of (by decide +kernel)) (parted32 _) w_ab (.blank (.inl rfl) h)))
theorem Runs.gap {b l : List Nat} {i : Nat} {st : List (List Dat)} {out : Out} (hb : b = [] ∨ b = [32] ∨ b = [10]) (h : Runs l (i + b.length) st out) : Runs (b ++ l) i st out := by
  rcases hb with e | e | e <;> subst e
  · exact h
  · exact .blank (.inl rfl) h
  · exact .blank (.inr rfl) h
theorem Runs.of {z : Str} {l : List Nat} {out : Out} (e : tl z = l) (h : Runs l 0 [[]] out) : run (z.length + 1) (tl z) 0 [[]] = out := by
  have := len_tl z
  rw [e] at this ⊢
  exact h _ (by omega)
/-- a text that is wrong at its word -/
theorem run_wrong {z : Str} {j : Nat} {b w r : List Nat} (e : tl z = al j ++ (b ++ (w ++ r))) (hb : b = [] ∨ b = [32] ∨ b = [10]) (ne : w ≠ []) (hw : Wd w) (hr : Parted r) (hv : wordV w = none) :
    run (z.length + 1) (tl z) 0 [[]] = .word ((al j).length + b.length) := Runs.of e (.ahead j (.gap hb (.bad ne hw hr hv)))
theorem run_right {z : Str} {j : Nat} {b w : List Nat} {v : V} (e : tl z = al j ++ (b ++ (w ++ [32, 121]))) (hb : b = [] ∨ b = [32] ∨ b = [10]) (ne : w ≠ []) (hw : Wd w) (hv : wordV w = some v) :
    run (z.length + 1) (tl z) 0 [[]] = .ok (ad j ++ [datOf v, .sym "y"]) := Runs.of e (.ahead j (.gap hb (.word ne hw (parted32 _) hv (.blank (.inl rfl) (by
      have q := Runs.word (w := [121]) (r := []) (i := (al j).length + b.length + w.length + 1) (t := ad j ++ [datOf v]) (st := []) (by decide) (Wd.of (by decide +kernel)) (.inl rfl) w_y .done
      have e2 : ad j ++ [datOf v] ++ [datOf (.str "y")] = ad j ++ [datOf v, .sym "y"] := by rw [List.append_assoc]; rfl
      rw [e2] at q
      exact q)))))
end My
namespace My
open PySem PySem.Spec PyProof.Rows L2 TL
section
variable {X : Cx}
theorem op_notF : OpR X (compareOp .IsNot) (fun x y H Q => ∃ b, x = .bl b ∧ y = .bl false ∧ Q (.bl b) H) := by
  intro pins s σ H x y v u Q I rx ry h
  obtain ⟨b, rfl, rfl, q⟩ := h
  cases (show v = Value.bool b from rx)
  cases (show u = Value.bool false from ry)
  exact wpAny_isNot_plain rfl (fin_bl I q (by cases b <;> decide +kernel))
def rStrE : List V → Hp → VK → Prop := fun xs H Q => (∃ a, xs = [.str a] ∧ Q (.str a) H) ∨ ∃ i : Int, xs = [.int i] ∧ i.natAbs.log2 < 1920 ∧ Q (.str (toString i)) H
theorem call_strE : CallR X (.type "str") rStrE := fun pins s σ H xs us Q I r h => h.elim (fun h => SkE.call_str_str pins s σ H xs us Q I r h) fun h => call_str_int pins s σ H xs us Q I r h
end

/-! ### draws, the state at any slot -/
theorem ev_takeI {i : Nat} {σ : L2.St} {H : Hp} {S L : Addr} {n : Int} {E : XK} (h : σ[i]? = some (some (.ref S))) (hl : LS H S L) (n0 : 0 < n) (nb : n.natAbs < 2 ^ 8000) {Q : VK}
    (q : ∀ (g : Int) (H' : Hp), 0 ≤ g → g < n → LS H' S L → Sm (Two S L) H H' → Q (.int g) H') : tCall spTake [] E (tCons (tVar i) (tCons (tC (.int n)) tNil)) σ H Q :=
  ⟨_, h, S, L, n, rfl, hl, n0, nb, q⟩
theorem ev_pickI {i : Nat} {K : PySem.W.Frag} {σ : L2.St} {H : Hp} {S L : Addr} {n : Int} {E : XK} {ta : TA} {ys : List Str} (h : σ[i]? = some (some (.ref S))) (hl : LS H S L) (n0 : 0 < n) (nb : n.natAbs < 2 ^ 8000) (len : n = (ys.length : Nat)) (lz : ys.length ≤ 1000)
    (ha : ∀ (H : Hp) (Q : List V → Hp → Prop), Q (ys.map V.str) H → ta σ H Q) {Q : VK}
    (q : ∀ (y : Str) (H' : Hp), y ∈ ys → LS H' S L → Sm (Two S L) H H' → Q (.str y) H') : tOp (rIxL K) (tLst ta) (tCall spTake [] E (tCons (tVar i) (tCons (tC (.int n)) tNil))) σ H Q := by
  refine ha _ _ ⟨by rw [List.length_map]; exact Nat.le_of_lt (small1000 lz), fun p hp => ?_⟩
  refine ev_takeI h (hl.new hp) n0 nb fun g H' g0 g1 l s => ?_
  obtain ⟨y, e, m⟩ := atI_some (xs := ys.map V.str) g0 (by rw [List.length_map]; omega)
  obtain ⟨u, hu, ey⟩ := List.mem_map.mp m
  subst ey
  exact ⟨p, _, g, _, rfl, rfl, SqL.of (s.lst (hl.two hp) upd_same), e, q u H' hu l ((Sm.new hp).trans s)⟩
/-- what stands ahead is drawn -/
theorem ev_ahead {K : PySem.W.Frag} {σ : L2.St} {H : Hp} {S L : Addr} {E : XK} (h : σ[1]? = some (some (.ref S))) (hl : LS H S L) {Q : VK}
    (q : ∀ (j : Nat) (A : Addr) (H' : Hp), LS H' S L → Sm (Two S L) H H' → H A = none → H' A = some (.lst (av j)) → Q (.ref A) H') :
    tOp (rIxL K) (tLst (tCons (tLst tNil) (tCons (tLst (tCons (tC (.str "x")) tNil)) (tCons (tLst (tCons (tC (.int 7)) (tCons (tC (.str "a.b")) tNil))) tNil)))) (tCall spTake [] E (tCons (tVar 1) (tCons (tC (.int 3)) tNil))) σ H Q := by
  refine ⟨by show 0 ≤ sizeLine; decide, fun a0 h0 => ⟨by show 1 ≤ sizeLine; decide, fun a1 h1 => ⟨by show 2 ≤ sizeLine; decide, fun a2 h2 => ⟨by show 3 ≤ sizeLine; decide, fun p hp => ?_⟩⟩⟩⟩
  have s0 : Sm (Two S L) H (upd H a0 (.lst [])) := Sm.new h0
  have s1 := s0.trans (Sm.new (o := .lst [.str "x"]) h1)
  have s2 := s1.trans (Sm.new (o := .lst [.int 7, .str "a.b"]) h2)
  have s3 := s2.trans (Sm.new (o := .lst [.ref a0, .ref a1, .ref a2]) hp)
  have l3 := ((hl.new (o := .lst []) h0).new (o := .lst [.str "x"]) h1).new (o := .lst [.int 7, .str "a.b"]) h2
  have n1 : H a1 = none := s0.dom _ h1
  have n2 : H a2 = none := s1.dom _ h2
  have np : H p = none := s2.dom _ hp
  refine ev_takeI h (l3.new hp) (by decide) (nb (by decide)) fun g H' g0 g1 l s => ?_
  have g0' := s.lst (hl.two h0) (((Sm.new (X := No) h1).trans ((Sm.new (X := No) h2).trans (Sm.new (X := No) hp))).lst0 upd_same)
  have g1' := s.lst (hl.two n1) (((Sm.new (X := No) h2).trans (Sm.new (X := No) hp)).lst0 upd_same)
  have g2' := s.lst (hl.two n2) ((Sm.new (X := No) hp).lst0 upd_same)
  have gp := s.lst (hl.two np) upd_same
  have e : g = 0 ∨ g = 1 ∨ g = 2 := by omega
  rcases e with e | e | e <;> subst e
  · exact ⟨p, _, _, _, rfl, rfl, SqL.of gp, rfl, q 0 a0 H' l (s3.trans s) h0 g0'⟩
  · exact ⟨p, _, _, _, rfl, rfl, SqL.of gp, rfl, q 1 a1 H' l (s3.trans s) n1 g1'⟩
  · exact ⟨p, _, _, _, rfl, rfl, SqL.of gp, rfl, q 2 a2 H' l (s3.trans s) n2 g2'⟩
/-! ### the parts' texts -/
def ptOf : V → Str
  | .str s => s
  | .int i => Str.ofString (toString i)
  | _ => ""
def pt (j : Nat) : List Str := (av j).map fun v => ptOf v ++ (" " : Str)
theorem pt_tl : ∀ j, tl (Txt.join ("" : Str) (pt j)) = al j ∧ ((pt j).map (·.length)).sum + (pt j).length * ("" : Str).length ≤ 16777216 ∧ (av j).length ≤ 2
  | 0 => ⟨by decide +kernel, by decide +kernel, by decide +kernel⟩
  | 1 => ⟨by decide +kernel, by decide +kernel, by decide +kernel⟩
  | _ + 2 => by
    show tl (Txt.join ("" : Str) (pt 2)) = al 2 ∧ ((pt 2).map (·.length)).sum + (pt 2).length * ("" : Str).length ≤ 16777216 ∧ (av 2).length ≤ 2
    exact ⟨by decide +kernel, by decide +kernel, by decide +kernel⟩
theorem av_txt {j i : Nat} {x : V} (h : (av j)[i]? = some x) : ∃ y, x = .str y ∧ y.length ≤ 10 ∨ x = .int 7 := by
  have m := List.mem_of_getElem? h
  match j, m with
  | 1, m =>
    have e : x = .str "x" := by simpa [av] using m
    exact ⟨"x", .inl ⟨e, by decide +kernel⟩⟩
  | _ + 2, m =>
    have e : x = .int 7 ∨ x = .str "a.b" := by simpa [av] using m
    rcases e with e | e
    · exact ⟨"", .inr e⟩
    · exact ⟨"a.b", .inl ⟨e, by decide +kernel⟩⟩
/-! ### what is due, and its type -/
theorem wordV_cases {l : List Nat} {v : V} (h : wordV l = some v) : (isSymL l = false ∧ ∃ n, v = .int n) ∨ (isSymL l = true ∧ ∃ s, v = .str s) := by
  unfold wordV at h
  by_cases e : isIntL l = true
  · rw [if_pos e] at h
    cases h
    left
    have m : madeNum l = true := by
      unfold isIntL at e
      exact (Bool.and_eq_true_iff.mp e).1
    refine ⟨?_, _, rfl⟩
    unfold isSymL
    rw [m]; simp
  · rw [if_neg e] at h
    by_cases f : isSymL l = true
    · rw [if_pos f] at h
      cases h
      exact .inr ⟨f, _, rfl⟩
    · rw [if_neg f] at h
      cases h
theorem wordV_none {l : List Nat} (h : wordV l = none) : isSymL l = false := by
  unfold wordV at h
  by_cases e : isIntL l = true
  · rw [if_pos e] at h; cases h
  · rw [if_neg e] at h
    by_cases f : isSymL l = true
    · rw [if_pos f] at h; cases h
    · exact Bool.eq_false_iff.mpr f
theorem due_ty {K : PySem.W.Frag} {H : Hp} (l : List Nat) : ∃ t : String, TyX K H (dueV l) (.type t) ∧ L2.kitB t "str" = some (isSymL l) := by
  unfold dueV
  cases h : wordV l with
  | none =>
    refine ⟨"NoneType", .base .non, ?_⟩
    rw [wordV_none h]; decide +kernel
  | some v =>
    rcases wordV_cases h with ⟨e, n, ev⟩ | ⟨e, n, ev⟩
    · subst ev
      refine ⟨"int", .base (.int _), ?_⟩
      rw [e]; decide +kernel
    · subst ev
      refine ⟨"str", .base (.str _), ?_⟩
      rw [e]; decide +kernel
theorem shp_wrong (i : Int) : SeqAt.shaped (.list [.str "wrong", .int i]) = true := by
  have e : PyData.canLay0 (.str "wrong") = true := by
    unfold PyData.canLay0
    decide +kernel
  unfold SeqAt.shaped
  simp [PyData.canLay0, PyData.canLayAll0, PyData.depth, PyData.depthAll]
  simpa [PyData.canLay0] using e
abbrev sLaw : Stmt := top 31
def spLaw (K : PySem.W.Frag) (Ps : List Addr) : Sp := fun vs H Q _ => ∃ (a : Addr) (ns : List Int), vs = [.ref a] ∧ SqL K H a (ns.map V.int) ∧ ns.length ≤ 63 ∧ (∀ p ∈ Ps, GxR.TabG H p) ∧ ∀ H', Q (.bl true) H'
abbrev NL : List Str := ["script", "state", "k", "word", "due", "told", "ahead", "text", "part"]
section
variable {P : Program} {w : World} {K : PySem.W.Frag} {mg : Str → Option Value} {base : Heap}
theorem scLaw : FnScope NL ["script"] (defScope sLaw) := ⟨rfl, rfl, rfl, by decide +kernel, rfl, by decide +kernel, by decide +kernel⟩
theorem ok_law {f fS fY fT fW fD fO fE P1 P2 : Addr} {fd dS dY dT dW dD dO dE : FuncData} {X : Errs} (F : Fun K "law" "law" sLaw f fd) (B : Blt mg) (GS : Cal P w K mg base CX0 1 "_law_state" ["script"] (spState K) fS dS)
    (GY : Cal P w K mg base CX0 2 "is_symbol" ["text"] (spTxt isSymL [P1, P2]) fY dY) (GT : Cal P w K mg base CX0 2 "_law_take" ["state", "limit"] spTake fT dT) (GW : Cal P w K mg base CX0 3 "_law_word" ["state"] spWord fW dW)
    (GD : FnT P w K mg base CX0 2 fD dD ["word"] spDue) (kD : PySem.W.keepIn K (.ref fD) = true) (gD : mg "_law_due" = some (.ref fD)) (bD : Binds K dD ["word"] [])
    (GO : Cal P w K mg base CX0 6 "_law_told" ["text"] (spTold X [P1, P2]) fO dO) (GE : Cal P w K mg base CX0 3 "_law_same" ["one", "two"] (spSame 3) fE dE) : FnOk P w K mg base CX0 7 f fd ["script"] (spLaw K [P1, P2]) := by
  refine F.ok scLaw (fun vs H Q E h => ?_) (fun cdv A outer s H vs Q E hr h => ?_)
  · obtain ⟨a, ns, rfl, _⟩ := h
    rfl
  obtain ⟨a, ns, rfl, hS, hn, ht, q⟩ := h
  have nd := scLaw.nd
  have hr1 : Room 1 _ := hr.mono (show 1 ≤ 6 by decide)
  have hr2 : Room 2 _ := hr.mono (show 2 ≤ 6 by decide)
  have hr3 : Room 3 _ := hr.mono (show 3 ≤ 6 by decide)
  have isb : bootBuiltins "isinstance" = some (.builtin "isinstance") := by decide +kernel
  refine ⟨_, pss_cons (ps_set (i := 1) nd rfl (Or.inl rfl) (pe_call GS.ok hr1 rfl GS.g GS.k GS.b .nil pass0 (pa_cons (pv 0) pa_nil)))
    (pss_cons (ps_if (pt_cmpR op_notF (pe_call GY.ok hr2 rfl GY.g GY.k GY.b .nil pass0 (pa_cons pe_str pa_nil)) pe_bl (nomark _)) (pss_one (ps_ret pe_bl)) pss_nil)
    (pss_cons (ps_forB PassesOwn.never rfl (pib_range (by rfl) B.range) (pg_name (i := 2) nd rfl (Or.inl rfl))
      (psst_cons (PST.of (ps_set (i := 3) nd rfl (Or.inl rfl) (pe_call GW.ok hr3 rfl GW.g GW.k GW.b .nil pass0 (pa_cons (pv 1) pa_nil))))
      (psst_cons (pst_set (i := 4) nd rfl (Or.inl rfl) (pet_call GD hr2 rfl gD kD bD pass0 (pa_cons (pv 3) pa_nil)))
      (PSsT.of (pss_cons (ps_set (i := 5) nd rfl (Or.inl rfl) (pe_call GY.ok hr2 rfl GY.g GY.k GY.b .nil pass0 (pa_cons (pv 3) pa_nil)))
      (pss_cons (ps_if (PW.pt (pw_or (pt_not (pt_val (pe_callB call_isi (by rfl) B.isinstance isb (pa_cons (pv 5) (pa_cons (pe_bltn (v := .ty "bool") (by rfl) B.bool (by decide +kernel) rfl) pa_nil)))))
          (pw_or1 (pt_cmpR op_ne (pv 5) (pe_callB call_isi (by rfl) B.isinstance isb (pa_cons (pv 4) (pa_cons (pe_bltn (v := .ty "str") (by rfl) B.str (by decide +kernel) rfl) pa_nil))) (nomark _))))) (pss_one (ps_ret pe_bl)) pss_nil)
      (pss_cons (ps_set (i := 6) nd rfl (Or.inl rfl) (pe_ix (r := rIxL K) ix_list (pe_lst (pa_cons (pe_lst pa_nil) (pa_cons (pe_lst (pa_cons pe_str pa_nil)) (pa_cons (pe_lst (pa_cons pe_int (pa_cons pe_str pa_nil))) pa_nil))))
          (pe_call GT.ok hr2 rfl GT.g GT.k GT.b .nil pass0 (pa_cons (pv 1) (pa_cons pe_int pa_nil))) (fun _ _ => rfl)))
      (pss_cons (ps_set (i := 7) nd rfl (Or.inl rfl) (pe_op op_add_str (pe_bm PySem.F.plainAttrs_str PySem.F.slot_str_join PySem.F.type_str_join mt_join pe_str (pa_cons
          (pe_lc (own := [("part", 8)]) (g := gName 8) (tt := tYes) rfl nd (pi_list (pv 6)) (blkOk_by (N := NL) (sc := defScope sLaw) (by decide +kernel)) (fun _ _ _ _ _ => pg_name (i := 8) nd rfl (Or.inl rfl))
            (fun _ _ _ _ _ => pts_nil) (fun _ _ _ _ _ => pe_op op_add_str (pe_callTy call_strE (by rfl) B.str (by decide +kernel) (pa_cons (pv 8) pa_nil)) pe_str)) pa_nil))
          (pe_ix (r := rIxL K) ix_list (pe_lst (pa_cons pe_str (pa_cons pe_str (pa_cons pe_str pa_nil)))) (pe_call GT.ok hr2 rfl GT.g GT.k GT.b .nil pass0 (pa_cons (pv 1) (pa_cons pe_int pa_nil))) (fun _ _ => rfl))))
      (pss_one (ps_if (pt_cmpR op_isN (pv 4) pe_non (nomark _))
        (pss_one (ps_if (pt_cmpR (op_neD hr.units) (pe_call GO.ok hr rfl GO.g GO.k GO.b .nil pass0 (pa_cons (pe_op op_add_str (pe_op op_add_str (pv 7) (pv 3))
            (pe_ix (r := rIxL K) ix_list (pe_lst (pa_cons pe_str (pa_cons pe_str (pa_cons pe_str pa_nil)))) (pe_call GT.ok hr2 rfl GT.g GT.k GT.b .nil pass0 (pa_cons (pv 1) (pa_cons pe_int pa_nil))) (fun _ _ => rfl))) pa_nil))
            (pe_lst (pa_cons pe_str (pa_cons (pe_callB call_len (by rfl) B.len PySem.boot_len (pa_cons (pv 7) pa_nil)) pa_nil))) (nomark _)) (pss_one (ps_ret pe_bl)) pss_nil))
        (pss_one (ps_if (pt_not (pt_val (pe_call GE.ok hr3 rfl GE.g GE.k GE.b .nil pass0 (pa_cons (pe_call GO.ok hr rfl GO.g GO.k GO.b .nil pass0 (pa_cons (pe_op op_add_str (pe_op op_add_str (pv 7) (pv 3)) pe_str) pa_nil))
            (pa_cons (pe_lst (pa_cons pe_str (pa_cons (pe_op op_cat (pv 6) (pe_lst (pa_cons (pv 4) (pa_cons pe_str pa_nil)))) pa_nil))) pa_nil))))) (pss_one (ps_ret pe_bl)) pss_nil)))))))))))) 
    (pss_one (ps_ret pe_bl)))), ?_⟩
  have tabs : ∀ {H1 H2 : Hp} {Y : Addr → Prop}, (∀ p ∈ [P1, P2], GxR.TabG H1 p) → Sm Y H1 H2 → ∀ p ∈ [P1, P2], GxR.TabG H2 p := fun t s p hp => s.tab p (t p hp)
  refine ⟨_, rfl, a, ns, rfl, hS, hn, fun S L H1 hS0 hL0 ls s1 => ?_⟩
  have t1 := tabs ht s1
  refine ⟨("" : Str), rfl, by decide +kernel, t1, fun H2 s2 => ?_⟩
  have e0 : isSymL (tl ("" : Str)) = false := by decide +kernel
  rw [e0]
  refine ⟨_, rfl, rfl, _, rfl, ?_⟩
  refine ⟨12, rfl, by decide, by decide, for_range (n := 12) (fun i σ H' => ∃ v2 v3 v4 v5 v6 v7 : Option V, σ = [some (.ref a), some (.ref S), v2, v3, v4, v5, v6, v7, none] ∧ LS H' S L ∧ ∀ p ∈ [P1, P2], GxR.TabG H' p)
    ⟨none, none, none, none, none, none, rfl, ls.sm s2, tabs t1 s2⟩ ?_ ?_⟩
  · rintro i σ H3 hi ⟨v2, v3, v4, v5, v6, v7, rfl, l3, t3⟩
    refine ⟨_, rfl, S, L, rfl, l3, fun z H4 hz l4 s4 => ?_⟩
    have t4 := tabs t3 s4
    obtain ⟨z1, z2, z3⟩ := id hz
    have hzb : z.length ≤ big := Nat.le_trans z3 (by decide)
    refine ⟨_, rfl, z, rfl, hz, fun H5 s5 => ?_⟩
    have t5 := tabs t4 s5
    refine ⟨_, rfl, z, rfl, hzb, t5, fun H6 s6 => ?_⟩
    have t6 := tabs t5 s6
    refine ⟨_, rfl, _, _, .type "bool", .type "bool", true, rfl, .ty "bool", .base (.bl _), kit_ty (by decide +kernel), _, rfl, ?_⟩
    obtain ⟨ty, ty1, ty2⟩ := due_ty (K := K) (H := H6) (tl z)
    refine ⟨_, rfl, _, rfl, _, _, .type ty, .type "str", _, rfl, .ty "str", ty1, kit_ty ty2, rfl, ?_⟩
    have eq : (!decide (V.bl (isSymL (tl z)) = V.bl (isSymL (tl z)))) = false := by rw [decide_eq_true rfl]; rfl
    refine ⟨false, congrArg V.bl eq, ?_⟩
    have l6 := (l4.sm s5).sm s6
    refine ev_ahead (K := K) (σ := [some (.ref a), some (.ref S), some (.int (0 + (i : Int))), some (.str z), some (dueV (tl z)), some (.bl (isSymL (tl z))), v6, v7, none]) rfl l6 fun j A H7 l7 s7 hA0 hA => ?_
    have t7 := tabs t6 s7
    refine ⟨rfl, _, rfl, A, rfl, ⟨av j, SqL.of hA⟩, fun D hD => ?_⟩
    have nDS := l7.two hD
    have nAD : A ≠ D := fun e => by rw [e, hD] at hA; cases hA
    refine lc_list (xs := av j) (fun i H' => H' D = some (.lst (((pt j).take i).map V.str)) ∧ Sm No H7 H') ⟨upd_same, Sm.new hD⟩ (fun i H' _ p => SqL.of (p.2.lst0 hA)) (fun i x H' hx p => ⟨rfl, _, rfl, ?_⟩) (fun H8 p => ?_)
    · have hp : (pt j)[i]? = some (ptOf x ++ (" " : Str)) := by
        unfold pt
        rw [List.getElem?_map, hx]; rfl
      have lp : ((pt j).take i).length ≤ 2 := by
        have := (pt_tl j).2.2
        unfold pt
        rw [List.length_take, List.length_map]
        omega
      have fin : H' D = some (.lst (((pt j).take i).map V.str)) ∧ (((pt j).take i).map V.str).length < sizeLine ∧
          upd H' D (.lst (((pt j).take i).map V.str ++ [V.str (ptOf x ++ (" " : Str))])) D = some (.lst (((pt j).take (i + 1)).map V.str)) ∧ Sm No H7 (upd H' D (.lst (((pt j).take i).map V.str ++ [V.str (ptOf x ++ (" " : Str))]))) := by
        refine ⟨p.1, by rw [List.length_map]; exact small1000 (by omega), ?_, p.2.mut hD (ntbl_l p.1)⟩
        rw [upd_same, take_more hp, List.map_append]
        rfl
      obtain ⟨y, hy | hy⟩ := av_txt hx
      · obtain ⟨ey, ly⟩ := hy
        subst ey
        exact .inl ⟨y, rfl, y, " ", rfl, rfl, Nat.le_trans (Nat.add_le_add ly (show (" " : Str).length ≤ 10 by decide +kernel)) (by decide), _, fin⟩
      · subst hy
        exact .inr ⟨7, rfl, int_log (by decide), Str.ofString (toString (7 : Int)), " ", rfl, rfl, by decide +kernel, _, fin⟩
    obtain ⟨p1, p2⟩ := p
    have lpt : (pt j).length = (av j).length := by unfold pt; rw [List.length_map]
    rw [← lpt, List.take_length] at p1
    obtain ⟨jt, js, jl⟩ := pt_tl j
    refine ⟨_, D, pt j, rfl, rfl, .inl (SqL.of p1), js, ?_⟩
    generalize Txt.join ("" : Str) (pt j) = pre at jt
    have lpre : pre.length ≤ 6 := by
      rw [len_tl, jt]
      match j with
      | 0 => decide
      | 1 => decide
      | _ + 2 => exact (show (al 2).length ≤ 6 by decide)
    refine ev_pickI (i := 1) (K := K) (σ := [some (.ref a), some (.ref S), some (.int (0 + (i : Int))), some (.str z), some (dueV (tl z)), some (.bl (isSymL (tl z))), some (.ref A), v7, none]) (ys := ["", " ", "\n"]) (ta := tCons (tC (.str "")) (tCons (tC (.str " ")) (tCons (tC (.str "\n")) tNil))) rfl (l7.sm p2) (by decide) (nb (by decide)) rfl (by decide) (fun H Q q => q) fun b H9 hb l9 s9 => ?_
    have bt : (tl b = [] ∨ tl b = [32] ∨ tl b = [10]) ∧ b.length ≤ 1 := by
      have e : b = "" ∨ b = " " ∨ b = "\n" := by simpa using hb
      rcases e with e | e | e <;> subst e
      · exact ⟨.inl (by decide +kernel), by decide +kernel⟩
      · exact ⟨.inr (.inl (by decide +kernel)), by decide +kernel⟩
      · exact ⟨.inr (.inr (by decide +kernel)), by decide +kernel⟩
    have hA9 : H9 A = some (.lst (av j)) := s9.lst ((l6.two hA0)) (p2.lst0 hA)
    have t9 := tabs (tabs t7 p2) s9
    refine ⟨pre, b, rfl, rfl, Nat.le_trans (Nat.add_le_add lpre bt.2) (by decide), ?_⟩
    have ett : tl (pre ++ b) = al j ++ tl b := by rw [tl_append, jt]
    have ltt : (pre ++ b).length ≤ 7 := by rw [app_len]; have := bt.2; omega
    have ltt2 : (pre ++ b).length = (al j).length + (tl b).length := by rw [len_tl, ett, List.length_append]
    generalize pre ++ b = text at ett ltt ltt2
    refine ⟨_, rfl, rfl, _, rfl, ?_⟩
    have l100 : ∀ {u : Str}, u.length ≤ 10 → (text ++ z).length + u.length ≤ 117 := fun {u} hu => by rw [app_len]; omega
    refine ite2 (fun c => ?_) (fun c => ?_)
    · have hv : wordV (tl z) = none := by
        cases e : wordV (tl z) with
        | none => rfl
        | some v =>
          have c' := of_decide_eq_true c
          unfold dueV at c'
          rw [e] at c'
          rcases wordV_cases e with ⟨_, n, ev⟩ | ⟨_, n, ev⟩ <;> subst ev <;> cases c'
      refine ⟨_, rfl, _, rfl, text, z, rfl, rfl, Nat.le_trans (show _ ≤ 107 by omega) (by decide), ?_⟩
      refine ev_pickI (i := 1) (K := K) (σ := [some (.ref a), some (.ref S), some (.int (0 + (i : Int))), some (.str z), some (dueV (tl z)), some (.bl (isSymL (tl z))), some (.ref A), some (.str text), none]) (ys := [" @", "", " 9"]) (ta := tCons (tC (.str " @")) (tCons (tC (.str "")) (tCons (tC (.str " 9")) tNil))) rfl l9 (by decide) (nb (by decide)) rfl (by decide) (fun H Q q => q) fun u H10 hu l10 s10 => ?_
      have ut : Parted (tl u) ∧ u.length ≤ 10 := by
        have e : u = " @" ∨ u = "" ∨ u = " 9" := by simpa using hu
        rcases e with e | e | e <;> subst e
        · exact ⟨.inr ⟨32, [64], by decide +kernel, by decide +kernel⟩, by decide +kernel⟩
        · exact ⟨.inl (by decide +kernel), by decide +kernel⟩
        · exact ⟨.inr ⟨32, [57], by decide +kernel, by decide +kernel⟩, by decide +kernel⟩
      have t10 := tabs t9 s10
      have lu := l100 ut.2
      refine ⟨text ++ z, u, rfl, rfl, Nat.le_trans lu (by decide), ?_⟩
      have el : tl (text ++ z ++ u) = al j ++ (tl b ++ (tl z ++ tl u)) := by rw [tl_append, tl_append, ett]; simp only [List.append_assoc]
      refine ⟨_, rfl, by rw [app_len]; exact Nat.le_trans lu (by decide), t10, .inr ⟨_, run_wrong el bt.1 z1 z2 ut.1 hv, fun LL H11 s11 hLL hl => ?_⟩⟩
      refine ⟨_, rfl, _, _, rfl, ⟨Nat.le_trans (show _ ≤ 107 by omega) (by decide), rfl⟩, by show 2 ≤ sizeLine; decide, fun p hp => ?_⟩
      have s12 : Sm No H11 (upd H11 p (.lst [.str "wrong", .int (text.length : Nat)])) := Sm.new hp
      refine ⟨.list [.str "wrong", .int (((al j).length + (tl b).length : Nat) : Int)], .list [.str "wrong", .int (((al j).length + (tl b).length : Nat) : Int)], .lst (SqL.of (s12.lst0 hl)) (.cons (.str _) (.cons (.int _) .nil)), .lst (SqL.of upd_same) (.cons (.str _) (.cons ?_ .nil)), shp_wrong _, shp_wrong _, false, ?_, ?_⟩
      · rw [ltt2]
        exact .int _
      · rw [SeqAt.eqv_refl _ (SeqAt.canLay_of_shaped (shp_wrong _))]
        rfl
      · exact ⟨_, _, _, _, _, _, rfl, (l10.sm s11).sm s12, tabs (tabs t10 s11) s12⟩
    · obtain ⟨v, hv⟩ : ∃ v, wordV (tl z) = some v := by
        cases e : wordV (tl z) with
        | some v => exact ⟨v, rfl⟩
        | none =>
          refine absurd (decide_eq_true ?_) c
          unfold dueV
          rw [e]; rfl
      have hd : dueV (tl z) = v := by unfold dueV; rw [hv]; rfl
      have ly : (" y" : Str).length ≤ 10 := by decide +kernel
      have ty' : tl (" y" : Str) = [32, 121] := by decide +kernel
      have lu := l100 ly
      have el : tl (text ++ z ++ (" y" : Str)) = al j ++ (tl b ++ (tl z ++ [32, 121])) := by rw [tl_append, tl_append, ett, ty']; simp only [List.append_assoc]
      refine ⟨_, rfl, _, rfl, text, z, rfl, rfl, Nat.le_trans (show _ ≤ 107 by omega) (by decide), text ++ z, " y", rfl, rfl, Nat.le_trans lu (by decide), ?_⟩
      refine ⟨_, rfl, by rw [app_len]; exact Nat.le_trans lu (by decide), t9, .inl ⟨_, run_right el bt.1 z1 z2 hv, fun DD LL vs H11 s11 hLL hl hdd hrep => ?_⟩⟩
      refine ⟨_, rfl, _, rfl, by show 2 ≤ sizeLine; decide, fun BB hB => ?_⟩
      have s12 : Sm No H11 (upd H11 BB (.lst [dueV (tl z), .str "y"])) := Sm.new hB
      have lav : (av j).length ≤ 2 := (pt_tl j).2.2
      refine ⟨A, BB, av j, _, rfl, rfl, s12.lst0 (s11.lst0 hA9), upd_same, Nat.le_trans (Nat.add_le_add lav (show 2 ≤ 2 by decide)) (by decide), fun CC hC => ?_⟩
      have s13 : Sm No H11 _ := s12.trans (Sm.new (o := .lst (av j ++ [dueV (tl z), .str "y"])) hC)
      refine ⟨by show 2 ≤ sizeLine; decide, fun M hM => ?_⟩
      have s14 : Sm No H11 _ := s13.trans (Sm.new (o := .lst [.str "read", .ref CC]) hM)
      have hC14 := (Sm.new (X := No) (o := .lst [.str "read", .ref CC]) hM).lst0 (upd_same (H := upd H11 BB (.lst [dueV (tl z), .str "y"])) (a := CC) (o := .lst (av j ++ [dueV (tl z), .str "y"])))
      have rv : ∀ H : Hp, Rep All H (dueV (tl z)) (datOf v) := fun H => by rw [hd]; exact wordV_rep hv All H
      have rl : ∀ H : Hp, RepL All H (av j ++ [dueV (tl z), .str "y"]) (ad j ++ [datOf v, .sym "y"]) := fun H => by
        have q1 := ((av_rep All H j).snoc (rv H)).snoc (Rep.sym (C := All) (H := H) "y")
        rw [List.append_assoc, List.append_assoc] at q1
        exact q1
      have dep : DepLe 3 (.lst [.sym "read", .lst (ad j ++ [datOf v, .sym "y"])]) := by
        have d1 : ∀ d ∈ ad j ++ [datOf v, .sym "y"], DepLe 1 d := by
          have e1 : ∀ d ∈ ad j, DepLe 1 d := by
            match j with
            | 0 => intro d hd; cases hd
            | 1 =>
              intro d hd
              rw [List.mem_singleton.mp hd]; trivial
            | _ + 2 =>
              intro d hd
              have hd : d ∈ [Dat.int 7, Dat.sym "a.b"] := hd
              rcases List.mem_cons.mp hd with e | e
              · rw [e]; trivial
              · rw [List.mem_singleton.mp e]; trivial
          intro d hd
          rcases List.mem_append.mp hd with e | e
          · exact e1 d e
          · rcases List.mem_cons.mp e with e | e
            · rw [e]
              rcases wordV_cases hv with ⟨_, n, ev⟩ | ⟨_, n, ev⟩ <;> subst ev <;> trivial
            · rw [List.mem_singleton.mp e]; trivial
        refine ⟨show 2 ≤ big by decide, fun d hd => ?_⟩
        rcases List.mem_cons.mp hd with e | e
        · rw [e]; trivial
        · rw [List.mem_singleton.mp e]
          refine ⟨?_, d1⟩
          have la : (ad j).length ≤ 2 := by
            match j with
            | 0 => decide
            | 1 => exact (show 1 ≤ 2 by decide)
            | _ + 2 => exact (show 2 ≤ 2 by decide)
          rw [List.length_append]
          exact Nat.le_trans (Nat.add_le_add la (show 2 ≤ 2 by decide)) (by decide)
      refine ⟨.ref LL, .ref M, _, rfl, dep, .lst trivial (s14.lst0 hl) (.cons (.sym _) (.cons (.lst trivial (s14.lst0 hdd) (hrep.sm s14)) .nil)), .lst trivial upd_same (.cons (.sym _) (.cons (.lst trivial hC14 (rl _)) .nil)), fun H15 s15 => ⟨_, rfl, ?_⟩⟩
      exact ⟨_, _, _, _, _, _, rfl, ((l9.sm s11).sm s14).sm s15, tabs (tabs (tabs t9 s11) s14) s15⟩
  · rintro σ H' ⟨v2, v3, v4, v5, v6, v7, rfl, l3, t3⟩
    exact q H'
end
end My
namespace My
open PySem PySem.Spec PyProof.Rows L2 He
abbrev dd (i : Nat) (x : Str) : DefD := ⟨(x, none), x, x, defArgs (top i), defBody (top i), defScope (top i), [], []⟩
abbrev dc (i : Nat) (x q : Str) : DefD := ⟨(x, some "__init__"), "__init__", q, defArgs (inClass (top i) 0), defBody (inClass (top i) 0), defScope (inClass (top i) 0), [], []⟩
def fnK : List DefD := [dc 2 "UnexpectedEnd" "UnexpectedEnd.__init__", dc 3 "UnexpectedClose" "UnexpectedClose.__init__", dc 4 "InvalidWord" "InvalidWord.__init__",
  dd 12 "is_made_as_number", dd 13 "is_symbol", dd 14 "is_integer", dd 15 "read_word", dd 16 "word_end", dd 17 "remark_end", dd 18 "begin_list", dd 19 "end_list", dd 20 "read_data", dd 21 "parse_all",
  dd 23 "_law_mixed", dd 24 "_law_take", dd 25 "_law_state", dd 26 "_law_same", dd 27 "_law_is_numeral", dd 28 "_law_word", dd 29 "_law_due", dd 30 "_law_told", dd 31 "law"]
def faK : List Fa := [.glo "FoldError", .glo "UnexpectedEnd", .glo "UnexpectedClose", .glo "InvalidWord", .glo "TooDeep",
  .glo "is_made_as_number", .glo "is_symbol", .glo "is_integer", .glo "read_word", .glo "word_end", .glo "remark_end", .glo "begin_list", .glo "end_list", .glo "read_data", .glo "parse_all",
  .glo "_law_mixed", .glo "_law_take", .glo "_law_state", .glo "_law_same", .glo "_law_is_numeral", .glo "_law_word", .glo "_law_due", .glo "_law_told", .glo "law",
  .exc "TooDeep", .str "DIGITS" "0123456789", .str "SYMBOL_SIGNS" "abcdefghijklmnopqrstuvwxyzABCDEFGHIJKLMNOPQRSTUVWXYZ0123456789-+*<=?!.", .str "WORD_ENDS" " \n();", .int "MOST_DIGITS" 40, .int "DEEPEST_LIST" 60,
  .free "int", .free "abs", .free "len", .free "range", .free "str", .free "isinstance", .free "all", .free "list", .free "tuple", .free "bool", .free "ValueError"]
def tfK : List Defn := [("is_made_as_number", none), ("is_symbol", none)]
/-- an exception's class over own ones and ValueError -/
def excB (K : PySem.W.Frag) (C : Addr) : Bool := match K.lookup C with
  | some ⟨.type "type", _, .cls cd, sl⟩ => (match cd.mro, sl.toList with
    | .ref C' :: bm, [_, _, _, _, some (.builtin n), _] => C' == C && (n == "ValueError.__new__" && (!cd.hasDel && (cd.hasDict && PySem.HandSPX.refsVE bm)))
    | _, _ => false)
  | _ => false
/-- all that is asked of one exception class with fields at -/
def excAll (K : PySem.W.Frag) (x : Str) : Bool :=
  excB K (ga K x) && (eqO (PySem.W.findIn K (.ref (ga K x)) "__setattr__") (some (some (.builtin "object.__setattr__"))) &&
  (decide (PySem.W.subIn K (.ref (ga K x)) (.type "BaseException") = some true) && (decide (PySem.W.typeIn K (.ref (ga K x)) = some (.type "type")) && (PySem.W.keepIn K (.ref (ga K x)) &&
  (eqO (PySem.W.findIn K (.ref (ga K x)) "__getattribute__") (some (some (.builtin "BaseException.__getattribute__"))) && (eqO (PySem.W.findIn K (.ref (ga K x)) "__getattr__") (some none) &&
  (PySem.W.hasDictIn K (ga K x) && (eqO (PySem.W.findIn K (.ref (ga K x)) "__class__") (some (some (.builtin "object.__class__"))) && (decide (PySem.W.mroIn K (ga K x) (.type "object") = some true) &&
  (eqO (PySem.W.findIn K (.ref (ga K x)) "at") (some none) && decide (PySem.W.exmOne K (.ref (ga K x)) (.ref (ga K "FoldError")) = some true)))))))))))
def iniB (K : PySem.W.Frag) (x : Str) : Bool := eqO (PySem.W.findIn K (.ref (ga K x)) "__init__") (some (some (.ref (ma K (ga K x) "__init__")))) && decide (PySem.W.typeIn K (.ref (ma K (ga K x) "__init__")) = some (.type "function"))
def kitB (K : PySem.W.Frag) (x y : Str) (b : Bool) : Bool := decide (PySem.W.kitOne K (.ref (ga K x)) (.ref (ga K y)) = some b)
def valB (r : Option PySem.W.CFound) (n : String) : Bool := match r with
  | some (.val (.builtin m)) => m == n
  | _ => false
theorem valB_ok {r : Option PySem.W.CFound} {n : String} (h : valB r n = true) : r = some (.val (.builtin n)) := by
  unfold valB at h
  split at h
  · rw [eq_of_beq h]
  · cases h
def exK (K : PySem.W.Frag) : Bool :=
  (excAll K "UnexpectedEnd" && (excAll K "UnexpectedClose" && (excAll K "InvalidWord" && excAll K "TooDeep"))) && ((iniB K "UnexpectedEnd" && (iniB K "UnexpectedClose" && iniB K "InvalidWord")) &&
  ((((kitB K "InvalidWord" "InvalidWord" true && kitB K "InvalidWord" "UnexpectedEnd" false)) &&
  (eqO (PySem.W.specialIn K (.builtin "object.__class__") "__get__") (some (some (.builtin "getset_descriptor.__get__"))) && decide (PySem.W.takesIn K (.builtin "object.__class__") = some true))) &&
  (PySem.W.readsIn K (ga K "FoldError") (.type "type") && (eqO (PySem.W.specialIn K (.ref (ga K "FoldError")) "__getattribute__") (some (some (.builtin "type.__getattribute__"))) && valB (PySem.W.findCls K (.ref (ga K "FoldError")) (.type "type") "__init__") "ValueError.__init__"))))
/-! ### the hook: what the module's names reach, and the statics -/
def reach (g : Addr → Option Obj) : List Addr := He.asD g 5 ++ [cStatics]
theorem says_of {fa : List Fa} {fn : List DefD} {ts : List Tab} {tf : List Defn} {ex : PySem.W.Frag → Bool} {w : World} {h : Heap} {as : List Addr} (e1 : obsT fa fn ts (frT h.get? as) = valT fn ts w)
    (e2 : (ex (frT h.get? as) && tabsB h.get? tf (frT h.get? as)) = true) : SaysX fa fn ts tf ex w h (frT h.get? as) := by
  obtain ⟨x1, x2⟩ := ba e2
  have key : ∀ p ∈ tf, PySem.W.codeHdIn (frT h.get? as) (cT (frT h.get? as) p).1 (cT (frT h.get? as) p).2 = true ∧ ∃ o, h.get? (cT (frT h.get? as) p).2 = some o ∧ emptyTab o = true := by
    intro p hp
    obtain ⟨y1, y2⟩ := ba (List.all_eq_true.mp x2 p hp)
    cases q : h.get? (cT (frT h.get? as) p).2 with
    | none => rw [q] at y2; cases y2
    | some o => rw [q] at y2; exact ⟨y1, o, rfl, y2⟩
  refine ⟨e1, x1, fun p hp => (key p hp).1, fun p hp => ?_, fun p hp => ?_⟩
  · obtain ⟨_, o, q, z⟩ := key p hp
    exact frT_none q z
  · obtain ⟨_, o, q, z⟩ := key p hp
    rw [q, emptyTab_eq z]
abbrev AlY : Type := AlT × Bool
def obsY (fa : List Fa) (fn : List DefD) (tf : List Defn) (ex : PySem.W.Frag → Bool) (g : Addr → Option Obj) : AlY := (obsT fa fn [] (frT g (reach g)), ex (frT g (reach g)) && tabsB g tf (frT g (reach g)))
def hookY (fa : List Fa) (fn : List DefD) (tf : List Defn) (ex : PySem.W.Frag → Bool) : PySem.W.Hook where
  α := AlY
  obs := fun s => obsY fa fn tf ex s.heap.get?
  val := fun w => (valT fn [] w, true)
  says := fun w h => ∃ K : PySem.W.Frag, K.In h ∧ SaysX fa fn [] tf ex w h K
  of := fun _ _ e => ⟨_, frT_in, says_of (congrArg (fun z : AlY => z.1) e) (congrArg (fun z : AlY => z.2) e)⟩
  keeps := fun _ _ _ ⟨K, hK, c⟩ k => ⟨K, PySem.W.Frag.In.keeps hK k, ⟨c.t, c.more, c.hd, c.out, fun p hp => k _ _ (c.empty p hp)⟩⟩
abbrev R : PySem.W.OpenRow := PySem.W.OpenLaw.row PySem.Challenge.rw_aliasfold_k10_words
abbrev hk : PySem.W.Hook := hookY faK fnK tfK exK
def ob (s : PySem.W.SharedT) : AlY := obsY faK fnK tfK exK (HandSHeadRun.getT s)
theorem ob_eq (s : PySem.W.SharedT) : ob s = hk.obs s.abs := by
  have e : HandSHeadRun.getT s = s.abs.heap.get? := funext (HandSHeadRun.getT_eq s)
  unfold ob
  rw [e] <;> rfl
def loose : List Str := ["FoldError", "UnexpectedEnd", "UnexpectedClose", "InvalidWord", "TooDeep", "DIGITS", "SYMBOL_SIGNS", "WORD_ENDS", "MOST_DIGITS", "DEEPEST_LIST",
  "is_made_as_number", "is_symbol", "is_integer", "read_word", "word_end", "remark_end", "begin_list", "end_list", "read_data", "parse_all",
  "_law_mixed", "_law_take", "_law_state", "_law_same", "_law_is_numeral", "_law_word", "_law_due", "_law_told"]
theorem headRun (w : World) : HandSHeadRun.RunEq R (PySem.W.view R.prog [31]) hk ob 4000 loose w := by
  intro os
  kernel_rfl
end My
namespace My
open PySem PySem.Spec PyProof.Rows L2 TL
section
variable {P : Program} {w : World} {K : PySem.W.Frag} {mg : Str → Option Value} {base : Heap}
theorem scIniE : FnScope ["self", "at"] ["self", "at"] (defScope sIniE) := ⟨rfl, rfl, rfl, by decide +kernel, rfl, by decide +kernel, by decide +kernel⟩
theorem ok_iniE {f F C : Addr} {fd : FuncData} (Fn : Fun K "__init__" "UnexpectedEnd.__init__" sIniE f fd) (B : BaseC K mg F) (T : OexC K C) (hno : PySem.W.findIn K (.ref C) "at" = some none) :
    FnOk P w K mg base CX0 1 f fd ["self", "at"] (spIni K C) := by
  refine Fn.ok scIniE (fun vs H Q E h => ?_) (fun cdv A outer s H vs Q E hr h => ?_)
  · obtain ⟨a, i, rfl, _⟩ := h
    rfl
  obtain ⟨a, i, rfl, ea, hi, q⟩ := h
  refine ⟨_, pss_cons (ps_expr (pe_baseInit B rfl (pa_cons (pv 0) (pa_cons (pe_joined (PJ.cons pe_str (PJ.cons (pe_fmt (pv 1)) PJ.nil))) pa_nil))))
    (pss_one (ps_ost (pv 0) (pv 1))), ?_⟩
  have l1 := int_len hi
  refine ⟨_, rfl, _, rfl, by decide +kernel, _, rfl, .inr ⟨i, rfl, int_log hi, _, rfl, ?_, ?_⟩⟩
  · rw [app_len]
    exact Nat.le_trans (Nat.add_le_add (show _ ≤ 100 by decide +kernel) l1) (by decide)
  refine ⟨a, C, _, rfl, by show 1 ≤ 1000; decide, T, ea, ?_⟩
  refine ⟨_, rfl, _, rfl, a, C, rfl, T, hno, .inl ⟨ea, fun d hd hda => q d hd hda⟩⟩
theorem scIniC : FnScope ["self", "at"] ["self", "at"] (defScope sIniC) := ⟨rfl, rfl, rfl, by decide +kernel, rfl, by decide +kernel, by decide +kernel⟩
theorem ok_iniC {f F C : Addr} {fd : FuncData} (Fn : Fun K "__init__" "UnexpectedClose.__init__" sIniC f fd) (B : BaseC K mg F) (T : OexC K C) (hno : PySem.W.findIn K (.ref C) "at" = some none) :
    FnOk P w K mg base CX0 1 f fd ["self", "at"] (spIni K C) := by
  refine Fn.ok scIniC (fun vs H Q E h => ?_) (fun cdv A outer s H vs Q E hr h => ?_)
  · obtain ⟨a, i, rfl, _⟩ := h
    rfl
  obtain ⟨a, i, rfl, ea, hi, q⟩ := h
  refine ⟨_, pss_cons (ps_expr (pe_baseInit B rfl (pa_cons (pv 0) (pa_cons (pe_joined (PJ.cons pe_str (PJ.cons (pe_fmt (pv 1)) PJ.nil))) pa_nil))))
    (pss_one (ps_ost (pv 0) (pv 1))), ?_⟩
  have l1 := int_len hi
  refine ⟨_, rfl, _, rfl, by decide +kernel, _, rfl, .inr ⟨i, rfl, int_log hi, _, rfl, ?_, ?_⟩⟩
  · rw [app_len]
    exact Nat.le_trans (Nat.add_le_add (show _ ≤ 100 by decide +kernel) l1) (by decide)
  refine ⟨a, C, _, rfl, by show 1 ≤ 1000; decide, T, ea, ?_⟩
  refine ⟨_, rfl, _, rfl, a, C, rfl, T, hno, .inl ⟨ea, fun d hd hda => q d hd hda⟩⟩
end
/-! ### from the head's facts -/
section
open He
variable {K : PySem.W.Frag} {h : Heap} {mg : Str → Option Value} {w : World}
theorem fun_of {x q : Str} {st : Stmt} {f : Addr} {fd : FuncData} (F : FunD K x q (defArgs st) (defBody st) (defScope st) [] [] f fd) : Fun K x q st f fd := by
  obtain ⟨oc, od, dV, kV, doc, pm, an, cdv, ct, osl, e, lk, hcd, hD, hK⟩ := F.ex
  rcases hD with ⟨_, rfl⟩ | ⟨e, _⟩
  · exact ⟨⟨oc, od, kV, doc, pm, an, cdv, ct, osl, e, lk, hcd⟩, F.kp⟩
  · exact absurd rfl e
theorem func_of {x : Str} {st : Stmt} {fd : FuncData} (F : Fun K x x st (ga K x) fd) : FunC K x st (ga K x) fd (codeOf K (x, none)) := by
  obtain ⟨oc, od, kV, doc, pm, an, cdv, ct, osl, e, lk, hcd⟩ := F.ex
  obtain ⟨c, ec⟩ := codeIn_ref hcd
  subst ec
  subst e
  have e2 : codeOf K (x, none) = c := codeOf_eq (p := (x, none)) lk rfl
  rw [e2]
  exact ⟨⟨oc, od, kV, doc, pm, an, ct, osl, rfl, lk, hcd⟩, F.kp⟩
theorem excB_ok {C : Addr} (q : excB K C = true) : ∃ nm q N bs bm sn sub ab col dd k0 k1 k2 k3 k5, K.lookup C = some (excClassObj nm q C N bs bm true sn sub ab col dd k0 k1 k2 k3 k5 "ValueError.__new__") ∧ PySem.HandSPX.refsVE bm = true := by
  unfold excB at q
  split at q
  · rename_i dd cd sl ho
    split at q
    · rename_i C' bm k0 k1 k2 k3 n k5 hm hs
      simp only [Bool.and_eq_true, beq_iff_eq, Bool.not_eq_true'] at q
      obtain ⟨e1, e2, hdel, hd, hr⟩ := q
      obtain ⟨nm, bs, mro, ns, qn, hdct, sn, sub, ab, col, del⟩ := cd
      dsimp only at hm hdel hd
      subst hm hdel hd e1 e2
      have hsl : sl = #[k0, k1, k2, k3, some (.builtin "ValueError.__new__"), k5] := by
        obtain ⟨l⟩ := sl
        simp only at hs
        rw [hs]
      subst hsl
      exact ⟨nm, qn, ns, bs, bm, sn, sub, ab, col, dd, k0, k1, k2, k3, k5, ho, hr⟩
    · cases q
  · cases q
structure ExAll (K : PySem.W.Frag) (C F : Addr) : Prop where
  o : OexC K C
  ga : PySem.W.findIn K (.ref C) "__getattribute__" = some (some (.builtin "BaseException.__getattribute__"))
  gg : PySem.W.findIn K (.ref C) "__getattr__" = some none
  hd : PySem.W.hasDictIn K C = true
  cl : PySem.W.findIn K (.ref C) "__class__" = some (some (.builtin "object.__class__"))
  mro : PySem.W.mroIn K C (.type "object") = some true
  no : PySem.W.findIn K (.ref C) "at" = some none
  exm : PySem.W.exmOne K (.ref C) (.ref F) = some true
theorem excAll_ok {x : Str} (q : excAll K x = true) : ExAll K (ga K x) (ga K "FoldError") := by
  obtain ⟨c1, q⟩ := ba q
  obtain ⟨c2, q⟩ := ba q
  obtain ⟨c3, q⟩ := ba q
  obtain ⟨c4, q⟩ := ba q
  obtain ⟨c5, q⟩ := ba q
  obtain ⟨c6, q⟩ := ba q
  obtain ⟨c7, q⟩ := ba q
  obtain ⟨c8, q⟩ := ba q
  obtain ⟨c9, q⟩ := ba q
  obtain ⟨c10, q⟩ := ba q
  obtain ⟨c11, c12⟩ := ba q
  exact ⟨⟨excB_ok c1, eqO_ok c2, of_decide_eq_true c3, of_decide_eq_true c4, c5⟩, eqO_ok c6, eqO_ok c7, c8, eqO_ok c9, of_decide_eq_true c10, eqO_ok c11, of_decide_eq_true c12⟩
theorem iniB_ok {x : Str} (q : iniB K x = true) : PySem.W.findIn K (.ref (ga K x)) "__init__" = some (some (.ref (ma K (ga K x) "__init__"))) ∧ PySem.W.typeIn K (.ref (ma K (ga K x) "__init__")) = some (.type "function") := by
  obtain ⟨a, b⟩ := ba q
  exact ⟨eqO_ok a, of_decide_eq_true b⟩
structure ExK (K : PySem.W.Frag) : Prop where
  e : ExAll K (ga K "UnexpectedEnd") (ga K "FoldError")
  c : ExAll K (ga K "UnexpectedClose") (ga K "FoldError")
  w : ExAll K (ga K "InvalidWord") (ga K "FoldError")
  ie : PySem.W.findIn K (.ref (ga K "UnexpectedEnd")) "__init__" = some (some (.ref (ma K (ga K "UnexpectedEnd") "__init__"))) ∧ PySem.W.typeIn K (.ref (ma K (ga K "UnexpectedEnd") "__init__")) = some (.type "function")
  ic : PySem.W.findIn K (.ref (ga K "UnexpectedClose")) "__init__" = some (some (.ref (ma K (ga K "UnexpectedClose") "__init__"))) ∧ PySem.W.typeIn K (.ref (ma K (ga K "UnexpectedClose") "__init__")) = some (.type "function")
  iw : PySem.W.findIn K (.ref (ga K "InvalidWord")) "__init__" = some (some (.ref (ma K (ga K "InvalidWord") "__init__"))) ∧ PySem.W.typeIn K (.ref (ma K (ga K "InvalidWord") "__init__")) = some (.type "function")
  k1 : PySem.W.kitOne K (.ref (ga K "InvalidWord")) (.ref (ga K "InvalidWord")) = some true
  k2 : PySem.W.kitOne K (.ref (ga K "InvalidWord")) (.ref (ga K "UnexpectedEnd")) = some false
  hn : PySem.W.specialIn K (.builtin "object.__class__") "__get__" = some (some (.builtin "getset_descriptor.__get__"))
  ht : PySem.W.takesIn K (.builtin "object.__class__") = some true
  rd : PySem.W.readsIn K (ga K "FoldError") (.type "type") = true
  sp : PySem.W.specialIn K (.ref (ga K "FoldError")) "__getattribute__" = some (some (.builtin "type.__getattribute__"))
  ini : PySem.W.findCls K (.ref (ga K "FoldError")) (.type "type") "__init__" = some (.val (.builtin "ValueError.__init__"))
theorem exK_ok (q : exK K = true) : ExK K := by
  obtain ⟨a, q⟩ := ba q
  obtain ⟨a1, a⟩ := ba a
  obtain ⟨a2, a⟩ := ba a
  obtain ⟨a3, _⟩ := ba a
  obtain ⟨b, q⟩ := ba q
  obtain ⟨b1, b⟩ := ba b
  obtain ⟨b2, b3⟩ := ba b
  obtain ⟨k, q⟩ := ba q
  obtain ⟨k, n⟩ := ba k
  obtain ⟨k1, k2⟩ := ba k
  obtain ⟨n1, n2⟩ := ba n
  obtain ⟨r1, q⟩ := ba q
  obtain ⟨r2, r3⟩ := ba q
  exact ⟨excAll_ok a1, excAll_ok a2, excAll_ok a3, iniB_ok b1, iniB_ok b2, iniB_ok b3, of_decide_eq_true k1, of_decide_eq_true k2, eqO_ok n1, of_decide_eq_true n2, r1, eqO_ok r2, valB_ok r3⟩
end
end My
namespace My
open PySem PySem.Spec PyProof.Rows L2 TL He
abbrev row10 : PySem.W.OpenLaw := PySem.Challenge.rw_aliasfold_k10_words
theorem facts {K : PySem.W.Frag} {h : Heap} {mg : Str → Option Value} {w : World} {fa : Addr} (c : SaysX faK fnK [] tfK exK w h K) (X : K.In h) (G : h.Ns mainGlobals mg) (hfa : mg ("law" : Str) = some (.ref fa)) :
    LamX.LawAtS row10 w K CX0 7 63 "script" mg fa h := by
  have d := c.t.d
  have e := exK_ok c.more
  have glo : ∀ x : Str, Fa.glo x ∈ faK → mg x = some (.ref (ga K x)) := fun x m => glo_ok X G (d.facts m)
  have fre : ∀ x : Str, Fa.free x ∈ faK → mg x = none := fun x m => free_ok X G (d.facts m)
  have B : Blt mg := ⟨fre _ (by simp [faK]), fre _ (by simp [faK]), fre _ (by simp [faK]), fre _ (by simp [faK]), fre _ (by simp [faK]), fre _ (by simp [faK]), fre _ (by simp [faK]), fre _ (by simp [faK]), fre _ (by simp [faK]), fre _ (by simp [faK])⟩
  have T : Txs mg := ⟨str_ok X G (d.facts (f := .str "DIGITS" "0123456789") (by simp [faK])), str_ok X G (d.facts (f := .str "SYMBOL_SIGNS" "abcdefghijklmnopqrstuvwxyzABCDEFGHIJKLMNOPQRSTUVWXYZ0123456789-+*<=?!.") (by simp [faK])), str_ok X G (d.facts (f := .str "WORD_ENDS" " \n();") (by simp [faK])),
    int_ok X G (d.facts (f := .int "MOST_DIGITS" 40) (by simp [faK])), int_ok X G (d.facts (f := .int "DEEPEST_LIST" 60) (by simp [faK]))⟩
  obtain ⟨dUE, DUE⟩ := d.def_ 0 (d := dc 2 "UnexpectedEnd" "UnexpectedEnd.__init__") rfl
  have FUE : Fun K "__init__" "UnexpectedEnd.__init__" sIniE (ma K (ga K "UnexpectedEnd") "__init__") dUE := fun_of DUE
  have bUE : Binds K dUE ["self", "at"] [] := FUE.binds fun _ _ _ _ _ _ us hl => match us, hl with | [_, _], _ => rfl
  obtain ⟨dUC, DUC⟩ := d.def_ 1 (d := dc 3 "UnexpectedClose" "UnexpectedClose.__init__") rfl
  have FUC : Fun K "__init__" "UnexpectedClose.__init__" sIniC (ma K (ga K "UnexpectedClose") "__init__") dUC := fun_of DUC
  have bUC : Binds K dUC ["self", "at"] [] := FUC.binds fun _ _ _ _ _ _ us hl => match us, hl with | [_, _], _ => rfl
  obtain ⟨dIW, DIW⟩ := d.def_ 2 (d := dc 4 "InvalidWord" "InvalidWord.__init__") rfl
  have FIW : Fun K "__init__" "InvalidWord.__init__" sIniW (ma K (ga K "InvalidWord") "__init__") dIW := fun_of DIW
  have bIW : Binds K dIW ["self", "at"] [] := FIW.binds fun _ _ _ _ _ _ us hl => match us, hl with | [_, _], _ => rfl
  obtain ⟨dNu, DNu⟩ := d.def_ 3 (d := dd 12 "is_made_as_number") rfl
  have FNu : Fun K "is_made_as_number" "is_made_as_number" sNum (ga K "is_made_as_number") dNu := fun_of DNu
  have bNu : Binds K dNu ["word"] [] := FNu.binds fun _ _ _ _ _ _ us hl => match us, hl with | [_], _ => rfl
  obtain ⟨dSy, DSy⟩ := d.def_ 4 (d := dd 13 "is_symbol") rfl
  have FSy : Fun K "is_symbol" "is_symbol" sSymb (ga K "is_symbol") dSy := fun_of DSy
  have bSy : Binds K dSy ["text"] [] := FSy.binds fun _ _ _ _ _ _ us hl => match us, hl with | [_], _ => rfl
  obtain ⟨dIn, DIn⟩ := d.def_ 5 (d := dd 14 "is_integer") rfl
  have FIn : Fun K "is_integer" "is_integer" sInt (ga K "is_integer") dIn := fun_of DIn
  have bIn : Binds K dIn ["word"] [] := FIn.binds fun _ _ _ _ _ _ us hl => match us, hl with | [_], _ => rfl
  obtain ⟨dRd, DRd⟩ := d.def_ 6 (d := dd 15 "read_word") rfl
  have FRd : Fun K "read_word" "read_word" sRead (ga K "read_word") dRd := fun_of DRd
  have bRd : Binds K dRd ["word", "at"] [] := FRd.binds fun _ _ _ _ _ _ us hl => match us, hl with | [_, _], _ => rfl
  obtain ⟨dWe, DWe⟩ := d.def_ 7 (d := dd 16 "word_end") rfl
  have FWe : Fun K "word_end" "word_end" sWEnd (ga K "word_end") dWe := fun_of DWe
  have bWe : Binds K dWe ["text", "at"] [] := FWe.binds fun _ _ _ _ _ _ us hl => match us, hl with | [_, _], _ => rfl
  obtain ⟨dRe, DRe⟩ := d.def_ 8 (d := dd 17 "remark_end") rfl
  have FRe : Fun K "remark_end" "remark_end" sREnd (ga K "remark_end") dRe := fun_of DRe
  have bRe : Binds K dRe ["text", "at"] [] := FRe.binds fun _ _ _ _ _ _ us hl => match us, hl with | [_, _], _ => rfl
  obtain ⟨dBg, DBg⟩ := d.def_ 9 (d := dd 18 "begin_list") rfl
  have FBg : Fun K "begin_list" "begin_list" sBeg (ga K "begin_list") dBg := fun_of DBg
  have bBg : Binds K dBg ["rows", "deepest"] [] := FBg.binds fun _ _ _ _ _ _ us hl => match us, hl with | [_, _], _ => rfl
  obtain ⟨dEn, DEn⟩ := d.def_ 10 (d := dd 19 "end_list") rfl
  have FEn : Fun K "end_list" "end_list" sEndL (ga K "end_list") dEn := fun_of DEn
  have bEn : Binds K dEn ["rows", "at"] [] := FEn.binds fun _ _ _ _ _ _ us hl => match us, hl with | [_, _], _ => rfl
  obtain ⟨dDa, DDa⟩ := d.def_ 11 (d := dd 20 "read_data") rfl
  have FDa : Fun K "read_data" "read_data" sData (ga K "read_data") dDa := fun_of DDa
  have bDa : Binds K dDa ["text", "deepest"] [] := FDa.binds fun _ _ _ _ _ _ us hl => match us, hl with | [_, _], _ => rfl
  obtain ⟨dPa, DPa⟩ := d.def_ 12 (d := dd 21 "parse_all") rfl
  have FPa : Fun K "parse_all" "parse_all" sParse (ga K "parse_all") dPa := fun_of DPa
  have bPa : Binds K dPa ["text"] [] := FPa.binds fun _ _ _ _ _ _ us hl => match us, hl with | [_], _ => rfl
  obtain ⟨dMi, DMi⟩ := d.def_ 13 (d := dd 23 "_law_mixed") rfl
  have FMi : Fun K "_law_mixed" "_law_mixed" sMixed (ga K "_law_mixed") dMi := fun_of DMi
  have bMi : Binds K dMi ["cell"] [] := FMi.binds fun _ _ _ _ _ _ us hl => match us, hl with | [_], _ => rfl
  obtain ⟨dTa, DTa⟩ := d.def_ 14 (d := dd 24 "_law_take") rfl
  have FTa : Fun K "_law_take" "_law_take" sTake (ga K "_law_take") dTa := fun_of DTa
  have bTa : Binds K dTa ["state", "limit"] [] := FTa.binds fun _ _ _ _ _ _ us hl => match us, hl with | [_, _], _ => rfl
  obtain ⟨dSt, DSt⟩ := d.def_ 15 (d := dd 25 "_law_state") rfl
  have FSt : Fun K "_law_state" "_law_state" sState (ga K "_law_state") dSt := fun_of DSt
  have bSt : Binds K dSt ["script"] [] := FSt.binds fun _ _ _ _ _ _ us hl => match us, hl with | [_], _ => rfl
  obtain ⟨dSa, DSa⟩ := d.def_ 16 (d := dd 26 "_law_same") rfl
  have FSa : Fun K "_law_same" "_law_same" sSame (ga K "_law_same") dSa := fun_of DSa
  have bSa : Binds K dSa ["one", "two"] [] := FSa.binds fun _ _ _ _ _ _ us hl => match us, hl with | [_, _], _ => rfl
  obtain ⟨dNl, DNl⟩ := d.def_ 17 (d := dd 27 "_law_is_numeral") rfl
  have FNl : Fun K "_law_is_numeral" "_law_is_numeral" sNumeral (ga K "_law_is_numeral") dNl := fun_of DNl
  have bNl : Binds K dNl ["word"] [] := FNl.binds fun _ _ _ _ _ _ us hl => match us, hl with | [_], _ => rfl
  obtain ⟨dWo, DWo⟩ := d.def_ 18 (d := dd 28 "_law_word") rfl
  have FWo : Fun K "_law_word" "_law_word" sWord (ga K "_law_word") dWo := fun_of DWo
  have bWo : Binds K dWo ["state"] [] := FWo.binds fun _ _ _ _ _ _ us hl => match us, hl with | [_], _ => rfl
  obtain ⟨dDu, DDu⟩ := d.def_ 19 (d := dd 29 "_law_due") rfl
  have FDu : Fun K "_law_due" "_law_due" sDue (ga K "_law_due") dDu := fun_of DDu
  have bDu : Binds K dDu ["word"] [] := FDu.binds fun _ _ _ _ _ _ us hl => match us, hl with | [_], _ => rfl
  obtain ⟨dTo, DTo⟩ := d.def_ 20 (d := dd 30 "_law_told") rfl
  have FTo : Fun K "_law_told" "_law_told" sTold (ga K "_law_told") dTo := fun_of DTo
  have bTo : Binds K dTo ["text"] [] := FTo.binds fun _ _ _ _ _ _ us hl => match us, hl with | [_], _ => rfl
  obtain ⟨dLa, DLa⟩ := d.def_ 21 (d := dd 31 "law") rfl
  have FLa : Fun K "law" "law" sLaw (ga K "law") dLa := fun_of DLa
  have bLa : Binds K dLa ["script"] [] := FLa.binds fun _ _ _ _ _ _ us hl => match us, hl with | [_], _ => rfl
  have gNu := glo "is_made_as_number" (by simp [faK])
  have gSy := glo "is_symbol" (by simp [faK])
  have gIn := glo "is_integer" (by simp [faK])
  have gRd := glo "read_word" (by simp [faK])
  have gWe := glo "word_end" (by simp [faK])
  have gRe := glo "remark_end" (by simp [faK])
  have gBg := glo "begin_list" (by simp [faK])
  have gEn := glo "end_list" (by simp [faK])
  have gDa := glo "read_data" (by simp [faK])
  have gPa := glo "parse_all" (by simp [faK])
  have gMi := glo "_law_mixed" (by simp [faK])
  have gTa := glo "_law_take" (by simp [faK])
  have gSt := glo "_law_state" (by simp [faK])
  have gSa := glo "_law_same" (by simp [faK])
  have gNl := glo "_law_is_numeral" (by simp [faK])
  have gWo := glo "_law_word" (by simp [faK])
  have gDu := glo "_law_due" (by simp [faK])
  have gTo := glo "_law_told" (by simp [faK])
  have gLa := glo "law" (by simp [faK])
  have gFo := glo "FoldError" (by simp [faK])
  have gxE := glo "UnexpectedEnd" (by simp [faK])
  have gxC := glo "UnexpectedClose" (by simp [faK])
  have gxW := glo "InvalidWord" (by simp [faK])
  have gxD := glo "TooDeep" (by simp [faK])
  cases hfa.symm.trans gLa
  have BC : BaseC K mg (ga K "FoldError") := ⟨gFo, e.rd, e.sp, e.ini⟩
  obtain ⟨q1, q2, q3, q4⟩ := exc_ok (d.facts (f := .exc "TooDeep") (by simp [faK]))
  have DC : DeepC K mg (ga K "TooDeep") := ⟨q1, gxD, q2, q3, q4⟩
  have EC : ExcC K (ga K "InvalidWord") := ⟨e.w.ga, e.w.gg, e.w.o.exC, e.w.hd, e.w.cl, e.hn, e.ht, e.w.mro⟩
  have TC : ToldC K mg ⟨ga K "InvalidWord", ga K "UnexpectedClose", ga K "UnexpectedEnd", ga K "TooDeep"⟩ (ga K "FoldError") := ⟨gFo, gxW, gxE, e.w.exm, EC, ⟨e.w.ga, e.w.gg, e.w.o.exC, e.w.hd⟩, e.w.no, e.k1, e.k2⟩
  refine ⟨dLa, tfK.map (cT K), spLaw K [(cT K ("is_made_as_number", none)).2, (cT K ("is_symbol", none)).2], ?_, ?_, ?_, fun s u => FunD.bindsA (ps := ["script"]) DLa (fun _ _ _ _ _ _ us hl => match us, hl with | [_], _ => rfl) s [u] rfl, ?_, fun base KX GX hT => ?_⟩
  · intro p hp
    obtain ⟨t, ht, rfl⟩ := List.mem_map.mp hp
    exact c.empty t ht
  · intro p hp
    obtain ⟨t, ht, rfl⟩ := List.mem_map.mp hp
    exact c.out t ht
  · intro p hp
    obtain ⟨t, ht, rfl⟩ := List.mem_map.mp hp
    exact PySem.W.codeHd_of_K X (c.hd t ht)
  · intro H a ns hl _ hH hS
    refine ⟨a, ns, rfl, hS, hl, fun p hp => ?_, fun _ => rfl⟩
    have hm : ∃ q ∈ tfK.map (cT K), p = q.2 := by
      rcases List.mem_cons.mp hp with z | z
      · exact ⟨_, List.mem_map.mpr ⟨("is_made_as_number", none), by simp [tfK], rfl⟩, z⟩
      · exact ⟨_, List.mem_map.mpr ⟨("is_symbol", none), by simp [tfK], rfl⟩, List.mem_singleton.mp z⟩
    obtain ⟨q, hq, eq⟩ := hm
    rw [eq]
    exact ⟨#[], hH q hq, trivial⟩
  have tb : ∀ t ∈ tfK, GxR.TabB base mg (cT K t).1 (cT K t).2 := fun t ht => by
    have z := hT (cT K t) (List.mem_map.mpr ⟨t, ht, rfl⟩)
    exact ⟨z.code, z.bm, z.gP⟩
  have TB1 : GxR.TabB base mg (codeOf K ("is_made_as_number", none)) (cT K ("is_made_as_number", none)).2 := tb _ (by simp [tfK])
  have TB2 : GxR.TabB base mg (codeOf K ("is_symbol", none)) (cT K ("is_symbol", none)).2 := tb _ (by simp [tfK])
  generalize (cT K ("is_made_as_number", none)).2 = P1 at TB1
  generalize (cT K ("is_symbol", none)).2 = P2 at TB2
  have kNu := ok_num (P := row10.prog) (w := w) (func_of FNu) B T.sgn TB1
  have kSy := ok_symb (P := row10.prog) (w := w) (func_of FSy) B T TB2 kNu FNu.kp gNu bNu
  have kIn := ok_int FIn B T kNu FNu.kp gNu bNu
  have xE : ErrC row10.prog w K mg base "UnexpectedEnd" (ga K "UnexpectedEnd") _ dUE := ⟨e.e.o, gxE, e.ie.1, e.ie.2, ok_iniE FUE BC e.e.o e.e.no, bUE⟩
  have xC : ErrC row10.prog w K mg base "UnexpectedClose" (ga K "UnexpectedClose") _ dUC := ⟨e.c.o, gxC, e.ic.1, e.ic.2, ok_iniC FUC BC e.c.o e.c.no, bUC⟩
  have xW : ErrC row10.prog w K mg base "InvalidWord" (ga K "InvalidWord") _ dIW := ⟨e.w.o, gxW, e.iw.1, e.iw.2, ok_iniW FIW BC e.w.o e.w.no, bIW⟩
  have kRd := ok_read FRd B xW kIn FIn.kp gIn bIn kSy FSy.kp gSy bSy
  have kDa := ok_data (CE := ga K "TooDeep") (X := ⟨ga K "InvalidWord", ga K "UnexpectedClose", ga K "UnexpectedEnd", ga K "TooDeep"⟩) FDa B ⟨ok_rend FRe B, FRe.kp, gRe, bRe⟩ ⟨ok_wend FWe B T, FWe.kp, gWe, bWe⟩ ⟨ok_beg FBg B DC, FBg.kp, gBg, bBg⟩ ⟨ok_endl FEn B xC, FEn.kp, gEn, bEn⟩ ⟨kRd, FRd.kp, gRd, bRd⟩ xE
  have kPa := ok_parse FPa T ⟨kDa, FDa.kp, gDa, bDa⟩
  have kTa := ok_take (P := row10.prog) (w := w) (base := base) FTa B FMi gMi bMi
  have kNl := ok_numeral (P := row10.prog) (w := w) (base := base) FNl B
  exact ok_law FLa B ⟨ok_state FSt B, FSt.kp, gSt, bSt⟩ ⟨kSy, FSy.kp, gSy, bSy⟩ ⟨kTa, FTa.kp, gTa, bTa⟩ ⟨ok_word FWo B ⟨kTa, FTa.kp, gTa, bTa⟩, FWo.kp, gWo, bWo⟩
    (ok_due FDu B ⟨kNl, FNl.kp, gNl, bNl⟩) FDu.kp gDu bDu ⟨ok_told FTo B TC ⟨kPa, FPa.kp, gPa, bPa⟩, FTo.kp, gTo, bTo⟩ ⟨ok_sameN FSa B gSa bSa 3, FSa.kp, gSa, bSa⟩
end My
open PySem PySem.W PySem.Calls PyProof.Rows
theorem PySem.Challenge.cw_aliasfold_k10_words_holds : PySem.Challenge.rw_aliasfold_k10_words.Holds := by
  w_on; o_law
  refine HandSHeadRun.head_any (r := OpenLaw.row PySem.Challenge.rw_aliasfold_k10_words) (q := view (OpenLaw.row PySem.Challenge.rw_aliasfold_k10_words).prog [31]) (H := My.hk) (ob := My.ob) (M := 4000) (loose := My.loose) (d := HandSHeadRun.topDef (OpenLaw.row PySem.Challenge.rw_aliasfold_k10_words).prog 31) (kwd := []) My.ob_eq
    (by kernel_rfl) (fun s => by kernel_rfl) My.headRun (by kernel_rfl) (by kernel_rfl) (by kernel_rfl) (by rfl) (by first | assumption | decide +kernel) (by decide +kernel) ⟨rfl, rfl, rfl, rfl, rfl, by decide +kernel⟩ ?hw ?hc
  case hw => w_witness2
  case hc =>
    refine LamX.walk_ofTsE (l := PySem.Challenge.rw_aliasfold_k10_words) (n := 63) (k := 7) (x := "script") (CX := fun _ => L2.CX0) rfl (by decide) (by kernel_rfl) ⟨rfl, by decide, by decide⟩ ?F (fun _ _ _ _ _ z => z)
    intro w mg fa h Y G hmg0
    obtain ⟨K, KX, c⟩ := Y
    have hmg : mg ("law" : PySem.Str) = some (.ref fa) := by
      have e : (HandSHeadRun.topDef (OpenLaw.row PySem.Challenge.rw_aliasfold_k10_words).prog 31).name = ("law" : PySem.Str) := by kernel_rfl
      rw [← e]
      exact hmg0
    exact ⟨K, KX, My.facts c KX G hmg⟩
