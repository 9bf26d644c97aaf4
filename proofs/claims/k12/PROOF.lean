import PyProof.Rows.All
import Wide.All
import OpenK.AllK
import Wide.FinOn
import HandS.ForMost
import HandS.ForExc
import HandS.Wide
import HandS.Codes
import HandS.AnyAll
import HandS.StrMore
import HandS.FStr
import HandS.IsInst
import HandS.ExcInit
import HandS.ExcIs
import HandS.ExcField
import HandS.Replace
import HandS.ReplaceLit
import HandS.Flow
import HandS.NoneIn
import HandS.Style
import PySem.Challenge.RW_aliasfold_k12_whole_any_text
import HandS.ExcCtx
import HandS.Hot
import HandS.HotCalls
import HandS.WordsExc
import HandS.ExcInitHot
import KE.KExcIs
import HandS.Head0
import HandS.Head1
import HandS.Head2
import HandS.HeadEnd
import HandS.HeadHook1
import HandS.HeadHook2
import HandS.HeadHook4
import HandS.HeadNt
import HandS.HeadWalk
set_option Elab.async false
set_option linter.all false
set_option maxRecDepth 100000
set_option maxHeartbeats 0
namespace My
open PySem L2

/-! ### heaps -/
def isTbl : HO → Bool
  | .tbl _ => true
  | _ => false
/-- what was tracked stays, but for what X names; tables stay tables; nothing is forgotten -/
structure Sm (X : Addr → Prop) (H H' : Hp) : Prop where
  keep : ∀ b o, ¬ X b → isTbl o = false → H b = some o → H' b = some o
  tab : ∀ P, GxR.TabG H P → GxR.TabG H' P
  dom : ∀ b, H' b = none → H b = none
abbrev No : Addr → Prop := fun _ => False
abbrev Two (S L : Addr) : Addr → Prop := fun b => b = S ∨ b = L
theorem Sm.refl (X : Addr → Prop) (H : Hp) : Sm X H H := ⟨fun _ _ _ _ h => h, fun _ h => h, fun _ h => h⟩
theorem Sm.trans {X : Addr → Prop} {H H1 H2 : Hp} (a : Sm X H H1) (b : Sm X H1 H2) : Sm X H H2 :=
  ⟨fun c o n t h => b.keep c o n t (a.keep c o n t h), fun P h => b.tab P (a.tab P h), fun c h => a.dom c (b.dom c h)⟩
theorem Sm.wide {X Y : Addr → Prop} {H H' : Hp} (a : Sm X H H') (h : ∀ b, X b → Y b) : Sm Y H H' :=
  ⟨fun c o n t q => a.keep c o (fun z => n (h c z)) t q, a.tab, a.dom⟩
theorem Sm.no {Y : Addr → Prop} {H H' : Hp} (a : Sm No H H') : Sm Y H H' := a.wide fun _ z => z.elim
theorem tab_upd {H : Hp} {p : Addr} {o : HO} (h : ∀ ps, H p ≠ some (.tbl ps)) : ∀ P, GxR.TabG H P → GxR.TabG (upd H p o) P := fun P ⟨ps, h1, h2⟩ =>
  ⟨ps, by rw [upd_ne (fun z => h ps (by rw [← z]; exact h1))]; exact h1, h2⟩
theorem upd_dom {H : Hp} {p : Addr} {o : HO} : ∀ b, upd H p o b = none → H b = none := fun b h => by
  by_cases hb : b = p
  · rw [hb, upd_same] at h; cases h
  · rw [upd_ne hb] at h; exact h
theorem Sm.new {X : Addr → Prop} {H : Hp} {p : Addr} {o : HO} (h : H p = none) : Sm X H (upd H p o) :=
  ⟨fun b u _ _ e => by rw [upd_ne (ne_of_none e h)]; exact e, tab_upd (fun ps z => by rw [h] at z; cases z), upd_dom⟩
theorem Sm.set {X : Addr → Prop} {H : Hp} {p : Addr} {o : HO} (h : X p) (ht : ∀ ps, H p ≠ some (.tbl ps)) : Sm X H (upd H p o) :=
  ⟨fun b u n _ e => by rw [upd_ne (fun z => n (by rw [z]; exact h))]; exact e, tab_upd ht, upd_dom⟩
theorem Sm.tabbed {X : Addr → Prop} {H H' : Hp} {P : Addr} (h0 : GxR.TabG H P) (h : GxR.Tabbed P H H') : Sm X H H' := by
  obtain ⟨ht, hk⟩ := h
  refine ⟨fun b o _ n e => ?_, fun Z hz => ?_, fun b h => ?_⟩
  · by_cases hb : b = P
    · obtain ⟨ps, h1, _⟩ := h0
      rw [hb, h1] at e
      cases e
      cases n
    · rw [hk b hb]; exact e
  · by_cases hb : Z = P
    · rw [hb]; exact ht
    · obtain ⟨ps, h1, h2⟩ := hz
      exact ⟨ps, by rw [hk Z hb]; exact h1, h2⟩
  · by_cases hb : b = P
    · obtain ⟨ps, h1, _⟩ := ht
      rw [hb, h1] at h
      cases h
    · rw [← hk b hb]; exact h
theorem Sm.seq {X : Addr → Prop} {K : PySem.W.Frag} {H H' : Hp} {a : Addr} {xs : List V} (e : Sm X H H') (n : ¬ X a) (h : SqL K H a xs) : SqL K H' a xs := by
  rcases h with (h | ⟨o, h⟩) | h
  · exact .inl (.inl (e.keep _ _ n rfl h))
  · exact .inl (.inr ⟨o, e.keep _ _ n rfl h⟩)
  · exact .inr h
theorem Sm.lst {X : Addr → Prop} {H H' : Hp} {a : Addr} {xs : List V} (e : Sm X H H') (n : ¬ X a) (h : H a = some (.lst xs)) : H' a = some (.lst xs) := e.keep _ _ n rfl h
theorem Sm.lst0 {H H' : Hp} {a : Addr} {xs : List V} (e : Sm No H H') (h : H a = some (.lst xs)) : H' a = some (.lst xs) := e.keep _ _ (fun z => z) rfl h
/-- what H did not know may change -/
theorem Sm.mut {X : Addr → Prop} {H H' : Hp} {p : Addr} {o : HO} (e : Sm X H H') (h : H p = none) (ht : ∀ ps, H' p ≠ some (.tbl ps)) : Sm X H (upd H' p o) :=
  ⟨fun b u n t q => by rw [upd_ne (ne_of_none q h)]; exact e.keep b u n t q, fun P h => tab_upd ht P (e.tab P h), fun b q => e.dom b (upd_dom b q)⟩
theorem ntbl_l {H : Hp} {a : Addr} {xs : List V} (h : H a = some (.lst xs)) : ∀ ps, H a ≠ some (.tbl ps) := fun ps z => by rw [h] at z; cases z

/-! ### the state of the draws -/
/-- at S: the rest of the script, at L, and what is left of the cell -/
def LS (H : Hp) (S L : Addr) : Prop := ∃ (cs : List Int) (d : Int), H S = some (.lst [.ref L, .int d]) ∧ H L = some (.lst (cs.map V.int)) ∧ 0 ≤ d ∧ cs.length ≤ 63
theorem LS.ne {H : Hp} {S L : Addr} (h : LS H S L) : S ≠ L := by
  obtain ⟨cs, d, h1, h2, _⟩ := h
  refine ne_of h1 h2 fun z => ?_
  cases cs with
  | nil => cases z
  | cons c r => cases z
theorem LS.sm {H H' : Hp} {S L : Addr} (h : LS H S L) (e : Sm No H H') : LS H' S L := by
  obtain ⟨cs, d, h1, h2, h3⟩ := h
  exact ⟨cs, d, e.lst0 h1, e.lst0 h2, h3⟩
theorem LS.some {H : Hp} {S L : Addr} (h : LS H S L) : H S ≠ none ∧ H L ≠ none := by
  obtain ⟨cs, d, h1, h2, h3⟩ := h
  exact ⟨by rw [h1]; simp, by rw [h2]; simp⟩
/-! ### the draws, as functions -/
def spMixed : Sp := fun vs H Q _ => ∃ c : Int, vs = [.int c] ∧ ∀ n : Int, 0 ≤ n → Q (.int n) H
def spTake : Sp := fun vs H Q _ => ∃ (S L : Addr) (n : Int), vs = [.ref S, .int n] ∧ LS H S L ∧ 0 < n ∧ n.natAbs < 2 ^ 8000 ∧
  ∀ (g : Int) (H' : Hp), 0 ≤ g → g < n → LS H' S L → Sm (Two S L) H H' → Q (.int g) H'
def spState (K : PySem.W.Frag) : Sp := fun vs H Q _ => ∃ (a : Addr) (ns : List Int), vs = [.ref a] ∧ SqL K H a (ns.map V.int) ∧ ns.length ≤ 63 ∧
  ∀ (S L : Addr) (H' : Hp), H S = none → H L = none → LS H' S L → Sm No H H' → Q (.ref S) H'
end My
namespace My
open PySem L2
def top (i : Nat) : Stmt := PySem.Challenge.pw_aliasfold_k12_whole_any_text.main.body.getD i (.Pass ⟨0, 0, 0, 0⟩)
abbrev sMixed : Stmt := top 23
abbrev sTake : Stmt := top 24
abbrev sState : Stmt := top 25
/-- names of builtins that no module name hides -/
structure Blt (mg : Str → Option Value) : Prop where
  int : mg "int" = none
  abs : mg "abs" = none
  len : mg "len" = none
  range : mg "range" = none
  str : mg "str" = none
  isinstance : mg "isinstance" = none
  all : mg "all" = none
  list : mg "list" = none
  tuple : mg "tuple" = none
  bool : mg "bool" = none
section
variable {P : Program} {w : World} {K : PySem.W.Frag} {mg : Str → Option Value} {base : Heap}
theorem scMixed : FnScope ["cell", "seed", "number", "k"] ["cell"] (defScope sMixed) := ⟨rfl, rfl, rfl, by decide +kernel, rfl, by decide +kernel, by decide +kernel⟩
theorem ok_mixed {f : Addr} {fd : FuncData} (F : Fun K "_law_mixed" "_law_mixed" sMixed f fd) (B : Blt mg) : FnOk P w K mg base CX0 1 f fd ["cell"] spMixed := by
  refine F.ok scMixed (fun vs H Q E h => ?_) (fun cdv A outer s H vs Q E hr h => ?_)
  · obtain ⟨c, rfl, _⟩ := h
    rfl
  obtain ⟨c, rfl, q⟩ := h
  have M : (0 : Int) < 1000000007 := by decide
  refine ⟨_, pss_cons (ps_set (i := 1) scMixed.nd rfl (Or.inl rfl) (pe_op op_mod (pe_callTy call_int1 (by rfl) B.int (by decide +kernel) (pa_cons (pv 0) pa_nil)) pe_int))
    (pss_cons (ps_set (i := 2) scMixed.nd rfl (Or.inl rfl) pe_int)
    (pss_cons (ps_for PassesOwn.never rfl (pi_range1 (by rfl) B.range (pa_cons pe_int pa_nil)) (pg_name (i := 3) scMixed.nd rfl (Or.inl rfl))
      (pss_cons (ps_set (i := 1) scMixed.nd rfl (Or.inl rfl) (pe_op op_mod (pe_callTy call_int1 (by rfl) B.int (by decide +kernel)
          (pa_cons (pe_op op_add (pe_op op_add (pe_op op_mul (pv 1) pe_int) pe_int) (pe_op op_mul pe_int (pv 3))) pa_nil)) pe_int))
      (pss_one (ps_set (i := 2) scMixed.nd rfl (Or.inl rfl) (pe_op op_add (pe_op op_mul (pv 2) pe_int) (pv 1))))))
    (pss_one (ps_ret (pv 2))))), ?_⟩
  refine ⟨_, rfl, .inl ⟨_, rfl, _, _, rfl, rfl, M, ?_⟩⟩
  refine ⟨6, rfl, by decide, by decide, for_range (n := 6) (fun i σ H' => ∃ (sd nb : Int) (v : Option V), σ = [some (.int c), some (.int sd), some (.int nb), v] ∧ 0 ≤ nb ∧ H' = H)
    ⟨_, 0, none, rfl, by omega, rfl⟩ ?_ ?_⟩
  · rintro i σ H' hi ⟨sd, nb, v, rfl, h0, rfl⟩
    refine ⟨_, rfl, _, _, rfl, rfl, .inr ⟨by decide, by decide⟩, _, _, rfl, rfl, _, rfl, _, _, rfl, rfl, .inl ⟨by decide, by decide⟩, _, _, rfl, rfl, .inl ⟨_, rfl, _, _, rfl, rfl, M, ?_⟩⟩
    refine ⟨_, rfl, _, _, rfl, rfl, .inr ⟨by decide, by decide⟩, _, rfl, _, _, rfl, rfl, _, _, _, rfl, ?_, rfl⟩
    have := Int.emod_nonneg (sd * 48271 + 12820163 + 7 * (0 + (i : Int))) (b := 1000000007) (by decide)
    omega
  · rintro σ H' ⟨sd, nb, v, rfl, h0, rfl⟩
    exact ⟨_, rfl, q nb h0⟩
end
end My
namespace My
open PySem L2
section
variable {P : Program} {w : World} {K : PySem.W.Frag} {mg : Str → Option Value} {base : Heap}
theorem scTake : FnScope ["state", "limit", "cell", "digit"] ["state", "limit"] (defScope sTake) := ⟨rfl, rfl, rfl, by decide +kernel, rfl, by decide +kernel, by decide +kernel⟩
theorem at0 {α : Type} (x : α) (r : List α) : atI (x :: r) 0 = some x := atI_nat (xs := x :: r) (j := 0) rfl
theorem at1 {α : Type} (x y : α) (r : List α) : atI (x :: y :: r) 1 = some y := atI_nat (xs := x :: y :: r) (j := 1) rfl
theorem ok_take {f fM : Addr} {fd fdM : FuncData} (F : Fun K "_law_take" "_law_take" sTake f fd) (B : Blt mg) (FM : Fun K "_law_mixed" "_law_mixed" sMixed fM fdM) (gM : mg "_law_mixed" = some (.ref fM))
    (bM : Binds K fdM ["cell"] []) : FnOk P w K mg base CX0 2 f fd ["state", "limit"] spTake := by
  have GM : FnOk P w K mg base CX0 1 fM fdM ["cell"] spMixed := ok_mixed FM B
  refine F.ok scTake (fun vs H Q E h => ?_) (fun cdv A outer s H vs Q E hr h => ?_)
  · obtain ⟨S, L, n, rfl, _⟩ := h
    rfl
  obtain ⟨S, L, n, rfl, hL, n0, nb, q⟩ := h
  have hSL := hL.ne
  obtain ⟨cs, d, hS, hL', d0, l63⟩ := hL
  refine ⟨_, C8.pss_cut (ps_if (PW.pt (pw_and (pt_cmpR op_lt (pe_ix ix_list (pv 0) pe_int (fun _ _ => rfl)) (pv 1) (nomark _))
        (pw_and1 (pt_cmpR op_gt (pe_callB call_len_seq (by rfl) B.len PySem.boot_len (pa_cons (pe_ix ix_list (pv 0) pe_int (fun _ _ => rfl)) pa_nil)) pe_int (nomark _)))))
      (pss_cons (ps_set (i := 2) scTake.nd rfl (Or.inl rfl) (pe_callB call_abs (by rfl) B.abs (by decide +kernel) (pa_cons (pe_callTy call_int1 (by rfl) B.int (by decide +kernel)
          (pa_cons (pe_bm PySem.F.plainAttrs_list PySem.F.slot_list_pop PySem.F.type_list_pop mt_popAt (pe_ix ix_list (pv 0) pe_int (fun _ _ => rfl)) (pa_cons pe_int pa_nil)) pa_nil)) pa_nil)))
      (C8.pss_cut (ps_if (pt_cmpR op_lt (pv 2) (pe_op op_pow pe_int pe_int) (nomark _)) (pss_one (ps_set (i := 2) scTake.nd rfl (Or.inl rfl) (pe_call GM (hr.mono (by decide)) rfl gM FM.kp bM .nil pass0 (pa_cons (pv 2) pa_nil)))) pss_nil)
      (pss_one (ps_asg (pv 2) (pg_sub (pv 0) pe_int set_list))))) pss_nil)
    (pss_cons (ps_set (i := 3) scTake.nd rfl (Or.inl rfl) (pe_op op_mod (pe_callTy call_int1 (by rfl) B.int (by decide +kernel) (pa_cons (pe_ix ix_list (pv 0) pe_int (fun _ _ => rfl)) pa_nil)) (pv 1)))
    (pss_cons (ps_asg (pe_op op_fdivW (pe_ix ix_list (pv 0) pe_int (fun _ _ => rfl)) (pv 1)) (pg_sub (pv 0) pe_int set_list))
    (pss_one (ps_ret (pv 3))))), ?_⟩
  -- behind the first if
  refine ⟨fun σ H' => ∃ (v : Option V), σ = [some (.ref S), some (.int n), v, none] ∧ LS H' S L ∧ Sm (Two S L) H H', ?_, ?_⟩
  · refine ⟨_, rfl, S, _, _, _, rfl, rfl, SqL.of hS, at1 _ _ _, _, rfl, _, _, rfl, rfl, _, rfl, ?_⟩
    refine ite2 (fun c => ?_) (fun c => ?_)
    · refine ⟨_, rfl, S, _, _, _, rfl, rfl, SqL.of hS, at0 _ _, L, _, rfl, .inl (SqL.of hL'), _, _, rfl, rfl, _, rfl, ?_⟩
      refine ite2 (fun c2 => ?_) (fun c2 => ?_)
      · have c2' := of_decide_eq_true c2
        rw [List.length_map] at c2'
        cases cs with
        | nil => exact absurd c2' (by decide)
        | cons c0 cr =>
          refine ⟨_, rfl, S, _, _, _, rfl, rfl, SqL.of hS, at0 _ _, .inl ⟨rfl, _, SqL.of hL'⟩, L, _, 0, 0, _, rfl, rfl, hL', by decide, by decide, ?_, rfl, ?_⟩
          · unfold seqIndex?
            simp
          refine .inl ⟨_, rfl, _, rfl, ?_⟩
          refine ⟨fun σ H' => ∃ (m : Int), σ = [some (.ref S), some (.int n), some (.int m), none] ∧ 0 ≤ m ∧ H' = upd H L (.lst (cr.map V.int)), ?_, ?_⟩
          · refine ⟨_, rfl, _, _, rfl, rfl, ⟨by decide, by decide, by decide⟩, _, _, rfl, rfl, _, rfl, ?_⟩
            refine ite2 (fun _ => ?_) (fun _ => ?_)
            · exact ⟨_, rfl, _, rfl, fun m m0 => ⟨m, rfl, m0, rfl⟩⟩
            · refine ⟨_, rfl, ?_, rfl⟩
              by_cases hc : c0 < 0
              · rw [if_pos hc]; omega
              · rw [if_neg hc]; omega
          · rintro σ H' ⟨m, rfl, m0, rfl⟩
            have hS1 : upd H L (.lst (cr.map V.int)) S = some (.lst [.ref L, .int d]) := by rw [upd_ne hSL]; exact hS
            refine ⟨_, rfl, _, rfl, S, _, _, 1, rfl, rfl, hS1, rfl, ?_⟩
            refine ⟨_, rfl, ⟨cr, m, upd_same, by rw [upd_ne hSL.symm, upd_same], m0, by simp at l63; omega⟩, ?_⟩
            exact (Sm.set (.inr rfl) (ntbl_l hL')).trans (Sm.set (.inl rfl) (ntbl_l hS1))
      · exact ⟨_, rfl, ⟨_, d, hS, hL', d0, l63⟩, Sm.refl _ _⟩
    · exact ⟨_, rfl, ⟨_, d, hS, hL', d0, l63⟩, Sm.refl _ _⟩
  · rintro σ H' ⟨v, rfl, ⟨cs', d', h1, h2, d1, l1⟩, sm⟩
    refine ⟨_, rfl, S, _, _, _, rfl, rfl, SqL.of h1, at1 _ _ _, .inl ⟨_, rfl, _, rfl, _, _, rfl, rfl, n0, ?_⟩⟩
    refine ⟨_, rfl, S, _, _, _, rfl, rfl, SqL.of h1, at1 _ _ _, _, rfl, _, _, rfl, rfl, wide_div n0 nb (by decide) (by decide), ?_⟩
    refine ⟨_, rfl, S, _, _, 1, rfl, rfl, h1, rfl, _, rfl, ?_⟩
    refine q (d' % n) _ (Int.emod_nonneg _ (by omega)) (Int.emod_lt_of_pos _ n0) ⟨cs', d' / n, upd_same, by rw [upd_ne hSL.symm]; exact h2, Int.ediv_nonneg d1 (by omega), l1⟩ (sm.trans (Sm.set (.inl rfl) (ntbl_l h1)))
end
end My
namespace My
open PySem L2
section
variable {P : Program} {w : World} {K : PySem.W.Frag} {mg : Str → Option Value} {base : Heap}
theorem scState : FnScope ["script", "cell"] ["script"] (defScope sState) := ⟨rfl, rfl, rfl, by decide +kernel, rfl, by decide +kernel, by decide +kernel⟩
theorem map_at {xs : List Int} {i : Nat} {y : V} (h : (xs.map V.int)[i]? = some y) : ∃ z, xs[i]? = some z ∧ y = .int z := by
  rw [List.getElem?_map] at h
  cases e : xs[i]? with
  | none => rw [e] at h; cases h
  | some z => rw [e] at h; exact ⟨z, rfl, (Option.some.inj h).symm⟩
theorem take_more {α : Type} {l : List α} {i : Nat} {x : α} (h : l[i]? = some x) : l.take (i + 1) = l.take i ++ [x] := by
  rw [List.take_add_one, h]; rfl
theorem cutV_ints (ns : List Int) (k : Nat) : cutV (ns.map V.int) none (some (k : Int)) = ((ns.take k).map V.int) := by
  unfold cutV
  rw [HT.sIx_none, HT.sIx_nat, List.drop_zero, List.length_map, ← List.map_take]
  congr 1
  rw [show min k ns.length - 0 = min k ns.length by omega, List.take_eq_take_iff.mpr]
  omega
theorem line_of {n : Nat} (h : n ≤ 1000) : n < sizeLine := small1000 h
theorem ok_state {f : Addr} {fd : FuncData} (F : Fun K "_law_state" "_law_state" sState f fd) (B : Blt mg) : FnOk P w K mg base CX0 1 f fd ["script"] (spState K) := by
  refine F.ok scState (fun vs H Q E h => ?_) (fun cdv A outer s H vs Q E hr h => ?_)
  · obtain ⟨a, ns, rfl, _⟩ := h
    rfl
  obtain ⟨a, ns, rfl, hS, h63, q⟩ := h
  refine ⟨_, pss_one (ps_ret (pe_lst (pa_cons (pe_lc (own := [("cell", 1)]) (g := gName 1) (tt := tYes) rfl scState.nd (pi_list (pe_slice sl_list (pv 0) po_none (po_some pe_int)))
      (blkOk_by (N := ["script", "cell"]) (sc := defScope sState) (by decide +kernel)) (fun _ _ _ _ _ => pg_name (i := 1) scState.nd rfl (Or.inl rfl)) (fun _ _ _ _ _ => pts_nil)
      (fun _ _ _ _ _ => pe_callTy call_int1 (by rfl) B.int (by decide +kernel) (pa_cons (pv 1) pa_nil))) (pa_cons pe_int pa_nil)))), ?_⟩
  refine ⟨_, rfl, _, rfl, a, _, rfl, hS, fun p hp => ?_⟩
  have ec := cutV_ints ns 63
  rw [show ((63 : Nat) : Int) = 63 from rfl] at ec
  rw [ec]
  have len63 : (ns.take 63).length ≤ 63 := by rw [List.length_take]; omega
  refine ⟨p, rfl, ⟨_, SqL.of upd_same⟩, fun D hD => ?_⟩
  have npD : p ≠ D := ne_of_none upd_same hD
  have hD0 : H D = none := upd_dom _ hD
  refine lc_list (xs := (ns.take 63).map V.int) (fun i H' => H' D = some (.lst (((ns.take 63).take i).map V.int)) ∧ H' p = some (.lst ((ns.take 63).map V.int)) ∧ Sm No H H') ⟨?_, ?_, ?_⟩ (fun i H' _ h => SqL.of h.2.1) ?_ ?_
  · rw [List.take_zero]; exact upd_same
  · rw [upd_ne npD]; exact upd_same
  · exact ((Sm.refl No H).mut hp (fun ps z => by rw [hp] at z; cases z)).mut hD0 (fun ps z => by rw [hD] at z; cases z)
  · rintro i x H' hi ⟨h1, h2, sm⟩
    obtain ⟨z, hz, rfl⟩ := map_at hi
    have ln : i < 64 := by
      have := (List.getElem?_eq_some_iff.mp hz).1
      omega
    refine ⟨rfl, ?_⟩
    refine ⟨_, rfl, .inl ⟨_, rfl, _, h1, ?_, ?_, ?_, ?_⟩⟩
    · rw [List.length_map, List.length_take]
      exact line_of (by omega)
    · rw [upd_same, take_more hz, List.map_append]; rfl
    · rw [upd_ne npD]; exact h2
    · exact sm.mut hD0 (ntbl_l h1)
  · rintro H' ⟨h1, h2, sm⟩
    rw [List.length_map, List.take_length] at h1
    refine ⟨by show 2 ≤ sizeLine; decide, fun S hSn => ?_⟩
    have hS0 := sm.dom S hSn
    have nSD : D ≠ S := ne_of_none h1 hSn
    exact q S D _ hS0 hD0 ⟨_, 0, upd_same, by rw [upd_ne nSD]; exact h1, by decide, len63⟩ (sm.mut hS0 fun ps z => by rw [hSn] at z; cases z)
end
end My
namespace My
open PySem PySem.Spec PyProof.Rows L2 GxR
theorem ad_lt {b N m : Nat} (e : b = N) (h : N + 1 ≤ m) : b < m := by omega
theorem ad_ltlt {b N m : Nat} (e : b < N) (h : N + 1 ≤ m) : b < m := by omega
theorem ad_no {b N : Nat} (e : b = N) (h : b < N) : False := by omega
theorem ad_no2 {b N m : Nat} (e : b = m) (h : b < N) (h2 : N + 1 ≤ m) : False := by omega
/-- the element of a generator expression over signs, where it may read the module's names -/
def EltG (prog : Program) (w : World) (mg : Str → Option Value) (sc : Scope) (x : Str) (e : Expr) (pb : Nat → Bool) : Prop :=
  ∀ (ce : Env) (A' : Around) (E' : Value → Shared → Prop) (c : Nat) (t : Tok) (z : Shared) (m : Str → Option Value),
    ce.scope = sc → ce.globals = mainGlobals → z.heap.Ns mainGlobals mg → z.heap.Ns ce.locals m → m x = some (.str ⟨#[c]⟩ t) →
    wpAny (model prog w) A' (eval e ce) (fun y z' => y = .bool (pb c) ∧ Keeps z z') E' z
/-- x in NAME, NAME a text of the module -/
theorem elt_inG {prog : Program} {w : World} {mg : Str → Option Value} {sc : Scope} {x g : Str} {k : Str} {tk : Tok} {p1 p2 p3 : Pos} (hk : sc.kind = .function)
    (hl : sc.names.lookup x = some .local) (hgl : sc.names.lookup g = some .globalImplicit) (hm : mg g = some (.str k tk))
    (hd : (x == ("__debug__" : Str)) = false := by decide) (hd2 : (g == ("__debug__" : Str)) = false := by decide) :
    EltG prog w mg sc x (.Compare (.Name x p1) [.In] [.Name g p2] p3) (fun c => decide (c ∈ k.cps.toList)) := by
  intro ce A' E' c t z m hs hg hG hn hx
  refine wpAny_Compare1 ?_
  refine wpAny_Name (wpAny_loadName_local (by rw [hs]; exact hk) (show ce.scope.names.lookup x = some .local by rw [hs]; exact hl) hn hx ?_) hd
  refine Calls.Name_function_global (by rw [hs]; exact hk) (show ce.scope.names.lookup g = some .globalImplicit by rw [hs]; exact hgl) (Calls.loadGlobal_global (by rw [hg]; exact hG) hm ?_) hd2
  exact PyProof.Rows.in_str ⟨congrArg Value.bool (PySem.StrLaws.found_one k c), keeps_refl _⟩
section
variable {X : Cx} {pins : List (Addr × Obj)} {σ : L2.St} {H : Hp} {s : Shared}
theorem genG {c P : Addr} {elt iter : Expr} {x : Str} {px gpos : Pos} {scope : Scope} {pb : Nat → Bool} {te : TE} {k : Nat} {Q' : Value → Shared → Prop} {R : Str → Hp → Prop}
    (hr : Room k X.A) (TB : TabB X.base X.mg c P) (hcode : X.env.code = .ref c) (S : GenS X.env scope x) (hi : PE X iter te)
    (hel : EltG X.prog X.w X.mg scope x elt pb) (hs : ∀ v, genFold iter X.env v = pure v) (I : Inv X pins σ H s)
    (h : te σ H fun v H1 => ∃ a : Str, v = .str a ∧ TabG H1 P ∧ R a H1)
    (hQ : ∀ a H1 g s5, R a H1 → Ready X pins σ H1 P a pb g s5 → Q' (.ref g) s5) :
    wpAny (model X.prog X.w) X.A (eval (.GeneratorExp elt [⟨.Name x px, iter, [], 0⟩] scope gpos) X.env) Q' X.xe s := by
  refine wpAny_GeneratorExp_walksQ hr.hd S.co (closure_ok S.free) S.cell S.dot S.loc S.kind hr.depth ?_ hs
  refine thn (hi.run pins s σ H _ I h) fun xv s1 hx => ?_
  obtain ⟨v, H1, J, rv, a, ev, ⟨ps, tP, tOk⟩, hR⟩ := hx
  subst ev
  obtain ⟨t, et⟩ := (show ∃ t, xv = Value.str a t from rv)
  subst et
  refine wpAny_pyIter_str fun o St W st0 => ?_
  generalize hN : s1.heap.objs.size = N at W st0 ⊢
  have gP : s1.heap.get? P = some { cls := .none, data := .fields ps } := J.hok P _ tP
  have ltP : P < N := by rw [← hN]; exact Heap.lt_size gP
  have szO : (s1.heap.push o).objs.size = N + 1 := by rw [Heap.size_push, hN]
  have kO : ∀ b u, s1.heap.get? b = some u → (s1.heap.push o).get? b = some u := fun b u e => Heap.get?_push_of_some _ e
  have codeO : PySem.W.CodeHd (s1.heap.push o) c P := TB.code.keeps fun b u e => kO b u (J.bk b u e)
  have limO : (s1.heap.push o).NoLimit := J.nolimit.push o
  have statics : cStatics < N := by
    obtain ⟨_, hn, _⟩ := J.nolimit
    rw [← hN]
    exact hn.lt
  have staticsP : cStatics ≠ P := fun e => by
    obtain ⟨_, hn, _⟩ := J.nolimit
    obtain ⟨q, _, _, hq, hqd, _⟩ := hn
    rw [e, gP] at hq
    cases hq
    cases hqd
  refine ⟨limO, ?_⟩
  have main : ∀ (code : Value) (h3 : Heap) (tk : Nat) (ps' : Array Value), Heap.ExtBut P (s1.heap.push o) h3 → N + 1 ≤ h3.objs.size →
      h3.get? P = some { cls := .none, data := .fields ps' } → (∃ more, ps' = ps ++ more) → TriplesOk ps'.toList →
      wpAny (model X.prog X.w) X.A (builtinsFor X.env.globals X.env.builtins) (fun bi s₄ =>
        ∃ Ia fp wr n₀ Pf St₀ pz F, Value.ref N = .ref Ia ∧ (∀ A' : Around, A'.handled = none → Walks X.prog X.w A' Ia fp wr n₀ Pf St₀) ∧ St₀ 0 s₄.heap ∧
          (∀ b ∈ fp, b < s₄.heap.objs.size) ∧ s₄.heap.NoLimit ∧ cStatics ∉ wr ∧
          (∀ href : Heap, (∀ b o, s₄.heap.get? b = some o → href.get? b = some o) →
            QuietGen X.prog X.w (genEnv scope (cloFrom X.env.cells scope.names []) s₄.heap.objs.size code bi X.env) x [] elt (List.range s₄.heap.objs.size) wr Pf pz F href) ∧
          (∀ a h₅ tk gs, gs.bare = true → s₄.heap.objs.size < a → h₅.objs.size = a + 1 → (∀ b o, s₄.heap.get? b = some o → h₅.get? b = some o) →
            WalksS X.prog X.w X.A.in4 a (a :: s₄.heap.objs.size :: List.range s₄.heap.objs.size) (s₄.heap.objs.size :: wr) (GenOnlyQ s₄.gens.size) (passing pz n₀ 0).length
              (fun j y => ∃ i, (passing pz n₀ 0)[j]? = some i ∧ F i y) (GenAt X.prog X.w X.A.in4 a s₄.gens.size s₄.heap.objs.size (List.range s₄.heap.objs.size) wr pz n₀ F) →
            GenAt X.prog X.w X.A.in4 a s₄.gens.size s₄.heap.objs.size (List.range s₄.heap.objs.size) wr pz n₀ F 0 { s₄ with gens := s₄.gens.push gs, toks := tk, heap := h₅ } →
            Q' (.ref a) { s₄ with gens := s₄.gens.push gs, toks := tk, heap := h₅ })) X.xe { s1 with heap := h3, toks := tk } := by
    intro code h3 tk ps' hx hsz hP3 hmore ht3
    have k3 : ∀ b u, b ≠ P → s1.heap.get? b = some u → h3.get? b = some u := fun b u hb e => hx b u hb (kO b u e)
    have glob3 : h3.Ns mainGlobals X.mg := ((J.mod.glob.keeps J.bk).push o).extBut hx TB.gP
    obtain ⟨bm, ob, b1, b2, b3, b4, b5, b6, b7, b8⟩ := TB.bm
    refine wpAny_builtinsFor (m := X.mg) (by rw [J.ok.glob]; exact glob3) b1 b2 (k3 _ _ b4 (J.bk _ _ b5)) b6 b7 b8 ?_
    refine ⟨N, [N], [N], a.cps.size, SignAt a, St, (fun _ => true), (fun i y => ∃ q, a.cps[i]? = some q ∧ y = .bool (pb q)), rfl, W, ?_, ?_, limO.extBut hx staticsP, ?_, ?_, ?_⟩
    · refine (W X.A hr.hd).frame _ _ _ st0 fun b hb u e => hx b u (fun z => ?_) e
      have eb : b = N := by simpa using hb
      exact ad_no (z.symm.trans eb) ltP
    · intro b hb
      have eb : b = N := by simpa using hb
      exact ad_lt eb hsz
    · intro z
      have eb : cStatics = N := by simpa using z
      rw [eb] at statics
      exact Nat.lt_irrefl _ statics
    · intro href keepH
      have ltG : mainGlobals < N := by
        obtain ⟨q, _, _, hq, _⟩ := J.mod.glob.keeps J.bk
        rw [← hN]
        exact Heap.lt_size hq
      refine ⟨fun A' E' i v z m hA hv hn hm hk => ?_, fun A' E' i v z m hA hv hp hn hm hk => ?_⟩
      · simp only [List.forIn_nil]
        exact wpAny_pure ⟨rfl, keeps_refl _⟩
      · obtain ⟨q, u, hq, ev⟩ := hv
        subst ev
        have globZ : z.heap.Ns mainGlobals X.mg := by
          obtain ⟨og, es, ep, ho, hrest⟩ := glob3
          refine ⟨og, es, ep, hk mainGlobals (List.mem_range.mpr ?_) (fun hw => ?_) og (keepH _ _ ho), hrest⟩
          · exact ad_ltlt ltG hsz
          · have eb : mainGlobals = N := by simpa using hw
            exact ad_no eb ltG
        exact wpAny_mono (hel _ A' E' q u z m rfl J.ok.glob globZ hn hm) (fun y z' r => ⟨⟨q, hq, r.1⟩, r.2⟩) fun _ _ e => e
    · intro g h5 tk5 gs hgb hag hsz5 hk5 W5 at0
      simp only [GxR.passing_true, List.length_range] at W5
      refine hQ a H1 g _ hR ⟨_, _, _, _, _, W5.in4_1, at0, ?_, fun s' mv => ?_⟩
      · rintro j y sj Qj Ej ⟨i, hij, q, hq, rfl⟩ hQj
        obtain ⟨hj, ej⟩ := List.getElem?_eq_some_iff.mp hij
        rw [List.getElem_range] at ej
        subst ej
        have e9 : a.cps.toList[j]? = some q := by rw [Array.getElem?_toList]; exact hq
        have hQ2 : Qj (trF pb a.cps.toList j) sj := hQj
        rw [trF_some e9] at hQ2
        exact wpAny_truthy_bool hQ2
      · obtain ⟨more, em⟩ := hmore
        have nwr : ∀ b u, s1.heap.get? b = some u → b ∉ h3.objs.size :: [N] := fun b u e hb => by
          have hl : b < N := by rw [← hN]; exact Heap.lt_size e
          rcases List.mem_cons.mp hb with z | z
          · exact ad_no2 z hl hsz
          · have eb : b = N := by simpa using z
            exact ad_no eb hl
        have K2 := inv_tab (more := more) (h' := s'.heap) (g' := s'.gens) (d' := s'.drawn) (t' := s'.toks) J tP
          (fun b u hb e => mv.heap b u (nwr b u e) (hk5 b u (k3 b u hb e))) (by rw [← em]; exact mv.heap P _ (nwr P _ gP) (hk5 P _ hP3)) (AllBare.movedS (J.bare.push hgb) mv)
        rw [sh_eta s1 s' mv.os] at K2
        exact ⟨upd H1 P (.tbl (ps ++ more)), ⟨⟨ps ++ more, upd_same, by rw [← em]; exact ht3⟩, fun b hb => upd_ne hb⟩, K2⟩
  cases hf : codeAmong gpos ps.toList with
  | none =>
    refine wpAny_genexprCodeX hcode (codeO.code (kO _ _ gP) tOk) (codeO.tab (kO _ _ gP)) hf fun c' h' tk hx hge hlt hco' _ htab' _ => ?_
    obtain ⟨o1, vs, f1, tf, fl, tg, inF, tx, tt, op, _, _, _, _, _, _, _, _, _, htr, _⟩ := hco'
    refine main _ h' tk _ hx ?_ htab'.2 ⟨_, rfl⟩ htr
    rw [szO] at hge
    exact Nat.le_trans hge (Nat.le_of_lt hlt)
  | some cv =>
    refine wpAny_genexprCode_hit hcode (codeO.code (kO _ _ gP) tOk) hf ?_
    exact main cv (s1.heap.push o) s1.toks ps (Heap.ExtBut.refl _ _) (Nat.le_of_eq szO.symm) (kO _ _ gP) ⟨#[], by simp⟩ tOk
/-- all(test for x in e), e a text -/
theorem pe_allG {c P : Addr} {elt iter : Expr} {x : Str} {px p pos gpos : Pos} {scope : Scope} {pb : Nat → Bool} {te : TE} {k : Nat}
    (hr : Room k X.A) (hg : Gl X "all") (hm : X.mg "all" = none) (hb : bootBuiltins "all" = some (.builtin "all")) (TB : TabB X.base X.mg c P) (hcode : X.env.code = .ref c) (S : GenS X.env scope x)
    (hi : PE X iter te) (hel : EltG X.prog X.w X.mg scope x elt pb) (hs : ∀ v, genFold iter X.env v = pure v)
    (he : starEach [.GeneratorExp elt [⟨.Name x px, iter, [], 0⟩] scope gpos] X.env = (false, eval (.GeneratorExp elt [⟨.Name x px, iter, [], 0⟩] scope gpos) X.env) :: starEach [] X.env := by rfl) :
    PE X (.Call (.Name "all" p) [.GeneratorExp elt [⟨.Name x px, iter, [], 0⟩] scope gpos] [] pos) (tAllS P pb te) := by
  refine ⟨fun pins s σ H Q I h => wpAny_Call_Name_kw (ld_blt I hg hm hb (PyProof.Rows.callWith_builtin1 ?_ he (by rfl)))⟩
  rw [he]
  show wpAny _ _ (spliced ((false, eval (.GeneratorExp elt [⟨.Name x px, iter, [], 0⟩] scope gpos) X.env) :: backTo pos (starEach [] X.env))) _ _ s
  refine Calls.spliced_cons (genG (R := fun a H1 => ∀ H2, Tabbed P H1 H2 → Q (.bl (a.cps.toList.all pb)) H2) hr TB hcode S hi hel hs I h fun a H1 g z hR rdy => Calls.spliced_nil ?_)
  obtain ⟨fp, wr, G, F, St, W, st0, tru, back⟩ := rdy
  refine call_all_walkS (W.self 0 _ _ _ st0 ⟨g, fp, wr, G, _, F, St, _, rfl, W, st0, tru, fun z' mv => ?_⟩)
  obtain ⟨H2, tb, K2⟩ := back z' mv
  have q := hR H2 tb
  rw [← all_signs a pb] at q
  exact ⟨.bl _, H2, K2, rfl, q⟩
end
end My
namespace My
open PySem L2 TL
/-! ### signs and words, by their codes -/
def sDig : Str := "0123456789"
def sSym : Str := "abcdefghijklmnopqrstuvwxyzABCDEFGHIJKLMNOPQRSTUVWXYZ0123456789-+*<=?!."
def sEnd : Str := " \n();"
def isDig (c : Nat) : Bool := decide (c ∈ sDig.cps.toList)
def isSym (c : Nat) : Bool := decide (c ∈ sSym.cps.toList)
def isEnd (c : Nat) : Bool := decide (c ∈ sEnd.cps.toList)
theorem dig_list : sDig.cps.toList = [48, 49, 50, 51, 52, 53, 54, 55, 56, 57] := by decide +kernel
theorem end_list : sEnd.cps.toList = [32, 10, 40, 41, 59] := by decide +kernel
theorem isDig_iff (c : Nat) : isDig c = true ↔ 48 ≤ c ∧ c ≤ 57 := by
  unfold isDig
  rw [dig_list, decide_eq_true_iff]
  simp only [List.mem_cons, List.not_mem_nil, or_false]
  omega
theorem isEnd_iff (c : Nat) : isEnd c = true ↔ c = 32 ∨ c = 10 ∨ c = 40 ∨ c = 41 ∨ c = 59 := by
  unfold isEnd
  rw [end_list, decide_eq_true_iff]
  simp only [List.mem_cons, List.not_mem_nil, or_false]
/-- what stands behind a sign ahead -/
def body : List Nat → List Nat
  | [] => []
  | c :: r => if c = 45 ∨ c = 43 then r else c :: r
def madeNum (l : List Nat) : Bool := !(body l).isEmpty && (body l).all isDig
def isSymL (l : List Nat) : Bool := !l.isEmpty && (!madeNum l && l.all isSym)
/-- without a minus ahead -/
def noMinus : List Nat → List Nat
  | [] => []
  | c :: r => if c = 45 then r else c :: r
def isIntL (l : List Nat) : Bool := madeNum l && (l.head? != some 43 && (decide ((noMinus l).length ≤ 40) && (l == [48] || (noMinus l).head? != some 48)))
/-! ### pieces of texts -/
theorem tl_cut0 (z : Str) (k : Nat) : tl (cutS z none (some (k : Int))) = (tl z).take k := by
  unfold cutS
  rw [HT.sIx_none, HT.sIx_nat]
  show ((z.cps.toList.drop 0).take (min k z.length - 0)) = _
  rw [List.drop_zero, Nat.sub_zero, List.take_eq_take_iff.mpr]
  have := len_tl z
  unfold tl at this
  omega
theorem tl_cut1 (z : Str) (k : Nat) : tl (cutS z (some (k : Int)) none) = (tl z).drop k := by
  unfold cutS
  rw [HT.sIx_none, HT.sIx_nat]
  show ((z.cps.toList.drop (min k z.length)).take (z.length - min k z.length)) = z.cps.toList.drop k
  have hz : z.length = z.cps.toList.length := len_tl z
  rw [hz]
  generalize z.cps.toList = l
  rw [List.take_of_length_le (by rw [List.length_drop]; omega)]
  by_cases h : k ≤ l.length
  · rw [Nat.min_eq_left h]
  · rw [Nat.min_eq_right (by omega), List.drop_of_length_le (Nat.le_refl l.length), List.drop_of_length_le (show l.length ≤ k by omega)]
theorem tl_cut2 (z : Str) (a b : Nat) (h : a ≤ b) (hb : b ≤ z.length) : tl (cutS z (some (a : Int)) (some (b : Int))) = ((tl z).drop a).take (b - a) := by
  unfold cutS
  rw [HT.sIx_nat, HT.sIx_nat]
  show ((z.cps.toList.drop (min a z.length)).take (min b z.length - min a z.length)) = _
  rw [Nat.min_eq_left hb, Nat.min_eq_left (Nat.le_trans h hb)]
theorem str_eq_iff (x y : Str) : (x = y) ↔ tl x = tl y := ⟨fun h => by rw [h], ext_tl⟩
theorem dec_str_tl (x y : Str) : decide (V.str x = V.str y) = decide (tl x = tl y) := by
  by_cases h : tl x = tl y
  · rw [decide_eq_true h, decide_eq_true (by rw [ext_tl h])]
  · rw [decide_eq_false h, decide_eq_false fun z => h (by cases z; rfl)]
theorem tl_removeprefix (x : Str) : tl (Txt.removeprefix x ("-" : Str)) = noMinus (tl x) := by
  have e1 : ("-" : Str).length = 1 := by decide +kernel
  have e2 : ("-" : Str).cps.toList = [45] := by decide +kernel
  rw [StrLaws.removeprefix_eq, StrLaws.subAt_eq, e1, e2, List.drop_zero]
  have hl := len_tl x
  show tl (if (decide (0 + 1 ≤ x.length) && ((tl x).take 1 == [45])) = true then (⟨(((tl x).drop 1).take (x.length - 1)).toArray⟩ : Str) else x) = noMinus (tl x)
  cases h : tl x with
  | nil =>
    rw [h] at hl
    rw [if_neg (by simp), h]
    rfl
  | cons c r =>
    rw [h] at hl
    have hl' : x.length = r.length + 1 := hl
    by_cases hc : c = 45
    · subst hc
      rw [if_pos (by simp [hl'])]
      show ((45 :: r).drop 1).take (x.length - 1) = noMinus (45 :: r)
      rw [hl']
      simp [noMinus]
    · rw [if_neg (by simp [hc]), h]
      simp [noMinus, hc]
theorem inV2 (x : Str) (a b : Str) : inV (.str x) [.str a, .str b] = (decide (tl x = tl a) || decide (tl x = tl b)) := by
  unfold inV
  simp only [List.any_cons, List.any_nil, Bool.or_false]
  have e : ∀ y : Str, eqV (.str y) (.str x) = decide (tl x = tl y) := fun y => by
    show decide (y = x) = _
    by_cases h : tl x = tl y
    · rw [decide_eq_true h, decide_eq_true (ext_tl h).symm]
    · rw [decide_eq_false h, decide_eq_false fun z => h (by rw [z])]
  rw [e, e]
end My
namespace My
open PySem L2 TL
/-! ### a def whose code object is known -/
structure FunC (K : PySem.W.Frag) (x : Str) (st : Stmt) (f : Addr) (fd : FuncData) (c : Addr) : Prop where
  ex : ∃ (oc : Value) (od : Option Addr) (kV doc pm : Value) (an : Option Addr) (ct : Value) (osl : Array (Option Value)),
    fd = PySem.W.fnOf x x (defArgs st) (defBody st) (defScope st) .none kV doc pm an (.ref c) ct ∧ K.lookup f = some ⟨oc, od, .func fd, osl⟩ ∧ PySem.W.codeIn K (.ref c) x = true
  kp : PySem.W.keepIn K (.ref f) = true
section
variable {P : Program} {w : World} {K : PySem.W.Frag} {mg : Str → Option Value} {base : Heap}
theorem FunC.ok {x : Str} {st : Stmt} {f c : Addr} {fd : FuncData} {N ps : List Str} {k : Nat} {sp : Sp} (F : FunC K x st f fd c) (S : FnScope N ps (defScope st)) (len : ∀ vs H Q E, sp vs H Q E → vs.length = ps.length)
    (hb : ∀ (A : Around) (outer : List Env) (s : Shared) (H : Hp) (vs : List V) (Q : VK) (E : XK), Room k (A.deeper (PyProof.Rows.envOfC x (defScope st) s.heap.objs.size f (.ref c))) → sp vs H Q E →
      ∃ t, PSs (cxOf CX0 P w K mg base N x (defScope st) f (.ref c) A outer s H E).nox (defBody st) t ∧ t { nx := fun _ H' => Q .non H', rt := Q } (start N vs) H) : FnOk P w K mg base CX0 (k + 1) f fd ps sp := by
  obtain ⟨oc, od, kV, doc, pm, an, ct, osl, e, lk, hcd⟩ := F.ex
  subst e
  refine fn_of lk hcd S len fun A outer s H vs Q E hr hsp => ?_
  obtain ⟨t, h, q⟩ := hb A outer s H vs Q E hr hsp
  exact ⟨t, h.nox, q⟩
end
abbrev sNum : Stmt := top 12
abbrev sSymb : Stmt := top 13
abbrev sInt : Stmt := top 14
/-- the module's texts and numbers -/
structure Sgn (mg : Str → Option Value) : Prop where
  dig : ∃ t, mg "DIGITS" = some (.str sDig t)
  sym : ∃ t, mg "SYMBOL_SIGNS" = some (.str sSym t)
structure Txs (mg : Str → Option Value) : Prop where
  dig : ∃ t, mg "DIGITS" = some (.str sDig t)
  sym : ∃ t, mg "SYMBOL_SIGNS" = some (.str sSym t)
  ends : ∃ t, mg "WORD_ENDS" = some (.str sEnd t)
  most : ∃ t, mg "MOST_DIGITS" = some (.int 40 t)
  deep : ∃ t, mg "DEEPEST_LIST" = some (.int 60 t)
theorem Txs.sgn {mg : Str → Option Value} (T : Txs mg) : Sgn mg := ⟨T.dig, T.sym⟩
def big : Nat := 1000000
theorem big_line {n : Nat} (h : n ≤ big) : n ≤ sizeLine := Nat.le_trans h (by decide)
theorem genS_of {env : Env} {sc : Scope} {x : Str} (a : sc.kind = .function) (b : sc.isCoroutine = false) (c : ∀ y ∈ sc.names, y.2 ≠ .cell) (d : sc.names.lookup (".0" : Str) = some NameKind.local) (e : sc.names.lookup x = some .local)
    (n : ∀ y ∈ sc.names, y.2 ≠ .free) : GxR.GenS env sc x := ⟨a, b, c, d, e, fun y hy z => absurd z (n y hy)⟩
/-- a text's test -/
def spTxt (g : List Nat → Bool) (Ps : List Addr) : Sp := fun vs H Q _ => ∃ z : Str, vs = [.str z] ∧ z.length ≤ big ∧ (∀ p ∈ Ps, GxR.TabG H p) ∧ ∀ H', Sm No H H' → Q (.bl (g (tl z))) H'
section
variable {P : Program} {w : World} {K : PySem.W.Frag} {mg : Str → Option Value} {base : Heap}
theorem scNum : FnScope ["word", "digits"] ["word"] (defScope sNum) := ⟨rfl, rfl, rfl, by decide +kernel, rfl, by decide +kernel, by decide +kernel⟩
theorem body_cases (l : List Nat) : (decide (l.take 1 = [45]) || decide (l.take 1 = [43])) = true ∧ body l = l.drop 1 ∨ (decide (l.take 1 = [45]) || decide (l.take 1 = [43])) = false ∧ body l = l := by
  cases l with
  | nil => right; exact ⟨rfl, rfl⟩
  | cons c r =>
    by_cases h : c = 45 ∨ c = 43
    · left
      refine ⟨?_, by simp [body, h]⟩
      rcases h with h | h <;> subst h <;> simp
    · right
      refine ⟨?_, by simp [body, h]⟩
      simp
      omega
theorem ok_num {f c P1 : Addr} {fd : FuncData} (F : FunC K "is_made_as_number" sNum f fd c) (B : Blt mg) (T : Sgn mg) (TB : GxR.TabB base mg c P1) : FnOk P w K mg base CX0 1 f fd ["word"] (spTxt madeNum [P1]) := by
  refine F.ok scNum (fun vs H Q E h => ?_) (fun A outer s H vs Q E hr h => ?_)
  · obtain ⟨z, rfl, _⟩ := h
    rfl
  obtain ⟨z, rfl, hz, ht, q⟩ := h
  have hT := ht P1 (by simp)
  obtain ⟨td, eD⟩ := T.dig
  refine ⟨_, pss_cons (ps_set (i := 1) scNum.nd rfl (Or.inl rfl) (pe_ifExp (pt_cmpR op_in_seq (pe_slice sl_str (pv 0) po_none (po_some pe_int)) (pe_tup (pa_cons pe_str (pa_cons pe_str pa_nil))) (by rfl))
      (pe_slice sl_str (pv 0) (po_some pe_int) po_none) (pv 0)))
    (pss_one (ps_ret (pe_and (pe_cmpR op_ne (pv 1) pe_str (nomark _)) (pe_one (pe_allG hr (by rfl) B.all (by decide +kernel) TB rfl (genS_of rfl rfl (by decide +kernel) rfl rfl (by decide +kernel)) (pv 1)
      (elt_inG rfl rfl rfl eD) (fun _ => rfl)))))), ?_⟩
  have fin : ∀ (d : Str) (p : Addr) (o : HO), H p = none → isTbl o = false → tl d = body (tl z) →
      (tAndV (tOp rNe (tVar 1) (tC (V.str ""))) (GxR.tAllS P1 (fun c => decide (c ∈ sDig.cps.toList)) (tVar 1))) [some (.str z), some (.str d)] (upd H p o) Q := by
    intro d p o hp _ e
    have sm1 : Sm No H (upd H p o) := Sm.new hp
    refine ⟨_, rfl, rfl, _, rfl, ?_⟩
    have e0 : tl ("" : Str) = [] := by decide +kernel
    rw [dec_str_tl, e, e0]
    by_cases hb : body (tl z) = []
    · rw [decide_eq_true hb]
      have g : madeNum (tl z) = false := by unfold madeNum; rw [hb]; rfl
      have r := q _ sm1
      rw [g] at r
      exact r
    · rw [decide_eq_false hb]
      refine ⟨_, rfl, d, rfl, sm1.tab _ hT, fun H2 tb => ?_⟩
      have g : madeNum (tl z) = d.cps.toList.all (fun c => decide (c ∈ sDig.cps.toList)) := by
        show madeNum (tl z) = (tl d).all (fun c => decide (c ∈ sDig.cps.toList))
        rw [e]
        unfold madeNum
        cases hx : body (tl z) with
        | nil => exact absurd hx hb
        | cons a r => rfl
      have r := q _ (sm1.trans (Sm.tabbed (sm1.tab _ hT) tb))
      rw [g] at r
      exact r
  refine ⟨_, rfl, _, rfl, z, rfl, big_line hz, ?_⟩
  refine ⟨by show 2 ≤ sizeLine; decide, fun p hp => ?_⟩
  refine ⟨p, _, rfl, .inr (SqT.of upd_same), rfl, rfl, _, rfl, ?_⟩
  rw [if_neg Bool.false_ne_true, inV2]
  have e1 : tl (cutS z none (some 1)) = (tl z).take 1 := tl_cut0 z 1
  have em : tl ("-" : Str) = [45] := by decide +kernel
  have ep : tl ("+" : Str) = [43] := by decide +kernel
  rw [e1, em, ep]
  rcases body_cases (tl z) with ⟨h1, h2⟩ | ⟨h1, h2⟩
  · rw [h1]
    refine ⟨_, rfl, _, rfl, z, rfl, big_line hz, ?_⟩
    exact fin _ p _ hp rfl (by rw [h2]; exact tl_cut1 z 1)
  · rw [h1]
    exact ⟨_, rfl, fin _ p _ hp rfl h2.symm⟩
end
end My
namespace My
open PySem L2 TL
section
variable {P : Program} {w : World} {K : PySem.W.Frag} {mg : Str → Option Value} {base : Heap}
theorem spTxt_len {g : List Nat → Bool} {Ps : List Addr} : ∀ vs H Q E, spTxt g Ps vs H Q E → vs.length = (["word"] : List Str).length := by
  intro vs H Q E h
  obtain ⟨z, rfl, _⟩ := h
  rfl
/-! ### is_symbol -/
theorem scSymb : FnScope ["text"] ["text"] (defScope sSymb) := ⟨rfl, rfl, rfl, by decide +kernel, rfl, by decide +kernel, by decide +kernel⟩
theorem ok_symb {f c P1 P2 fN : Addr} {fd fdN : FuncData} (F : FunC K "is_symbol" sSymb f fd c) (B : Blt mg) (T : Txs mg) (TB : GxR.TabB base mg c P2)
    (GN : FnOk P w K mg base CX0 1 fN fdN ["word"] (spTxt madeNum [P1])) (kN : PySem.W.keepIn K (.ref fN) = true) (gN : mg "is_made_as_number" = some (.ref fN)) (bN : Binds K fdN ["word"] []) :
    FnOk P w K mg base CX0 2 f fd ["text"] (spTxt isSymL [P1, P2]) := by
  refine F.ok scSymb (fun vs H Q E h => ?_) (fun A outer s H vs Q E hr h => ?_)
  · obtain ⟨z, rfl, _⟩ := h
    rfl
  obtain ⟨z, rfl, hz, ht, q⟩ := h
  have h1 := ht P1 (by simp)
  have h2 := ht P2 (by simp)
  obtain ⟨td, eD⟩ := T.sym
  refine ⟨_, pss_cons (ps_if (PW.pt (pw_or (pt_cmpR op_eq (pv 0) pe_str (nomark _)) (pw_or1 (pt_val (pe_call GN (hr.mono (by decide)) rfl gN kN bN .nil pass0 (pa_cons (pv 0) pa_nil)))))) (pss_one (ps_ret pe_bl)) pss_nil)
    (pss_one (ps_ret (pe_allG hr (by rfl) B.all (by decide +kernel) TB rfl (genS_of rfl rfl (by decide +kernel) rfl rfl (by decide +kernel)) (pv 0) (elt_inG rfl rfl rfl eD) (fun _ => rfl)))), ?_⟩
  have e0 : tl ("" : Str) = [] := by decide +kernel
  refine ⟨_, rfl, rfl, _, rfl, ?_⟩
  rw [dec_str_tl, e0]
  refine ite2 (fun c => ?_) (fun c => ?_)
  · have g : isSymL (tl z) = false := by
      have c' := of_decide_eq_true c
      unfold isSymL
      rw [c']; rfl
    have r := q H (Sm.refl _ _)
    rw [g] at r
    exact r
  · have c' : tl z ≠ [] := fun x => c (decide_eq_true x)
    have ne : (tl z).isEmpty = false := by
      cases hx : tl z with
      | nil => exact absurd hx c'
      | cons a r => rfl
    refine ⟨_, rfl, z, rfl, hz, ?_, fun H1 sm => ⟨_, rfl, ?_⟩⟩
    · intro p hp
      have : p = P1 := by simpa using hp
      rw [this]; exact h1
    refine ite2 (fun d => ?_) (fun d => ?_)
    · have g : isSymL (tl z) = false := by
        unfold isSymL
        rw [d, ne]; rfl
      have r := q H1 sm
      rw [g] at r
      exact r
    · refine ⟨_, rfl, z, rfl, sm.tab _ h2, fun H2 tb => ?_⟩
      have g : isSymL (tl z) = z.cps.toList.all (fun c => decide (c ∈ sSym.cps.toList)) := by
        unfold isSymL
        rw [ne, Bool.eq_false_iff.mpr d]
        rfl
      have r := q H2 (sm.trans (Sm.tabbed (sm.tab _ h2) tb))
      rw [g] at r
      exact r
/-! ### is_integer -/
theorem scInt : FnScope ["word", "digits"] ["word"] (defScope sInt) := ⟨rfl, rfl, rfl, by decide +kernel, rfl, by decide +kernel, by decide +kernel⟩
theorem made_ne {l : List Nat} (h : madeNum l = true) : l ≠ [] := by
  intro e
  subst e
  cases h
theorem ok_int {f P1 fN : Addr} {fd fdN : FuncData} (F : Fun K "is_integer" "is_integer" sInt f fd) (B : Blt mg) (T : Txs mg)
    (GN : FnOk P w K mg base CX0 1 fN fdN ["word"] (spTxt madeNum [P1])) (kN : PySem.W.keepIn K (.ref fN) = true) (gN : mg "is_made_as_number" = some (.ref fN)) (bN : Binds K fdN ["word"] []) :
    FnOk P w K mg base CX0 2 f fd ["word"] (spTxt isIntL [P1]) := by
  refine F.ok scInt spTxt_len (fun cdv A outer s H vs Q E hr h => ?_)
  obtain ⟨z, rfl, hz, ht, q⟩ := h
  obtain ⟨tm, eM⟩ := T.most
  have lz := len_tl z
  refine ⟨_, pss_cons (ps_if (PW.pt (pw_or (pt_not (pt_val (pe_call GN hr rfl gN kN bN .nil pass0 (pa_cons (pv 0) pa_nil)))) (pw_or1 (pt_cmpR op_eq (pe_ix ix_str (pv 0) pe_int (fun _ _ => rfl)) pe_str (nomark _))))) (pss_one (ps_ret pe_bl)) pss_nil)
    (pss_cons (ps_set (i := 1) scInt.nd rfl (Or.inl rfl) (pe_bm PySem.F.plainAttrs_str PySem.F.slot_str_removeprefix PySem.F.type_str_removeprefix mt_removeprefix (pv 0) (pa_cons pe_str pa_nil)))
    (pss_cons (ps_if (pt_cmpR op_gt (pe_callB call_len (by rfl) B.len PySem.boot_len (pa_cons (pv 1) pa_nil)) (pe_glob (v := .int 40) rfl eM ⟨_, rfl⟩) (nomark _)) (pss_one (ps_ret pe_bl)) pss_nil)
    (pss_one (ps_ret (pe_or (pe_cmpR op_eq (pv 0) pe_str (nomark _)) (pe_one (pe_cmpR op_ne (pe_ix ix_str (pv 1) pe_int (fun _ _ => rfl)) pe_str (nomark _)))))))), ?_⟩
  refine ⟨_, rfl, z, rfl, hz, ht, fun H1 sm => ⟨_, rfl, ?_⟩⟩
  cases hm : madeNum (tl z) with
  | false =>
    have g : isIntL (tl z) = false := by unfold isIntL; rw [hm]; rfl
    have r := q H1 sm
    rw [g] at r
    exact r
  | true =>
    cases hx : tl z with
    | nil => exact absurd hx (made_ne hm)
    | cons c0 r0 =>
      have g0 : isIntL (tl z) = ((tl z).head? != some 43 && (decide ((noMinus (tl z)).length ≤ 40) && (tl z == [48] || (noMinus (tl z)).head? != some 48))) := by
        unfold isIntL; rw [hm]; rfl
      have ea : atI z.cps.toList 0 = some c0 := by
        show atI (tl z) 0 = some c0
        rw [hx]; exact at0 _ _
      have one : ∀ (a b : Nat) (y : Str), tl y = [b] → decide (V.str ⟨#[a]⟩ = V.str y) = decide (a = b) := fun a b y e => by
        rw [dec_str_tl, e]
        show decide ([a] = [b]) = decide (a = b)
        by_cases h : a = b
        · rw [decide_eq_true h, decide_eq_true (by rw [h])]
        · rw [decide_eq_false h, decide_eq_false (fun e => h (List.cons.inj e).1)]
      refine ⟨_, rfl, z, _, c0, rfl, rfl, big_line hz, ea, rfl, _, rfl, ?_⟩
      rw [one c0 43 "+" (by decide +kernel)]
      by_cases h43 : c0 = 43
      · have g : isIntL (tl z) = false := by rw [g0, hx, h43]; rfl
        rw [decide_eq_true h43]
        have r := q H1 sm
        rw [g] at r
        exact r
      rw [decide_eq_false h43]
      have ed := tl_removeprefix z
      refine ⟨_, rfl, rfl, z, _, rfl, rfl, big_line hz, ?_⟩
      generalize Txt.removeprefix z ("-" : Str) = dz at ed
      have ld := len_tl dz
      have lnm : (noMinus (tl z)).length ≤ (tl z).length := by
        rw [hx]
        show (if c0 = 45 then r0 else c0 :: r0).length ≤ (c0 :: r0).length
        split <;> simp
      have ldz : dz.length ≤ sizeLine := by
        rw [ld, ed]
        exact Nat.le_trans lnm (by rw [← lz]; exact big_line hz)
      refine ⟨_, rfl, _, _, rfl, ⟨ldz, rfl⟩, _, _, rfl, rfl, _, rfl, ?_⟩
      rw [ld, ed]
      by_cases h40 : (noMinus (tl z)).length ≤ 40
      · rw [decide_eq_false (by omega)]
        have e48 : tl ("0" : Str) = [48] := by decide +kernel
        refine ⟨_, rfl, rfl, _, rfl, ?_⟩
        rw [dec_str_tl, e48]
        by_cases hz0 : tl z = [48]
        · rw [decide_eq_true hz0]
          have g : isIntL (tl z) = true := by rw [g0, hz0]; decide
          have r := q H1 sm
          rw [g] at r
          exact r
        · rw [decide_eq_false hz0]
          have dne : noMinus (tl z) ≠ [] := by
            intro e
            rw [hx] at e hm
            have e : (if c0 = 45 then r0 else c0 :: r0) = [] := e
            split at e
            · rename_i h45
              subst h45
              subst e
              cases hm
            · cases e
          cases hd : noMinus (tl z) with
          | nil => exact absurd hd dne
          | cons d0 dr =>
            have ead : atI dz.cps.toList 0 = some d0 := by
              show atI (tl dz) 0 = some d0
              rw [ed, hd]; exact at0 _ _
            refine ⟨_, rfl, dz, _, d0, rfl, rfl, ldz, ead, rfl, ?_⟩
            rw [one d0 48 "0" e48]
            have g : isIntL (tl z) = !decide (d0 = 48) := by
              rw [g0, hd, hx]
              rw [hd] at h40
              rw [hx] at hz0
              have n1 : ((c0 :: r0).head? != some 43) = true := by simp [h43]
              have n2 : ((c0 :: r0) == [48]) = false := beq_eq_false_iff_ne.mpr hz0
              rw [n1, n2, decide_eq_true h40]
              by_cases h0 : d0 = 48
              · subst h0; rfl
              · rw [decide_eq_false h0]; simp [h0]
            have r := q H1 sm
            rw [g] at r
            exact r
      · rw [decide_eq_true (by omega)]
        have g : isIntL (tl z) = false := by
          rw [g0, decide_eq_false h40]
          simp
        have r := q H1 sm
        rw [g] at r
        exact r
end
end My
namespace My
open PySem PySem.Spec PyProof.Rows L2 TL
/-- what is known of the base class of all the program's errors: its __init__ is ValueError's -/
structure BaseC (K : PySem.W.Frag) (mg : Str → Option Value) (F : Addr) : Prop where
  g : mg "FoldError" = some (.ref F)
  rd : PySem.W.readsIn K F (.type "type") = true
  ga : PySem.W.specialIn K (.ref F) "__getattribute__" = some (some (.builtin "type.__getattribute__"))
  ini : PySem.W.findCls K (.ref F) (.type "type") "__init__" = some (.val (.builtin "ValueError.__init__"))
theorem pe_baseInit {X : Cx} {e : Expr} {es : List Expr} {ta : TA} {p1 p2 pos : Pos} {F : Addr} {pl : Sem Bool} (B : BaseC X.K X.mg F) (hg : Gl X "FoldError") (ha : PA X (e :: es) ta)
    (hc : eval (.Call (.Attribute (.Name "FoldError" p1) "__init__" p2) (e :: es) [] pos) X.env = (do
      let ov ← eval (.Name "FoldError" p1) X.env
      standAt p2.atName
      let (f, first) ← holding [ov] (getMethod ov "__init__" pl)
      callWith pos f first (backTo pos (starEach (e :: es) X.env)) (backToKw pos (keywordEach [] X.env))) := by rfl)
    (he : starEach (e :: es) X.env = (false, eval e X.env) :: starEach es X.env := by rfl) (hpl : (backTo pos (starEach es X.env)).any (·.1) = false := by rfl) :
    PE X (.Call (.Attribute (.Name "FoldError" p1) "__init__" p2) (e :: es) [] pos) (tVeI X.K ta) := by
  refine ⟨fun pins s σ H Q I h => PySem.W.methodCall_KW (ld_glob I hg B.g ?_) hc⟩
  refine PySem.W.method_cls I.kIn B.ga (PySem.W.cls_value I.kIn B.rd B.ini rfl ?_)
  show wpAny _ _ (callWith pos (Value.builtin "ValueError.__init__") [] (backTo pos (starEach (e :: es) X.env)) []) _ _ _
  refine PyProof.Rows.callWith_method1 (thn (ha.run pos pins _ σ H _ (I.tok _) h) fun us s1 hh => ?_) he hpl
  obtain ⟨vs, H1, J, rv, a, C, ws, ev, hl, T, ea, q⟩ := hh
  subst ev
  cases rv with
  | @cons _ u0 _ ur r0 rr =>
    have eu : u0 = Value.ref a := r0
    subst eu
    refine oinit_ok T J ea ?_ fun s' J' => ⟨.non, H1, J', rfl, q⟩
    rw [← Paired.length rr]
    exact Nat.le_of_lt (small1000 hl)
/-- __init__(self, at) of an error with the field at -/
def spIni (K : PySem.W.Frag) (C : Addr) : Sp := fun vs H Q _ => ∃ (a : Addr) (i : Int), vs = [.ref a, .int i] ∧ H a = some (exo a C none) ∧ i.natAbs < 10 ^ 10 ∧
  ∀ d, H d = none → d ≠ a → Q .non (upd (upd H d (exd d [("at", .int i)])) a (exo a C (some d)))
theorem int_len {i : Int} (h : i.natAbs < 10 ^ 10) : (Str.ofString (toString i)).length ≤ 11 := by
  have e := int_text_length_le10 (k := 10) (by decide) h
  rw [PySem.ofString_length]
  omega
theorem int_log {i : Int} (h : i.natAbs < 10 ^ 10) : i.natAbs.log2 < 1920 := by
  have e : i.natAbs < 2 ^ 40 := Nat.lt_of_lt_of_le h (by decide)
  exact Nat.lt_of_lt_of_le (PySem.Flt.log2_lt_of (by decide) e) (by decide)
theorem app_len (x y : Str) : (x ++ y).length = x.length + y.length := by
  rw [len_tl, tl_append, List.length_append, ← len_tl, ← len_tl]
section
variable {P : Program} {w : World} {K : PySem.W.Frag} {mg : Str → Option Value} {base : Heap}
abbrev sIniE : Stmt := inClass (top 2) 0
abbrev sIniC : Stmt := inClass (top 3) 0
abbrev sIniW : Stmt := inClass (top 4) 0
theorem scIniW : FnScope ["self", "at"] ["self", "at"] (defScope sIniW) := ⟨rfl, rfl, rfl, by decide +kernel, rfl, by decide +kernel, by decide +kernel⟩
theorem ok_iniW {f F C : Addr} {fd : FuncData} (Fn : Fun K "__init__" "InvalidWord.__init__" sIniW f fd) (B : BaseC K mg F) (T : OexC K C) (hno : PySem.W.findIn K (.ref C) "at" = some none) :
    FnOk P w K mg base CX0 1 f fd ["self", "at"] (spIni K C) := by
  refine Fn.ok scIniW (fun vs H Q E h => ?_) (fun cdv A outer s H vs Q E hr h => ?_)
  · obtain ⟨a, i, rfl, _⟩ := h
    rfl
  obtain ⟨a, i, rfl, ea, hi, q⟩ := h
  refine ⟨_, pss_cons (ps_expr (pe_baseInit B rfl (pa_cons (pv 0) (pa_cons (pe_joined (PJ.cons pe_str (PJ.cons (pe_fmt (pv 1)) PJ.nil))) pa_nil))))
    (pss_one (ps_ost (pv 0) (pv 1))), ?_⟩
  have l1 := int_len hi
  refine ⟨_, rfl, _, rfl, by decide +kernel, _, rfl, .inr ⟨i, rfl, int_log hi, _, rfl, ?_, ?_⟩⟩
  · rw [app_len]
    exact Nat.le_trans (Nat.add_le_add (show _ ≤ 100 by decide +kernel) l1) (by decide)
  refine ⟨a, C, _, rfl, by show 1 ≤ 1000; decide, T, ea, ?_⟩
  refine ⟨_, rfl, _, rfl, a, C, rfl, T, hno, .inl ⟨ea, fun d hd hda => q d hd hda⟩⟩
end
end My
namespace My
open PySem PySem.Spec PyProof.Rows L2 TL
/-! ### errors whose context is None: what raises them -/
theorem okN {P : Program} {w : World} {K : PySem.W.Frag} {mg : Str → Option Value} {base : Heap} {x qual : Str} {st : Stmt} {f : Addr} {fd : FuncData} {N ps : List Str} {k : Nat} {sp : Sp} (F : Fun K x qual st f fd) (S : FnScope N ps (defScope st))
    (len : ∀ vs H Q E, sp vs H Q E → vs.length = ps.length)
    (body : ∀ (cdv : Value) (A : Around) (outer : List Env) (s : Shared) (H : Hp) (vs : List V) (Q : VK) (E : XK), Room k (A.deeper (envOfC qual (defScope st) s.heap.objs.size f cdv)) → sp vs H Q E →
      ∃ t, PSs (cxOf (L2N.CX P w) P w K mg base N qual (defScope st) f cdv A outer s H E) (defBody st) t ∧ t { nx := fun _ H' => Q .non H', rt := Q } (start N vs) H) : FnOk P w K mg base (L2N.CX P w) (k + 1) f fd ps sp := by
  obtain ⟨oc, od, kV, doc, pm, an, cdv, ct, osl, efd, lk, hcd⟩ := F.ex
  subst efd
  exact fn_of lk hcd S len fun A out s0 H0 vs Q E room told => body cdv A out s0 H0 vs Q E room told
theorem pmkN_plain {X : Cx} {C : Addr} {bmB : List Value} {B newId initId : String} {x : Str} {e : Expr} {te : TE} {p pos : Pos} (F : ExcBaseFacts B newId initId bmB) (q : PySem.W.excIn X.K C bmB newId = true) (gC : X.mg x = some (.ref C))
    (kC : PySem.W.keepIn X.K (.ref C) = true) (r : Raises X (.ref C)) (hg : Gl X x) (he : PE X e te) (hdb : (x == ("__debug__" : Str)) = false := by decide)
    (hse : starEach [e] X.env = (false, eval e X.env) :: starEach [] X.env := by rfl) (hpl : (backTo pos (starEach [] X.env)).any (·.1) = false := by rfl) :
    L2N.PMk X (.Call (.Name x p) [e] [] pos) (fun σ H Q => tCons te tNil σ H fun vs H1 => vs.length = 1 ∧ Q (.ref C) none H1) := by
  intro pins s σ H Q I h
  refine wpAny_Call_Name_kw (ld_glob I hg gC ?_ hdb)
  have ha : PA X [e] (tCons te tNil) := pa_cons he pa_nil hse
  refine PySem.W.callWith_K (h₀ := X.base) I.ok.mod.kin kC (thn (ha.run pos pins s σ H _ I h) fun us s1 hh => ?_) hse hpl
  obtain ⟨vs, H1, J, rv, el, q1⟩ := hh
  have lu : us.length ≤ sizeLine := by
    rw [← Paired.length rv, el]
    decide
  obtain ⟨bm, N, nm, qn, bs, hdct, sn, sub, ab, col, dd, k0, k1, k2, k3, k5, mN, hC, hN, hni, T⟩ := exc_obj J.kIn q
  refine ⟨J.kIn, wpAny_call_exc_subT F T hC hN hni (fun h' e hm => ?_) lu⟩
  exact L2N.mk_of J hm r q1 (J.hok.gone hm.new)
theorem pmkN_oex {X : Cx} {CX : CXT} {x : Str} {e : Expr} {es : List Expr} {ta : TA} {p pos : Pos} {C fI : Addr} {k : Nat} {fd : FuncData} {ps : List Str} {sp : Sp} (T : OexC X.K C) (iC : PySem.W.findIn X.K (.ref C) "__init__" = some (some (.ref fI)))
    (tI : PySem.W.typeIn X.K (.ref fI) = some (.type "function")) (F : FnOk X.prog X.w X.K X.mg X.base CX k fI fd ps sp) (room : Room (k + 1) X.A) (bd : Binds X.K fd ps []) (_ : Vals ([] : List V) ([] : List Value)) (no : Passes CX X (fun _ _ _ => False))
    (hg : Gl X x) (hm : X.mg x = some (.ref C)) (ha : PA X (e :: es) ta) (hdb : (x == ("__debug__" : Str)) = false := by decide)
    (hse : starEach (e :: es) X.env = (false, eval e X.env) :: starEach es X.env := by rfl) (hpl : (backTo pos (starEach es X.env)).any (·.1) = false := by rfl) : L2N.PMk X (.Call (.Name x p) (e :: es) [] pos) (tMkO C sp [] ta) := by
  intro pins s0 σ H Q I told
  obtain ⟨nm, qn, ns, bs, bm, sn, sub, ab, col, dd, k0, k1, k2, k3, k5, lkC, ve⟩ := T.cls
  refine wpAny_Call_Name_kw (ld_glob I hg hm ?_ hdb)
  refine PySem.W.callWith_K (h₀ := X.base) I.ok.mod.kin T.kC (thn (ha.run pos pins s0 σ H _ I told) fun us s1 hh => ?_) hse hpl
  obtain ⟨vs, H1, J, rv, few, q1⟩ := hh
  refine ⟨J.kIn, ?_⟩
  show wpAny _ _ (call (.ref C) us) _ _ _
  obtain ⟨hp, gs, dr, tk, oss⟩ := s1
  have grown : ∀ b o, hp.get? b = some o → ((hp.push (PySem.W.kdv_tup us)).push (PySem.HandSPX.excO C hp.objs.size)).get? b = some o := fun b o z => Heap.get?_push_of_some _ (Heap.get?_push_of_some _ z)
  have new : ((hp.push (PySem.W.kdv_tup us)).push (PySem.HandSPX.excO C hp.objs.size)).get? (hp.objs.size + 1) = some (PySem.HandSPX.excO C hp.objs.size) := by heap_get
  have asked := q1 (hp.objs.size + 1) (J.hok.fresh (Nat.le_succ _))
  rw [List.append_nil] at asked
  have J2 := J.laid (t' := tk) (a := hp.objs.size + 1) (o := exo (hp.objs.size + 1) C none) grown (Nat.le_succ _) (exo_ok new)
  have rv2 : Vals (V.ref (hp.objs.size + 1) :: vs) (Value.ref (hp.objs.size + 1) :: us) := .cons rfl rv
  have el : (Value.ref (hp.objs.size + 1) :: us ++ []).length = ps.length := by
    rw [List.append_nil, ← rv2.length]
    exact F.len _ _ _ _ asked
  have lu : us.length ≤ sizeLine := by
    rw [← Paired.length rv]
    exact Nat.le_of_lt (small1000 few)
  have bd2 := bd _ (Value.ref (hp.objs.size + 1) :: us) J2.kIn el
  rw [List.append_nil] at bd2
  refine wpAny_call (PySem.HandSPX.call_own PySem.F.excBase_ValueError (fun Y => PySem.HandSPX.refsVE_contains Y bm ve) (J.kIn _ _ lkC) (PySem.W.looks_findIn J.kIn iC) (fun self => PySem.W.bind_fn J.kIn self tI) lu
    (codeAny_mono (F.run _ X.stack _ _ ⟨Value.ref (hp.objs.size + 1) :: us, []⟩ _ _ _ (fun _ _ _ => False) (room.make C us []) (J2.env0.make C us []) bd2 rv2 asked) fun r s2 end_ => ?_))
  cases r with
  | error er => exact no pins σ _ _ er s2 J2 end_
  | ok fl =>
    cases fl with
    | ret u =>
      obtain ⟨v, H2, os2, bare2, un2, hok2, ru, ev, d, fs, ea, ed, hd1, q2⟩ := end_
      subst ev
      obtain ⟨h2, g2, d2, t2, os'⟩ := s2
      obtain ⟨t0, G, I3, kG, goneA, atA, na⟩ := mk_end0 (d2 := d2) (t2 := t2) J (Nat.le_succ _) grown un2 hok2 os2 bare2 ea ed hd1
      refine ⟨ru, hp.objs.size + 1, _, _, ⟨G, g2, d2, t2, os'⟩, _, .ref C, some d, rfl, I3, kG, goneA, atA, ⟨rfl, rfl, fun ws z => ?_⟩, rfl, rfl, na, rfl, bare2, raises_own T.exC T.tyC, q2⟩
      cases z
      rfl
    | next => exact end_.elim
    | brk => exact end_.elim
    | cont => exact end_.elim
end My
namespace My
open PySem PySem.Spec PyProof.Rows L2 TL
/-! ### words -/
theorem isInt_text {z : Str} (h : isIntL (tl z) = true) : (∃ n, intText? z = some n) ∧ z.length ≤ 640 := by
  have lz := len_tl z
  unfold isIntL madeNum at h
  simp only [Bool.and_eq_true, Bool.not_eq_true', bne_iff_ne, ne_eq, decide_eq_true_eq] at h
  obtain ⟨⟨hb, hd⟩, h43, h40, _⟩ := h
  have dig : ∀ l : List Nat, l.all isDig = true → NumText.AllDigits l := by
    intro l hl c hc
    exact (isDig_iff c).mp (List.all_eq_true.mp hl c hc)
  cases hx : tl z with
  | nil => rw [hx] at hb; cases hb
  | cons c r =>
    rw [hx] at hb hd h43 h40 lz
    have h43' : c ≠ 43 := fun e => h43 (by rw [e]; rfl)
    by_cases h45 : c = 45
    · subst h45
      have eb : body (45 :: r) = r := rfl
      have en : noMinus (45 :: r) = r := rfl
      rw [eb] at hb hd
      rw [en] at h40
      have lz' : z.length = r.length + 1 := lz
      have rne : r ≠ [] := fun e => by rw [e] at hb; cases hb
      exact ⟨⟨_, intText_neg (x := z) (cs := r) hx (dig r hd) rne (by omega)⟩, by omega⟩
    · have eb : body (c :: r) = c :: r := by simp [body, h45, h43']
      have en : noMinus (c :: r) = c :: r := by simp [noMinus, h45]
      rw [eb] at hd
      rw [en] at h40
      have h40' : r.length + 1 ≤ 40 := h40
      have lz' : z.length = r.length + 1 := lz
      have hx2 : z.cps.toList = c :: r := hx
      refine ⟨⟨_, intText_digits (x := z) (by rw [hx2]; exact dig _ hd) (by rw [hx2]; simp) (by omega)⟩, by omega⟩
def mkS (l : List Nat) : Str := ⟨l.toArray⟩
theorem mkS_tl (z : Str) : mkS (tl z) = z := mk_tl z
def wordV (l : List Nat) : Option V := if isIntL l = true then some (.int ((intText? (mkS l)).getD 0)) else if isSymL l = true then some (.str (mkS l)) else none
def spRead (C : Addr) (Ps : List Addr) : Sp := fun vs H Q E => ∃ (z : Str) (i : Int), vs = [.str z, .int i] ∧ z.length ≤ big ∧ i.natAbs < 10 ^ 10 ∧ (∀ p ∈ Ps, GxR.TabG H p) ∧
  (∀ v, wordV (tl z) = some v → ∀ H', Sm No H H' → Q v H') ∧
  (wordV (tl z) = none → ∀ H' d, Sm No H H' → H d = none → H' d = some (.xd [("at", .int i)]) → E (.ref C) (some d) H')
/-- what a class of errors with the field at must show where one is made -/
structure ErrC (P : Program) (w : World) (K : PySem.W.Frag) (mg : Str → Option Value) (base : Heap) (x : Str) (C fI : Addr) (fdI : FuncData) : Prop where
  o : OexC K C
  g : mg x = some (.ref C)
  iC : PySem.W.findIn K (.ref C) "__init__" = some (some (.ref fI))
  tI : PySem.W.typeIn K (.ref fI) = some (.type "function")
  f : FnOk P w K mg base CX0 1 fI fdI ["self", "at"] (spIni K C)
  b : Binds K fdI ["self", "at"] []
abbrev sRead : Stmt := top 15
abbrev sWEnd : Stmt := top 16
section
variable {P : Program} {w : World} {K : PySem.W.Frag} {mg : Str → Option Value} {base : Heap}
theorem scRead : FnScope ["word", "at"] ["word", "at"] (defScope sRead) := ⟨rfl, rfl, rfl, by decide +kernel, rfl, by decide +kernel, by decide +kernel⟩
/-- the reading of C(at): what is left behind it -/
theorem mkO_at {C : Addr} {H H0 : Hp} {i : Int} {Q : XK} {ta : TA} {σ : L2.St} (hi : i.natAbs < 10 ^ 10) (h : ∀ Q' : List V → Hp → Prop, Q' [.int i] H → ta σ H Q')
    (sm : Sm No H0 H) (q : ∀ H' d, Sm No H0 H' → H0 d = none → H' d = some (.xd [("at", .int i)]) → Q (.ref C) (some d) H') : tMkO C (spIni K C) [] ta σ H Q := by
  refine h _ ⟨by show 1 ≤ 1000; decide, fun a ha => ?_⟩
  refine ⟨a, i, rfl, upd_same, hi, fun d hd hda => ⟨rfl, d, [("at", .int i)], upd_same, ?_, ?_, ?_⟩⟩
  · rw [upd_ne hda, upd_same]
  · rw [upd_ne hda] at hd; exact hd
  have hd0 : H d = none := by rw [upd_ne hda] at hd; exact hd
  refine q _ d ?_ (sm.dom d hd0) upd_same
  have ne_a : ∀ {b : Addr} {o : HO}, H b = some o → b ≠ a := fun {b o} e z => by rw [z, ha] at e; cases e
  have ne_d : ∀ {b : Addr} {o : HO}, H b = some o → b ≠ d := fun {b o} e z => by rw [z, hd0] at e; cases e
  have val : ∀ {b : Addr} {o : HO}, H b = some o → (upd (L2.del (upd (upd (upd H a (exo a C none)) d (exd d [("at", V.int i)])) a (exo a C (some d))) a) d (.xd [("at", .int i)])) b = some o := fun {b o} e => by
    rw [upd_ne (ne_d e), del_ne (ne_a e), upd_ne (ne_a e), upd_ne (ne_d e), upd_ne (ne_a e)]
    exact e
  refine sm.trans ⟨fun b o _ _ e => val e, fun Z ⟨ps, z1, z2⟩ => ⟨ps, val z1, z2⟩, fun b e => ?_⟩
  cases q : H b with
  | none => rfl
  | some o => rw [val q] at e; cases e
theorem ok_read {f C fI fN fS P1 P2 : Addr} {fd fdI fdN fdS : FuncData} (F : Fun K "read_word" "read_word" sRead f fd) (B : Blt mg) (X : ErrC P w K mg base "InvalidWord" C fI fdI)
    (GN : FnOk P w K mg base CX0 2 fN fdN ["word"] (spTxt isIntL [P1])) (kN : PySem.W.keepIn K (.ref fN) = true) (gN : mg "is_integer" = some (.ref fN)) (bN : Binds K fdN ["word"] [])
    (GS : FnOk P w K mg base CX0 2 fS fdS ["text"] (spTxt isSymL [P1, P2])) (kS : PySem.W.keepIn K (.ref fS) = true) (gS : mg "is_symbol" = some (.ref fS)) (bS : Binds K fdS ["text"] []) :
    FnOk P w K mg base (L2N.CX P w) 3 f fd ["word", "at"] (spRead C [P1, P2]) := by
  refine okN F scRead (fun vs H Q E h => ?_) (fun cdv A outer s H vs Q E hr h => ?_)
  · obtain ⟨z, i, rfl, _⟩ := h
    rfl
  obtain ⟨z, i, rfl, hz, hi, ht, qV, qE⟩ := h
  refine ⟨_, pss_cons (ps_if (pt_val (pe_call GN hr rfl gN kN bN .nil pass0 (pa_cons (pv 0) pa_nil)))
      (pss_one (ps_ret (pe_callTy call_int_str (by rfl) B.int (by decide +kernel) (pa_cons (pv 0) pa_nil)))) pss_nil)
    (pss_cons (ps_if (pt_val (pe_call GS hr rfl gS kS bS .nil pass0 (pa_cons (pv 0) pa_nil))) (pss_one (ps_ret (pv 0))) pss_nil)
    (pss_one (L2N.ps_raise rfl (L2N.takes_of rfl rfl rfl rfl) (pmkN_oex X.o X.iC X.tI X.f hr X.b .nil pass0 rfl X.g (pa_cons (pv 1) pa_nil))))), ?_⟩
  refine ⟨_, rfl, z, rfl, hz, fun p hp => ht p (by simp at hp; simp [hp]), fun H1 s1 => ⟨_, rfl, ?_⟩⟩
  cases h1 : isIntL (tl z) with
  | true =>
    obtain ⟨⟨n, hn⟩, hl⟩ := isInt_text h1
    refine ⟨_, rfl, z, n, rfl, hn, hl, qV (.int n) ?_ H1 s1⟩
    unfold wordV
    rw [if_pos h1, mkS_tl, hn]
    rfl
  | false =>
    refine ⟨_, rfl, z, rfl, hz, fun p hp => s1.tab p (ht p hp), fun H2 s2 => ⟨_, rfl, ?_⟩⟩
    cases h2 : isSymL (tl z) with
    | true =>
      refine ⟨_, rfl, qV (.str z) ?_ H2 (s1.trans s2)⟩
      unfold wordV
      rw [if_neg (by rw [h1]; simp), if_pos h2, mkS_tl]
    | false =>
      show tMkO C (spIni K C) [] (tCons (tVar 1) tNil) [some (.str z), some (.int i)] H2 (fun cls d H' => E cls d H')
      refine mkO_at hi (fun Q' q' => ⟨_, rfl, q'⟩) (s1.trans s2) fun H' d sm hd e => ?_
      refine qE ?_ H' d sm hd e
      unfold wordV
      rw [if_neg (by rw [h1]; simp), if_neg (by rw [h2]; simp)]
end
end My
namespace My
open PySem PySem.Spec PyProof.Rows L2 TL
/-! ### the reading of a text, as a function -/
inductive Dat where
  | int (i : Int)
  | sym (s : Str)
  | lst (ds : List Dat)
inductive Out where
  | ok (ds : List Dat)
  | word (i : Nat)
  | close (i : Nat)
  | deep
  | ends (i : Nat)
def datOf : V → Dat
  | .int i => .int i
  | .str s => .sym s
  | _ => .lst []
def noEnd (c : Nat) : Bool := !isEnd c
def noLine (c : Nat) : Bool := !decide (c = 10)
def run : Nat → List Nat → Nat → List (List Dat) → Out
  | 0, _, _, _ => .deep
  | _ + 1, [], i, st => match st with
    | [ds] => .ok ds
    | _ => .ends i
  | n + 1, c :: r, i, st =>
    if c = 59 then run n ((c :: r).dropWhile noLine) (i + ((c :: r).takeWhile noLine).length) st
    else if c = 40 then (if 60 < st.length then .deep else run n r (i + 1) ([] :: st))
    else if c = 41 then (match st with
      | t :: p :: rest => run n r (i + 1) ((p ++ [.lst t]) :: rest)
      | _ => .close i)
    else if c = 32 ∨ c = 10 then run n r (i + 1) st
    else match wordV ((c :: r).takeWhile noEnd), st with
      | some v, t :: rest => run n ((c :: r).dropWhile noEnd) (i + ((c :: r).takeWhile noEnd).length) ((t ++ [datOf v]) :: rest)
      | _, _ => .word i
/-- the reading with at most m lists, one in another -/
def runD (m : Nat) : Nat → List Nat → Nat → List (List Dat) → Out
  | 0, _, _, _ => .deep
  | _ + 1, [], i, st => match st with
    | [ds] => .ok ds
    | _ => .ends i
  | n + 1, c :: r, i, st =>
    if c = 59 then runD m n ((c :: r).dropWhile noLine) (i + ((c :: r).takeWhile noLine).length) st
    else if c = 40 then (if m < st.length then .deep else runD m n r (i + 1) ([] :: st))
    else if c = 41 then (match st with
      | t :: p :: rest => runD m n r (i + 1) ((p ++ [.lst t]) :: rest)
      | _ => .close i)
    else if c = 32 ∨ c = 10 then runD m n r (i + 1) st
    else match wordV ((c :: r).takeWhile noEnd), st with
      | some v, t :: rest => runD m n ((c :: r).dropWhile noEnd) (i + ((c :: r).takeWhile noEnd).length) ((t ++ [datOf v]) :: rest)
      | _, _ => .word i
theorem runD_run : runD 60 = run := by
  funext n
  induction n with
  | zero => rfl
  | succ n ih =>
    funext l i st
    cases l with
    | nil => rfl
    | cons c r =>
      show (if c = 59 then _ else _) = (if c = 59 then _ else _)
      rw [ih]
theorem span_at (p : Nat → Bool) (l : List Nat) : ∀ (n a k : Nat), k = a + n → k ≤ l.length → (∀ v c, a ≤ v → v < k → l[v]? = some c → p c = true) → (∀ c, l[k]? = some c → p c = false) →
    (l.drop a).takeWhile p = (l.drop a).take n ∧ (l.drop a).dropWhile p = l.drop k
  | 0, a, k, e, hk, _, h2 => by
    have e' : k = a := by omega
    subst e'
    cases hd : l.drop k with
    | nil => exact ⟨rfl, rfl⟩
    | cons c r =>
      have hc : l[k]? = some c := by
        have := congrArg (fun z : List Nat => z[0]?) hd
        simpa using this
      have pc := h2 c hc
      refine ⟨?_, ?_⟩
      · rw [List.takeWhile_cons, pc]; rfl
      · rw [List.dropWhile_cons, pc]; rfl
  | n + 1, a, k, e, hk, h1, h2 => by
    have lt : a < l.length := by omega
    have pc := h1 a l[a] (Nat.le_refl _) (by omega) (List.getElem?_eq_getElem lt)
    obtain ⟨i1, i2⟩ := span_at p l n (a + 1) k (by omega) hk (fun v c g1 g2 g3 => h1 v c (by omega) g2 g3) h2
    rw [List.drop_eq_getElem_cons lt, List.takeWhile_cons, List.dropWhile_cons, pc]
    refine ⟨?_, ?_⟩
    · show l[a] :: _ = l[a] :: (l.drop (a + 1)).take n
      rw [i1]
    · exact i2
/-! ### data in the heap: C names the closed lists -/
mutual
inductive Rep (C : Addr → Prop) (H : Hp) : V → Dat → Prop
  | int (i : Int) : Rep C H (.int i) (.int i)
  | sym (s : Str) : Rep C H (.str s) (.sym s)
  | lst {a : Addr} {vs : List V} {ds : List Dat} (hc : C a) (h : H a = some (.lst vs)) (r : RepL C H vs ds) : Rep C H (.ref a) (.lst ds)
inductive RepL (C : Addr → Prop) (H : Hp) : List V → List Dat → Prop
  | nil : RepL C H [] []
  | cons {v : V} {d : Dat} {vs : List V} {ds : List Dat} (h : Rep C H v d) (r : RepL C H vs ds) : RepL C H (v :: vs) (d :: ds)
end
/-- a list that C names stays as it is -/
def Kp (C : Addr → Prop) (H H' : Hp) : Prop := ∀ a vs, C a → H a = some (.lst vs) → H' a = some (.lst vs)
mutual
theorem Rep.keep {C C' : Addr → Prop} {H H' : Hp} (k : Kp C H H') (s : ∀ a, C a → C' a) : ∀ {v : V} {d : Dat}, Rep C H v d → Rep C' H' v d
  | _, _, .int i => .int i
  | _, _, .sym x => .sym x
  | _, _, .lst hc h r => .lst (s _ hc) (k _ _ hc h) (RepL.keep k s r)
theorem RepL.keep {C C' : Addr → Prop} {H H' : Hp} (k : Kp C H H') (s : ∀ a, C a → C' a) : ∀ {vs : List V} {ds : List Dat}, RepL C H vs ds → RepL C' H' vs ds
  | _, _, .nil => .nil
  | _, _, .cons h r => .cons (Rep.keep k s h) (RepL.keep k s r)
end
theorem RepL.snoc {C : Addr → Prop} {H : Hp} : ∀ {vs : List V} {ds : List Dat} {v : V} {d : Dat}, RepL C H vs ds → Rep C H v d → RepL C H (vs ++ [v]) (ds ++ [d])
  | _, _, _, _, .nil, h => .cons h .nil
  | _, _, _, _, .cons g r, h => .cons g (RepL.snoc r h)
/-- the open lists, the innermost first; ch: the list that is open within the first of them -/
def Opn (C : Addr → Prop) (H : Hp) : Option Addr → List Addr → List (List Dat) → Prop
  | _, [], [] => True
  | ch, a :: as, ds :: dss => (∃ vs, H a = some (.lst (vs ++ (ch.map V.ref).toList)) ∧ RepL C H vs ds) ∧ ¬ C a ∧ a ∉ as ∧ Opn C H (some a) as dss
  | _, _, _ => False
theorem Opn.len {C : Addr → Prop} {H : Hp} : ∀ {ch : Option Addr} {as : List Addr} {st : List (List Dat)}, Opn C H ch as st → as.length = st.length
  | _, [], [], _ => rfl
  | _, _ :: _, _ :: _, h => congrArg (· + 1) (Opn.len h.2.2.2)
  | _, [], _ :: _, h => h.elim
  | _, _ :: _, [], h => h.elim
theorem Opn.keep {C C' : Addr → Prop} {H H' : Hp} (s : ∀ a, C a → C' a) (k : Kp C H H') : ∀ {ch : Option Addr} {as : List Addr} {st : List (List Dat)}, Opn C H ch as st →
    (∀ a ∈ as, ∀ vs, H a = some (.lst vs) → H' a = some (.lst vs)) → (∀ a ∈ as, ¬ C' a) → Opn C' H' ch as st
  | _, [], [], _, _, _ => trivial
  | _, a :: as, ds :: dss, ⟨⟨vs, h1, h2⟩, h3, h4, h5⟩, ho, hn =>
    ⟨⟨vs, ho a List.mem_cons_self _ h1, h2.keep k s⟩, hn a List.mem_cons_self, h4, Opn.keep s k h5 (fun b hb => ho b (List.mem_cons_of_mem _ hb)) fun b hb => hn b (List.mem_cons_of_mem _ hb)⟩
  | _, [], _ :: _, h, _, _ => h.elim
  | _, _ :: _, [], h, _, _ => h.elim
theorem Opn.there {C : Addr → Prop} {H : Hp} : ∀ {ch : Option Addr} {as : List Addr} {st : List (List Dat)}, Opn C H ch as st → ∀ a ∈ as, ∃ vs, H a = some (.lst vs)
  | _, [], [], _, _, h => absurd h (by simp)
  | _, a :: as, ds :: dss, ⟨⟨vs, h1, h2⟩, h3, h4, h5⟩, b, hb => by
    rcases List.mem_cons.mp hb with e | e
    · exact ⟨_, by rw [e]; exact h1⟩
    · exact Opn.there h5 b e
  | _, [], _ :: _, h, _, _ => h.elim
  | _, _ :: _, [], h, _, _ => h.elim
theorem Opn.out {C : Addr → Prop} {H : Hp} : ∀ {ch : Option Addr} {as : List Addr} {st : List (List Dat)}, Opn C H ch as st → ∀ a ∈ as, ¬ C a
  | _, [], [], _, _, h => absurd h (by simp)
  | _, a :: as, ds :: dss, ⟨⟨vs, h1, h2⟩, h3, h4, h5⟩, b, hb => by
    rcases List.mem_cons.mp hb with e | e
    · rw [e]; exact h3
    · exact Opn.out h5 b e
  | _, [], _ :: _, h, _, _ => h.elim
  | _, _ :: _, [], h, _, _ => h.elim
theorem none_list (vs : List V) : vs ++ ((none : Option Addr).map V.ref).toList = vs := List.append_nil vs
/-- a datum is appended to the innermost list -/
theorem Opn.app {C : Addr → Prop} {H : Hp} {a : Addr} {as : List Addr} {t : List Dat} {rest : List (List Dat)} {v : V} {d : Dat} (h : Opn C H none (a :: as) (t :: rest)) (r : Rep C H v d) :
    ∃ vs, H a = some (.lst vs) ∧ ∀ H' : Hp, H' a = some (.lst (vs ++ [v])) → (∀ b, b ≠ a → (C b ∨ b ∈ as) → ∀ xs, H b = some (.lst xs) → H' b = some (.lst xs)) → Opn C H' none (a :: as) ((t ++ [d]) :: rest) := by
  obtain ⟨⟨vs, h1, h2⟩, h3, h4, h5⟩ := h
  rw [none_list] at h1
  refine ⟨vs, h1, fun H' e k => ?_⟩
  have kp : Kp C H H' := fun b xs hc hb => k b (fun z => h3 (z ▸ hc)) (.inl hc) xs hb
  refine ⟨⟨vs ++ [v], by rw [none_list]; exact e, (h2.keep kp fun _ z => z).snoc (r.keep kp fun _ z => z)⟩, h3, h4, ?_⟩
  exact h5.keep (fun _ z => z) kp (fun b hb xs hx => k b (fun z => h4 (z ▸ hb)) (.inr hb) xs hx) h5.out
/-- a list is begun -/
theorem Opn.beg {C : Addr → Prop} {H : Hp} {a n : Addr} {as : List Addr} {t : List Dat} {rest : List (List Dat)} (h : Opn C H none (a :: as) (t :: rest)) (hn : H n = none) (nC : ¬ C n) :
    ∃ vs, H a = some (.lst vs) ∧ ∀ H' : Hp, H' n = some (.lst []) → H' a = some (.lst (vs ++ [.ref n])) → (∀ b, b ≠ a → (C b ∨ b ∈ as) → ∀ xs, H b = some (.lst xs) → H' b = some (.lst xs)) → Opn C H' none (n :: a :: as) ([] :: t :: rest) := by
  have th := h.there
  obtain ⟨⟨vs, h1, h2⟩, h3, h4, h5⟩ := h
  rw [none_list] at h1
  refine ⟨vs, h1, fun H' e0 e k => ?_⟩
  have kp : Kp C H H' := fun b xs hc hb => k b (fun z => h3 (z ▸ hc)) (.inl hc) xs hb
  refine ⟨⟨[], by rw [none_list]; exact e0, .nil⟩, nC, ?_, ⟨vs, e, h2.keep kp fun _ z => z⟩, h3, h4, ?_⟩
  · intro hm
    obtain ⟨xs, hx⟩ := th n hm
    rw [hn] at hx
    cases hx
  · exact h5.keep (fun _ z => z) kp (fun b hb xs hx => k b (fun z => h4 (z ▸ hb)) (.inr hb) xs hx) h5.out
/-- the innermost list is closed -/
theorem Opn.cls {C : Addr → Prop} {H : Hp} {a b : Addr} {as : List Addr} {t p : List Dat} {rest : List (List Dat)} (h : Opn C H none (a :: b :: as) (t :: p :: rest)) :
    Opn (fun x => C x ∨ x = a) H none (b :: as) ((p ++ [.lst t]) :: rest) := by
  obtain ⟨⟨vs, h1, h2⟩, h3, h4, ⟨us, g1, g2⟩, g3, g4, g5⟩ := h
  rw [none_list] at h1
  have kp : Kp C H H := fun _ _ _ e => e
  have s : ∀ x, C x → C x ∨ x = a := fun _ z => .inl z
  refine ⟨⟨us ++ [.ref a], by rw [none_list]; exact g1, (g2.keep kp s).snoc (.lst (.inr rfl) h1 (h2.keep kp s))⟩, ?_, g4, ?_⟩
  · intro z
    rcases z with z | z
    · exact g3 z
    · exact h4 (by rw [← z]; exact List.mem_cons_self)
  · refine g5.keep s kp (fun _ _ _ e => e) fun x hx z => ?_
    rcases z with z | z
    · exact g5.out x hx z
    · exact h4 (by rw [← z]; exact List.mem_cons_of_mem _ hx)
theorem Opn.keepH {C : Addr → Prop} {H H' : Hp} {ch : Option Addr} {as : List Addr} {st : List (List Dat)} (h : Opn C H ch as st) (k : ∀ b xs, H b = some (.lst xs) → (C b ∨ b ∈ as) → H' b = some (.lst xs)) : Opn C H' ch as st :=
  h.keep (fun _ z => z) (fun b xs hc e => k b xs e (.inl hc)) (fun b hb xs e => k b xs e (.inr hb)) h.out
end My
namespace My
open PySem PySem.Spec PyProof.Rows L2 TL
abbrev sREnd : Stmt := top 17
abbrev sBeg : Stmt := top 18
abbrev sEndL : Stmt := top 19
/-- an own error without an __init__, made with one argument -/
theorem pmk_plain {X : Cx} {C : Addr} {bmB : List Value} {B newId initId : String} {x : Str} {e : Expr} {te : TE} {p pos : Pos} (F : ExcBaseFacts B newId initId bmB) (q : PySem.W.excIn X.K C bmB newId = true) (gC : X.mg x = some (.ref C))
    (kC : PySem.W.keepIn X.K (.ref C) = true) (r : Raises X (.ref C)) (hg : Gl X x) (he : PE X e te) (hdb : (x == ("__debug__" : Str)) = false := by decide)
    (hse : starEach [e] X.env = (false, eval e X.env) :: starEach [] X.env := by rfl) (hpl : (backTo pos (starEach [] X.env)).any (·.1) = false := by rfl) :
    PMk X (.Call (.Name x p) [e] [] pos) (fun σ H Q => tCons te tNil σ H fun vs H1 => vs.length = 1 ∧ Q (.ref C) none H1) := by
  intro pins s σ H Q I h
  refine wpAny_Call_Name_kw (ld_glob I hg gC ?_ hdb)
  have ha : PA X [e] (tCons te tNil) := pa_cons he pa_nil hse
  refine PySem.W.callWith_K (h₀ := X.base) I.ok.mod.kin kC (thn (ha.run pos pins s σ H _ I h) fun us s1 hh => ?_) hse hpl
  obtain ⟨vs, H1, J, rv, el, q1⟩ := hh
  have lu : us.length ≤ sizeLine := by
    rw [← Paired.length rv, el]
    decide
  obtain ⟨bm, N, nm, qn, bs, hdct, sn, sub, ab, col, dd, k0, k1, k2, k3, k5, mN, hC, hN, hni, T⟩ := exc_obj J.kIn q
  refine ⟨J.kIn, wpAny_call_exc_subT F T hC hN hni (fun h' e hm => ?_) lu⟩
  exact mk_of J hm r q1 (J.hok.gone hm.new)
def spScan (p : Nat → Bool) : Sp := fun vs H Q _ => ∃ (z : Str) (i : Nat), vs = [.str z, .int i] ∧ z.length ≤ big ∧ i ≤ z.length ∧ Q (.int ((i + (((tl z).drop i).takeWhile p).length : Nat) : Int)) H
section
variable {P : Program} {w : World} {K : PySem.W.Frag} {mg : Str → Option Value} {base : Heap}
theorem scWEnd : FnScope ["text", "at", "end"] ["text", "at"] (defScope sWEnd) := ⟨rfl, rfl, rfl, by decide +kernel, rfl, by decide +kernel, by decide +kernel⟩
theorem ok_wend {f : Addr} {fd : FuncData} (F : Fun K "word_end" "word_end" sWEnd f fd) (B : Blt mg) (T : Txs mg) : FnOk P w K mg base CX0 1 f fd ["text", "at"] (spScan noEnd) := by
  refine F.ok scWEnd (fun vs H Q E h => ?_) (fun cdv A outer s H vs Q E hr h => ?_)
  · obtain ⟨z, i, rfl, _⟩ := h
    rfl
  obtain ⟨z, i, rfl, hz, hi, q⟩ := h
  obtain ⟨te, eE⟩ := T.ends
  have lz := len_tl z
  refine ⟨_, pss_cons (ps_set (i := 2) scWEnd.nd rfl (Or.inl rfl) (pv 1))
    (pss_cons (ps_while PassesOwn.never (PW.pt (pw_and (pt_cmpR op_lt (pv 2) (pe_callB call_len (by rfl) B.len PySem.boot_len (pa_cons (pv 0) pa_nil)) (nomark _))
        (pw_and1 (pt_cmpR op_notIn_sign (pe_ix ix_str (pv 0) (pv 2) (fun _ _ => rfl)) (pe_glob (v := .str sEnd) rfl eE ⟨_, rfl⟩) (by rfl)))))
      (pss_one (ps_aug (i := 2) scWEnd.nd rfl (Or.inl rfl) pe_int ip_add)))
    (pss_one (ps_ret (pv 2)))), ?_⟩
  refine ⟨_, rfl, ?_⟩
  refine while_by (fun σ H' => ∃ k : Nat, σ = [some (.str z), some (.int i), some (.int (k : Nat))] ∧ H' = H ∧ i ≤ k ∧ k ≤ z.length ∧ ∀ v c, i ≤ v → v < k → (tl z)[v]? = some c → noEnd c = true)
    (fun σ _ => match σ with | [_, _, some (.int k)] => z.length - k.toNat | _ => 0) ⟨i, rfl, rfl, Nat.le_refl _, hi, fun v c h1 h2 => by omega⟩ ?_ ?_
  · rintro σ H' ⟨k, rfl, rfl, h1, h2, h3⟩
    refine ⟨_, rfl, _, rfl, _, _, rfl, ⟨big_line hz, rfl⟩, _, _, rfl, rfl, _, rfl, ?_⟩
    refine ite2 (fun c => ?_) (fun c => ?_)
    · have lt : k < z.length := by have := of_decide_eq_true c; omega
      have lt' : k < (tl z).length := by omega
      have ea : atI z.cps.toList (k : Int) = some (tl z)[k] := atI_nat (List.getElem?_eq_getElem lt')
      refine ⟨_, rfl, _, rfl, z, _, _, rfl, rfl, big_line hz, ea, _, _, rfl, rfl, _, rfl, ?_⟩
      refine ite2 (fun d => ?_) (fun d => ?_)
      · refine ⟨_, rfl, _, _, rfl, rfl, ⟨k + 1, rfl, rfl, by omega, by omega, fun v c g1 g2 g3 => ?_⟩, ?_⟩
        · by_cases hv : v = k
          · subst hv
            rw [List.getElem?_eq_getElem lt'] at g3
            rw [← Option.some.inj g3]
            exact d
          · exact h3 v c g1 (by omega) g3
        · show z.length - ((k : Int) + 1).toNat < z.length - ((k : Nat) : Int).toNat
          omega
      · refine ⟨_, rfl, ?_⟩
        obtain ⟨e1, e2⟩ := span_at noEnd (tl z) (k - i) i k (by omega) (by omega) h3 (fun c hc => by
          rw [List.getElem?_eq_getElem lt'] at hc
          rw [← Option.some.inj hc]
          exact Bool.eq_false_iff.mpr d)
        rw [e1, List.length_take, List.length_drop] at q
        rw [show i + min (k - i) ((tl z).length - i) = k by omega] at q
        exact q
    · have ge : ¬ k < z.length := fun h => c (decide_eq_true (by omega))
      refine ⟨_, rfl, ?_⟩
      obtain ⟨e1, e2⟩ := span_at noEnd (tl z) (k - i) i k (by omega) (by omega) h3 (fun c hc => by
        rw [List.getElem?_eq_none (by omega)] at hc
        cases hc)
      rw [e1, List.length_take, List.length_drop] at q
      rw [show i + min (k - i) ((tl z).length - i) = k by omega] at q
      exact q
  · intro σ H' Q1 Q2 hm h
    obtain ⟨v, e, v2, e2, x, n, e3, hl, i1, j1, e4, e5, b, e6, h7⟩ := h
    refine ⟨v, e, v2, e2, x, n, e3, hl, i1, j1, e4, e5, b, e6, ?_⟩
    revert h7
    refine fun h7 => ?_
    cases b with
    | true =>
      obtain ⟨u1, f1, u2, f2, y1, y2, y3, g1, g2, g3, g4, k1, k2, g5, g6, k3, g7, g8⟩ := h7
      exact ⟨u1, f1, u2, f2, y1, y2, y3, g1, g2, g3, g4, k1, k2, g5, g6, k3, g7, hm _ _ g8⟩
    | false => exact hm _ _ h7
end
end My
namespace My
open PySem PySem.Spec PyProof.Rows L2 TL
section
variable {P : Program} {w : World} {K : PySem.W.Frag} {mg : Str → Option Value} {base : Heap}
theorem scREnd : FnScope ["text", "at", "end"] ["text", "at"] (defScope sREnd) := ⟨rfl, rfl, rfl, by decide +kernel, rfl, by decide +kernel, by decide +kernel⟩
theorem line_sign : ("\n" : Str) = ⟨#[10]⟩ := by decide +kernel
theorem from_nat (n i : Nat) (h : i ≤ n) : PySem.fromIndex n (i : Int) = i := by
  unfold PySem.fromIndex
  omega
theorem getD_some {z : Str} {v c : Nat} (h : (tl z)[v]? = some c) : z.cps.getD v 0 = c := by
  have e : z.cps[v]? = some c := by rw [← Array.getElem?_toList]; exact h
  rw [Array.getD_eq_getD_getElem?, e]; rfl
theorem ok_rend {f : Addr} {fd : FuncData} (F : Fun K "remark_end" "remark_end" sREnd f fd) (B : Blt mg) : FnOk P w K mg base CX0 1 f fd ["text", "at"] (spScan noLine) := by
  refine F.ok scREnd (fun vs H Q E h => ?_) (fun cdv A outer s H vs Q E hr h => ?_)
  · obtain ⟨z, i, rfl, _⟩ := h
    rfl
  obtain ⟨z, i, rfl, hz, hi, q⟩ := h
  have lz := len_tl z
  refine ⟨_, pss_cons (ps_set (i := 2) scREnd.nd rfl (Or.inl rfl) (pe_bm PySem.F.plainAttrs_str PySem.F.slot_str_find PySem.F.type_str_find mt_find3 (pv 0) (pa_cons pe_str (pa_cons (pv 1) pa_nil))))
    (pss_one (ps_ret (pe_ifExp (pt_cmpR op_eq (pv 2) (pe_un un_neg pe_int) (nomark _)) (pe_callB call_len (by rfl) B.len PySem.boot_len (pa_cons (pv 0) pa_nil)) (pv 2)))), ?_⟩
  have fin : ∀ k : Nat, i ≤ k → k ≤ z.length → (∀ v, i ≤ v → v < k → z.cps.getD v 0 ≠ 10) → (k < z.length → z.cps.getD k 0 = 10) → Q (.int (k : Nat)) H := by
    intro k h1 h2 h3 h4
    obtain ⟨e1, e2⟩ := span_at noLine (tl z) (k - i) i k (by omega) (by omega) (fun v c g1 g2 g3 => by
      have := h3 v g1 g2
      rw [getD_some g3] at this
      simp [noLine, this]) (fun c hc => by
      have lt : k < z.length := by
        have := (List.getElem?_eq_some_iff.mp hc).1
        omega
      have := h4 lt
      rw [getD_some hc] at this
      simp [noLine, this])
    rw [e1, List.length_take, List.length_drop, show i + min (k - i) ((tl z).length - i) = k by omega] at q
    exact q
  refine ⟨_, rfl, rfl, _, rfl, z, _, _, rfl, rfl, ?_⟩
  rw [line_sign]
  have sp := StrLaws.find3_spec z 10 (i : Int)
  rw [from_nat z.length i hi] at sp
  rcases sp with ⟨e, hn⟩ | ⟨k, e, h1, h2, h3, h4⟩
  · rw [e]
    refine ⟨_, rfl, _, rfl, rfl, _, rfl, ?_⟩
    exact ⟨_, rfl, _, _, rfl, ⟨big_line hz, rfl⟩, fin z.length hi (Nat.le_refl _) (fun v g1 g2 => hn v g1 g2) (fun h => absurd h (Nat.lt_irrefl _))⟩
  · rw [e]
    refine ⟨_, rfl, _, rfl, rfl, _, rfl, ?_⟩
    have ne : decide (V.int (k : Int) = V.int (-1)) = false := decide_eq_false fun z => by
      have := V.int.inj z
      omega
    rw [ne]
    exact ⟨_, rfl, fin k h1 (by omega) h4 (fun _ => h3)⟩
/-! ### lists are begun and ended -/
theorem scBeg : FnScope ["rows", "deepest", "inner"] ["rows", "deepest"] (defScope sBeg) := ⟨rfl, rfl, rfl, by decide +kernel, rfl, by decide +kernel, by decide +kernel⟩
/-- TooDeep -/
structure DeepC (K : PySem.W.Frag) (mg : Str → Option Value) (C : Addr) : Prop where
  q : PySem.W.excIn K C [.type "ValueError", .type "Exception", .type "BaseException", .type "object"] "ValueError.__new__" = true
  g : mg "TooDeep" = some (.ref C)
  k : PySem.W.keepIn K (.ref C) = true
  s : PySem.W.subIn K (.ref C) (.type "BaseException") = some true
  t : PySem.W.typeIn K (.ref C) = some (.type "type")
def spBeg (C : Addr) : Sp := fun vs H Q E => ∃ (R a : Addr) (xs vs' : List V) (m : Nat), vs = [.ref R, .int (m : Nat)] ∧ H R = some (.lst (xs ++ [.ref a])) ∧ H a = some (.lst vs') ∧ R ≠ a ∧ xs.length ≤ big ∧ vs'.length ≤ big ∧ m ≤ big ∧
  (m < xs.length + 1 → E (.ref C) none H) ∧
  (¬ m < xs.length + 1 → ∀ n, H n = none → Q .non (upd (upd (upd H n (.lst [])) a (.lst (vs' ++ [.ref n]))) R (.lst (xs ++ [.ref a] ++ [.ref n]))))
theorem ok_beg {f C : Addr} {fd : FuncData} (F : Fun K "begin_list" "begin_list" sBeg f fd) (B : Blt mg) (D : DeepC K mg C) : FnOk P w K mg base (L2N.CX P w) 2 f fd ["rows", "deepest"] (spBeg C) := by
  refine okN F scBeg (fun vs H Q E h => ?_) (fun cdv A outer s H vs Q E hr h => ?_)
  · obtain ⟨R, a, xs, vs', m, rfl, _⟩ := h
    rfl
  obtain ⟨R, a, xs, vs', m, rfl, hR, ha, nRa, lx, lv, lm, qE, qQ⟩ := h
  refine ⟨_, pss_cons (ps_if (pt_cmpR op_gt (pe_callB call_len (by rfl) B.len PySem.boot_len (pa_cons (pv 0) pa_nil)) (pv 1) (nomark _))
      (pss_one (L2N.ps_raise rfl (L2N.takes_of rfl rfl rfl rfl) (pmkN_plain PySem.F.excBase_ValueError D.q D.g D.k (raises_own D.s D.t) rfl (pe_joined (PJ.cons pe_str (PJ.cons (pe_fmt (pv 1)) (PJ.cons pe_str PJ.nil))))))) pss_nil)
    (pss_cons (ps_set (i := 2) scBeg.nd rfl (Or.inl rfl) (pe_lst pa_nil))
    (pss_cons (ps_expr (pe_bm PySem.F.plainAttrs_list PySem.F.slot_list_append PySem.F.type_list_append mt_append (pe_ix ix_list (pv 0) (pe_un un_neg pe_int) (fun _ _ => rfl)) (pa_cons (pv 2) pa_nil)))
    (pss_one (ps_expr (pe_bm PySem.F.plainAttrs_list PySem.F.slot_list_append PySem.F.type_list_append mt_append (pv 0) (pa_cons (pv 2) pa_nil)))))), ?_⟩
  have ll : (xs ++ [V.ref a]).length = xs.length + 1 := by simp
  refine ⟨_, rfl, _, _, rfl, .inl ⟨_, SqL.of hR, rfl⟩, _, rfl, _, _, rfl, rfl, _, rfl, ?_⟩
  rw [ll]
  by_cases hc : m < xs.length + 1
  · rw [decide_eq_true (by omega)]
    have hm10 : ((m : Nat) : Int).natAbs < 10 ^ 10 := Nat.lt_of_le_of_lt (show m ≤ big from lm) (by decide)
    have li := int_len hm10
    have l0 : (Str.empty ++ ("a list within " : Str)).length = 14 := by decide +kernel
    have l1 : (Str.empty ++ ("a list within " : Str) ++ Str.ofString (toString ((m : Nat) : Int))).length ≤ 25 := by
      rw [app_len, l0]; omega
    have l2 : (" lists" : Str).length = 6 := by decide +kernel
    refine ⟨_, rfl, by decide +kernel, _, rfl, .inr ⟨m, rfl, int_log hm10, _, rfl, Nat.le_trans l1 (by decide), _, rfl, ?_, rfl, qE hc⟩⟩
    rw [app_len, l2]
    exact Nat.le_trans (Nat.add_le_add_right l1 6) (by decide)
  · rw [decide_eq_false (by omega)]
    have gQ := qQ hc
    refine ⟨by decide, fun n hn => ?_⟩
    have gn := gQ n hn
    have nRn : R ≠ n := ne_of_none hR hn
    have nan : a ≠ n := ne_of_none ha hn
    have hR1 : upd H n (.lst []) R = some (.lst (xs ++ [V.ref a])) := by rw [upd_ne nRn]; exact hR
    have ha1 : upd H n (.lst []) a = some (.lst vs') := by rw [upd_ne nan]; exact ha
    refine ⟨_, rfl, _, rfl, R, _, _, _, rfl, rfl, SqL.of hR1, atI_last _ _, .inl ⟨rfl, _, SqL.of ha1⟩, _, rfl, a, _, _, rfl, rfl, ha1, Nat.lt_of_le_of_lt lv (by decide), ?_⟩
    have hR2 : upd (upd H n (.lst [])) a (.lst (vs' ++ [V.ref n])) R = some (.lst (xs ++ [V.ref a])) := by rw [upd_ne nRa]; exact hR1
    exact ⟨_, rfl, .inl ⟨rfl, _, SqL.of hR2⟩, _, rfl, R, _, _, rfl, rfl, hR2, by rw [ll]; exact Nat.lt_of_le_of_lt (Nat.add_le_add_right lx 1) (by decide), gn⟩
end
end My
namespace My
open PySem PySem.Spec PyProof.Rows L2 TL
/-- the classes of the errors of a text -/
structure Errs where
  w : Addr
  c : Addr
  e : Addr
  d : Addr
def atX (C : Addr) (i : Nat) (H : Hp) (E : XK) : Prop := ∀ H' d, Sm No H H' → H d = none → H' d = some (.xd [("at", .int (i : Nat))]) → E (.ref C) (some d) H'
/-- what comes out of a text -/
def outP (X : Errs) (H : Hp) (Q : VK) (E : XK) : Out → Prop
  | .ok ds => ∀ (D : Addr) (vs : List V) (C : Addr → Prop) (H' : Hp), Sm No H H' → H D = none → (∀ a, C a → H a = none) → ¬ C D → H' D = some (.lst vs) → RepL C H' vs ds → Q (.ref D) H'
  | .word i => atX X.w i H E
  | .close i => atX X.c i H E
  | .ends i => atX X.e i H E
  | .deep => ∀ H', Sm No H H' → E (.ref X.d) none H'
def spParse (X : Errs) (Ps : List Addr) : Sp := fun vs H Q E => ∃ z : Str, vs = [.str z] ∧ z.length ≤ big ∧ (∀ p ∈ Ps, GxR.TabG H p) ∧ outP X H Q E (run (z.length + 1) (tl z) 0 [[]])
def spData (X : Errs) (Ps : List Addr) : Sp := fun vs H Q E => ∃ (z : Str) (m : Nat), vs = [.str z, .int (m : Nat)] ∧ z.length ≤ big ∧ m ≤ big ∧ (∀ p ∈ Ps, GxR.TabG H p) ∧ outP X H Q E (runD m (z.length + 1) (tl z) 0 [[]])
abbrev sParse : Stmt := top 21
abbrev sData : Stmt := top 20
def spEndL (C : Addr) : Sp := fun vs H Q E => ∃ (R : Addr) (xs : List V) (y : V) (i : Nat), vs = [.ref R, .int (i : Nat)] ∧ H R = some (.lst (xs ++ [y])) ∧ xs.length ≤ big ∧ i ≤ big ∧ (xs = [] → atX C i H E) ∧ (xs ≠ [] → Q .non (upd H R (.lst xs)))
theorem big10 {i : Nat} (h : i ≤ big) : ((i : Nat) : Int).natAbs < 10 ^ 10 := by
  have e : ((i : Nat) : Int).natAbs = i := rfl
  rw [e]
  exact Nat.lt_of_le_of_lt h (by decide)
section
variable {P : Program} {w : World} {K : PySem.W.Frag} {mg : Str → Option Value} {base : Heap}
theorem scEndL : FnScope ["rows", "at"] ["rows", "at"] (defScope sEndL) := ⟨rfl, rfl, rfl, by decide +kernel, rfl, by decide +kernel, by decide +kernel⟩
theorem ok_endl {f C fI : Addr} {fd fdI : FuncData} (F : Fun K "end_list" "end_list" sEndL f fd) (B : Blt mg) (X : ErrC P w K mg base "UnexpectedClose" C fI fdI) : FnOk P w K mg base (L2N.CX P w) 3 f fd ["rows", "at"] (spEndL C) := by
  refine okN F scEndL (fun vs H Q E h => ?_) (fun cdv A outer s H vs Q E hr h => ?_)
  · obtain ⟨R, xs, y, i, rfl, _⟩ := h
    rfl
  obtain ⟨R, xs, y, i, rfl, hR, lx, li, qE, qQ⟩ := h
  refine ⟨_, pss_cons (ps_if (pt_cmpR op_eq (pe_callB call_len (by rfl) B.len PySem.boot_len (pa_cons (pv 0) pa_nil)) pe_int (nomark _))
      (pss_one (L2N.ps_raise rfl (L2N.takes_of rfl rfl rfl rfl) (pmkN_oex X.o X.iC X.tI X.f hr X.b .nil pass0 rfl X.g (pa_cons (pv 1) pa_nil)))) pss_nil)
    (pss_one (ps_expr (pe_bm0 PySem.F.plainAttrs_list PySem.F.slot_list_pop PySem.F.type_list_pop mt_pop (pv 0)))), ?_⟩
  have ll : (xs ++ [y]).length = xs.length + 1 := by simp
  refine ⟨_, rfl, _, _, rfl, .inl ⟨_, SqL.of hR, rfl⟩, rfl, _, rfl, ?_⟩
  rw [ll]
  cases xs with
  | nil =>
    show tMkO C (spIni K C) [] (tCons (tVar 1) tNil) [some (.ref R), some (.int i)] H (fun cls d H' => E cls d H')
    exact mkO_at (big10 li) (fun Q' q' => ⟨_, rfl, q'⟩) (Sm.refl _ H) fun H' d sm hd e => qE rfl H' d sm hd e
  | cons x r =>
    have ne : decide (V.int (((x :: r).length + 1 : Nat) : Int) = V.int 1) = false := decide_eq_false fun z => by
      have z' := V.int.inj z
      simp at z'
      omega
    rw [ne]
    refine ⟨_, rfl, .inl ⟨rfl, _, SqL.of hR⟩, R, _, y, rfl, rfl, hR, by simp, ?_⟩
    have g := qQ (by simp)
    have dl : ((x :: r) ++ [y]).dropLast = x :: r := List.dropLast_concat
    rw [dl]
    exact g
theorem scData : FnScope ["text", "deepest", "data", "rows", "at", "sign", "end"] ["text", "deepest"] (defScope sData) := ⟨rfl, rfl, rfl, by decide +kernel, rfl, by decide +kernel, by decide +kernel⟩
theorem scParse : FnScope ["text"] ["text"] (defScope sParse) := ⟨rfl, rfl, rfl, by decide +kernel, rfl, by decide +kernel, by decide +kernel⟩
end
end My
namespace My
open PySem PySem.Spec PyProof.Rows L2 TL
/-- the state of the reading at the place i; H: the heap ahead of it -/
structure PC (dm : Nat) (z : Str) (out : Out) (H : Hp) (R D : Addr) (i : Nat) (H' : Hp) (n : Nat) (st : List (List Dat)) (as : List Addr) (C : Addr → Prop) : Prop where
  le : i ≤ (tl z).length
  fuel : (tl z).length < n + i
  run : runD dm n ((tl z).drop i) i st = out
  last : ∃ bs, as = bs ++ [D]
  opn : Opn C H' none as st
  rows : H' R = some (.lst (as.reverse.map V.ref))
  nC : ¬ C R
  nR : R ∉ as
  sm : Sm No H H'
  new : ∀ a, C a ∨ a ∈ as ∨ a = R → H a = none
  small : ∀ a ∈ as, ∀ vs, H' a = some (.lst vs) → vs.length ≤ i
  deep : as.length ≤ dm + 1 ∧ dm ≤ big
  cn : ∀ a, C a → H' a ≠ none
section
variable {dm : Nat} {z : Str} {out : Out} {H H' : Hp} {R D : Addr} {i n : Nat} {st : List (List Dat)} {as : List Addr} {C : Addr → Prop}
theorem drop_at {l : List Nat} {i c : Nat} (h : l[i]? = some c) : l.drop i = c :: l.drop (i + 1) ∧ i < l.length := by
  obtain ⟨h1, h2⟩ := List.getElem?_eq_some_iff.mp h
  rw [← h2]
  exact ⟨List.drop_eq_getElem_cons h1, h1⟩
theorem dropW (p : Nat → Bool) : ∀ l : List Nat, l.dropWhile p = l.drop (l.takeWhile p).length
  | [] => rfl
  | c :: r => by
    rw [List.dropWhile_cons, List.takeWhile_cons]
    cases h : p c with
    | true => exact dropW p r
    | false => rfl
theorem takeW_le (p : Nat → Bool) : ∀ l : List Nat, (l.takeWhile p).length ≤ l.length
  | [] => Nat.le_refl _
  | c :: r => by
    rw [List.takeWhile_cons]
    cases h : p c with
    | true => exact Nat.succ_le_succ (takeW_le p r)
    | false => exact Nat.zero_le _
/-- no object is touched, the place moves on -/
theorem PC.move {m j : Nat} (h : PC dm z out H R D i H' n st as C) (hij : i ≤ j) (hj : j ≤ (tl z).length) (hf : (tl z).length < m + j) (hr : My.runD dm m ((tl z).drop j) j st = out) : PC dm z out H R D j H' m st as C :=
  ⟨hj, hf, hr, h.last, h.opn, h.rows, h.nC, h.nR, h.sm, h.new, fun a ha vs hv => Nat.le_trans (h.small a ha vs hv) hij, h.deep, h.cn⟩
theorem PC.fuel1 {c : Nat} (h : PC dm z out H R D i H' n st as C) (hc : (tl z)[i]? = some c) : ∃ m, n = m + 1 ∧ (tl z).length < m + (i + 1) ∧ i + 1 ≤ (tl z).length := by
  have l := (drop_at hc).2
  have f := h.fuel
  cases n with
  | zero => omega
  | succ m => exact ⟨m, rfl, by omega, by omega⟩
theorem PC.remark (h : PC dm z out H R D i H' n st as C) (hc : (tl z)[i]? = some 59) :
    i < i + (((tl z).drop i).takeWhile noLine).length ∧ ∃ m, PC dm z out H R D (i + (((tl z).drop i).takeWhile noLine).length) H' m st as C := by
  obtain ⟨m, e, f, l⟩ := h.fuel1 hc
  subst e
  have r := h.run
  obtain ⟨d1, d2⟩ := drop_at hc
  have pos : 0 < (((tl z).drop i).takeWhile noLine).length := by
    rw [d1, List.takeWhile_cons, show noLine 59 = true from rfl]
    exact Nat.succ_pos _
  have tk := takeW_le noLine ((tl z).drop i)
  rw [List.length_drop] at tk
  have r2 : My.runD dm m (((tl z).drop i).dropWhile noLine) (i + (((tl z).drop i).takeWhile noLine).length) st = out := by
    rw [d1] at r ⊢
    exact r
  rw [dropW, List.drop_drop] at r2
  exact ⟨by omega, m, h.move (by omega) (by omega) (by omega) r2⟩
theorem PC.blank {c : Nat} (h : PC dm z out H R D i H' n st as C) (hc : (tl z)[i]? = some c) (hb : c = 32 ∨ c = 10) : ∃ m, PC dm z out H R D (i + 1) H' m st as C := by
  obtain ⟨m, e, f, l⟩ := h.fuel1 hc
  subst e
  have r := h.run
  obtain ⟨d1, d2⟩ := drop_at hc
  rw [d1] at r
  have r2 : My.runD dm m ((tl z).drop (i + 1)) (i + 1) st = out := by
    rcases hb with hb | hb
    · subst hb; exact r
    · subst hb; exact r
  exact ⟨m, h.move (by omega) l f r2⟩
/-- the rows' list, from its end -/
theorem PC.split (h : PC dm z out H R D i H' n st as C) : ∃ (a : Addr) (bs : List Addr) (t : List Dat) (rest : List (List Dat)), as = a :: bs ∧ st = t :: rest ∧ H' R = some (.lst (bs.reverse.map V.ref ++ [.ref a])) ∧ a ∈ as ∧ R ≠ a ∧ (bs.reverse.map V.ref).length = bs.length := by
  obtain ⟨bs, e⟩ := h.last
  have l := h.opn.len
  cases as with
  | nil => cases bs <;> cases e
  | cons a r =>
    cases st with
    | nil => cases l
    | cons t rest =>
      refine ⟨a, r, t, rest, rfl, rfl, ?_, List.mem_cons_self, fun e => h.nR (by rw [e]; exact List.mem_cons_self), by simp⟩
      rw [h.rows, List.reverse_cons, List.map_append]
      rfl
theorem PC.sm' {H2 : Hp} (h : PC dm z out H R D i H' n st as C) (s : Sm No H' H2) : PC dm z out H R D i H2 n st as C := by
  refine ⟨h.le, h.fuel, h.run, h.last, h.opn.keepH fun b xs e _ => s.lst0 e, s.lst0 h.rows, h.nC, h.nR, h.sm.trans s, h.new, fun a ha vs hv => ?_, h.deep, fun a ha e => h.cn a ha (s.dom a e)⟩
  obtain ⟨us, hu⟩ := h.opn.there a ha
  have := s.lst0 hu
  rw [hv] at this
  cases this
  exact h.small a ha vs hu
theorem PC.beg (h : PC dm z out H R D i H' n st as C) (hc : (tl z)[i]? = some 40) (hz : z.length ≤ big) : ∃ (a : Addr) (xs vs : List V), H' R = some (.lst (xs ++ [.ref a])) ∧ H' a = some (.lst vs) ∧ R ≠ a ∧ xs.length ≤ big ∧ vs.length ≤ big ∧
    (dm < xs.length + 1 → out = .deep) ∧ (¬ dm < xs.length + 1 → ∀ q, H' q = none → ∃ m st' as' C', PC dm z out H R D (i + 1) (upd (upd (upd H' q (.lst [])) a (.lst (vs ++ [.ref q]))) R (.lst (xs ++ [.ref a] ++ [.ref q]))) m st' as' C') := by
  obtain ⟨m, e, f, l⟩ := h.fuel1 hc
  subst e
  have r := h.run
  obtain ⟨d1, d2⟩ := drop_at hc
  rw [d1] at r
  obtain ⟨a, bs, t, rest, ea, es, hR, ma, nRa, lb⟩ := h.split
  subst ea es
  obtain ⟨vs0, hv0⟩ := h.opn.there a ma
  have sm0 := h.small a ma vs0 hv0
  have lz := len_tl z
  have ol := h.opn.len
  have ls : (t :: rest).length = bs.length + 1 := by rw [← ol]; rfl
  refine ⟨a, _, vs0, hR, hv0, nRa, by rw [lb]; have d1 := h.deep.1; have d2 := h.deep.2; simp at d1; omega, by have := h.le; omega, fun g => ?_, fun g q hq => ?_⟩
  · rw [lb] at g
    have r2 : (if dm < (t :: rest).length then Out.deep else My.runD dm m ((tl z).drop (i + 1)) (i + 1) ([] :: t :: rest)) = out := r
    rw [if_pos (by rw [ls]; omega)] at r2
    exact r2.symm
  · rw [lb] at g
    have r2 : (if dm < (t :: rest).length then Out.deep else My.runD dm m ((tl z).drop (i + 1)) (i + 1) ([] :: t :: rest)) = out := r
    rw [if_neg (by rw [ls]; omega)] at r2
    have q0 : H q = none := h.sm.dom q hq
    have ne : ∀ {b : Addr} {o : HO}, H' b = some o → b ≠ q := fun {b o} e => ne_of_none e hq
    obtain ⟨vs, hv, big⟩ := h.opn.beg hq (fun z => h.cn q z hq)
    rw [hv0] at hv
    cases hv
    have nqR : R ≠ q := ne h.rows
    have naq : a ≠ q := ne hv0
    have at_ : ∀ {b : Addr} {o : HO}, H' b = some o → b ≠ a → b ≠ R → (upd (upd (upd H' q (.lst [])) a (.lst (vs0 ++ [.ref q]))) R (.lst (bs.reverse.map V.ref ++ [.ref a] ++ [.ref q]))) b = some o := fun {b o} e n1 n2 => by
      rw [upd_ne n2, upd_ne n1, upd_ne (ne e)]
      exact e
    have rn : ∀ b ∈ a :: bs, b ≠ R := fun b hb z => h.nR (z ▸ hb)
    have s1 : Sm No H (upd H' q (.lst [])) := h.sm.mut q0 fun ps z => by rw [hq] at z; cases z
    have s2 : Sm No H (upd (upd H' q (.lst [])) a (.lst (vs0 ++ [.ref q]))) := s1.mut (h.new a (.inr (.inl ma))) (ntbl_l (by rw [upd_ne naq]; exact hv0))
    have s3 := s2.mut (o := .lst (bs.reverse.map V.ref ++ [.ref a] ++ [.ref q])) (h.new R (.inr (.inr rfl))) (ntbl_l (by rw [upd_ne nRa, upd_ne nqR]; exact h.rows))
    have s0 := h.small a ma vs0 hv0
    obtain ⟨cs, el⟩ := h.last
    refine ⟨m, [] :: t :: rest, q :: a :: bs, C, ⟨l, f, r2, ⟨q :: cs, by rw [el]; rfl⟩, big _ ?_ ?_ ?_, ?_, h.nC, ?_, s3, ?_, ?_, ?_, ?_⟩⟩
    · rw [upd_ne nqR.symm, upd_ne naq.symm, upd_same]
    · rw [upd_ne nRa.symm, upd_same]
    · intro b hb hm xs e
      exact at_ e hb fun z => hm.elim (fun g => h.nC (z ▸ g)) fun g => h.nR (z ▸ List.mem_cons_of_mem _ g)
    · rw [upd_same, List.reverse_cons, List.reverse_cons, List.map_append, List.map_append]
      rfl
    · intro z
      rcases List.mem_cons.mp z with z | z
      · exact nqR z
      · exact h.nR z
    · intro b hb
      rcases hb with hb | hb | hb
      · exact h.new b (.inl hb)
      · rcases List.mem_cons.mp hb with e | e
        · rw [e]; exact q0
        · exact h.new b (.inr (.inl e))
      · exact h.new b (.inr (.inr hb))
    · intro b hb vs hv
      rcases List.mem_cons.mp hb with e | e
      · rw [e, upd_ne nqR.symm, upd_ne naq.symm, upd_same] at hv
        cases hv
        exact Nat.zero_le _
      · by_cases hba : b = a
        · rw [hba, upd_ne nRa.symm, upd_same] at hv
          cases hv
          simp
          exact s0
        · obtain ⟨us, hu⟩ := h.opn.there b e
          have hv2 := (at_ hu hba (rn b e)).symm.trans hv
          have ev : us = vs := by injection hv2 with z; injection z
          rw [← ev]
          exact Nat.le_succ_of_le (h.small b e us hu)
    · refine ⟨?_, h.deep.2⟩
      show (a :: bs).length + 1 ≤ dm + 1
      simp
      omega
    · intro b hb e
      exact h.cn b hb (upd_dom b (upd_dom b (upd_dom b e)))
end
end My
namespace My
open PySem PySem.Spec PyProof.Rows L2 TL
section
variable {dm : Nat} {z : Str} {out : Out} {H H' : Hp} {R D : Addr} {i n : Nat} {st : List (List Dat)} {as : List Addr} {C : Addr → Prop}
theorem PC.cls (h : PC dm z out H R D i H' n st as C) (hc : (tl z)[i]? = some 41) : ∃ (xs : List V) (y : V), H' R = some (.lst (xs ++ [y])) ∧ xs.length ≤ big ∧ (xs = [] → out = .close i) ∧
    (xs ≠ [] → ∃ m st' as' C', PC dm z out H R D (i + 1) (upd H' R (.lst xs)) m st' as' C') := by
  obtain ⟨m, e, f, l⟩ := h.fuel1 hc
  subst e
  have r := h.run
  obtain ⟨d1, d2⟩ := drop_at hc
  rw [d1] at r
  obtain ⟨a, bs, t, rest, ea, es, hR, ma, nRa, lb⟩ := h.split
  subst ea es
  have ol := h.opn.len
  have dp := h.deep
  refine ⟨_, _, hR, by rw [lb]; have d1 := dp.1; have d2 := dp.2; simp at d1; omega, fun g => ?_, fun g => ?_⟩
  · have b0 : bs = [] := by
      have := congrArg List.length g
      rw [lb] at this
      exact List.length_eq_zero_iff.mp this
    subst b0
    cases rest with
    | nil => exact r.symm
    | cons p q => cases ol
  · cases bs with
    | nil => exact absurd rfl g
    | cons b bs =>
      cases rest with
      | nil => cases ol
      | cons p rest =>
        have r2 : My.runD dm m ((tl z).drop (i + 1)) (i + 1) ((p ++ [.lst t]) :: rest) = out := r
        obtain ⟨cs, el⟩ := h.last
        have keepL : ∀ c xs, H' c = some (.lst xs) → ((C c ∨ c = a) ∨ c ∈ b :: bs) → (upd H' R (.lst ((b :: bs).reverse.map V.ref))) c = some (.lst xs) := fun c xs e hm => by
          rw [upd_ne (fun z => ?_)]
          · exact e
          · subst z
            rcases hm with (hm | hm) | hm
            · exact h.nC hm
            · exact nRa hm
            · exact h.nR (List.mem_cons_of_mem _ hm)
        refine ⟨m, (p ++ [.lst t]) :: rest, b :: bs, fun x => C x ∨ x = a, ⟨l, f, r2, ?_, h.opn.cls.keepH keepL, upd_same, ?_, fun z => h.nR (List.mem_cons_of_mem _ z), ?_, ?_, ?_, ?_, ?_⟩⟩
        · cases cs with
          | nil =>
            have e2 := (List.cons.inj el).2
            cases e2
          | cons c cs => exact ⟨cs, (List.cons.inj el).2⟩
        · intro z
          rcases z with z | z
          · exact h.nC z
          · exact nRa z
        · exact h.sm.mut (h.new R (.inr (.inr rfl))) (ntbl_l h.rows)
        · intro x hx
          rcases hx with (hx | hx) | hx | hx
          · exact h.new x (.inl hx)
          · exact h.new x (.inr (.inl (by rw [hx]; exact ma)))
          · exact h.new x (.inr (.inl (List.mem_cons_of_mem _ hx)))
          · exact h.new x (.inr (.inr hx))
        · intro x hx vs hv
          rw [upd_ne (fun z => h.nR (by rw [← z]; exact List.mem_cons_of_mem _ hx))] at hv
          exact Nat.le_succ_of_le (h.small x (List.mem_cons_of_mem _ hx) vs hv)
        · refine ⟨?_, dp.2⟩
          have d1 := dp.1
          simp at d1 ⊢
          omega
        · intro x hx e
          have e' := upd_dom x e
          rcases hx with hx | hx
          · exact h.cn x hx e'
          · obtain ⟨vs, hv⟩ := h.opn.there a ma
            rw [hx, hv] at e'
            cases e'
theorem wordV_rep {l : List Nat} {v : V} (h : wordV l = some v) (C : Addr → Prop) (H : Hp) : Rep C H v (datOf v) := by
  unfold wordV at h
  split at h
  · cases h; exact .int _
  · split at h
    · cases h; exact .sym _
    · cases h
theorem PC.word {c : Nat} (h : PC dm z out H R D i H' n st as C) (hc : (tl z)[i]? = some c) (hz : z.length ≤ big) (n1 : c ≠ 59) (n2 : c ≠ 40) (n3 : c ≠ 41) (n4 : c ≠ 32) (n5 : c ≠ 10) :
    ∃ (a : Addr) (xs vs : List V), H' R = some (.lst (xs ++ [.ref a])) ∧ H' a = some (.lst vs) ∧ vs.length ≤ big ∧ i < i + (((tl z).drop i).takeWhile noEnd).length ∧ i + (((tl z).drop i).takeWhile noEnd).length ≤ z.length ∧
    (wordV (((tl z).drop i).takeWhile noEnd) = none → out = .word i) ∧
    (∀ v, wordV (((tl z).drop i).takeWhile noEnd) = some v → ∀ H2, Sm No H' H2 → ∃ m st' as' C', PC dm z out H R D (i + (((tl z).drop i).takeWhile noEnd).length) (upd H2 a (.lst (vs ++ [v]))) m st' as' C') := by
  obtain ⟨m, e, f, l⟩ := h.fuel1 hc
  subst e
  have r := h.run
  obtain ⟨d1, d2⟩ := drop_at hc
  obtain ⟨a, bs, t, rest, ea, es, hR, ma, nRa, lb⟩ := h.split
  subst ea es
  obtain ⟨vs0, hv0⟩ := h.opn.there a ma
  have sm0 := h.small a ma vs0 hv0
  have lz := len_tl z
  have pos : 0 < (((tl z).drop i).takeWhile noEnd).length := by
    have ne : noEnd c = true := by
      unfold noEnd
      cases he : isEnd c with
      | false => rfl
      | true =>
        have := (isEnd_iff c).mp he
        omega
    rw [d1, List.takeWhile_cons, ne]
    exact Nat.succ_pos _
  have tk := takeW_le noEnd ((tl z).drop i)
  rw [List.length_drop] at tk
  have r2 : (match wordV (((tl z).drop i).takeWhile noEnd), t :: rest with
      | some v, t :: rest => My.runD dm m (((tl z).drop i).dropWhile noEnd) (i + (((tl z).drop i).takeWhile noEnd).length) ((t ++ [datOf v]) :: rest)
      | _, _ => Out.word i) = out := by
    rw [d1] at r ⊢
    have r' : (if c = 59 then _ else if c = 40 then _ else if c = 41 then _ else if c = 32 ∨ c = 10 then _ else _) = out := r
    rw [if_neg n1, if_neg n2, if_neg n3, if_neg (by omega)] at r'
    exact r'
  generalize hw : (((tl z).drop i).takeWhile noEnd) = wd at *
  refine ⟨a, _, vs0, hR, hv0, by have := h.le; omega, by omega, by omega, fun g => ?_, fun v g H2 s => ?_⟩
  · rw [g] at r2
    exact r2.symm
  · rw [g] at r2
    have r3 : My.runD dm m (((tl z).drop i).dropWhile noEnd) (i + wd.length) ((t ++ [datOf v]) :: rest) = out := r2
    rw [dropW, hw, List.drop_drop] at r3
    have h2 := h.sm' s
    obtain ⟨vs, hv, ap⟩ := h2.opn.app (wordV_rep g C H2)
    have hv1 := s.lst0 hv0
    rw [hv1] at hv
    cases hv
    refine ⟨m, (t ++ [datOf v]) :: rest, a :: bs, C, ⟨by omega, by omega, r3, h.last, ap _ upd_same ?_, ?_, h.nC, h.nR, ?_, h.new, ?_, h.deep, ?_⟩⟩
    · intro b hb _ xs e
      rw [upd_ne hb]; exact e
    · rw [upd_ne nRa]; exact h2.rows
    · exact h2.sm.mut (h.new a (.inr (.inl ma))) (ntbl_l hv1)
    · intro b hb vs hv
      by_cases hba : b = a
      · rw [hba, upd_same] at hv
        cases hv
        simp
        omega
      · rw [upd_ne hba] at hv
        exact Nat.le_trans (h2.small b hb vs hv) (by omega)
    · intro b hb e
      exact h2.cn b hb (upd_dom b e)
end
end My
namespace My
open PySem PySem.Spec PyProof.Rows L2 TL
/-- one callee: its promise, where it stands, how it binds -/
structure Cal (P : Program) (w : World) (K : PySem.W.Frag) (mg : Str → Option Value) (base : Heap) (CX : CXT) (k : Nat) (x : Str) (ps : List Str) (sp : Sp) (f : Addr) (fd : FuncData) : Prop where
  ok : FnOk P w K mg base CX k f fd ps sp
  k : PySem.W.keepIn K (.ref f) = true
  g : mg x = some (.ref f)
  b : Binds K fd ps []
section
variable {P : Program} {w : World} {K : PySem.W.Frag} {mg : Str → Option Value} {base : Heap}
theorem ok_data {f fRE fB fE fW fR CE fI P1 P2 : Addr} {fd dRE dB dE dW dR fdI : FuncData} {X : Errs} (F : Fun K "read_data" "read_data" sData f fd) (B : Blt mg)
    (GRE : Cal P w K mg base CX0 1 "remark_end" ["text", "at"] (spScan noLine) fRE dRE) (GW : Cal P w K mg base CX0 1 "word_end" ["text", "at"] (spScan noEnd) fW dW)
    (GB : Cal P w K mg base (L2N.CX P w) 2 "begin_list" ["rows", "deepest"] (spBeg X.d) fB dB) (GE : Cal P w K mg base (L2N.CX P w) 3 "end_list" ["rows", "at"] (spEndL X.c) fE dE)
    (GR : Cal P w K mg base (L2N.CX P w) 3 "read_word" ["word", "at"] (spRead X.w [P1, P2]) fR dR) (XE : ErrC P w K mg base "UnexpectedEnd" X.e fI fdI) :
    FnOk P w K mg base (L2N.CX P w) 4 f fd ["text", "deepest"] (spData X [P1, P2]) := by
  refine okN F scData (fun vs H Q E h => ?_) (fun cdv A outer s H vs Q E hr h => ?_)
  · obtain ⟨z, dm, rfl, _⟩ := h
    rfl
  obtain ⟨z, dm, rfl, hz, hdm, ht, hq⟩ := h
  have lz := len_tl z
  have hr1 : Room 1 _ := hr.mono (show 1 ≤ 3 by decide)
  have hr2 : Room 2 _ := hr.mono (show 2 ≤ 3 by decide)
  have nd := scData.nd
  refine ⟨_, pss_cons (ps_set (i := 2) nd rfl (Or.inl rfl) (pe_lst pa_nil))
    (pss_cons (ps_set (i := 3) nd rfl (Or.inl rfl) (pe_lst (pa_cons (pv 2) pa_nil)))
    (pss_cons (ps_set (i := 4) nd rfl (Or.inl rfl) pe_int)
    (C8.pss_cut (ps_while (passes_of rfl) (pt_cmpR op_lt (pv 4) (pe_callB call_len (by rfl) B.len PySem.boot_len (pa_cons (pv 0) pa_nil)) (nomark _))
      (pss_cons (ps_set (i := 5) nd rfl (Or.inl rfl) (pe_ix ix_str (pv 0) (pv 4) (fun _ _ => rfl)))
      (pss_cons (ps_set (i := 6) nd rfl (Or.inl rfl) (pe_op op_add (pv 4) pe_int))
      (C8.pss_cut (ps_if (pt_cmpR op_eq (pv 5) pe_str (nomark _)) (pss_one (ps_set (i := 6) nd rfl (Or.inl rfl) (pe_call GRE.ok hr1 rfl GRE.g GRE.k GRE.b .nil pass0 (pa_cons (pv 0) (pa_cons (pv 4) pa_nil)))))
        (pss_one (ps_if (pt_cmpR op_eq (pv 5) pe_str (nomark _)) (pss_one (ps_expr (pe_call GB.ok hr2 rfl GB.g GB.k GB.b .nil (L2N.passes_call (L2N.takes_of rfl rfl rfl rfl) fun _ _ _ _ h => h) (pa_cons (pv 3) (pa_cons (pv 1) pa_nil)))))
        (pss_one (ps_if (pt_cmpR op_eq (pv 5) pe_str (nomark _)) (pss_one (ps_expr (pe_call GE.ok hr rfl GE.g GE.k GE.b .nil (L2N.passes_call (L2N.takes_of rfl rfl rfl rfl) fun _ _ _ _ h => h) (pa_cons (pv 3) (pa_cons (pv 4) pa_nil)))))
        (pss_one (ps_if (pt_cmpR op_notIn_sign (pv 5) pe_str (by rfl))
          (pss_cons (ps_set (i := 6) nd rfl (Or.inl rfl) (pe_call GW.ok hr1 rfl GW.g GW.k GW.b .nil pass0 (pa_cons (pv 0) (pa_cons (pv 4) pa_nil))))
          (pss_one (ps_expr (pe_bm PySem.F.plainAttrs_list PySem.F.slot_list_append PySem.F.type_list_append mt_append (pe_ix ix_list (pv 3) (pe_un un_neg pe_int) (fun _ _ => rfl))
            (pa_cons (pe_call GR.ok hr rfl GR.g GR.k GR.b .nil (L2N.passes_call (L2N.takes_of rfl rfl rfl rfl) fun _ _ _ _ h => h) (pa_cons (pe_slice sl_str (pv 0) (po_some (pv 4)) (po_some (pv 6))) (pa_cons (pv 4) pa_nil))) pa_nil)))))
          pss_nil)))))))
      (pss_one (ps_set (i := 4) nd rfl (Or.inl rfl) (pv 6)))))))
    (pss_cons (ps_if (pt_cmpR op_gt (pe_callB call_len (by rfl) B.len PySem.boot_len (pa_cons (pv 3) pa_nil)) pe_int (nomark _))
      (pss_one (L2N.ps_raise rfl (L2N.takes_of rfl rfl rfl rfl) (pmkN_oex XE.o XE.iC XE.tI XE.f hr2 XE.b .nil pass0 rfl XE.g (pa_cons (pe_callB call_len (by rfl) B.len PySem.boot_len (pa_cons (pv 0) pa_nil)) pa_nil)))) pss_nil)
    (pss_one (ps_ret (pv 2))))))), ?_⟩
  generalize hO : My.runD dm (z.length + 1) (tl z) 0 [[]] = out at hq
  refine ⟨by decide, fun D hD => ?_⟩
  have hD1 : upd H D (.lst []) D = some (.lst []) := upd_same
  refine ⟨_, rfl, by show 1 ≤ sizeLine; decide, fun R hR => ?_⟩
  have nRD : R ≠ D := fun e => by rw [e, hD1] at hR; cases hR
  have hR0 : H R = none := upd_dom R hR
  have start0 : PC dm z out H R D 0 (upd (upd H D (.lst [])) R (.lst [.ref D])) (z.length + 1) [[]] [D] (fun _ => False) := by
    refine ⟨Nat.zero_le _, by omega, hO, ⟨[], rfl⟩, ⟨⟨[], ?_, .nil⟩, fun z => z, by simp, trivial⟩, upd_same, fun z => z, by simpa using nRD, ?_, ?_, ?_, ⟨Nat.le_add_left 1 dm, hdm⟩, fun _ z => z.elim⟩
    · rw [upd_ne nRD.symm]; exact hD1
    · exact (Sm.new hD).mut hR0 fun ps e => by rw [hR] at e; cases e
    · intro a ha
      rcases ha with ha | ha | ha
      · exact ha.elim
      · rw [List.mem_singleton.mp ha]; exact hD
      · rw [ha]; exact hR0
    · intro a ha vs hv
      rw [List.mem_singleton.mp ha, upd_ne nRD.symm, hD1] at hv
      cases hv
      exact Nat.le_refl _
  have errAt : ∀ {C : Addr} {i : Nat} {H2 : Hp}, atX C i H E → Sm No H H2 → atX C i H2 E := fun q s H' d s' hd e => q H' d (s.trans s') (s.dom d hd) e
  refine ⟨fun σ H' => ∃ (v4 v5 : Option V) (n : Nat) (st : List (List Dat)) (as : List Addr) (C : Addr → Prop), σ = [some (.str z), some (.int (dm : Nat)), some (.ref D), some (.ref R), some (.int ((tl z).length : Nat)), v4, v5] ∧ PC dm z out H R D (tl z).length H' n st as C, ?_, ?_⟩
  · refine while_by (fun σ H' => ∃ (i : Nat) (v4 v5 : Option V) (n : Nat) (st : List (List Dat)) (as : List Addr) (C : Addr → Prop), σ = [some (.str z), some (.int (dm : Nat)), some (.ref D), some (.ref R), some (.int (i : Nat)), v4, v5] ∧ PC dm z out H R D i H' n st as C)
      (fun σ _ => match σ with | [_, _, _, _, some (.int k), _, _] => z.length - k.toNat | _ => 0) ⟨0, none, none, _, _, _, _, rfl, start0⟩ ?_ ?_
    · rintro σ H' ⟨i, v4, v5, n, st, as, C, rfl, pc⟩
      refine ⟨_, rfl, _, rfl, _, _, rfl, ⟨big_line hz, rfl⟩, _, _, rfl, rfl, _, rfl, ?_⟩
      refine ite2 (fun c => ?_) (fun c => ?_)
      · have lt : i < (tl z).length := by have := of_decide_eq_true c; omega
        have hc : (tl z)[i]? = some (tl z)[i] := List.getElem?_eq_getElem lt
        generalize (tl z)[i] = sg at hc
        have ea : atI z.cps.toList (i : Int) = some sg := atI_nat hc
        have htH : ∀ p ∈ [P1, P2], GxR.TabG H' p := fun p hp => pc.sm.tab p (ht p hp)
        refine ⟨_, rfl, _, rfl, z, _, _, rfl, rfl, big_line hz, ea, _, rfl, _, _, rfl, rfl, ?_⟩
        refine ⟨fun σ H2 => ∃ (j : Nat) (v4 : Option V) (n : Nat) (st : List (List Dat)) (as : List Addr) (C : Addr → Prop), σ = [some (.str z), some (.int (dm : Nat)), some (.ref D), some (.ref R), some (.int (i : Nat)), v4, some (.int (j : Nat))] ∧ i < j ∧ PC dm z out H R D j H2 n st as C, ?_, ?_⟩
        · have one : ∀ (b : Nat) (y : Str), tl y = [b] → decide (V.str ⟨#[sg]⟩ = V.str y) = decide (sg = b) := fun b y e => by
            rw [dec_str_tl, e]
            show decide ([sg] = [b]) = decide (sg = b)
            by_cases h : sg = b
            · rw [decide_eq_true h, decide_eq_true (by rw [h])]
            · rw [decide_eq_false h, decide_eq_false (fun e => h (List.cons.inj e).1)]
          have el : ∀ {k : Nat} {L : List Nat}, k = L.length → L.take k = L := fun {k L} e => by rw [e, List.take_length]
          have tw : ∀ (p : Nat → Bool) (l : List Nat), l.take (l.takeWhile p).length = l.takeWhile p := by
            intro p l
            induction l with
            | nil => rfl
            | cons c r ih =>
              rw [List.takeWhile_cons]
              cases p c with
              | true => exact congrArg (c :: ·) ih
              | false => rfl
          refine ⟨_, rfl, rfl, _, rfl, ?_⟩
          rw [one 59 ";" (by decide +kernel)]
          by_cases h59 : sg = 59
          · subst h59
            obtain ⟨lj, m, pj⟩ := pc.remark hc
            exact ⟨_, rfl, _, rfl, z, i, rfl, hz, by omega, ⟨_, _, m, st, as, C, rfl, lj, pj⟩⟩
          rw [decide_eq_false h59]
          refine ⟨_, rfl, rfl, _, rfl, ?_⟩
          rw [one 40 "(" (by decide +kernel)]
          by_cases h40 : sg = 40
          · subst h40
            obtain ⟨a, xs, vs, hR1, ha, nRa, lx, lv, gE, gQ⟩ := pc.beg hc hz
            refine ⟨_, rfl, _, rfl, R, a, xs, vs, dm, rfl, hR1, ha, nRa, lx, lv, hdm, fun g => ?_, fun g q hq' => ?_⟩
            · have e := gE g
              rw [e] at hq
              exact hq H' pc.sm
            · obtain ⟨m, st', as', C', pj⟩ := gQ g q hq'
              exact ⟨i + 1, _, m, st', as', C', rfl, Nat.lt_succ_self i, pj⟩
          rw [decide_eq_false h40]
          refine ⟨_, rfl, rfl, _, rfl, ?_⟩
          rw [one 41 ")" (by decide +kernel)]
          by_cases h41 : sg = 41
          · subst h41
            obtain ⟨xs, y, hR1, lx, gE, gQ⟩ := pc.cls hc
            refine ⟨_, rfl, _, rfl, R, xs, y, i, rfl, hR1, lx, by omega, fun g => ?_, fun g => ?_⟩
            · have e := gE g
              rw [e] at hq
              exact errAt hq pc.sm
            · obtain ⟨m, st', as', C', pj⟩ := gQ g
              exact ⟨i + 1, _, m, st', as', C', rfl, Nat.lt_succ_self i, pj⟩
          rw [decide_eq_false h41]
          have bl : (" \n" : Str).cps.toList = [32, 10] := by decide +kernel
          refine ⟨_, rfl, sg, _, rfl, rfl, _, rfl, ?_⟩
          rw [bl]
          by_cases hb : sg = 32 ∨ sg = 10
          · have e : decide (sg ∈ [32, 10]) = true := decide_eq_true (by simpa using hb)
            rw [e]
            obtain ⟨m, pj⟩ := pc.blank hc hb
            exact ⟨i + 1, _, m, st, as, C, rfl, Nat.lt_succ_self i, pj⟩
          · have e : decide (sg ∈ [32, 10]) = false := decide_eq_false (by simpa using hb)
            rw [e]
            obtain ⟨a, xs, vs, hR1, ha, lv, lj, le, gE, gQ⟩ := pc.word hc hz h59 h40 h41 (fun z => hb (.inl z)) (fun z => hb (.inr z))
            have ec : tl (cutS z (some (i : Int)) (some ((i + (((tl z).drop i).takeWhile noEnd).length : Nat) : Int))) = ((tl z).drop i).takeWhile noEnd := by
              rw [tl_cut2 z i _ (by omega) le, show i + (((tl z).drop i).takeWhile noEnd).length - i = (((tl z).drop i).takeWhile noEnd).length by omega]
              exact tw _ _
            refine ⟨_, rfl, _, rfl, z, i, rfl, hz, by omega, ?_⟩
            refine ⟨_, rfl, _, rfl, R, _, _, _, rfl, rfl, SqL.of hR1, atI_last _ _, .inl ⟨rfl, _, SqL.of ha⟩, ?_⟩
            refine ⟨_, rfl, _, rfl, _, rfl, _, rfl, _, rfl, z, rfl, big_line hz, _, rfl, ?_⟩
            refine ⟨_, _, rfl, Nat.le_trans (cutS_length z _ _) hz, big10 (by omega), htH, fun v hv H2 s2 => ?_, fun hv H2 d s2 hd e => ?_⟩
            · rw [ec] at hv
              obtain ⟨m, st', as', C', pj⟩ := gQ v hv H2 s2
              exact ⟨a, vs, v, rfl, rfl, s2.lst0 ha, Nat.lt_of_le_of_lt lv (by decide), ⟨_, _, m, st', as', C', rfl, lj, pj⟩⟩
            · rw [ec] at hv
              have e0 := gE hv
              rw [e0] at hq
              exact hq H2 d (pc.sm.trans s2) (pc.sm.dom d hd) e
        · rintro σ H2 ⟨j, w4, m, st', as', C', rfl, lj, pj⟩
          refine ⟨_, rfl, ⟨j, w4, _, m, st', as', C', rfl, pj⟩, ?_⟩
          show z.length - ((j : Nat) : Int).toNat < z.length - ((i : Nat) : Int).toNat
          have := pj.le
          omega
      · have e : i = (tl z).length := by
          have : ¬ i < z.length := fun h => c (decide_eq_true (by omega))
          have := pc.le
          omega
        subst e
        exact ⟨v4, v5, n, st, as, C, rfl, pc⟩
    · rintro σ H' Q1 Q2 hm ⟨v, e, v2, e2, x, n, e3, hl, i1, j1, e4, e5, b, e6, h7⟩
      exact ⟨v, e, v2, e2, x, n, e3, hl, i1, j1, e4, e5, b, e6, hm _ _ h7⟩
  · rintro σ H' ⟨v4, v5, n, st, as, C, rfl, pc⟩
    obtain ⟨a, bs, t, rest, ea, es, hR1, ma, nRa, lb⟩ := pc.split
    subst ea es
    have ol := pc.opn.len
    have r := pc.run
    have f := pc.fuel
    have dn : (tl z).drop (tl z).length = [] := List.drop_length
    refine ⟨_, rfl, _, _, rfl, .inl ⟨_, SqL.of hR1, rfl⟩, _, _, rfl, rfl, _, rfl, ?_⟩
    have ll : (bs.reverse.map V.ref ++ [V.ref a]).length = bs.length + 1 := by rw [List.length_append, lb]; rfl
    rw [ll]
    cases n with
    | zero => omega
    | succ m =>
      rw [dn] at r
      cases bs with
      | nil =>
        cases rest with
        | cons p q => cases ol
        | nil =>
          have r2 : Out.ok t = out := r
          rw [← r2] at hq
          obtain ⟨cs, el⟩ := pc.last
          have eD : a = D := by
            cases cs with
            | nil => exact (List.cons.inj el).1
            | cons c cs => cases cs <;> cases el
          obtain ⟨⟨vs, h1, h2⟩, h3, _⟩ := pc.opn
          rw [none_list] at h1
          rw [eD] at h1 h3
          exact ⟨_, rfl, hq D vs C H' pc.sm hD (fun x hx => pc.new x (.inl hx)) h3 h1 h2⟩
      | cons b bs =>
        cases rest with
        | nil => cases ol
        | cons p q =>
          have r2 : Out.ends (tl z).length = out := r
          rw [← r2] at hq
          rw [decide_eq_true (by simp; omega)]
          show tMkO X.e (spIni K X.e) [] (tCons (tCB (fun xs H Q => ∃ x n, xs = [x] ∧ LenV K x H n ∧ Q (V.int (n : Nat)) H) (tCons (tVar 0) tNil)) tNil) [some (V.str z), some (V.int (dm : Nat)), some (V.ref D), some (V.ref R), some (V.int ((tl z).length : Nat)), v4, v5] H' (fun cls d H' => E cls d H')
          refine mkO_at (i := ((tl z).length : Nat)) (big10 (by omega)) (fun Q' q' => ?_) (Sm.refl _ H') fun H2 d s2 hd e => hq H2 d (pc.sm.trans s2) (pc.sm.dom d hd) e
          refine ⟨_, rfl, _, _, rfl, ⟨big_line hz, rfl⟩, ?_⟩
          rw [lz]
          exact q'
theorem ok_parse {f fD P1 P2 : Addr} {fd dD : FuncData} {X : Errs} (F : Fun K "parse_all" "parse_all" sParse f fd) (T : Txs mg)
    (GD : Cal P w K mg base (L2N.CX P w) 4 "read_data" ["text", "deepest"] (spData X [P1, P2]) fD dD) : FnOk P w K mg base (L2N.CX P w) 5 f fd ["text"] (spParse X [P1, P2]) := by
  refine okN F scParse (fun vs H Q E h => ?_) (fun cdv A outer s H vs Q E hr h => ?_)
  · obtain ⟨z, rfl, _⟩ := h
    rfl
  obtain ⟨z, rfl, hz, ht, hq⟩ := h
  obtain ⟨td, eD⟩ := T.deep
  refine ⟨_, pss_one (ps_ret (pe_call GD.ok hr rfl GD.g GD.k GD.b .nil (L2N.passes_call (L2N.takes_of rfl rfl rfl rfl) fun _ _ _ _ h => h) (pa_cons (pv 0) (pa_cons (pe_glob (v := .int 60) rfl eD ⟨_, rfl⟩) pa_nil)))), ?_⟩
  refine ⟨_, rfl, z, 60, rfl, hz, by decide, ht, ?_⟩
  rw [runD_run]
  exact hq
end
end My
namespace My
open PySem PySem.Spec PyProof.Rows L2 TL
/-- a comprehension over the signs of a text -/
theorem lc_str {x : Str} {g : TG} {tt : TT} {te : TE} {vs : List Nat} {σ : L2.St} {H1 : Hp} {D : Addr} {Qd : Hp → Prop} (Pv : Nat → Hp → Prop) (h0 : Pv 0 (upd H1 D (.lst [])))
    (hs : ∀ i c H, (tl x)[i]? = some c → Pv i H → g (.str ⟨#[c]⟩) (wipe σ vs) H fun σ2 H2 => wipe σ2 vs = wipe σ vs ∧ tt σ2 H2 fun b H3 =>
      if b = true then te σ2 H3 fun y H4 => ∃ acc, H4 D = some (.lst acc) ∧ acc.length < sizeLine ∧ Pv (i + 1) (upd H4 D (.lst (acc ++ [y]))) else Pv (i + 1) H3)
    (hd : ∀ H, Pv (tl x).length H → Qd H) :
    ∃ W : Nat → Nat → Hp → Prop, (∃ m, W 0 m (upd H1 D (.lst []))) ∧ ∀ i m H, W i m H →
      ((Its x).stop i H ∧ Qd H) ∨ ((Its x).go i H ∧ ∃ Nx : Hp → Prop, (∀ H', Nx H' → ∃ m', m' < m ∧ W (i + 1) m' H') ∧
        ∀ v H', (Its x).yld i H v H' → g v (wipe σ vs) H' fun σ2 H2 => wipe σ2 vs = wipe σ vs ∧ tt σ2 H2 fun b H3 =>
          if b = true then te σ2 H3 fun y H4 => ∃ acc, H4 D = some (.lst acc) ∧ acc.length < sizeLine ∧ Nx (upd H4 D (.lst (acc ++ [y]))) else Nx H3) := by
  have sz : x.cps.size = (tl x).length := by simp [tl]
  refine ⟨fun i m H => m + i = (tl x).length ∧ Pv i H, ⟨(tl x).length, rfl, h0⟩, ?_⟩
  rintro i m H ⟨e, p⟩
  by_cases lt : i < (tl x).length
  · refine .inr ⟨show i < x.cps.size by omega, Pv (i + 1), fun H' p' => ⟨m - 1, by omega, by omega, p'⟩, ?_⟩
    rintro v H' ⟨eh, c, hc, ev⟩
    subst eh ev
    exact hs i c _ (by show x.cps.toList[i]? = some c; rw [Array.getElem?_toList]; exact hc) p
  · have ei : i = (tl x).length := by omega
    subst ei
    exact .inl ⟨show x.cps.size ≤ (tl x).length by omega, hd H p⟩
theorem filt0 {α : Type} (p : α → Bool) (l : List α) : ((l.filter fun c => !p c).length = 0) ↔ l.all p = true := by
  rw [List.length_eq_zero_iff, List.filter_eq_nil_iff, List.all_eq_true]
  constructor
  · intro h c hc
    have := h c hc
    simpa using this
  · intro h c hc
    simp [h c hc]
end My
namespace My
open PySem PySem.Spec PyProof.Rows L2 TL
def All (_ : Addr) : Prop := True
def tyD : Dat → String
  | .int _ => "int"
  | .sym _ => "str"
  | .lst _ => "list"
theorem Rep.sm {C : Addr → Prop} {H H' : Hp} {v : V} {d : Dat} (r : Rep C H v d) (s : Sm No H H') : Rep C H' v d := r.keep (fun a vs _ e => s.lst0 e) fun _ z => z
theorem RepL.sm {C : Addr → Prop} {H H' : Hp} {v : List V} {d : List Dat} (r : RepL C H v d) (s : Sm No H H') : RepL C H' v d := r.keep (fun a vs _ e => s.lst0 e) fun _ z => z
theorem Rep.all {C : Addr → Prop} {H : Hp} {v : V} {d : Dat} (r : Rep C H v d) : Rep All H v d := r.keep (fun _ _ _ e => e) fun _ _ => trivial
theorem RepL.all {C : Addr → Prop} {H : Hp} {v : List V} {d : List Dat} (r : RepL C H v d) : RepL All H v d := r.keep (fun _ _ _ e => e) fun _ _ => trivial
theorem RepL.len {C : Addr → Prop} {H : Hp} : ∀ {vs : List V} {ds : List Dat}, RepL C H vs ds → vs.length = ds.length
  | _, _, .nil => rfl
  | _, _, .cons _ r => congrArg (· + 1) (RepL.len r)
theorem RepL.get {C : Addr → Prop} {H : Hp} : ∀ {vs : List V} {ds : List Dat} {i : Nat}, RepL C H vs ds → i < ds.length → ∃ v d, vs[i]? = some v ∧ ds[i]? = some d ∧ Rep C H v d
  | _, _, 0, .cons h r, _ => ⟨_, _, rfl, rfl, h⟩
  | _, _, i + 1, .cons h r, l => by
    obtain ⟨v, d, e1, e2, x⟩ := RepL.get (i := i) r (Nat.lt_of_succ_lt_succ l)
    exact ⟨v, d, by simpa using e1, by simpa using e2, x⟩
theorem Rep.ty {K : PySem.W.Frag} {C : Addr → Prop} {H : Hp} {v : V} {d : Dat} (r : Rep C H v d) : TyX K H v (.type (tyD d)) := by
  cases r with
  | int i => exact .base (.int i)
  | sym s => exact .base (.str s)
  | lst hc h r => exact .base (.lst h)
/-- an expression gives True or False, what was there stays -/
def EvB (t : TE) (σ : L2.St) (H : Hp) (b : Bool) : Prop := ∀ Q : VK, (∀ H', Sm No H H' → Q (.bl b) H') → t σ H Q
def EvI (t : TE) (σ : L2.St) (H : Hp) (i : Int) : Prop := ∀ Q : VK, (∀ H', Sm No H H' → Q (.int i) H') → t σ H Q
section
variable {K : PySem.W.Frag} {σ : L2.St} {H : Hp} {i : Nat} {v : V} {d : Dat} {b : Bool}
abbrev tIsiT (K : PySem.W.Frag) (i : Nat) : TE := tCB (rIsiT K) (tCons (tVar i) (tCons (tTup (tCons (tC (.ty "list")) (tCons (tC (.ty "tuple")) tNil))) tNil))
abbrev tIsi (K : PySem.W.Frag) (i : Nat) (T : String) : TE := tCB (rIsi K) (tCons (tVar i) (tCons (tC (.ty T)) tNil))
theorem ev_isiT (h : σ[i]? = some (some v)) (r : Rep All H v d) : EvB (tIsiT K i) σ H (decide (tyD d = "list")) := fun Q q => by
  refine ⟨v, h, by show 2 ≤ sizeLine; decide, fun p hp => ?_⟩
  have s : Sm No H (upd H p (.tup [.ty "list", .ty "tuple"])) := Sm.new hp
  refine ⟨v, p, _, _, [.type "list", .type "tuple"], _, rfl, upd_same, .cons (.ty _) (.cons (.ty _) .nil), (r.sm s).ty, ?_, q _ s⟩
  have ki : ∀ (b : String) (r : Bool), kitB "int" b = some r → PySem.W.kitOne K (.type "int") (.type b) = some r := fun _ _ h => kit_ty h
  have ks : ∀ (b : String) (r : Bool), kitB "str" b = some r → PySem.W.kitOne K (.type "str") (.type b) = some r := fun _ _ h => kit_ty h
  have kl : ∀ (b : String) (r : Bool), kitB "list" b = some r → PySem.W.kitOne K (.type "list") (.type b) = some r := fun _ _ h => kit_ty h
  cases d with
  | int i => exact kitAny_cons (ki "list" false (by decide +kernel)) (fun _ => kitAny_cons (ki "tuple" false (by decide +kernel)) (fun _ => rfl) (fun z => nomatch z)) (fun z => nomatch z)
  | sym s => exact kitAny_cons (ks "list" false (by decide +kernel)) (fun _ => kitAny_cons (ks "tuple" false (by decide +kernel)) (fun _ => rfl) (fun z => nomatch z)) (fun z => nomatch z)
  | lst ds => exact kitAny_cons (kl "list" true (by decide +kernel)) (fun z => nomatch z) (fun _ => rfl)
theorem ev_isi {T : String} (h : σ[i]? = some (some v)) (r : Rep All H v d) (k : kitB (tyD d) T = some b) : EvB (tIsi K i T) σ H b := fun Q q =>
  ⟨v, h, v, _, _, .type T, b, rfl, .ty T, r.ty, kit_ty k, q H (Sm.refl _ _)⟩
end
/-- how deep a datum is, and how long its lists are at the most -/
def DepLe : Nat → Dat → Prop
  | 0, _ => False
  | n + 1, .lst ds => ds.length ≤ big ∧ ∀ d ∈ ds, DepLe n d
  | _ + 1, _ => True
def spSame (n : Nat) : Sp := fun vs H Q _ => ∃ (v1 v2 : V) (d : Dat), vs = [v1, v2] ∧ DepLe n d ∧ Rep All H v1 d ∧ Rep All H v2 d ∧ ∀ H', Sm No H H' → Q (.bl true) H'
abbrev sSame : Stmt := top 26
section
variable {P : Program} {w : World} {K : PySem.W.Frag} {mg : Str → Option Value} {base : Heap}
theorem scSame : FnScope ["one", "two", "k"] ["one", "two"] (defScope sSame) := ⟨rfl, rfl, rfl, by decide +kernel, rfl, by decide +kernel, by decide +kernel⟩
theorem ok_same {n : Nat} {f : Addr} {fd : FuncData} (F : Fun K "_law_same" "_law_same" sSame f fd) (B : Blt mg) (g : mg "_law_same" = some (.ref f)) (bn : Binds K fd ["one", "two"] []) (G : FnOk P w K mg base CX0 n f fd ["one", "two"] (spSame n)) :
    FnOk P w K mg base CX0 (n + 1) f fd ["one", "two"] (spSame (n + 1)) := by
  refine F.ok scSame (fun vs H Q E h => ?_) (fun cdv A outer s H vs Q E hr h => ?_)
  · obtain ⟨v1, v2, d, rfl, _⟩ := h
    rfl
  obtain ⟨v1, v2, d, rfl, dep, r1, r2, q⟩ := h
  have nd := scSame.nd
  refine ⟨_, pss_cons (ps_if (PW.pt (pw_and (pt_val (pe_callB call_isiT (by rfl) B.isinstance (by decide +kernel) (pa_cons (pv 0) (pa_cons (pe_tup (pa_cons (pe_bltn (v := .ty "list") (by rfl) B.list (by decide +kernel) rfl) (pa_cons (pe_bltn (v := .ty "tuple") (by rfl) B.tuple (by decide +kernel) rfl) pa_nil))) pa_nil))))
        (pw_and1 (pt_val (pe_callB call_isiT (by rfl) B.isinstance (by decide +kernel) (pa_cons (pv 1) (pa_cons (pe_tup (pa_cons (pe_bltn (v := .ty "list") (by rfl) B.list (by decide +kernel) rfl) (pa_cons (pe_bltn (v := .ty "tuple") (by rfl) B.tuple (by decide +kernel) rfl) pa_nil))) pa_nil)))))))
      (pss_cons (ps_if (PW.pt (pw_or (pt_cmpR op_ne (pe_callB call_isi (by rfl) B.isinstance (by decide +kernel) (pa_cons (pv 0) (pa_cons (pe_bltn (v := .ty "list") (by rfl) B.list (by decide +kernel) rfl) pa_nil))) (pe_callB call_isi (by rfl) B.isinstance (by decide +kernel) (pa_cons (pv 1) (pa_cons (pe_bltn (v := .ty "list") (by rfl) B.list (by decide +kernel) rfl) pa_nil))) (nomark _))
          (pw_or1 (pt_cmpR op_ne (pe_callB call_len (by rfl) B.len PySem.boot_len (pa_cons (pv 0) pa_nil)) (pe_callB call_len (by rfl) B.len PySem.boot_len (pa_cons (pv 1) pa_nil)) (nomark _))))) (pss_one (ps_ret pe_bl)) pss_nil)
      (pss_one (ps_ret (pe_cmpR op_eq (pe_callB call_len (by rfl) B.len PySem.boot_len (pa_cons
        (pe_lc (own := [("k", 2)]) (g := gName 2) rfl nd (pi_range1 (by rfl) B.range (pa_cons (pe_callB call_len (by rfl) B.len PySem.boot_len (pa_cons (pv 0) pa_nil)) pa_nil)) (blkOk_by (N := ["one", "two", "k"]) (sc := defScope sSame) (by decide +kernel)) (fun _ _ _ _ _ => pg_name (i := 2) nd rfl (Or.inl rfl))
          (fun _ _ _ _ _ => pts_one (pt_not (pt_val (pe_call G hr rfl g F.kp bn .nil pass0 (pa_cons (pe_ix (r := rIxL K) ix_list (pv 0) (pv 2) (fun _ _ => rfl)) (pa_cons (pe_ix (r := rIxL K) ix_list (pv 1) (pv 2) (fun _ _ => rfl)) pa_nil)))))) (fun _ _ _ _ _ => pv 2)) pa_nil)) pe_int (nomark _))))) pss_nil)
    (pss_cons (ps_if (PW.pt (pw_and (pt_val (pe_callB call_isi (by rfl) B.isinstance (by decide +kernel) (pa_cons (pv 0) (pa_cons (pe_bltn (v := .ty "int") (by rfl) B.int (by decide +kernel) rfl) pa_nil)))) (pw_and1 (pt_val (pe_callB call_isi (by rfl) B.isinstance (by decide +kernel) (pa_cons (pv 1) (pa_cons (pe_bltn (v := .ty "int") (by rfl) B.int (by decide +kernel) rfl) pa_nil)))))))
      (pss_one (ps_ret (pe_and (pe_not (pe_callB call_isi (by rfl) B.isinstance (by decide +kernel) (pa_cons (pv 0) (pa_cons (pe_bltn (v := .ty "bool") (by rfl) B.bool (by decide +kernel) rfl) pa_nil)))) (pe_and (pe_not (pe_callB call_isi (by rfl) B.isinstance (by decide +kernel) (pa_cons (pv 1) (pa_cons (pe_bltn (v := .ty "bool") (by rfl) B.bool (by decide +kernel) rfl) pa_nil)))) (pe_one (pe_cmpR op_eq (pv 0) (pv 1) (nomark _))))))) pss_nil)
    (pss_one (ps_ret (pe_and (pe_callB call_isi (by rfl) B.isinstance (by decide +kernel) (pa_cons (pv 0) (pa_cons (pe_bltn (v := .ty "str") (by rfl) B.str (by decide +kernel) rfl) pa_nil))) (pe_and (pe_callB call_isi (by rfl) B.isinstance (by decide +kernel) (pa_cons (pv 1) (pa_cons (pe_bltn (v := .ty "str") (by rfl) B.str (by decide +kernel) rfl) pa_nil))) (pe_one (pe_cmpR op_eq (pv 0) (pv 1) (nomark _)))))))), ?_⟩
  refine ev_isiT (i := 0) rfl r1 _ fun H1 s1 => ⟨_, rfl, ?_⟩
  cases d with
  | lst ds =>
    have tl1 : decide (tyD (.lst ds) = "list") = true := rfl
    rw [tl1]
    refine ev_isiT (i := 1) rfl (r2.sm s1) _ fun H2 s2 => ⟨_, rfl, ?_⟩
    rw [tl1]
    have s12 := s1.trans s2
    refine ev_isi (i := 0) (T := "list") (b := true) rfl (r1.sm s12) (show kitB "list" "list" = some true by decide +kernel) _ fun H3 s3 => ?_
    refine ev_isi (i := 1) (T := "list") (b := true) rfl (r2.sm (s12.trans s3)) (show kitB "list" "list" = some true by decide +kernel) _ fun H4 s4 => ?_
    have s14 := s12.trans (s3.trans s4)
    have r1' := r1.sm s14
    have r2' := r2.sm s14
    cases r1 with
    | @lst a1 vs1 _ _ g1 l1 =>
    cases r2 with
    | @lst a2 vs2 _ _ g2 l2 =>
    have e1 := s14.lst0 g1
    have e2 := s14.lst0 g2
    have n1 := l1.len
    have n2 := l2.len
    obtain ⟨db, dd⟩ := dep
    refine ⟨rfl, _, rfl, ?_⟩
    refine ⟨_, rfl, _, _, rfl, .inl ⟨_, SqL.of e1, rfl⟩, _, rfl, _, _, rfl, .inl ⟨_, SqL.of e2, rfl⟩, rfl, _, rfl, ?_⟩
    rw [n1, n2, decide_eq_true (show V.int ((ds.length : Nat) : Int) = V.int ((ds.length : Nat) : Int) from rfl)]
    have db' : (ds.length : Int) ≤ 1000000 := by have : ds.length ≤ 1000000 := db; omega
    refine ⟨_, rfl, _, _, rfl, .inl ⟨_, SqL.of e1, rfl⟩, _, rfl, by rw [n1]; omega, by rw [n1]; omega, fun D hD => ?_⟩
    have hD0 : H D = none := s14.dom D hD
    refine lc_range (lo := 0) (fun i H' => H' D = some (.lst []) ∧ Sm No H H') ⟨upd_same, s14.mut hD0 fun ps z => by rw [hD] at z; cases z⟩ ?_ ?_
    · rintro i H5 hi ⟨p1, p2⟩
      rw [n1, Int.toNat_natCast] at hi
      obtain ⟨x1, d1, f1, f2, f3⟩ := l1.get hi
      obtain ⟨x2, d2, f4, f5, f6⟩ := l2.get hi
      rw [f2] at f5
      cases f5
      have a0 : (0 : Int) + (i : Int) = ((i : Nat) : Int) := by omega
      rw [a0]
      refine ⟨rfl, ?_⟩
      refine ⟨_, rfl, _, rfl, a1, _, _, _, rfl, rfl, SqL.of (p2.lst0 g1), atI_nat f1, _, rfl, _, rfl, a2, _, _, _, rfl, rfl, SqL.of (p2.lst0 g2), atI_nat f4, ?_⟩
      refine ⟨x1, x2, d1, rfl, dd d1 (List.mem_of_getElem? f2), f3.sm p2, f6.sm p2, fun H6 s6 => ⟨_, rfl, ?_⟩⟩
      exact ⟨s6.lst0 p1, p2.trans s6⟩
    · rintro H5 ⟨p1, p2⟩
      refine ⟨_, _, rfl, .inl ⟨_, SqL.of p1, rfl⟩, rfl, ?_⟩
      exact q H5 p2
  | int i =>
    have tl1 : decide (tyD (.int i) = "list") = false := rfl
    rw [tl1]
    refine ev_isi (i := 0) (T := "int") (b := true) rfl (r1.sm s1) (show kitB "int" "int" = some true by decide +kernel) _ fun H2 s2 => ⟨_, rfl, ?_⟩
    refine ev_isi (i := 1) (T := "int") (b := true) rfl (r2.sm (s1.trans s2)) (show kitB "int" "int" = some true by decide +kernel) _ fun H3 s3 => ⟨_, rfl, ?_⟩
    refine ev_isi (i := 0) (T := "bool") (b := false) rfl (r1.sm (s1.trans (s2.trans s3))) (show kitB "int" "bool" = some false by decide +kernel) _ fun H4 s4 => ⟨_, rfl, _, rfl, ?_⟩
    refine ev_isi (i := 1) (T := "bool") (b := false) rfl (r2.sm (s1.trans (s2.trans (s3.trans s4)))) (show kitB "int" "bool" = some false by decide +kernel) _ fun H5 s5 => ⟨_, rfl, _, rfl, ?_⟩
    cases r1
    cases r2
    refine ⟨_, rfl, _, rfl, rfl, ?_⟩
    have r := q H5 (s1.trans (s2.trans (s3.trans (s4.trans s5))))
    rw [decide_eq_true rfl]
    exact r
  | sym i =>
    have tl1 : decide (tyD (.sym i) = "list") = false := rfl
    rw [tl1]
    refine ev_isi (i := 0) (T := "int") (b := false) rfl (r1.sm s1) (show kitB "str" "int" = some false by decide +kernel) _ fun H2 s2 => ⟨_, rfl, ?_⟩
    refine ev_isi (i := 0) (T := "str") (b := true) rfl (r1.sm (s1.trans s2)) (show kitB "str" "str" = some true by decide +kernel) _ fun H3 s3 => ⟨_, rfl, ?_⟩
    refine ev_isi (i := 1) (T := "str") (b := true) rfl (r2.sm (s1.trans (s2.trans s3))) (show kitB "str" "str" = some true by decide +kernel) _ fun H4 s4 => ⟨_, rfl, ?_⟩
    cases r1
    cases r2
    refine ⟨_, rfl, _, rfl, rfl, ?_⟩
    have r := q H4 (s1.trans (s2.trans (s3.trans s4)))
    rw [decide_eq_true rfl]
    exact r
theorem same_none {f : Addr} {fd : FuncData} : FnOk P w K mg base CX0 0 f fd ["one", "two"] (spSame 0) := by
  have no : ∀ vs H Q E, ¬ spSame 0 vs H Q E := by
    rintro vs H Q E ⟨v1, v2, d, _, h, _⟩
    exact h.elim
  exact ⟨fun vs H Q E h => absurd h (no vs H Q E), fun A outer s H args us vs Q E _ _ _ _ h => absurd h (no vs H Q E)⟩
theorem ok_sameN {f : Addr} {fd : FuncData} (F : Fun K "_law_same" "_law_same" sSame f fd) (B : Blt mg) (g : mg "_law_same" = some (.ref f)) (bn : Binds K fd ["one", "two"] []) : ∀ n : Nat, FnOk P w K mg base CX0 n f fd ["one", "two"] (spSame n)
  | 0 => same_none
  | n + 1 => ok_same F B g bn (ok_sameN F B g bn n)
end
end My
namespace My
open PySem PySem.Spec PyProof.Rows L2 TL
/-! ### a text times a small number -/
def rMulS : R2 := fun x y H Q => ∃ (z : Str) (n : Int), x = .str z ∧ y = .int n ∧ 0 ≤ n ∧ n ≤ 1000 ∧ z.length ≤ 1000 ∧ ∀ r : Str, tl r = (List.replicate n.toNat (tl z)).flatten → Q (.str r) H
theorem fold_app (a : Array Nat) : ∀ (k : Nat) (b : Array Nat), ((List.replicate k a).foldl (· ++ ·) b).toList = b.toList ++ (List.replicate k a.toList).flatten
  | 0, b => by simp
  | k + 1, b => by
    rw [List.replicate_succ, List.foldl_cons, fold_app a k, List.replicate_succ, List.flatten_cons, Array.toList_append, List.append_assoc]
theorem op_mulS {X : Cx} : OpR X (binaryOp .Mult) rMulS := by
  intro pins s σ H x y v u Q I rx ry h
  obtain ⟨z, n, ex, ey, n0, n1, lz, q⟩ := h
  subst ex ey
  obtain ⟨t, et⟩ := (show ∃ t, v = Value.str z t from rx)
  obtain ⟨t', et'⟩ := (show ∃ t, u = Value.int n t from ry)
  subst et et'
  have nat : n = ((n.toNat : Nat) : Int) := by omega
  have small : z.length * n.toNat ≤ 1000 * 1000 := Nat.mul_le_mul lz (by omega)
  refine PySem.P.mul_str ?_ (fun h1 _ => ?_) (fun h1 _ => ?_) ?_
  · have a : ¬ n < -(2 ^ 63 : Int) := by omega
    have b : ¬ n ≥ 2 ^ 63 := by omega
    rw [decide_eq_false a, decide_eq_false b]; rfl
  · have p : (0 : Int) < n := by omega
    have lz' : (z.length : Int) ≤ 1000 := by omega
    have hd : (1000 : Int) ≤ (2 ^ 63 - 1) / n := by
      rw [Int.le_ediv_iff_mul_le p]
      omega
    omega
  · unfold Builtin.Str.tooLong
    refine decide_eq_false ?_
    show ¬ z.length * n.toNat > 2 ^ 24
    omega
  by_cases h1 : n < 1
  · rw [if_pos h1]
    have e : n.toNat = 0 := by omega
    rw [e] at q
    exact ⟨by decide, .str Str.empty, H, I.tok _, ⟨_, rfl⟩, q Str.empty rfl⟩
  · rw [if_neg h1]
    by_cases h2 : (n == 1 || z.length == 0) = true
    · rw [if_pos h2]
      refine ⟨.str z, H, I, ⟨t, rfl⟩, q z ?_⟩
      rw [Bool.or_eq_true, beq_iff_eq, beq_iff_eq] at h2
      rcases h2 with h2 | h2
      · rw [h2]; simp
      · have e : tl z = [] := List.length_eq_zero_iff.mp (by rw [← len_tl]; exact h2)
        rw [e]; simp
    · rw [if_neg h2]
      have e : tl (⟨(List.replicate n.toNat z.cps).foldl (· ++ ·) #[]⟩ : Str) = (List.replicate n.toNat (tl z)).flatten := by
        show ((List.replicate n.toNat z.cps).foldl (· ++ ·) #[]).toList = _
        rw [fold_app]; rfl
      refine ⟨?_, .str _, H, I.tok _, ⟨_, rfl⟩, q _ e⟩
      rw [len_tl, e, List.length_flatten, List.map_replicate, List.sum_replicate_nat, ← len_tl, Nat.mul_comm]
      exact Nat.le_trans small (by decide)
/-! ### texts of signs that part no words -/
def Wd (l : List Nat) : Prop := ∀ c ∈ l, noEnd c = true
def WordOk (z : Str) : Prop := tl z ≠ [] ∧ Wd (tl z) ∧ z.length ≤ 100
theorem Wd.app {a b : List Nat} (x : Wd a) (y : Wd b) : Wd (a ++ b) := fun c hc => (List.mem_append.mp hc).elim (x c) (y c)
theorem Wd.sub {a b : List Nat} (x : Wd a) (h : ∀ c ∈ b, c ∈ a) : Wd b := fun c hc => x c (h c hc)
theorem Wd.of {l : List Nat} (h : l.all noEnd = true) : Wd l := fun c hc => List.all_eq_true.mp h c hc
theorem wd_num {n : Nat} : Wd (numL n) := fun c hc => by
  unfold noEnd
  cases he : isEnd c with
  | false => rfl
  | true =>
    have h := (isEnd_iff c).mp he
    have d := numL_digits n c hc
    omega
theorem tl_join0 (ys : List Str) : tl (Txt.join ("" : Str) ys) = (ys.map tl).flatten := by
  have e0 : tl ("" : Str) = [] := by decide +kernel
  rw [join_eq, tl_join, e0]
  induction ys with
  | nil => rfl
  | cons y r ih =>
    cases r with
    | nil => simp [joinL]
    | cons x r => rw [List.map_cons, List.map_cons, List.flatten_cons, joinL, List.nil_append, ← List.map_cons, ih]
end My
namespace My
open PySem PySem.Spec PyProof.Rows L2 TL
theorem atI_some {α : Type} {xs : List α} {g : Int} (h0 : 0 ≤ g) (h1 : g < (xs.length : Nat)) : ∃ v, atI xs g = some v ∧ v ∈ xs := by
  have e : g = ((g.toNat : Nat) : Int) := by omega
  have lt : g.toNat < xs.length := by omega
  refine ⟨xs[g.toNat], ?_, List.getElem_mem lt⟩
  have q := atI_nat (List.getElem?_eq_getElem lt)
  rw [← e] at q
  exact q
theorem LS.two {H : Hp} {S L p : Addr} (h : LS H S L) (hp : H p = none) : ¬ Two S L p := by
  obtain ⟨h1, h2⟩ := h.some
  intro z
  rcases z with z | z
  · rw [z] at hp; exact h1 hp
  · rw [z] at hp; exact h2 hp
theorem LS.new {H : Hp} {S L p : Addr} {o : HO} (h : LS H S L) (hp : H p = none) : LS (upd H p o) S L := h.sm (Sm.new hp)
theorem ev_take {σ : L2.St} {H : Hp} {S L : Addr} {n : Int} {E : XK} (h : σ[0]? = some (some (.ref S))) (hl : LS H S L) (n0 : 0 < n) (nb : n.natAbs < 2 ^ 8000) {Q : VK}
    (q : ∀ (g : Int) (H' : Hp), 0 ≤ g → g < n → LS H' S L → Sm (Two S L) H H' → Q (.int g) H') : tCall spTake [] E (tCons (tVar 0) (tCons (tC (.int n)) tNil)) σ H Q :=
  ⟨_, h, S, L, n, rfl, hl, n0, nb, q⟩
/-- a drawn one of a written list of texts -/
theorem ev_pick {K : PySem.W.Frag} {σ : L2.St} {H : Hp} {S L : Addr} {n : Int} {E : XK} {ta : TA} {ys : List Str} (h : σ[0]? = some (some (.ref S))) (hl : LS H S L) (n0 : 0 < n) (nb : n.natAbs < 2 ^ 8000) (len : n = (ys.length : Nat)) (lz : ys.length ≤ 1000)
    (ha : ∀ (H : Hp) (Q : List V → Hp → Prop), Q (ys.map V.str) H → ta σ H Q) {Q : VK}
    (q : ∀ (y : Str) (H' : Hp), y ∈ ys → LS H' S L → Sm (Two S L) H H' → Q (.str y) H') : tOp (rIxL K) (tLst ta) (tCall spTake [] E (tCons (tVar 0) (tCons (tC (.int n)) tNil))) σ H Q := by
  refine ha _ _ ⟨by rw [List.length_map]; exact Nat.le_of_lt (small1000 lz), fun p hp => ?_⟩
  refine ev_take h (hl.new hp) n0 nb fun g H' g0 g1 l s => ?_
  obtain ⟨y, e, m⟩ := atI_some (xs := ys.map V.str) g0 (by rw [List.length_map]; omega)
  obtain ⟨u, hu, ey⟩ := List.mem_map.mp m
  subst ey
  exact ⟨p, _, g, _, rfl, rfl, SqL.of (s.lst (hl.two hp) upd_same), e, q u H' hu l ((Sm.new hp).trans s)⟩
theorem nb {n : Int} (h : n.natAbs ≤ 1000000) : n.natAbs < 2 ^ 8000 :=
  Nat.lt_of_lt_of_le (Nat.lt_of_le_of_lt h (show 1000000 < 2 ^ 20 by decide)) (Nat.pow_le_pow_right (by decide) (by decide))
theorem fact_of {ys : List Str} (h : ys.all (fun y => (tl y).all noEnd && decide (y.length ≤ 10)) = true) : ∀ y ∈ ys, Wd (tl y) ∧ y.length ≤ 10 := fun y hy => by
  have q := List.all_eq_true.mp h y hy
  rw [Bool.and_eq_true] at q
  exact ⟨Wd.of q.1, of_decide_eq_true q.2⟩
theorem num_len {n : Nat} (h : n < 10 ^ 5) : (numL n).length ≤ 5 := numL_len (by decide) h
/-- a written number's text -/
theorem num_txt {m : Int} (h0 : 0 ≤ m) (h1 : m < 100000) : ∃ n : Nat, tl (Str.ofString (toString m)) = numL n ∧ (Str.ofString (toString m)).length ≤ 5 := by
  have e : m = ((m.toNat : Nat) : Int) := by omega
  have q : tl (Str.ofString (toString m)) = numL m.toNat := by
    rw [e, Int.toNat_natCast]
    exact tl_num _
  exact ⟨m.toNat, q, by rw [len_tl, q]; exact num_len (by omega)⟩
theorem one_tl (c : Nat) : tl ⟨#[c]⟩ = [c] := rfl
theorem flat_wd {ys : List Str} (h : ∀ y ∈ ys, Wd (tl y)) : Wd ((ys.map tl).flatten) := fun c hc => by
  obtain ⟨l, hl, hcl⟩ := List.mem_flatten.mp hc
  obtain ⟨y, hy, e⟩ := List.mem_map.mp hl
  subst e
  exact h y hy c hcl
theorem flat_len {ys : List Str} (h : ∀ y ∈ ys, y.length = 1) : ((ys.map tl).flatten).length = ys.length ∧ (ys.map (·.length)).sum = ys.length := by
  induction ys with
  | nil => exact ⟨rfl, rfl⟩
  | cons y r ih =>
    obtain ⟨i1, i2⟩ := ih fun x hx => h x (List.mem_cons_of_mem _ hx)
    have e := h y List.mem_cons_self
    refine ⟨?_, ?_⟩
    · rw [List.map_cons, List.flatten_cons, List.length_append, i1, ← len_tl, e, List.length_cons]
      omega
    · rw [List.map_cons, List.sum_cons, i2, e, List.length_cons]
      omega
/-- a row of drawn signs that is being made at D -/
def RowP (S L D : Addr) (H0 : Hp) (i : Nat) (H' : Hp) : Prop :=
  ∃ ys : List Str, H' D = some (.lst (ys.map V.str)) ∧ ys.length = i ∧ (∀ y ∈ ys, Wd (tl y) ∧ y.length = 1) ∧ LS H' S L ∧ Sm (Two S L) H0 H'
theorem RowP.start {S L D : Addr} {H0 : Hp} (h : LS H0 S L) (hD : H0 D = none) : RowP S L D H0 0 (upd H0 D (.lst [])) := ⟨[], upd_same, rfl, by simp, h.new hD, Sm.new hD⟩
theorem row_turn {S L D : Addr} {H0 H : Hp} {σ : L2.St} {i : Nat} {lim : Int} {src : Str} {E : XK} {ts : TE} (hts : ∀ Q : VK, Q (.str src) H → ts σ H Q) (h : σ[0]? = some (some (.ref S))) (n0 : 0 < lim) (len : lim = (src.length : Nat)) (lsrc : src.length ≤ 1000)
    (wd : Wd (tl src)) (l0 : LS H0 S L) (hD0 : H0 D = none) (hi : i ≤ 1000) (p : RowP S L D H0 i H) :
    tOp rIxS ts (tCall spTake [] E (tCons (tVar 0) (tCons (tC (.int lim)) tNil))) σ H (fun y H4 => ∃ acc, H4 D = some (.lst acc) ∧ acc.length < sizeLine ∧ RowP S L D H0 (i + 1) (upd H4 D (.lst (acc ++ [y])))) := by
  obtain ⟨ys, p1, p2, p3, p4, p5⟩ := p
  refine hts _ (ev_take h p4 n0 (nb (by omega)) fun g H' g0 g1 l s => ?_)
  have lt := len_tl src
  obtain ⟨c, e, m⟩ := atI_some (xs := tl src) g0 (by omega)
  have nD := l0.two hD0
  have p1' := s.lst nD p1
  refine ⟨src, g, c, rfl, rfl, Nat.le_of_lt (small1000 lsrc), e, ys.map V.str, p1', by rw [List.length_map, p2]; exact small1000 hi, ys ++ [⟨#[c]⟩], by rw [upd_same, List.map_append]; rfl, by simp [p2], ?_, ?_, ?_⟩
  · intro y hy
    rcases List.mem_append.mp hy with z | z
    · exact p3 y z
    · rw [List.mem_singleton.mp z]
      refine ⟨?_, rfl⟩
      intro x hx
      rw [one_tl, List.mem_singleton] at hx
      rw [hx]
      exact wd c m
  · obtain ⟨cs, d, a1, a2, a3⟩ := l
    refine ⟨cs, d, ?_, ?_, a3⟩
    · rw [upd_ne (fun z => nD (.inl z.symm))]; exact a1
    · rw [upd_ne (fun z => nD (.inr z.symm))]; exact a2
  · exact (p5.trans s).mut hD0 (ntbl_l p1')
/-- the text of such a row -/
theorem RowP.text {S L D : Addr} {H0 H' : Hp} {n : Nat} (p : RowP S L D H0 n H') : ∃ ys : List Str, H' D = some (.lst (ys.map V.str)) ∧ Wd (tl (Txt.join ("" : Str) ys)) ∧ (Txt.join ("" : Str) ys).length = n ∧ (ys.map (·.length)).sum + ys.length * ("" : Str).length = n ∧ LS H' S L ∧ Sm (Two S L) H0 H' := by
  obtain ⟨ys, p1, p2, p3, p4, p5⟩ := p
  have e := tl_join0 ys
  obtain ⟨f1, f2⟩ := flat_len fun y hy => (p3 y hy).2
  refine ⟨ys, p1, ?_, ?_, ?_, p4, p5⟩
  · rw [e]; exact flat_wd fun y hy => (p3 y hy).1
  · rw [len_tl, e, f1, p2]
  · have e0 : ("" : Str).length = 0 := by decide +kernel
    rw [f2, e0, p2]; omega
end My
namespace My
open PySem PySem.Spec PyProof.Rows L2 TL
/-! ### a list comes to its end while an error is handled -/
theorem list_end_hot {prog : Program} {w : World} {A : Around} {E : Value → Shared → Prop} {s : Shared} {it l x1 : Addr} {i : Nat} {items : Array Value} {Q : Option Value → Shared → Prop} (hot : HotX.HotAt A x1 s.heap) (apart : x1 ≠ it) (st : s.heap.IsListIter it l i)
    (pl : s.heap.IsList l items) (out : items[i]? = none) (hQ : ∀ h', (∀ b o, b ≠ it → s.heap.get? b = some o → h'.get? b = some o) → Q none { s with heap := h' }) : wpAny (model prog w) A (pyNext (.ref it)) Q E s := by
  obtain ⟨hh, o1, vs1, h1, d1, c1⟩ := hot
  obtain ⟨oi, gi, _, di⟩ := id st
  obtain ⟨ol, gl, _, nl, dl⟩ := pl
  have bIt : (Value.ref l == Value.none) = false := rfl
  unfold pyNext
  refine wpAny_bind (wpAny_attempt (wpAny_callSpecial?_slot (T := "list_iterator") (name := Str.ofString "__next__") st.typeIs slot_listiter_next (wpAny_call_entry slot_listiter_next st.typeIs entry_listiter_next ?_ (args_listiter_next _))))
  show wpAny (model prog w) _ (field (.ref it) 0 >>= _) _ _ s; refine wpAny_bind (wpAny_field gi di (x := .ref l) rfl ?_)
  show wpAny (model prog w) _ (if (Value.ref l == Value.none) = true then _ else _) _ _ s; rw [bIt, if_neg Bool.false_ne_true]
  show wpAny (model prog w) _ (field (.ref it) 1 >>= _) _ _ s; refine wpAny_bind (wpAny_field gi di (x := .int i 0) rfl ?_)
  show wpAny (model prog w) _ (seqItems? (.ref l) >>= _) _ _ s; refine wpAny_bind (wpAny_seqItems gl dl ?_)
  simp only [Int.toNat_natCast, out]
  refine wpAny_bind (wpAny_rule (wpAny_bind (wpAny_setField gi di (by simp) ?_)))
  show wpAny (model prog w) _ (newExc (.type "StopIteration") [] >>= _) _ _ _; refine wpAny_bind ?_; simp only [newExc, newTuple]
  refine wpAny_bind (wpAny_newObj_type ?_ (by size_fits)); refine wpAny_bind (m := firstArgMember _ _) (wpAny_of_eq (a := Value.none) (by first | rfl | (simp only [firstArgMember]; rfl)) ?_)
  refine wpAny_newObj_type ?_ (by size_fits)
  have k1 : ∀ b o, b ≠ it → s.heap.get? b = some o → (s.heap.update it (Obj.mapFields (·.setIfInBounds 0 .none))).get? b = some o := fun b o hb e => by
    rw [Heap.get?_update_other _ _ (Ne.symm hb)]; exact e
  refine HotX.raiseNew_hot ⟨hh, o1, vs1, Heap.get?_push_of_some _ (Heap.get?_push_of_some _ (k1 _ _ apart h1)), d1, c1⟩ (Nat.ne_of_lt (Heap.lt_size (Heap.get?_push_of_some _ (k1 _ _ apart h1)))) (Heap.get?_push_size _ rfl) rfl
    (by first | (simp; done) | (simp; omega) | (simp only [Array.size_append]; simp; omega)) ?_
  refine wpAny_bind (wpAny_isInstance (T := "StopIteration") (b := true) ⟨_, Heap.get?_update_self _ (Heap.get?_push_size _ rfl) rfl, rfl⟩ isSubtype_stop (wpAny_pure (hQ _ fun b o hb e => ?_)))
  have e1 := k1 b o hb e
  rw [Heap.get?_update_other _ _ (Nat.ne_of_gt (Heap.lt_size (Heap.get?_push_of_some _ e1)))]
  exact Heap.get?_push_of_some _ (Heap.get?_push_of_some _ e1)
/-- [elt for target in l if ..] while an error is handled -/
theorem pe_lcH {X : Cx} {elt tg l : Expr} {ifs : List Expr} {scope : Scope} {own : List (Str × Nat)} {pos : Pos} {tl : TE} {g : TG} {tt : TT} {te : TE} (hot : L2H.HotC X) (hN : X.N.Nodup) (hl : PE X l tl) (ok : BlkOk X.N X.env.scope scope own)
    (hg : ∀ (s : Shared) (H : Hp) (C : Addr) (cl : List (Str × Addr)) (fp : List Addr), PG (X.blk s H scope (compEnvC scope cl C X.env) fp) tg g)
    (ht : ∀ (s : Shared) (H : Hp) (C : Addr) (cl : List (Str × Addr)) (fp : List Addr), PTs (X.blk s H scope (compEnvC scope cl C X.env) fp) ifs tt)
    (he : ∀ (s : Shared) (H : Hp) (C : Addr) (cl : List (Str × Addr)) (fp : List Addr), PE (X.blk s H scope (compEnvC scope cl C X.env) fp) elt te)
    (hs : ∀ x, foldedSetIterable l X.env x = pure x := by intro _; rfl) : PE X (.ListComp elt [⟨tg, l, ifs, 0⟩] scope pos) (tLc (iList X.K tl) g tt te (own.map (·.2))) := by
  refine ⟨fun pins s0 σ H Q I0 told => ?_⟩
  rw [eval_ListComp]
  have fr : ∀ y ∈ scope.names, y.2 = .free → ∃ c, X.env.cells.lookup y.1 = some c := fun y hy e => (ok.free y hy e).elim (fun k => I0.ok.has _ (.inl k)) fun k => I0.ok.has _ (.inr k)
  refine wpAny_comprehension_free (use := none) rfl hs (closure_ok fr) ok.kind (fun y hy e => by rw [ok.uniq y hy, e]) (thn (hl.run pins s0 σ H _ I0 told) fun xv s1 hx => ?_)
  obtain ⟨x, H1, I1, rx, a, ex, ⟨xs0, sq0⟩, q⟩ := hx
  subst ex
  obtain rfl : xv = Value.ref a := rx
  obtain ⟨its0, rv0, pl0, hz0⟩ := I1.list sq0
  refine wpAny_pyIter_list pl0.isList ?_
  generalize eit : s1.heap.objs.size = it
  generalize es2 : ({ s1 with heap := s1.heap.push { cls := .type "list_iterator", data := .fields #[.ref a, .int 0 0] } } : Shared) = s2
  have I2 : L2.Inv X pins σ H1 s2 := by rw [← es2]; exact I1.kept (t' := s1.toks) fun b o e => Heap.get?_push_of_some _ e
  have st2 : s2.heap.IsListIter it a 0 := by rw [← es2, ← eit]; exact ⟨_, Heap.get?_push_size _ rfl, rfl, rfl⟩
  have ft : FpOk X pins H1 it := by rw [← eit]; exact I1.fpOk (Nat.le_refl _) (I1.hok.fresh (Nat.le_refl _))
  refine wpAny_newObj_type (newEnv_comp ?_) (Nat.zero_le _)
  generalize eD : s2.heap.objs.size = D
  have nD : H1 D = none := I2.hok.fresh (Nat.le_of_eq eD)
  obtain ⟨W, ⟨m0, w0⟩, turn⟩ := q D nD
  generalize es3 : ({ s2 with heap := s2.heap.push { cls := .type "list", data := .seq ([] : List Value).toArray } } : Shared) = s3
  have hp3 : s3.heap = s2.heap.push { cls := .type "list", data := .seq ([] : List Value).toArray } := by rw [← es3]
  have I3 : L2.Inv X pins σ (upd H1 D (.lst [])) s3 := by
    rw [← es3]
    exact I2.laid (t' := s2.toks) (fun b o e => Heap.get?_push_of_some _ e) (Nat.le_of_eq eD) ⟨Nat.zero_le _, [], 0, .nil, by rw [← eD]; exact Heap.get?_push_size _ rfl⟩
  obtain ⟨oi, gi, _, _⟩ := id st2
  have lit : it < s2.heap.objs.size := Heap.lt_size gi
  have nDit : it ≠ D := by rw [← eD]; exact Nat.ne_of_lt lit
  have f3 : FpOk X pins (upd H1 D (.lst [])) it ∧ it < s3.heap.objs.size := ⟨⟨by rw [upd_ne nDit]; exact ft.1, ft.2⟩, by rw [hp3, Heap.size_push]; exact Nat.lt_succ_of_lt lit⟩
  have st3 : s3.heap.IsListIter it a 0 := st2.at fun o e => by rw [hp3]; exact Heap.get?_push_of_some _ e
  have only : ∀ {R : Addr → Prop}, R it → ∀ b ∈ [it], R b := fun r b hb => by rw [List.mem_singleton.mp hb]; exact r
  have I4 := block_start I3 ok hN (fp := [it]) (only f3)
  have pg := hg s3 (upd H1 D (.lst [])) s3.heap.objs.size (cellsFrom (s3.heap.objs.size + 1) scope.names (cloFrom X.env.cells scope.names [])) [it]
  have pt := ht s3 (upd H1 D (.lst [])) s3.heap.objs.size (cellsFrom (s3.heap.objs.size + 1) scope.names (cloFrom X.env.cells scope.names [])) [it]
  have pe := he s3 (upd H1 D (.lst [])) s3.heap.objs.size (cellsFrom (s3.heap.objs.size + 1) scope.names (cloFrom X.env.cells scope.names [])) [it]
  -- the handled error stands, whatever the block does
  obtain ⟨p0, ⟨hh, vs0, d0, c0⟩, hp0⟩ := hot
  obtain ⟨g0, n0, nl0, nf0, _⟩ := I3.pin p0 (List.mem_append_left _ hp0)
  have ap0 : p0.1 ≠ it := f3.1.2.2.2.2.2 p0 (List.mem_append_left _ hp0)
  have nst : p0.1 ∉ frs X.stack := fun z => (List.mem_cons.mp (I3.stkSub p0.1 z)).elim nl0 nf0
  generalize ece : compEnvC scope (cellsFrom (s3.heap.objs.size + 1) scope.names (cloFrom X.env.cells scope.names [])) s3.heap.objs.size X.env = ce at I4 pg pt pe
  show codeAny _ _ (.compStart (.ListComp elt [⟨tg, l, ifs, 0⟩] scope pos) 0 (.ref it) (.ref D) (compEnvC scope (cellsFrom (s3.heap.objs.size + 1) scope.names (cloFrom X.env.cells scope.names [])) s3.heap.objs.size X.env))
    (compPost (model X.prog X.w) X.A X.xe none _ (.ref D) s3.heap.objs.size) { s3 with heap := pushCells (s3.heap.push { cls := .type "dict", data := .dict #[] }) scope.names }
  rw [ece]
  have cL : ce.locals = s3.heap.objs.size := by rw [← ece]; rfl
  generalize eH3 : upd H1 D (.lst []) = H3 at I3 I4 pg pt pe w0 f3 n0
  generalize es4 : ({ s3 with heap := pushCells (s3.heap.push { cls := .type "dict", data := .dict #[] }) scope.names } : Shared) = s4 at I4 ⊢
  have st4 : s4.heap.IsListIter it a 0 := st3.at fun o e => by rw [← es4]; exact pushCells_keeps _ _ _ _ (Heap.get?_push_of_some _ e)
  have hotAt : ∀ {σ' : L2.St} {H' : Hp} {s' : Shared}, L2.Inv (X.blk s3 H3 scope ce [it]) [] σ' H' s' → HotX.HotAt X.A p0.1 s'.heap := fun {_ _ _} J => ⟨hh, p0.2, vs0, J.base.keep p0.1 p0.2 g0 n0 nst (by simpa using ap0), d0, c0⟩
  have itOk : ∀ {σ' : L2.St} {H' : Hp} {s' : Shared}, L2.Inv (X.blk s3 H3 scope ce [it]) [] σ' H' s' → H' it = none → FpOk (X.blk s3 H3 scope ce [it]) [] H' it := fun {_ _ _} J hn =>
    ⟨hn, (J.ok.exf it List.mem_cons_self).1, J.ok.exfs it List.mem_cons_self, .inl List.mem_cons_self, (J.ok.exf it List.mem_cons_self).2, fun p hp => absurd (show p ∈ ([] : List (Addr × Obj)) from hp) (by simp)⟩
  have obj : ∀ {i : Nat} {h : Heap}, h.IsListIter it a i → ∀ b ∈ [it], ∃ o, h.get? b = some o ∧ ∀ v, o.data ≠ .cell v := fun {_ _} st => only (by
    obtain ⟨o, e, _, d⟩ := st
    exact ⟨o, e, fun v z => by rw [d] at z; cases z⟩)
  have back : ∀ {s' : Shared} {H' : Hp}, L2.Inv (X.blk s3 H3 scope ce [it]) [] (wipe σ (own.map (·.2))) H' s' → Q (.ref D) H' → compPost (model X.prog X.w) X.A X.xe none (EP X pins σ Q) (.ref D) s3.heap.objs.size (.ok .next) s' := fun {s' H'} J qq => by
    have J2 : L2.Inv X pins σ H' s' := I3.call' (ch := [it]) J.os J.base J.hok J.bare (only ⟨f3.1.2.2.2.1, f3.1.2.1, f3.1.2.2.2.2.1, f3.1.2.2.2.2.2⟩)
    have nC : H' s3.heap.objs.size = none := by rw [← cL]; exact J.free
    obtain ⟨m, hm, _⟩ := J.loc
    have hm2 : s'.heap.Ns s3.heap.objs.size m := by rw [← cL]; exact hm
    obtain ⟨u0, u1, u2, u3, u4, u5⟩ := I3.fpOk (Nat.le_refl _) nC
    exact ⟨m, hm2, fun h8 sb => ⟨.ref D, H', J2.turned (t' := s'.toks) (fun b o hb e => (sb.2 b hb).trans e) u0 u1 u3 u4 u5, rfl, qq⟩⟩
  have loop : codeAny (model X.prog X.w) X.A (.compLoop (.ListComp elt [⟨tg, l, ifs, 0⟩] scope pos) 0 (.ref it) (.ref D) ce) (compPost (model X.prog X.w) X.A X.xe none (EP X pins σ Q) (.ref D) s3.heap.objs.size) s4 := by
    refine compLoop_any (fun n z => ∃ i H', L2.Inv (X.blk s3 H3 scope ce [it]) [] (wipe σ (own.map (·.2))) H' z ∧ z.heap.IsListIter it a i ∧ H' it = none ∧ W i n H') ?_ m0 ⟨0, H3, I4, st4, f3.1.1, w0⟩
    rintro n s5 ⟨i, H5, I5, st5, n5, w5⟩
    obtain ⟨y0, y1, y2, y3, y4, y5⟩ := itOk I5 n5
    rcases turn i n H5 w5 with ⟨⟨xs, sq, le⟩, qq⟩ | ⟨⟨xs, y, sq, hy⟩, Nx, hNx, step⟩
    · obtain ⟨its, rv, pl, _⟩ := I5.list sq
      have len := rv.length
      exact list_end_hot (hotAt I5) ap0 st5 pl.isList (by simp; omega) fun h6 k6 => back (I5.turned (t' := s5.toks) k6 y0 y1 y3 y4 y5) qq
    · obtain ⟨its, rv, pl, _⟩ := I5.list sq
      obtain ⟨u, hu, ru⟩ := rv.get hy
      refine wpAny_pyNext_list_item st5 pl.isList (x := u) (by simpa using hu) fun h6 st6 sb => ?_
      have I6 := I5.turned (t' := s5.toks) (h' := h6) (fun b o hb e => (sb.2 b hb).trans e) y0 y1 y3 y4 y5
      obtain ⟨o6, g6, c6, d6⟩ := id st6
      refine go_of (s := { s5 with heap := h6 }) g6 c6 d6 (by decide) ?_
      have I6p := I6.pinned (only (itOk I6 n5)) (obj st6)
      refine thnF (pg.run _ _ _ H5 y u _ I6p ru (step y H5 ⟨rfl, fun ys hys => by rw [I5.list_inj hys sq]; exact hy⟩)) fun _ s8 h8 => ?_
      obtain ⟨σ8, H8, I8, hw8, q8⟩ := h8
      refine thnF (pt.run _ s8 σ8 H8 _ I8 q8) fun b s9 h9 => ?_
      obtain ⟨H9, I9, q9⟩ := h9
      have more : ∀ {s' : Shared} {H' : Hp}, L2.Inv (X.blk s3 H3 scope ce [it]) ([] ++ pinsAt [it] h6) σ8 H' s' → Nx H' → ∃ m, m < n ∧ ∃ i H', L2.Inv (X.blk s3 H3 scope ce [it]) [] (wipe σ (own.map (·.2))) H' s' ∧ s'.heap.IsListIter it a i ∧ H' it = none ∧ W i m H' := fun {s' H'} J nx => by
        obtain ⟨m, hm, w6⟩ := hNx H' nx
        obtain ⟨z1, z2, _⟩ := J.pin (it, o6) (List.mem_append_right _ (List.mem_append_right _ (mem_pinsAt List.mem_cons_self g6)))
        have el : (wipe σ (own.map (·.2))).length = σ8.length := by rw [← hw8, wipe_length]
        refine ⟨m, hm, i + 1, H', (J.unpinned (pins := [])).weak el (fun j v e => ?_), ⟨o6, z1, c6, d6⟩, z2, w6⟩
        rw [← hw8] at e
        exact (wipe_some e).1
      cases b with
      | false => exact more I9 q9
      | true =>
        refine thnF (pe.run _ s9 σ8 H9 _ I9 q9) fun z s10 h10 => ?_
        obtain ⟨yv, H10, I10, r10, acc, hD10, hz10, nx⟩ := h10
        exact app_ok (X := X.blk s3 H3 scope ce [it]) I10 hD10 hz10 r10 fun s11 I11 => more I11 nx
  exact codeAny_compStart_list loop (wpAny_pyIter_listiter st4 loop)
end My
namespace My
open PySem PySem.Spec PyProof.Rows L2 TL
/-! ### the classes of the errors, by number -/
def cl (X : Errs) : Nat → Addr
  | 0 => X.w
  | 1 => X.c
  | 2 => X.e
  | _ => X.d
/-- the dict of a caught one, or none -/
def dOk (d : Option Addr) (H : Hp) : Prop := d = none ∨ ∃ dd fs, d = some dd ∧ H dd = some (.xd fs)
def rIsF (X : Errs) (a : Addr) (cls : Value) (d : Option Addr) : List V → Hp → VK → Prop := fun xs H Q => ∃ i j : Nat, xs = [.ref a, .ref (cl X j)] ∧ i < 4 ∧ j < 4 ∧ cls = .ref (cl X i) ∧ dOk d H ∧ Q (.bl (decide (i = j))) H
theorem call_isF {Y : Cx} {X : Errs} {a : Addr} {cls : Value} {d : Option Addr} {oe : Obj} {pn : List (Addr × Obj)} (T : ∀ i, ExcC Y.K (cl X i)) (kit : ∀ i j, i < 4 → j < 4 → PySem.W.kitOne Y.K (.ref (cl X i)) (.ref (cl X j)) = some (decide (i = j)))
    (hz : Zc cls d oe) (hf : ∃ vs, oe.data = .fields vs) : CallR (Y.suite a ((a, oe) :: pn)) (.builtin "isinstance") (rIsF X a cls d) := by
  intro pins s σ H xs us Q I r h
  obtain ⟨i, j, rfl, hi, hj, ec, hd, q⟩ := h
  obtain ⟨u1, u2, rfl, r1, r2⟩ := vals2 r
  obtain rfl : u1 = Value.ref a := r1
  obtain rfl : u2 = Value.ref (cl X j) := r2
  subst ec
  have C := T i
  obtain ⟨ha, _⟩ := I.pin (a, oe) (List.mem_append_left _ List.mem_cons_self)
  obtain ⟨vs, hv⟩ := hf
  obtain ⟨cd, hc, _⟩ := PySem.W.any_some C.hd
  have notC : PySem.W.notCls oe = true := by unfold PySem.W.notCls; rw [hv] <;> rfl
  have fin : ∀ od, PySem.W.InstAt s.heap a oe (cl X i) od → wpAny (model Y.prog Y.w) (Y.suite a ((a, oe) :: pn)).A (call (.builtin "isinstance") [.ref a, .ref (cl X j)]) (EP (Y.suite a ((a, oe) :: pn)) pins σ Q) (Y.suite a ((a, oe) :: pn)).xe s := fun od J =>
    PySem.W.kia_one (PySem.W.kitx_exc (by rw [hc]; rfl) C.hg C.hk C.hs C.ha C.hn C.ht C.hm) I.kIn J (kit i j hi hj) (fun z => nomatch z) fun tk => ⟨.bl _, H, I.tok tk, rfl, q⟩
  rcases hd with hd | ⟨dd, fs, ed, hx⟩
  · exact fin none ⟨ha, hz.1, notC, by rw [hz.2, hd]; trivial⟩
  · obtain ⟨mA, hns, hr⟩ := (show ObjOk Y.prog Y.w H s.heap dd (.xd fs) from I.hok dd _ hx)
    obtain ⟨od, ho, hl⟩ := lookIn_ns hns
    exact fin (some od) ⟨ha, hz.1, notC, by rw [hz.2, ed]; exact ho⟩
/-- e.at of a caught one of these classes -/
def tXg (X : Errs) (a : Addr) (cls : Value) (d : Option Addr) (f : Str) (te : TE) : TE := fun σ H Q => te σ H fun x H1 => x = .ref a ∧ ∃ (i : Nat) (dd : Addr) (fs : List (Str × V)) (v : V), cls = .ref (cl X i) ∧ d = some dd ∧ H1 dd = some (.xd fs) ∧ fs.lookup f = some v ∧ Q v H1
theorem pe_xg {Y : Cx} {X : Errs} {a : Addr} {oe : Obj} {cls : Value} {d : Option Addr} {pn : List (Addr × Obj)} {e : Expr} {te : TE} {pos : Pos} {n : Str} (T : ∀ i, XfC Y.K (cl X i)) (no : ∀ i, PySem.W.findIn Y.K (.ref (cl X i)) n = some none)
    (hz : Zc cls d oe) (hf : ∃ vs, oe.data = .fields vs) (he : PE (Y.suite a ((a, oe) :: pn)) e te) (hb : attributeBase e n Y.env (eval e Y.env) = eval e Y.env := by rfl) : PE (Y.suite a ((a, oe) :: pn)) (.Attribute e n pos) (tXg X a cls d n te) := by
  refine ⟨fun pins s σ H Q I h => attr_of hb (thn (he.run pins s σ H _ I h) fun u s1 hh => ?_)⟩
  obtain ⟨x, H1, I1, rx, ex, i, dd, fs, v, ec, ed, ea, lk, q⟩ := hh
  subst ex ec ed
  obtain rfl : u = Value.ref a := rx
  obtain ⟨ha, _⟩ := I1.pin (a, oe) (List.mem_append_left _ List.mem_cons_self)
  obtain ⟨vs, hv⟩ := hf
  obtain ⟨mA, hns, hr⟩ := (show ObjOk Y.prog Y.w H1 s1.heap dd (.xd fs) from I1.hok dd _ ea)
  obtain ⟨od, ho, hl⟩ := lookIn_ns hns
  obtain ⟨u, hu, ru⟩ := RelO.some_of (v := v) (o := mA n) (by rw [← lk]; exact hr n)
  have J : PySem.W.InstAt s1.heap a oe (cl X i) (some od) := ⟨ha, hz.1, by unfold PySem.W.notCls; rw [hv] <;> rfl, by rw [hz.2]; exact ho⟩
  exact HandSPX.exc_get I1.kIn J (T i).ga (T i).gg (T i).exC (PySem.W.findObj_own (T i).hdC (no i) rfl (by rw [hl, hu])) (handed_of ru) ⟨v, H1, I1.tok _, ru, q⟩
/-! ### what a text tells -/
def outDat : Out → Dat
  | .ok ds => .lst [.sym "read", .lst ds]
  | .word i => .lst [.sym "word", .int (i : Nat)]
  | .close i => .lst [.sym "close", .int (i : Nat)]
  | .ends i => .lst [.sym "end", .int (i : Nat)]
  | .deep => .lst [.sym "deep", .int 0]
def spOut (Ps : List Addr) : Sp := fun vs H Q _ => ∃ z : Str, vs = [.str z] ∧ z.length ≤ big ∧ (∀ p ∈ Ps, GxR.TabG H p) ∧ ∀ v H', Sm No H H' → Rep All H' v (outDat (run (z.length + 1) (tl z) 0 [[]])) → Q v H'
structure ToldC (K : PySem.W.Frag) (mg : Str → Option Value) (X : Errs) (F : Addr) : Prop where
  n : mg "FoldError" = some (.ref F)
  gw : mg "InvalidWord" = some (.ref X.w)
  gc : mg "UnexpectedClose" = some (.ref X.c)
  ge : mg "UnexpectedEnd" = some (.ref X.e)
  gd : mg "TooDeep" = some (.ref X.d)
  ex : ∀ i, PySem.W.exmOne K (.ref (cl X i)) (.ref F) = some true
  c : ∀ i, ExcC K (cl X i)
  x : ∀ i, XfC K (cl X i)
  no : ∀ i, PySem.W.findIn K (.ref (cl X i)) "at" = some none
  kit : ∀ i j, i < 4 → j < 4 → PySem.W.kitOne K (.ref (cl X i)) (.ref (cl X j)) = some (decide (i = j))
abbrev sTold : Stmt := top 32
abbrev NT : List Str := ["text", "e", "kinds", "one"]
section
variable {P : Program} {w : World} {K : PySem.W.Frag} {mg : Str → Option Value} {base : Heap}
theorem scTold : FnScope NT ["text"] (defScope sTold) := ⟨rfl, rfl, rfl, by decide +kernel, rfl, by decide +kernel, by decide +kernel⟩
def nm : Nat → Str
  | 0 => "word"
  | 1 => "close"
  | _ => "end"
def sSuite : List Stmt := match defBody sTold with
  | [.Try _ [.ExceptHandler _ _ b _] _ _ _] => b
  | _ => []
abbrev cxT (P : Program) (w : World) (K : PySem.W.Frag) (mg : Str → Option Value) (base : Heap) (f : Addr) (cdv : Value) (A : Around) (outer : List Env) (s : Shared) (H : Hp) (E : XK) : Cx := (cxOf CX0 P w K mg base NT "_law_told" (defScope sTold) f cdv A outer s H E).nox
abbrev tIsC (X : Errs) (a : Addr) (cls : Value) (d : Option Addr) (C : Addr) : TE := tCB (rIsF X a cls d) (tCons (tVar 1) (tCons (tC (.ref C)) tNil))
def tsT (K : PySem.W.Frag) (X : Errs) (a : Addr) (cls : Value) (d : Option Addr) : TS :=
  tSeq (tAsg (tLst (tCons (tIsC X a cls d X.w) (tCons (tIsC X a cls d X.c) (tCons (tIsC X a cls d X.e) tNil)))) (gName 2))
  (tSeq (tIfS (tAnd (tTest (tOp (rEqD K) (tVar 2) (tLst (tCons (tC (.bl false)) (tCons (tC (.bl false)) (tCons (tC (.bl false)) tNil)))))) (tB (tIsC X a cls d X.d))) (tRet (tLst (tCons (tC (.str "deep")) (tCons (tC (.int 0)) tNil)))) tNext)
  (tSeq (tIfS (tOr (tB (tIsC X a cls d X.d)) (tOr (tTest (tOp rNe (tCB (fun xs H Q => ∃ x n, xs = [x] ∧ LenV K x H n ∧ Q (.int (n : Nat)) H) (tCons (tLc (iList K (tVar 2)) (gName 3) (tB (tVar 3)) (tVar 3) ([(("one" : Str), 3)].map (·.2))) tNil)) (tC (.int 1))))
      (tB (tCB (rIsi K) (tCons (tXg X a cls d "at" (tVar 1)) (tCons (tC (.ty "bool")) tNil)))))) (tRet (tLst (tCons (tC (.str "other")) (tCons (tC (.int 0)) tNil)))) tNext)
  (tRet (tLst (tCons (tOp (rIxL K) (tLst (tCons (tC (.str "word")) (tCons (tC (.str "close")) (tCons (tC (.str "end")) tNil)))) (tBM K "list" (rIndex K) (tVar 2) (tCons (tC (.bl true)) tNil))) (tCons (tXg X a cls d "at" (tVar 1)) tNil))))))
theorem suite_ps {X : Errs} {F0 f : Addr} {cdv : Value} {A : Around} {outer : List Env} {s : Shared} {H : Hp} {E : XK} (B : Blt mg) (T : ToldC K mg X F0) (hr : Room 5 (A.deeper (envOfC "_law_told" (defScope sTold) s.heap.objs.size f cdv)))
    (a : Addr) (oe : Obj) (cls : Value) (d : Option Addr) (pn : List (Addr × Obj)) (hzc : L2N.Zn cls d oe) (hf : ∃ vs, oe.data = .fields vs) : PSs ((cxT P w K mg base f cdv A outer s H E).suite a ((a, oe) :: pn)) sSuite (tsT K X a cls d) := by
  have isb : bootBuiltins "isinstance" = some (.builtin "isinstance") := by decide +kernel
  have nd := scTold.nd
  have hot : L2H.HotC ((cxT P w K mg base f cdv A outer s H E).suite a ((a, oe) :: pn)) := ⟨(a, oe), ⟨rfl, hf.choose, hf.choose_spec, hzc.2.2 _ hf.choose_spec⟩, List.mem_cons_self⟩
  have ci : CallR ((cxT P w K mg base f cdv A outer s H E).suite a ((a, oe) :: pn)) (.builtin "isinstance") (rIsF X a cls d) := call_isF (Y := cxT P w K mg base f cdv A outer s H E) T.c T.kit hzc.zc hf
  have cb : CallR ((cxT P w K mg base f cdv A outer s H E).suite a ((a, oe) :: pn)) (.builtin "isinstance") (rIsi K) := call_isi
  have xg : ∀ (pos pos' : Pos), PE ((cxT P w K mg base f cdv A outer s H E).suite a ((a, oe) :: pn)) (.Attribute (.Name "e" pos') "at" pos) (tXg X a cls d "at" (tVar 1)) := fun pos pos' => pe_xg (Y := cxT P w K mg base f cdv A outer s H E) (n := "at") (pos := pos) T.x T.no hzc.zc hf (pv 1) rfl
  unfold tsT
  refine pss_cons (ps_set (x := "kinds") (i := 2) nd rfl (Or.inl rfl) (pe_lst
            (pa_cons (pe_callB ci (by rfl) B.isinstance isb (pa_cons (pv 1) (pa_cons (pe_glob (x := "InvalidWord") (v := .ref X.w) (by rfl) T.gw rfl) pa_nil)))
            (pa_cons (pe_callB ci (by rfl) B.isinstance isb (pa_cons (pv 1) (pa_cons (pe_glob (x := "UnexpectedClose") (v := .ref X.c) (by rfl) T.gc rfl) pa_nil)))
            (pa_cons (pe_callB ci (by rfl) B.isinstance isb (pa_cons (pv 1) (pa_cons (pe_glob (x := "UnexpectedEnd") (v := .ref X.e) (by rfl) T.ge rfl) pa_nil))) pa_nil))))) ?_
  refine pss_cons (ps_if (PW.pt (pw_and (pt_cmpR (op_eqD hr.units) (pv 2) (pe_lst (pa_cons pe_bl (pa_cons pe_bl (pa_cons pe_bl pa_nil)))) (nomark _))
            (pw_and1 (pt_val (pe_callB ci (by rfl) B.isinstance isb (pa_cons (pv 1) (pa_cons (pe_glob (x := "TooDeep") (v := .ref X.d) (by rfl) T.gd rfl) pa_nil)))))))
          (pss_one (ps_ret (pe_lst (pa_cons pe_str (pa_cons pe_int pa_nil))))) pss_nil) ?_
  refine pss_cons (ps_if (PW.pt (pw_or (pt_val (pe_callB ci (by rfl) B.isinstance isb (pa_cons (pv 1) (pa_cons (pe_glob (x := "TooDeep") (v := .ref X.d) (by rfl) T.gd rfl) pa_nil))))
            (pw_or (pt_cmpR op_ne (pe_callB call_len (by rfl) B.len PySem.boot_len (pa_cons
                (pe_lcH (own := [("one", 3)]) (g := gName 3) hot nd (pv 2) (blkOk_by (N := NT) (sc := defScope sTold) (by decide +kernel)) (fun _ _ _ _ _ => pg_name (i := 3) nd rfl (Or.inl rfl))
                  (fun _ _ _ _ _ => pts_one (pt_val (pv 3))) (fun _ _ _ _ _ => pv 3)) pa_nil)) pe_int (nomark _))
            (pw_or1 (pt_val (pe_callB cb (by rfl) B.isinstance isb (pa_cons (xg _ _) (pa_cons (pe_bltn (v := .ty "bool") (by rfl) B.bool (by decide +kernel) rfl) pa_nil))))))))
          (pss_one (ps_ret (pe_lst (pa_cons pe_str (pa_cons pe_int pa_nil))))) pss_nil) ?_
  exact pss_one (ps_ret (pe_lst (pa_cons (pe_ix (r := rIxL K) ix_list (pe_lst (pa_cons pe_str (pa_cons pe_str (pa_cons pe_str pa_nil)))) (pe_bm PySem.F.plainAttrs_list PySem.F.slot_list_index PySem.F.type_list_index mt_index (pv 2) (pa_cons pe_bl pa_nil)) (fun _ _ => rfl))
            (pa_cons (xg _ _) pa_nil))))
theorem suite_dict {X : Errs} {a dd : Addr} {H : Hp} {D : Ends} {z : Str} {n i : Nat} (hi : i < 3) (hx : H dd = some (.xd [("at", .int (n : Nat))])) (q : ∀ p H', Sm No H H' → H' p = some (.lst [.str (nm i), .int (n : Nat)]) → D.rt (.ref p) H') :
    tsT K X a (.ref (cl X i)) (some dd) D [some (.str z), some (.ref a), none, none] H := by
  have hi4 : i < 4 := by omega
  have n3 : decide (i = 3) = false := decide_eq_false (by omega)
  have dk : ∀ {H' : Hp}, H' dd = some (.xd [("at", V.int (n : Nat))]) → dOk (some dd) H' := fun h => .inr ⟨_, _, rfl, h⟩
  obtain ⟨bs, ebs, lbs, b1, b2, b3, b4⟩ : ∃ bs : List Bool, [V.bl (decide (i = 0)), V.bl (decide (i = 1)), V.bl (decide (i = 2))] = bs.map V.bl ∧ bs.length = 3 ∧
      PyData.eqv (.list [.bool (decide (i = 0)), .bool (decide (i = 1)), .bool (decide (i = 2))]) (.list [.bool false, .bool false, .bool false]) = false ∧ (bs.filter id).length = 1 ∧ bs[i]? = some true ∧ ∀ m, m < i → bs[m]? = some false := by
    refine ⟨[decide (i = 0), decide (i = 1), decide (i = 2)], rfl, rfl, ?_⟩
    match i, hi with
    | 0, _ => exact ⟨by decide +kernel, rfl, rfl, fun m h => absurd h (Nat.not_lt_zero m)⟩
    | 1, _ => exact ⟨by decide +kernel, rfl, rfl, fun m h => by rw [show m = 0 by omega]; rfl⟩
    | 2, _ => exact ⟨by decide +kernel, rfl, rfl, fun m h => by
        rcases (show m = 0 ∨ m = 1 by omega) with e | e <;> subst e <;> rfl⟩
  refine ⟨_, rfl, i, 0, rfl, hi4, by decide, rfl, dk hx, _, rfl, i, 1, rfl, hi4, by decide, rfl, dk hx, _, rfl, i, 2, rfl, hi4, by decide, rfl, dk hx, by show 3 ≤ sizeLine; decide, fun p hp => ?_⟩
  have s1 : Sm No H (upd H p (.lst [V.bl (decide (i = 0)), V.bl (decide (i = 1)), V.bl (decide (i = 2))])) := Sm.new hp
  have hp1 : upd H p (.lst [V.bl (decide (i = 0)), V.bl (decide (i = 1)), V.bl (decide (i = 2))]) p = some (.lst (bs.map V.bl)) := by rw [upd_same, ebs]
  generalize upd H p (.lst [V.bl (decide (i = 0)), V.bl (decide (i = 1)), V.bl (decide (i = 2))]) = H1 at s1 hp1
  have hx1 := s1.keep dd _ (fun z => z) rfl hx
  refine ⟨_, rfl, by show 3 ≤ sizeLine; decide, fun p2 hp2 => ?_⟩
  have s2 : Sm No H1 (upd H1 p2 (.lst [V.bl false, V.bl false, V.bl false])) := Sm.new hp2
  have e2 : upd H1 p2 (.lst [V.bl false, V.bl false, V.bl false]) p2 = some (.lst [V.bl false, V.bl false, V.bl false]) := upd_same
  generalize upd H1 p2 (.lst [V.bl false, V.bl false, V.bl false]) = H2 at s2 e2
  have hp3 := s2.lst0 hp1
  have hx2 := s2.keep dd _ (fun z => z) rfl hx1
  have shp : ∀ x y z : Bool, SeqAt.shaped (.list [.bool x, .bool y, .bool z]) = true := fun x y z => by cases x <;> cases y <;> cases z <;> decide +kernel
  refine ⟨.list [.bool (decide (i = 0)), .bool (decide (i = 1)), .bool (decide (i = 2))], .list [.bool false, .bool false, .bool false], .lst (SqL.of (by rw [hp3, ← ebs])) (.cons (.bl _) (.cons (.bl _) (.cons (.bl _) .nil))), .lst (SqL.of e2) (.cons (.bl _) (.cons (.bl _) (.cons (.bl _) .nil))), shp _ _ _, shp _ _ _, false, congrArg V.bl b1, ?_⟩
  refine ⟨_, rfl, i, 3, rfl, hi4, by decide, rfl, dk hx2, false, congrArg V.bl n3, ?_⟩
  refine ⟨_, rfl, p, rfl, ⟨_, SqL.of hp3⟩, fun D' hD => ?_⟩
  refine lc_list (xs := bs.map V.bl) (fun k H' => H' D' = some (.lst (((bs.take k).filter id).map V.bl)) ∧ Sm No H2 H') ⟨upd_same, Sm.new hD⟩ (fun k H' _ c => SqL.of (c.2.lst0 hp3)) (fun k x H' hk c => ?_) (fun H3 c => ?_)
  · obtain ⟨b, hb, ex⟩ : ∃ b, bs[k]? = some b ∧ V.bl b = x := by
      rw [List.getElem?_map] at hk
      cases e : bs[k]? with
      | none => rw [e] at hk; cases hk
      | some b => rw [e] at hk; exact ⟨b, rfl, Option.some.inj hk⟩
    subst ex
    refine ⟨rfl, _, rfl, b, rfl, ?_⟩
    have tk : (bs.take (k + 1)).filter id = (bs.take k).filter id ++ (if b = true then [true] else []) := by
      rw [take_more hb, List.filter_append]
      cases b <;> rfl
    cases b with
    | false =>
      refine ⟨?_, c.2⟩
      rw [tk, c.1]
      simp
    | true =>
      refine ⟨_, rfl, _, c.1, ?_, ?_, c.2.mut hD (ntbl_l c.1)⟩
      · rw [List.length_map]
        exact Nat.lt_of_le_of_lt (Nat.le_trans (List.length_filter_le _ _) (List.length_take_le' _ _)) (by rw [lbs]; decide)
      · rw [upd_same, tk, List.map_append]
        rfl
  · obtain ⟨c1, c2⟩ := c
    rw [List.length_map, List.take_length] at c1
    have hp4 := c2.lst0 hp3
    have hx3 := c2.keep dd _ (fun z => z) rfl hx2
    refine ⟨_, _, rfl, .inl ⟨_, SqL.of c1, rfl⟩, rfl, false, ?_, ?_⟩
    · rw [List.length_map, b2]; rfl
    refine ⟨_, rfl, rfl, i, dd, _, _, rfl, rfl, hx3, rfl, _, _, .type "int", .type "bool", false, rfl, .ty "bool", .base (.int _), kit_ty (by decide +kernel), false, rfl, ?_⟩
    refine ⟨by show 3 ≤ sizeLine; decide, fun p4 hp4n => ?_⟩
    have s4 : Sm No H3 (upd H3 p4 (.lst [V.str "word", V.str "close", V.str "end"])) := Sm.new hp4n
    have e4 : upd H3 p4 (.lst [V.str "word", V.str "close", V.str "end"]) p4 = some (.lst [V.str "word", V.str "close", V.str "end"]) := upd_same
    generalize upd H3 p4 (.lst [V.str "word", V.str "close", V.str "end"]) = H4 at s4 e4
    have hp5 := s4.lst0 hp4
    have hx4 := s4.keep dd _ (fun z => z) rfl hx3
    have ix : atI [V.str "word", V.str "close", V.str "end"] ((i : Nat) : Int) = some (V.str (nm i)) := by
      match i, hi with
      | 0, _ => rfl
      | 1, _ => rfl
      | 2, _ => rfl
    refine ⟨_, rfl, .inl ⟨rfl, _, SqL.of hp5⟩, p, bs.map V.bl, .bl true, i, .bl true, rfl, rfl, SqL.of hp5, rfl, ?_, by rw [List.getElem?_map, b3]; rfl, rfl, fun m z' hm hz => ?_, p4, _, _, _, rfl, rfl, SqL.of e4, ix, ?_⟩
    · refine List.all_eq_true.mpr fun v hv => ?_
      obtain ⟨b, _, eb⟩ := List.mem_map.mp hv
      subst eb; rfl
    · rw [List.getElem?_map, b4 m hm] at hz
      cases hz
      rfl
    · refine ⟨_, rfl, rfl, i, dd, _, _, rfl, rfl, hx4, rfl, by show 2 ≤ sizeLine; decide, fun p6 hp6 => ?_⟩
      exact q p6 _ (s1.trans (s2.trans (c2.trans (s4.trans (Sm.new hp6))))) upd_same
theorem suite_deep {X : Errs} {a : Addr} {H : Hp} {D : Ends} {z : Str} (q : ∀ p H', Sm No H H' → H' p = some (.lst [.str "deep", .int 0]) → D.rt (.ref p) H') :
    tsT K X a (.ref X.d) none D [some (.str z), some (.ref a), none, none] H := by
  refine ⟨_, rfl, 3, 0, rfl, by decide, by decide, rfl, .inl rfl, _, rfl, 3, 1, rfl, by decide, by decide, rfl, .inl rfl, _, rfl, 3, 2, rfl, by decide, by decide, rfl, .inl rfl, by show 3 ≤ sizeLine; decide, fun p hp => ?_⟩
  have s1 : Sm No H (upd H p (.lst [V.bl (decide (3 = 0)), V.bl (decide (3 = 1)), V.bl (decide (3 = 2))])) := Sm.new hp
  refine ⟨_, rfl, by show 3 ≤ sizeLine; decide, fun p2 hp2 => ?_⟩
  have s2 : Sm No _ (upd (upd H p (.lst [V.bl (decide (3 = 0)), V.bl (decide (3 = 1)), V.bl (decide (3 = 2))])) p2 (.lst [V.bl false, V.bl false, V.bl false])) := Sm.new hp2
  refine ⟨.list [.bool false, .bool false, .bool false], .list [.bool false, .bool false, .bool false], .lst (SqL.of (s2.lst0 upd_same)) (.cons (.bl _) (.cons (.bl _) (.cons (.bl _) .nil))), .lst (SqL.of upd_same) (.cons (.bl _) (.cons (.bl _) (.cons (.bl _) .nil))), by decide +kernel, by decide +kernel, true, congrArg V.bl (by decide +kernel), ?_⟩
  refine ⟨_, rfl, 3, 3, rfl, by decide, by decide, rfl, .inl rfl, true, rfl, by show 2 ≤ sizeLine; decide, fun p6 hp6 => ?_⟩
  exact q p6 _ (s1.trans (s2.trans (Sm.new hp6))) upd_same
theorem ok_told {f fP F0 P1 P2 : Addr} {fd dP : FuncData} {X : Errs} (F : Fun K "_law_told" "_law_told" sTold f fd) (B : Blt mg) (T : ToldC K mg X F0) (G : Cal P w K mg base (L2N.CX P w) 5 "parse_all" ["text"] (spParse X [P1, P2]) fP dP) : FnOk P w K mg base CX0 6 f fd ["text"] (spOut [P1, P2]) := by
  refine F.ok scTold (fun vs H Q E h => ?_) (fun cdv A outer s H vs Q E hr h => ?_)
  · obtain ⟨z, rfl, _⟩ := h
    rfl
  obtain ⟨z, rfl, hz, ht, q⟩ := h
  have nd := scTold.nd
  refine ⟨_, pss_one (L2N.ps_try_as (i := 1) (b₀ := sSuite.head!) (suite := sSuite.tail) (Wout := fun _ _ _ _ => False) rfl rfl nd rfl rfl (c := .ref F0) ⟨rfl, by decide +kernel, .inl T.n⟩ (fun u s' ⟨a, B, sI, pins, σ, H, cls, d, e, I, nb, up, sky, na, os, ag, w⟩ => w.elim)
      (fun W pn xe tk _ => pss_one (ps_ret (pe_lst (pa_cons pe_str (pa_cons (pe_callS G.ok hr rfl G.g G.k G.b (fun σ => L2N.passAt tk σ) (pa_cons (pv 0) pa_nil)) pa_nil)))))
      (ts := tsT K X) (fun a oe cls d pn hzc hf => suite_ps B T hr a oe cls d pn hzc hf)), ?_⟩
  refine ⟨_, rfl, z, rfl, hz, ht, ?_⟩
  have bad : ∀ i n : Nat, i < 3 → outDat (run (z.length + 1) (tl z) 0 [[]]) = .lst [.sym (nm i), .int (n : Nat)] → atX (cl X i) n H (WE (wAs K (.ref F0) 1 (tsT K X) (fun _ _ _ _ => False) { nx := fun _ H' => Q .non H', rt := Q }) [some (.str z), none, none, none]) := by
    intro i n hi e H' d sm hd hx
    refine ⟨true, T.ex i, fun _ a ha => ?_, fun z => nomatch z⟩
    refine suite_dict hi hx fun p H'' s2 hp => q _ H'' (sm.trans s2) ?_
    rw [e]
    exact .lst trivial hp (.cons (.sym _) (.cons (.int _) .nil))
  generalize run (z.length + 1) (tl z) 0 [[]] = out at q bad
  cases out with
  | ok ds =>
    intro D vs C H' sm hD hC nC hv hr'
    refine ⟨by show 2 ≤ sizeLine; decide, fun p hp => ?_⟩
    have np : D ≠ p := fun z => by rw [z, hp] at hv; cases hv
    exact q _ _ (sm.trans (Sm.new hp)) (.lst trivial upd_same (.cons (.sym _) (.cons (.lst trivial (by rw [upd_ne np]; exact hv) (hr'.sm (Sm.new hp)).all) .nil)))
  | word i => exact bad 0 i (by decide) rfl
  | close i => exact bad 1 i (by decide) rfl
  | ends i => exact bad 2 i (by decide) rfl
  | deep =>
    intro H' sm
    refine ⟨true, T.ex 3, fun _ a ha => ?_, fun z => nomatch z⟩
    exact suite_deep fun p H'' s2 hp => q _ H'' (sm.trans s2) (.lst trivial hp (.cons (.sym _) (.cons (.int _) .nil)))
end
end My
namespace My
open PySem PySem.Spec PyProof.Rows L2 TL
/-! ### draws of pieces -/
def spSign : Sp := fun vs H Q _ => ∃ S L : Addr, vs = [.ref S] ∧ LS H S L ∧ ∀ c H', LS H' S L → Sm (Two S L) H H' → Q (.str ⟨#[c]⟩) H'
def spPiece : Sp := fun vs H Q _ => ∃ S L : Addr, vs = [.ref S] ∧ LS H S L ∧ ∀ z H', z.length ≤ 50 → LS H' S L → Sm (Two S L) H H' → Q (.str z) H'
abbrev sSign : Stmt := top 27
abbrev sPiece : Stmt := top 28
theorem rep_len {r z : Str} {k : Nat} (hz : z.length = 1) (e : tl r = (List.replicate k (tl z)).flatten) : r.length = k := by
  rw [len_tl, e]
  have : (tl z).length = 1 := by rw [← len_tl]; exact hz
  simp [List.length_flatten, this]
section
variable {P : Program} {w : World} {K : PySem.W.Frag} {mg : Str → Option Value} {base : Heap}
theorem scSign : FnScope ["state", "signs"] ["state"] (defScope sSign) := ⟨rfl, rfl, rfl, by decide +kernel, rfl, by decide +kernel, by decide +kernel⟩
theorem ok_sign {f fT : Addr} {fd dT : FuncData} (F : Fun K "_law_sign" "_law_sign" sSign f fd) (B : Blt mg) (G : Cal P w K mg base CX0 2 "_law_take" ["state", "limit"] spTake fT dT) : FnOk P w K mg base CX0 3 f fd ["state"] spSign := by
  refine F.ok scSign (fun vs H Q E h => ?_) (fun cdv A outer s H vs Q E hr h => ?_)
  · obtain ⟨S, L, rfl, _⟩ := h
    rfl
  obtain ⟨S, L, rfl, hl, q⟩ := h
  have nd := scSign.nd
  refine ⟨_, pss_cons (ps_set (i := 1) nd rfl (Or.inl rfl) pe_str)
    (pss_cons (ps_set (i := 1) nd rfl (Or.inl rfl) (pe_op op_add_str (pv 1) pe_str))
    (pss_one (ps_ret (pe_ix ix_str (pv 1) (pe_call G.ok hr rfl G.g G.k G.b .nil pass0 (pa_cons (pv 0) (pa_cons pe_int pa_nil))) (fun _ _ => rfl))))), ?_⟩
  refine ⟨_, rfl, _, _, rfl, rfl, by decide +kernel, _, rfl, ?_⟩
  refine ev_take (n := 95) rfl hl (by decide) (nb (by decide)) fun g H1 g0 g1 l1 s1 => ?_
  obtain ⟨c, ec, _⟩ := atI_some (xs := tl (" !\"#$&'()*+,-./0123456789:;<=>?@ABCDEFGHIJKLMNOPQRSTUVWXYZ[\\]^_`" ++ "abcdefghijklmnopqrstuvwxyz{|}~\t" : Str)) g0 (by
    have : (tl (" !\"#$&'()*+,-./0123456789:;<=>?@ABCDEFGHIJKLMNOPQRSTUVWXYZ[\\]^_`" ++ "abcdefghijklmnopqrstuvwxyz{|}~\t" : Str)).length = 95 := by decide +kernel
    omega)
  exact ⟨_, g, c, rfl, rfl, by decide +kernel, ec, q c H1 l1 s1⟩
theorem scPiece : FnScope ["state", "pick"] ["state"] (defScope sPiece) := ⟨rfl, rfl, rfl, by decide +kernel, rfl, by decide +kernel, by decide +kernel⟩
theorem ok_piece {f fT fS : Addr} {fd dT dS : FuncData} (F : Fun K "_law_piece" "_law_piece" sPiece f fd) (B : Blt mg) (G : Cal P w K mg base CX0 2 "_law_take" ["state", "limit"] spTake fT dT) (GS : Cal P w K mg base CX0 3 "_law_sign" ["state"] spSign fS dS) :
    FnOk P w K mg base CX0 4 f fd ["state"] spPiece := by
  refine F.ok scPiece (fun vs H Q E h => ?_) (fun cdv A outer s H vs Q E hr h => ?_)
  · obtain ⟨S, L, rfl, _⟩ := h
    rfl
  obtain ⟨S, L, rfl, hl, q⟩ := h
  have nd := scPiece.nd
  have hr2 : Room 2 _ := hr.mono (show 2 ≤ 3 by decide)
  refine ⟨_, pss_cons (ps_set (i := 1) nd rfl (Or.inl rfl) (pe_call G.ok hr2 rfl G.g G.k G.b .nil pass0 (pa_cons (pv 0) (pa_cons pe_int pa_nil))))
    (pss_cons (ps_if (pt_cmpR op_lt (pv 1) pe_int (nomark _)) (pss_one (ps_ret pe_str)) pss_nil)
    (pss_cons (ps_if (pt_cmpR op_lt (pv 1) pe_int (nomark _)) (pss_one (ps_ret pe_str)) pss_nil)
    (pss_cons (ps_if (pt_cmpR op_eq (pv 1) pe_int (nomark _)) (pss_one (ps_ret (pe_op op_mulS pe_str (pe_call G.ok hr2 rfl G.g G.k G.b .nil pass0 (pa_cons (pv 0) (pa_cons pe_int pa_nil)))))) pss_nil)
    (pss_cons (ps_if (pt_cmpR op_eq (pv 1) pe_int (nomark _)) (pss_one (ps_ret (pe_op op_mulS pe_str (pe_call G.ok hr2 rfl G.g G.k G.b .nil pass0 (pa_cons (pv 0) (pa_cons pe_int pa_nil)))))) pss_nil)
    (pss_cons (ps_if (pt_cmpR op_eq (pv 1) pe_int (nomark _)) (pss_one (ps_ret (pe_ix (r := rIxL K) ix_list (pe_lst (pa_cons pe_str (pa_cons pe_str (pa_cons pe_str (pa_cons (pe_op op_mulS pe_str pe_int) (pa_cons pe_str (pa_cons pe_str (pa_cons pe_str pa_nil))))))))
        (pe_op op_mul (pe_call G.ok hr2 rfl G.g G.k G.b .nil pass0 (pa_cons (pv 0) (pa_cons pe_int pa_nil))) (pe_callTy call_int1 (by rfl) B.int (by decide +kernel) (pa_cons (pe_cmpR op_eq (pe_call G.ok hr2 rfl G.g G.k G.b .nil pass0 (pa_cons (pv 0) (pa_cons pe_int pa_nil))) pe_int (nomark _)) pa_nil))) (fun _ _ => rfl)))) pss_nil)
    (pss_cons (ps_if (pt_cmpR op_eq (pv 1) pe_int (nomark _)) (pss_one (ps_ret (pe_op op_add_str (pe_op op_add_str pe_str (pe_call GS.ok hr rfl GS.g GS.k GS.b .nil pass0 (pa_cons (pv 0) pa_nil)))
        (pe_ix (r := rIxL K) ix_list (pe_lst (pa_cons pe_str (pa_cons pe_str pa_nil))) (pe_callTy call_int1 (by rfl) B.int (by decide +kernel) (pa_cons (pe_cmpR op_eq (pe_call G.ok hr2 rfl G.g G.k G.b .nil pass0 (pa_cons (pv 0) (pa_cons pe_int pa_nil))) pe_int (nomark _)) pa_nil)) (fun _ _ => rfl))))) pss_nil)
    (pss_cons (ps_if (pt_cmpR op_eq (pv 1) pe_int (nomark _)) (pss_one (ps_ret (pe_call GS.ok hr rfl GS.g GS.k GS.b .nil pass0 (pa_cons (pv 0) pa_nil)))) pss_nil)
    (pss_cons (ps_if (pt_cmpR op_eq (pv 1) pe_int (nomark _)) (pss_one (ps_ret (pe_callTy call_str_int (by rfl) B.str (by decide +kernel) (pa_cons (pe_call G.ok hr2 rfl G.g G.k G.b .nil pass0 (pa_cons (pv 0) (pa_cons pe_int pa_nil))) pa_nil)))) pss_nil)
    (pss_cons (ps_if (pt_cmpR op_eq (pv 1) pe_int (nomark _)) (pss_one (ps_ret pe_str)) pss_nil)
    (pss_one (ps_ret (pe_ix (r := rIxL K) ix_list (pe_lst (pa_cons pe_str (pa_cons pe_str (pa_cons pe_str (pa_cons pe_str (pa_cons pe_str (pa_cons pe_str pa_nil))))))) (pe_call G.ok hr2 rfl G.g G.k G.b .nil pass0 (pa_cons (pv 0) (pa_cons pe_int pa_nil))) (fun _ _ => rfl))))))))))))), ?_⟩
  have done : ∀ (z : Str) (H' : Hp), z.length ≤ 50 → LS H' S L → Sm (Two S L) H H' → Q (.str z) H' := q
  refine ev_take (n := 16) rfl hl (by decide) (nb (by decide)) fun pick H1 p0 p1 l1 s1 => ?_
  refine ⟨_, rfl, _, _, rfl, rfl, _, rfl, ?_⟩
  refine ite2 (fun c => q _ H1 (by decide +kernel) l1 s1) (fun c => ?_)
  refine ⟨_, rfl, _, _, rfl, rfl, _, rfl, ?_⟩
  refine ite2 (fun c => q _ H1 (by decide +kernel) l1 s1) (fun c => ?_)
  have many : ∀ (y : Str), y.length = 1 → tOp rMulS (tC (.str y)) (tCall spTake [] E0 (tCons (tVar 0) (tCons (tC (.int 25)) tNil))) [some (V.ref S), some (V.int pick)] H1 Q := fun y hy => by
    refine ev_take (n := 25) rfl l1 (by decide) (nb (by decide)) fun g H2 g0 g1 l2 s2 => ⟨_, g, rfl, rfl, g0, by omega, by omega, fun r er => ?_⟩
    exact q r H2 (by rw [rep_len hy er]; omega) l2 (s1.trans s2)
  refine ⟨_, rfl, rfl, _, rfl, ?_⟩
  refine ite2 (fun c => many _ (by decide +kernel)) (fun c => ?_)
  refine ⟨_, rfl, rfl, _, rfl, ?_⟩
  refine ite2 (fun c => many _ (by decide +kernel)) (fun c => ?_)
  refine ⟨_, rfl, rfl, _, rfl, ?_⟩
  refine ite2 (fun c => ?_) (fun c => ?_)
  · refine ⟨_, 41, rfl, rfl, by decide, by decide, by decide +kernel, fun r er => ?_⟩
    have lr : r.length = 41 := rep_len (by decide +kernel) er
    refine ⟨by show 7 ≤ sizeLine; decide, fun p hp => ?_⟩
    refine ev_take (n := 7) rfl (l1.new hp) (by decide) (nb (by decide)) fun g H2 g0 g1 l2 s2 => ?_
    refine ev_take (n := 4) rfl l2 (by decide) (nb (by decide)) fun g' H3 g0' g1' l3 s3 => ?_
    refine ⟨rfl, .inr ⟨_, rfl, ?_⟩⟩
    have sp := s3.lst (l1.two hp) (s2.lst (l1.two hp) upd_same)
    have s13 := s1.trans ((Sm.new (o := .lst [V.str "07", V.str "-0", V.str "+1", V.str r, V.str "a#", V.str "@", V.str "a,b"]) hp).trans (s2.trans s3))
    generalize hk : (if decide (V.int g' = V.int 0) = true then (1 : Int) else 0) = k
    have k01 : k = 0 ∨ k = 1 := by
      rw [← hk]
      split
      · exact .inr rfl
      · exact .inl rfl
    have i0 : 0 ≤ g * k ∧ g * k < 7 := by rcases k01 with e | e <;> subst e <;> omega
    obtain ⟨v, ev, mv⟩ := atI_some (xs := [V.str "07", V.str "-0", V.str "+1", V.str r, V.str "a#", V.str "@", V.str "a,b"]) i0.1 i0.2
    refine ⟨g, k, rfl, rfl, ?_, p, _, _, v, rfl, rfl, SqL.of sp, ev, ?_⟩
    · exact .inl ⟨by omega, by omega⟩
    have lv : ∃ y : Str, v = .str y ∧ y.length ≤ 50 := by
      simp only [List.mem_cons, List.not_mem_nil, or_false] at mv
      rcases mv with e | e | e | e | e | e | e
      · exact ⟨_, e, by decide +kernel⟩
      · exact ⟨_, e, by decide +kernel⟩
      · exact ⟨_, e, by decide +kernel⟩
      · exact ⟨_, e, by omega⟩
      · exact ⟨_, e, by decide +kernel⟩
      · exact ⟨_, e, by decide +kernel⟩
      · exact ⟨_, e, by decide +kernel⟩
    obtain ⟨y, ey, ly⟩ := lv
    subst ey
    exact q y H3 ly l3 s13
  refine ⟨_, rfl, rfl, _, rfl, ?_⟩
  refine ite2 (fun c => ?_) (fun c => ?_)
  · refine ⟨_, rfl, S, L, rfl, l1, fun sg H2 l2 s2 => ?_⟩
    have l1c : (⟨#[sg]⟩ : Str).length = 1 := rfl
    have l2c : ("; " : Str).length = 2 := by decide +kernel
    refine ⟨_, _, rfl, rfl, by rw [l1c, l2c]; decide, ?_⟩
    refine ⟨by show 2 ≤ sizeLine; decide, fun p hp => ?_⟩
    refine ev_take (n := 9) rfl (l2.new hp) (by decide) (nb (by decide)) fun g H3 g0 g1 l3 s3 => ?_
    refine ⟨rfl, .inr ⟨_, rfl, ?_⟩⟩
    have sp := s3.lst (l2.two hp) upd_same
    have s13 := s1.trans (s2.trans ((Sm.new (o := .lst [V.str "\n", V.str ""]) hp).trans s3))
    have fin : ∀ y : Str, y.length ≤ 10 → ("; " ++ (⟨#[sg]⟩ : Str)).length + y.length ≤ sizeLine ∧ Q (.str ("; " ++ (⟨#[sg]⟩ : Str) ++ y)) H3 := fun y hy => by
      have e1 : ("; " ++ (⟨#[sg]⟩ : Str)).length = 3 := by rw [app_len, l1c, l2c]
      exact ⟨by rw [e1]; exact Nat.le_trans (Nat.add_le_add_left hy 3) (by decide), q _ H3 (by rw [app_len, e1]; omega) l3 s13⟩
    by_cases e : g = 0
    · subst e
      exact ⟨p, _, _, _, rfl, rfl, SqL.of sp, rfl, _, _, rfl, rfl, fin "" (by decide +kernel)⟩
    · have e1 : decide (V.int g = V.int 0) = false := decide_eq_false fun z => e (V.int.inj z)
      rw [e1]
      exact ⟨p, _, _, _, rfl, rfl, SqL.of sp, rfl, _, _, rfl, rfl, fin "\n" (by decide +kernel)⟩
  refine ⟨_, rfl, rfl, _, rfl, ?_⟩
  refine ite2 (fun c => ⟨_, rfl, S, L, rfl, l1, fun sg H2 l2 s2 => q _ H2 (show 1 ≤ 50 by decide) l2 (s1.trans s2)⟩) (fun c => ?_)
  refine ⟨_, rfl, rfl, _, rfl, ?_⟩
  refine ite2 (fun c => ?_) (fun c => ?_)
  · refine ev_take (n := 100000) rfl l1 (by decide) (nb (by decide)) fun g H2 g0 g1 l2 s2 => ?_
    obtain ⟨nn, en, ln⟩ := num_txt g0 g1
    exact ⟨g, rfl, int_log (by omega), q _ H2 (Nat.le_trans ln (by decide)) l2 (s1.trans s2)⟩
  refine ⟨_, rfl, rfl, _, rfl, ?_⟩
  refine ite2 (fun c => q _ H1 (by decide +kernel) l1 s1) (fun c => ?_)
  refine ev_pick (K := K) (σ := [some (V.ref S), some (V.int pick)]) (ta := tCons (tC (.str " ")) (tCons (tC (.str "a")) (tCons (tC (.str "-")) (tCons (tC (.str "x1")) (tCons (tC (.str "...")) (tCons (tC (.str " ")) tNil)))))) (ys := [" ", "a", "-", "x1", "...", " "]) rfl l1 (by decide) (nb (by decide)) rfl (by decide) (fun H Q q => q) fun y H4 hy l4 s4 => ?_
  obtain ⟨wy, ly⟩ : True ∧ y.length ≤ 10 := by
    refine ⟨trivial, ?_⟩
    have e : ∀ y ∈ ([" ", "a", "-", "x1", "...", " "] : List Str), y.length ≤ 10 := by
      have e : ([" ", "a", "-", "x1", "...", " "] : List Str).all (fun y => decide (y.length ≤ 10)) = true := by decide +kernel
      intro y hy
      exact of_decide_eq_true (List.all_eq_true.mp e y hy)
    exact e y hy
  exact q y H4 (by omega) l4 (s1.trans s4)
end
end My
namespace My
open PySem PySem.Spec PyProof.Rows L2 TL
def dueV (l : List Nat) : V := (wordV l).getD .non
theorem made_body {l : List Nat} (h : madeNum l = true) (n : l.head? ≠ some 43) : noMinus l = body l := by
  cases l with
  | nil => rfl
  | cons c r =>
    have n' : c ≠ 43 := fun e => n (by rw [e]; rfl)
    by_cases e : c = 45
    · simp [noMinus, body, e]
    · simp [noMinus, body, e, n']
theorem due_num {l : List Nat} (h : madeNum l = true) : dueV l = if isIntL l = true then .int ((intText? (mkS l)).getD 0) else .non := by
  unfold dueV wordV
  by_cases e : isIntL l = true
  · rw [if_pos e, if_pos e]; rfl
  · have s : ¬ isSymL l = true := by
      unfold isSymL; rw [h]; simp
    rw [if_neg e, if_neg e, if_neg s]; rfl
theorem due_sym {l : List Nat} (h : madeNum l = false) (n : l ≠ []) : dueV l = if l.all isSym = true then .str (mkS l) else .non := by
  have e : ¬ isIntL l = true := by unfold isIntL; rw [h]; simp
  have ne : l.isEmpty = false := by cases l with
    | nil => exact absurd rfl n
    | cons a r => rfl
  have s : isSymL l = l.all isSym := by unfold isSymL; rw [h, ne]; rfl
  unfold dueV wordV
  rw [if_neg e, s]
  cases l.all isSym <;> rfl
theorem one_dec (a b : Nat) (y : Str) (e : tl y = [b]) : decide (V.str ⟨#[a]⟩ = V.str y) = decide (a = b) := by
  rw [dec_str_tl, e]
  show decide ([a] = [b]) = decide (a = b)
  by_cases h : a = b
  · rw [decide_eq_true h, decide_eq_true (by rw [h])]
  · rw [decide_eq_false h, decide_eq_false (fun e => h (List.cons.inj e).1)]
def spW : Sp := fun vs H Q _ => ∃ z : Str, vs = [.str z] ∧ tl z ≠ [] ∧ z.length ≤ big ∧ ∀ H', Sm No H H' → Q (dueV (tl z)) H'
abbrev sW : Stmt := top 29
abbrev NW : List Str := ["word", "signs", "digits", "sign"]
/-- the signs of x that p does not hold of: a comprehension, at the list D -/
theorem lc_bad {σ : L2.St} {H : Hp} {D : Addr} {Qd : Hp → Prop} {p : Nat → Bool} {x : Str} {te : TE} {y : Str} (hD : H D = none) (ls : σ.length = 4) (lx : x.length ≤ big) (hp : ∀ c, decide (c ∈ y.cps.toList) = p c)
    (ht : ∀ (v : V) (H : Hp) (Q : VK), Q (.str y) H → te ((wipe σ [3]).set 3 (some v)) H Q)
    (q : ∀ (acc : List V) (H' : Hp), Sm No H H' → H' D = some (.lst acc) → acc.length = ((tl x).filter fun c => !p c).length → Qd H') :
    ∃ W : Nat → Nat → Hp → Prop, (∃ m, W 0 m (upd H D (.lst []))) ∧ ∀ i m H, W i m H →
      ((Its x).stop i H ∧ Qd H) ∨ ((Its x).go i H ∧ ∃ Nx : Hp → Prop, (∀ H', Nx H' → ∃ m', m' < m ∧ W (i + 1) m' H') ∧
        ∀ v H', (Its x).yld i H v H' → gName 3 v (wipe σ [3]) H' fun σ2 H2 => wipe σ2 [3] = wipe σ [3] ∧ (tTest (tOp (fun x y H Q => ∃ c z, x = V.str ⟨#[c]⟩ ∧ y = V.str z ∧ Q (V.bl !decide (c ∈ z.cps.toList)) H) (tVar 3) te)) σ2 H2 fun b H3 =>
          if b = true then (tVar 3) σ2 H3 fun y H4 => ∃ acc, H4 D = some (.lst acc) ∧ acc.length < sizeLine ∧ Nx (upd H4 D (.lst (acc ++ [y]))) else Nx H3) := by
  refine lc_str (fun i H2 => ∃ acc, H2 D = some (.lst acc) ∧ acc.length = (((tl x).take i).filter fun c => !p c).length ∧ Sm No H H2) ⟨[], upd_same, rfl, Sm.new hD⟩ ?_ ?_
  · rintro k c H2 hc ⟨acc, a1, a2, a3⟩
    have i1 : k < (tl x).length := (List.getElem?_eq_some_iff.mp hc).1
    have lx' : (tl x).length ≤ big := by rw [← len_tl]; exact lx
    have la : acc.length ≤ (tl x).length := by
      rw [a2]
      exact Nat.le_trans (List.length_filter_le _ _) (by rw [List.length_take]; omega)
    have em : (((tl x).take (k + 1)).filter fun c => !p c).length = (((tl x).take k).filter fun c => !p c).length + (if p c then 0 else 1) := by
      rw [take_more hc, List.filter_append, List.length_append]
      congr 1
      cases h : p c <;> simp [h]
    have l4 : 3 < (wipe σ [3]).length := by rw [wipe_length, ls]; decide
    have at3 : ((wipe σ [3]).set 3 (some (.str ⟨#[c]⟩)))[3]? = some (some (.str ⟨#[c]⟩)) := List.getElem?_set_self l4
    refine ⟨?_, _, at3, ht _ _ _ ⟨c, y, rfl, rfl, _, rfl, ?_⟩⟩
    · show ((σ.set 3 none).set 3 _).set 3 none = (σ.set 3 none)
      rw [List.set_set, List.set_set]
    rw [hp]
    cases h : p c with
    | true => exact ⟨acc, a1, by rw [em, h, a2]; rfl, a3⟩
    | false =>
      exact ⟨_, at3, acc, a1, Nat.lt_of_le_of_lt (Nat.le_trans la lx') (by decide), acc ++ [V.str ⟨#[c]⟩], upd_same, by rw [em, h, List.length_append, a2]; rfl, a3.mut hD (ntbl_l a1)⟩
  · rintro H2 ⟨acc, a1, a2, a3⟩
    rw [List.take_length] at a2
    exact q acc H2 a3 a1 a2
section
variable {P : Program} {w : World} {K : PySem.W.Frag} {mg : Str → Option Value} {base : Heap}
theorem scW : FnScope NW ["word"] (defScope sW) := ⟨rfl, rfl, rfl, by decide +kernel, rfl, by decide +kernel, by decide +kernel⟩
theorem ok_w {f : Addr} {fd : FuncData} (F : Fun K "_law_word" "_law_word" sW f fd) (B : Blt mg) : FnOk P w K mg base CX0 1 f fd ["word"] spW := by
  refine F.ok scW (fun vs H Q E h => ?_) (fun cdv A outer s H vs Q E hr h => ?_)
  · obtain ⟨z, rfl, _⟩ := h
    rfl
  obtain ⟨z, rfl, zne, zb, q⟩ := h
  have nd := scW.nd
  refine ⟨_, pss_cons (ps_set (i := 1) nd rfl (Or.inr rfl) pe_str)
    (pss_cons (ps_set (i := 2) nd rfl (Or.inl rfl) (pv 0))
    (C8.pss_cut (ps_if (pt_cmpR op_in_sign (pe_ix ix_str (pv 0) pe_int (fun _ _ => rfl)) pe_str (by rfl)) (pss_one (ps_set (i := 2) nd rfl (Or.inl rfl) (pe_slice sl_str (pv 0) (po_some pe_int) po_none))) pss_nil)
    (pss_cons (ps_if (PW.pt (pw_and (pt_cmpR op_ne (pv 2) pe_str (nomark _)) (pw_and1 (pt_cmpR op_eq (pe_callB call_len (by rfl) B.len PySem.boot_len (pa_cons
        (pe_lc (own := [("sign", 3)]) (g := gName 3) rfl nd (pi_str (pv 2)) (blkOk_by (N := NW) (sc := defScope sW) (by decide +kernel)) (fun _ _ _ _ _ => pg_name (i := 3) nd rfl (Or.inl rfl))
          (fun _ _ _ _ _ => pts_one (pt_cmpR op_notIn_sign (pv 3) pe_str (by rfl))) (fun _ _ _ _ _ => pv 3)) pa_nil)) pe_int (nomark _)))))
      (pss_cons (ps_if (PW.pt (pw_or (pt_cmpR op_eq (pe_ix ix_str (pv 0) pe_int (fun _ _ => rfl)) pe_str (nomark _)) (pw_or (pt_cmpR op_gt (pe_callB call_len (by rfl) B.len PySem.boot_len (pa_cons (pv 2) pa_nil)) pe_int (nomark _))
            (pw_or1 (PW.pt (pw_and (pt_cmpR op_eq (pe_ix ix_str (pv 2) pe_int (fun _ _ => rfl)) pe_str (nomark _)) (pw_and1 (pt_cmpR op_ne (pv 0) pe_str (nomark _)))))))))
          (pss_one (ps_ret pe_non)) pss_nil)
        (pss_one (ps_ret (pe_callTy call_int_str (by rfl) B.int (by decide +kernel) (pa_cons (pv 0) pa_nil))))) pss_nil)
    (pss_cons (ps_if (pt_cmpR op_gt (pe_callB call_len (by rfl) B.len PySem.boot_len (pa_cons
        (pe_lc (own := [("sign", 3)]) (g := gName 3) rfl nd (pi_str (pv 0)) (blkOk_by (N := NW) (sc := defScope sW) (by decide +kernel)) (fun _ _ _ _ _ => pg_name (i := 3) nd rfl (Or.inl rfl))
          (fun _ _ _ _ _ => pts_one (pt_cmpR op_notIn_sign (pv 3) (pv 1) (by rfl))) (fun _ _ _ _ _ => pv 3)) pa_nil)) pe_int (nomark _)) (pss_one (ps_ret pe_non)) pss_nil)
    (pss_one (ps_ret (pv 0))))))), ?_⟩
  have e48 : tl ("0" : Str) = [48] := by decide +kernel
  have e0 : tl ("" : Str) = [] := by decide +kernel
  have epm : ("-+" : Str).cps.toList = [45, 43] := by decide +kernel
  obtain ⟨c0, r0, hx⟩ : ∃ c r, tl z = c :: r := by
    cases h : tl z with
    | nil => exact absurd h zne
    | cons c r => exact ⟨c, r, rfl⟩
  have ea : atI z.cps.toList 0 = some c0 := by
    show atI (tl z) 0 = some c0
    rw [hx]; exact at0 _ _
  refine ⟨_, rfl, ?_⟩
  refine ⟨fun σ H' => ∃ d : Str, σ = [some (.str z), some (.str "abcdefghijklmnopqrstuvwxyzABCDEFGHIJKLMNOPQRSTUVWXYZ0123456789-+*<=?!."), some (.str d), none] ∧ tl d = body (tl z) ∧ d.length ≤ big ∧ H' = H, ?_, ?_⟩
  · refine ⟨_, rfl, z, _, c0, rfl, rfl, big_line zb, ea, c0, _, rfl, rfl, _, rfl, ?_⟩
    rw [epm]
    by_cases h : c0 = 45 ∨ c0 = 43
    · have e : decide (c0 ∈ [45, 43]) = true := decide_eq_true (by simpa using h)
      rw [e]
      have eb : body (tl z) = (tl z).drop 1 := by rw [hx]; simp [body, h]
      exact ⟨_, rfl, _, rfl, z, rfl, big_line zb, _, rfl, by rw [eb]; exact tl_cut1 z 1, Nat.le_trans (cutS_length z _ _) zb, rfl⟩
    · have e : decide (c0 ∈ [45, 43]) = false := decide_eq_false (by simpa using h)
      rw [e]
      have eb : body (tl z) = tl z := by rw [hx]; simp [body, h]
      exact ⟨z, rfl, eb.symm, zb, rfl⟩
  rintro σ H' ⟨d, rfl, ed, ldb, eH⟩
  subst eH
  have ld := len_tl d
  rw [ed] at ld
  have dsgn : ∀ c, decide (c ∈ ("0123456789" : Str).cps.toList) = isDig c := fun c => rfl
  have ssgn : ∀ c, decide (c ∈ ("abcdefghijklmnopqrstuvwxyzABCDEFGHIJKLMNOPQRSTUVWXYZ0123456789-+*<=?!." : Str).cps.toList) = isSym c := fun c => rfl
  -- what is left when it is no numeral
  have symW : ∀ H2 : Hp, Sm No H' H2 → madeNum (tl z) = false → tSeq (tIfS (tTest (tOp (rI0 fun i j => V.bl (decide (j < i))) (tCB (fun xs H Q => ∃ x n, xs = [x] ∧ LenV K x H n ∧ Q (V.int (n : Nat)) H) (tCons
      (tLc (iStr (tVar 0)) (gName 3) (tTest (tOp (fun x y H Q => ∃ c z, x = V.str ⟨#[c]⟩ ∧ y = V.str z ∧ Q (V.bl !decide (c ∈ z.cps.toList)) H) (tVar 3) (tVar 1))) (tVar 3) [3]) tNil)) (tC (.int 0)))) (tRet (tC .non)) tNext) (tRet (tVar 0))
      { nx := fun _ H' => Q .non H', rt := Q } [some (.str z), some (.str "abcdefghijklmnopqrstuvwxyzABCDEFGHIJKLMNOPQRSTUVWXYZ0123456789-+*<=?!."), some (.str d), none] H2 := by
    intro H2 s2 hm
    have dV := due_sym hm zne
    refine ⟨_, rfl, z, rfl, fun D nD => ?_⟩
    refine lc_bad (σ := [some (V.str z), some (V.str "abcdefghijklmnopqrstuvwxyzABCDEFGHIJKLMNOPQRSTUVWXYZ0123456789-+*<=?!."), some (V.str d), none]) (te := tVar 1) (y := "abcdefghijklmnopqrstuvwxyzABCDEFGHIJKLMNOPQRSTUVWXYZ0123456789-+*<=?!.") nD rfl zb ssgn (fun v H Q q => ⟨_, rfl, q⟩) fun acc H3 s3 hD la => ?_
    refine ⟨_, _, rfl, .inl ⟨_, SqL.of hD, rfl⟩, _, _, rfl, rfl, _, rfl, ?_⟩
    have r := q H3 (s2.trans s3)
    by_cases ha : (tl z).all isSym = true
    · have := (filt0 isSym (tl z)).mpr ha
      rw [decide_eq_false (by omega)]
      rw [dV, if_pos ha, mkS_tl] at r
      exact ⟨_, rfl, r⟩
    · have : acc.length ≠ 0 := fun e => ha ((filt0 isSym (tl z)).mp (by omega))
      rw [decide_eq_true (by omega)]
      rw [dV, if_neg ha] at r
      exact r
  refine ⟨_, rfl, rfl, _, rfl, ?_⟩
  rw [dec_str_tl, ed, e0]
  by_cases hb : body (tl z) = []
  · rw [decide_eq_true hb]
    exact symW H' (Sm.refl _ _) (by unfold madeNum; rw [hb]; rfl)
  rw [decide_eq_false hb]
  refine ⟨_, rfl, d, rfl, fun D nD => ?_⟩
  refine lc_bad (σ := [some (V.str z), some (V.str "abcdefghijklmnopqrstuvwxyzABCDEFGHIJKLMNOPQRSTUVWXYZ0123456789-+*<=?!."), some (V.str d), none]) (te := tC (.str "0123456789")) (y := "0123456789") nD rfl ldb dsgn (fun v H Q q => q) fun acc H3 s3 hD la => ?_
  refine ⟨_, _, rfl, .inl ⟨_, SqL.of hD, rfl⟩, rfl, _, rfl, ?_⟩
  have made : madeNum (tl z) = (body (tl z)).all isDig := by
    unfold madeNum
    cases hy : body (tl z) with
    | nil => exact absurd hy hb
    | cons a r => rfl
  rw [ed] at la
  by_cases ha : (body (tl z)).all isDig = true
  · have z0 := (filt0 isDig (body (tl z))).mpr ha
    rw [z0] at la
    rw [la, decide_eq_true (show V.int ((0 : Nat) : Int) = V.int 0 from rfl)]
    have hm : madeNum (tl z) = true := by rw [made]; exact ha
    have dV := due_num hm
    have g0 : isIntL (tl z) = ((tl z).head? != some 43 && (decide ((noMinus (tl z)).length ≤ 40) && (tl z == [48] || (noMinus (tl z)).head? != some 48))) := by
      unfold isIntL; rw [hm]; rfl
    have dl := big_line ldb
    refine ⟨_, rfl, z, _, c0, rfl, rfl, big_line zb, ea, rfl, _, rfl, ?_⟩
    rw [one_dec c0 43 "+" (by decide +kernel)]
    by_cases h43 : c0 = 43
    · have g : isIntL (tl z) = false := by rw [g0, hx, h43]; rfl
      rw [decide_eq_true h43]
      have r := q H3 s3
      rw [dV, g] at r
      exact r
    have hh : (tl z).head? ≠ some 43 := by rw [hx]; intro e; exact h43 (Option.some.inj e)
    have en := made_body hm hh
    rw [en] at g0
    rw [decide_eq_false h43]
    refine ⟨_, rfl, _, _, rfl, ⟨dl, rfl⟩, _, _, rfl, rfl, _, rfl, ?_⟩
    rw [ld]
    by_cases h40 : (body (tl z)).length ≤ 40
    · rw [decide_eq_false (by omega)]
      obtain ⟨d0, dr, hbd⟩ : ∃ c r, body (tl z) = c :: r := by
        cases h : body (tl z) with
        | nil => exact absurd h hb
        | cons c r => exact ⟨c, r, rfl⟩
      have ead : atI d.cps.toList 0 = some d0 := by
        show atI (tl d) 0 = some d0
        rw [ed, hbd]; exact at0 _ _
      have fin : isIntL (tl z) = true → tCB (fun xs H Q => ∃ x n, xs = [V.str x] ∧ intText? x = some n ∧ x.length ≤ 640 ∧ Q (.int n) H) (tCons (tVar 0) tNil) [some (V.str z), some (.str "abcdefghijklmnopqrstuvwxyzABCDEFGHIJKLMNOPQRSTUVWXYZ0123456789-+*<=?!."), some (V.str d), none] H3 Q := fun hi => by
        obtain ⟨⟨n, hn⟩, hl⟩ := isInt_text hi
        refine ⟨_, rfl, z, n, rfl, hn, hl, ?_⟩
        have r := q H3 s3
        rw [dV, hi, if_pos rfl, mkS_tl, hn] at r
        exact r
      have n1 : ((tl z).head? != some 43) = true := by rw [bne_iff_ne]; exact hh
      refine ⟨_, rfl, d, _, d0, rfl, rfl, dl, ead, rfl, _, rfl, ?_⟩
      rw [one_dec d0 48 "0" e48]
      by_cases h0 : d0 = 48
      · rw [decide_eq_true h0]
        refine ⟨_, rfl, rfl, _, rfl, ?_⟩
        rw [dec_str_tl, e48]
        by_cases hw : tl z = [48]
        · rw [decide_eq_true hw]
          exact fin (by rw [hw]; decide)
        · rw [decide_eq_false hw]
          have n2 : (tl z == [48]) = false := beq_eq_false_iff_ne.mpr hw
          have g : isIntL (tl z) = false := by
            rw [g0, n1, n2, hbd, h0]
            simp
          have r := q H3 s3
          rw [dV, g] at r
          exact r
      · rw [decide_eq_false h0]
        exact fin (by rw [g0, n1, decide_eq_true h40, hbd]; simp [h0])
    · rw [decide_eq_true (by omega)]
      have g : isIntL (tl z) = false := by
        rw [g0, decide_eq_false h40]
        simp
      have r := q H3 s3
      rw [dV, g] at r
      exact r
  · have n0 : acc.length ≠ 0 := fun e => ha ((filt0 isDig (body (tl z))).mp (by omega))
    rw [decide_eq_false (fun e => n0 (by have := V.int.inj e; omega))]
    exact symW H3 s3 (by rw [made]; exact Bool.eq_false_iff.mpr ha)
end
end My
namespace My
open PySem PySem.Spec PyProof.Rows L2 TL
/-! ### the pieces of a text -/
abbrev Tk := List Nat × Nat
def scan : Nat → List Nat → Nat → List Tk
  | 0, _, _ => []
  | _ + 1, [], _ => []
  | n + 1, c :: r, i =>
    if c = 59 then scan n ((c :: r).dropWhile noLine) (i + ((c :: r).takeWhile noLine).length)
    else if c = 40 then ([40], i) :: scan n r (i + 1)
    else if c = 41 then ([41], i) :: scan n r (i + 1)
    else if c = 32 ∨ c = 10 then scan n r (i + 1)
    else ((c :: r).takeWhile noEnd, i) :: scan n ((c :: r).dropWhile noEnd) (i + ((c :: r).takeWhile noEnd).length)
theorem not_end {c : Nat} (n1 : c ≠ 59) (n2 : c ≠ 40) (n3 : c ≠ 41) (n4 : ¬ (c = 32 ∨ c = 10)) : noEnd c = true := by
  unfold noEnd
  cases h : isEnd c with
  | false => rfl
  | true =>
    have := (isEnd_iff c).mp h
    omega
theorem dw_le (p : Nat → Bool) (l : List Nat) : (l.dropWhile p).length ≤ l.length := by
  have := congrArg List.length (List.takeWhile_append_dropWhile (p := p) (l := l))
  rw [List.length_append] at this
  omega
theorem dw_lt {p : Nat → Bool} {c : Nat} {r : List Nat} (h : p c = true) : ((c :: r).dropWhile p).length ≤ r.length := by
  rw [List.dropWhile_cons, h]
  exact dw_le p r
theorem scan_fuel : ∀ (n m : Nat) (l : List Nat) (i : Nat), l.length < n → l.length < m → scan n l i = scan m l i
  | 0, _, _, _, h, _ => by cases h
  | _ + 1, 0, _, _, _, h => by cases h
  | n + 1, m + 1, [], i, _, _ => rfl
  | n + 1, m + 1, c :: r, i, h1, h2 => by
    have a1 : r.length < n := Nat.lt_of_succ_lt_succ h1
    have a2 : r.length < m := Nat.lt_of_succ_lt_succ h2
    unfold scan
    by_cases e1 : c = 59
    · rw [if_pos e1, if_pos e1]
      have q := dw_lt (p := noLine) (r := r) (show noLine c = true by rw [e1]; rfl)
      exact scan_fuel n m _ _ (by omega) (by omega)
    rw [if_neg e1, if_neg e1]
    by_cases e2 : c = 40
    · rw [if_pos e2, if_pos e2, scan_fuel n m _ _ a1 a2]
    rw [if_neg e2, if_neg e2]
    by_cases e3 : c = 41
    · rw [if_pos e3, if_pos e3, scan_fuel n m _ _ a1 a2]
    rw [if_neg e3, if_neg e3]
    by_cases e4 : c = 32 ∨ c = 10
    · rw [if_pos e4, if_pos e4, scan_fuel n m _ _ a1 a2]
    rw [if_neg e4, if_neg e4]
    have q := dw_lt (p := noEnd) (r := r) (not_end e1 e2 e3 e4)
    rw [scan_fuel n m _ _ (by omega) (by omega)]
def S (l : List Nat) (i : Nat) : List Tk := scan (l.length + 1) l i
theorem S_nil (i : Nat) : S [] i = [] := rfl
theorem S_rem (r : List Nat) (i : Nat) : S (59 :: r) i = S (r.dropWhile noLine) (i + 1 + (r.takeWhile noLine).length) := by
  have d : (59 :: r).dropWhile noLine = r.dropWhile noLine := rfl
  have t : (59 :: r).takeWhile noLine = 59 :: r.takeWhile noLine := rfl
  unfold S
  rw [scan, if_pos rfl, d, t, List.length_cons, List.length_cons, Nat.add_comm (r.takeWhile noLine).length 1, ← Nat.add_assoc]
  have := dw_le noLine r
  exact scan_fuel _ _ _ _ (by omega) (by omega)
theorem S_open (r : List Nat) (i : Nat) : S (40 :: r) i = ([40], i) :: S r (i + 1) := by
  unfold S
  rw [scan, if_neg (by decide), if_pos rfl]; rfl
theorem S_close (r : List Nat) (i : Nat) : S (41 :: r) i = ([41], i) :: S r (i + 1) := by
  unfold S
  rw [scan, if_neg (by decide), if_neg (by decide), if_pos rfl]; rfl
theorem S_blank {c : Nat} (r : List Nat) (i : Nat) (h : c = 32 ∨ c = 10) : S (c :: r) i = S r (i + 1) := by
  unfold S
  rw [scan, if_neg (by omega), if_neg (by omega), if_neg (by omega), if_pos h]; rfl
theorem S_word {c : Nat} (r : List Nat) (i : Nat) (h : noEnd c = true) : S (c :: r) i = (c :: r.takeWhile noEnd, i) :: S (r.dropWhile noEnd) (i + 1 + (r.takeWhile noEnd).length) := by
  have z : ¬ (c = 32 ∨ c = 10 ∨ c = 40 ∨ c = 41 ∨ c = 59) := fun z => by
    have e := (isEnd_iff c).mpr z
    unfold noEnd at h
    rw [e] at h; cases h
  have d : (c :: r).dropWhile noEnd = r.dropWhile noEnd := by rw [List.dropWhile_cons, h]; rfl
  have t : (c :: r).takeWhile noEnd = c :: r.takeWhile noEnd := by rw [List.takeWhile_cons, h]; rfl
  unfold S
  rw [scan, if_neg (by omega), if_neg (by omega), if_neg (by omega), if_neg (by omega), d, t, List.length_cons, List.length_cons, Nat.add_comm (r.takeWhile noEnd).length 1, ← Nat.add_assoc]
  have := dw_le noEnd r
  rw [scan_fuel (r.length + 1) ((r.dropWhile noEnd).length + 1) _ _ (by omega) (by omega)]
/-! ### the data out of the pieces -/
def tRun (len : Nat) : List Tk → List (List Dat) → Out
  | [], st => (match st with
    | [ds] => .ok ds
    | _ => .ends len)
  | (w, i) :: r, st =>
    if w = [40] then (if 60 < st.length then .deep else tRun len r ([] :: st))
    else if w = [41] then (match st with
      | t :: p :: rest => tRun len r ((p ++ [.lst t]) :: rest)
      | _ => .close i)
    else match wordV w, st with
      | some v, t :: rest => tRun len r ((t ++ [datOf v]) :: rest)
      | _, _ => .word i
theorem span_len (p : Nat → Bool) (l : List Nat) : (l.takeWhile p).length + (l.dropWhile p).length = l.length := by
  have := congrArg List.length (List.takeWhile_append_dropWhile (p := p) (l := l))
  rw [List.length_append] at this
  exact this
theorem run_scan : ∀ (n : Nat) (l : List Nat) (i : Nat) (st : List (List Dat)), l.length < n → run n l i st = tRun (i + l.length) (scan n l i) st
  | 0, _, _, _, h => by cases h
  | n + 1, [], i, st, _ => by
    unfold run scan tRun
    rfl
  | n + 1, c :: r, i, st, h => by
    have a1 : r.length < n := Nat.lt_of_succ_lt_succ h
    have l1 : i + (c :: r).length = i + 1 + r.length := by rw [List.length_cons]; omega
    unfold run scan
    by_cases e1 : c = 59
    · rw [if_pos e1, if_pos e1]
      have q := dw_lt (p := noLine) (r := r) (show noLine c = true by rw [e1]; rfl)
      rw [run_scan n _ _ st (by omega)]
      have sl := span_len noLine (c :: r)
      rw [Nat.add_assoc, sl]
    rw [if_neg e1, if_neg e1]
    by_cases e2 : c = 40
    · rw [if_pos e2, if_pos e2, l1]
      unfold tRun
      rw [if_pos rfl]
      split
      · rfl
      · exact run_scan n r (i + 1) _ a1
    rw [if_neg e2, if_neg e2]
    by_cases e3 : c = 41
    · rw [if_pos e3, if_pos e3, l1]
      unfold tRun
      rw [if_neg (by decide), if_pos rfl]
      cases st with
      | nil => rfl
      | cons t s2 => cases s2 with
        | nil => rfl
        | cons p rest => exact run_scan n r (i + 1) _ a1
    rw [if_neg e3, if_neg e3]
    by_cases e4 : c = 32 ∨ c = 10
    · rw [if_pos e4, if_pos e4, l1]
      exact run_scan n r (i + 1) _ a1
    rw [if_neg e4, if_neg e4]
    have ne := not_end e1 e2 e3 e4
    have q := dw_lt (p := noEnd) (r := r) ne
    have sl := span_len noEnd (c :: r)
    have tw : (c :: r).takeWhile noEnd = c :: r.takeWhile noEnd := by rw [List.takeWhile_cons, ne]; rfl
    have w1 : (c :: r).takeWhile noEnd ≠ [40] := fun e => by rw [tw] at e; exact e2 (List.cons.inj e).1
    have w2 : (c :: r).takeWhile noEnd ≠ [41] := fun e => by rw [tw] at e; exact e3 (List.cons.inj e).1
    show _ = tRun _ (_ :: _) st
    unfold tRun
    rw [if_neg w1, if_neg w2]
    cases hv : wordV ((c :: r).takeWhile noEnd) with
    | none => cases st <;> rfl
    | some v => cases st with
      | nil => rfl
      | cons t rest =>
        show run n _ _ _ = tRun _ _ _
        rw [run_scan n _ _ _ (by omega), Nat.add_assoc, sl]
end My
namespace My
open PySem PySem.Spec PyProof.Rows L2 TL
/-- the pieces still to come, at the place k: a word that has begun at s, or a remark -/
def Fu (l : List Nat) (st : Option Nat) (rem : Bool) (k : Nat) : List Tk := match st with
  | some s => ((l.drop s).take (k - s) ++ (l.drop k).takeWhile noEnd, s) :: S ((l.drop k).dropWhile noEnd) (k + ((l.drop k).takeWhile noEnd).length)
  | none => if rem = true then S ((l.drop k).dropWhile noLine) (k + ((l.drop k).takeWhile noLine).length) else S (l.drop k) k
theorem dropK {l : List Nat} {k c : Nat} (h : l[k]? = some c) : l.drop k = c :: l.drop (k + 1) := by
  obtain ⟨lt, e⟩ := List.getElem?_eq_some_iff.mp h
  rw [List.drop_eq_getElem_cons lt, e]
theorem takeK {l : List Nat} {s k c : Nat} (h : l[k]? = some c) (hs : s ≤ k) : (l.drop s).take (k + 1 - s) = (l.drop s).take (k - s) ++ [c] := by
  rw [show k + 1 - s = (k - s) + 1 by omega]
  refine take_more ?_
  rw [List.getElem?_drop, show s + (k - s) = k by omega]
  exact h
section
variable {l : List Nat} {k c s : Nat}
/-- a word ends -/
theorem Fu_end (h : l[k]? = some c) (e : noEnd c = false) : Fu l (some s) false k = ((l.drop s).take (k - s), s) :: Fu l none false k := by
  have d := dropK h
  unfold Fu
  rw [d]
  simp only [List.takeWhile_cons, List.dropWhile_cons, e, Bool.false_eq_true, if_false, List.append_nil, List.length_nil, Nat.add_zero]
theorem Fu_stop (h : l.length ≤ k) : Fu l (some s) false k = ((l.drop s).take (k - s), s) :: Fu l none false k := by
  have d : l.drop k = [] := List.drop_of_length_le h
  unfold Fu
  rw [d]
  simp only [List.takeWhile_nil, List.dropWhile_nil, Bool.false_eq_true, if_false, List.append_nil, List.length_nil, Nat.add_zero]
theorem Fu_fin {rem : Bool} (h : l.length ≤ k) : Fu l none rem k = [] := by
  have d : l.drop k = [] := List.drop_of_length_le h
  unfold Fu
  rw [d]
  cases rem <;> rfl
theorem Fu_begin (h : l[k]? = some c) (e : noEnd c = true) : Fu l none false k = Fu l (some k) false (k + 1) := by
  have d := dropK h
  unfold Fu
  simp only [Bool.false_eq_true, if_false]
  rw [d, S_word _ _ e, show k + 1 - k = 1 by omega]
  rfl
theorem Fu_on (h : l[k]? = some c) (e : noEnd c = true) (hs : s ≤ k) : Fu l (some s) false k = Fu l (some s) false (k + 1) := by
  have d := dropK h
  unfold Fu
  simp only []
  rw [takeK h hs, d]
  simp only [List.takeWhile_cons, List.dropWhile_cons, e, if_true, List.append_assoc, List.length_cons]
  rw [show k + ((l.drop (k + 1)).takeWhile noEnd).length.succ = k + 1 + ((l.drop (k + 1)).takeWhile noEnd).length by omega]
  rfl
theorem Fu_rem (h : l[k]? = some 59) : Fu l none false k = Fu l none true (k + 1) := by
  have d := dropK h
  unfold Fu
  simp only [Bool.false_eq_true, if_false, if_true]
  rw [d, S_rem]
theorem Fu_blank (h : l[k]? = some c) (e : c = 32 ∨ c = 10) : Fu l none false k = Fu l none false (k + 1) := by
  have d := dropK h
  unfold Fu
  simp only [Bool.false_eq_true, if_false]
  rw [d, S_blank _ _ e]
theorem Fu_open (h : l[k]? = some 40) : Fu l none false k = ([40], k) :: Fu l none false (k + 1) := by
  have d := dropK h
  unfold Fu
  simp only [Bool.false_eq_true, if_false]
  rw [d, S_open]
theorem Fu_close (h : l[k]? = some 41) : Fu l none false k = ([41], k) :: Fu l none false (k + 1) := by
  have d := dropK h
  unfold Fu
  simp only [Bool.false_eq_true, if_false]
  rw [d, S_close]
theorem Fu_line (h : l[k]? = some 10) : Fu l none true k = Fu l none false (k + 1) := by
  have d := dropK h
  unfold Fu
  simp only [Bool.false_eq_true, if_false, if_true]
  rw [d]
  have e : noLine 10 = false := rfl
  simp only [List.takeWhile_cons, List.dropWhile_cons, e, Bool.false_eq_true, if_false, List.length_nil, Nat.add_zero]
  exact S_blank _ _ (.inr rfl)
theorem Fu_far (h : l[k]? = some c) (n : c ≠ 10) : Fu l none true k = Fu l none true (k + 1) := by
  have d := dropK h
  have e : noLine c = true := by unfold noLine; rw [decide_eq_false n]; rfl
  unfold Fu
  simp only [if_true]
  rw [d]
  simp only [List.takeWhile_cons, List.dropWhile_cons, e, if_true, List.length_cons]
  rw [show k + ((l.drop (k + 1)).takeWhile noLine).length.succ = k + 1 + ((l.drop (k + 1)).takeWhile noLine).length by omega]
end
/-- the list of pieces in the heap -/
inductive TkL (H : Hp) : List V → List Tk → Prop
  | nil : TkL H [] []
  | cons {p : Addr} {w : List Nat} {i : Nat} {vs : List V} {ts : List Tk} (h : H p = some (.tup [.str (mkS w), .int (i : Nat)])) (r : TkL H vs ts) : TkL H (.ref p :: vs) ((w, i) :: ts)
theorem TkL.keep {H H' : Hp} (k : ∀ p xs, H p = some (.tup xs) → H' p = some (.tup xs)) : ∀ {vs : List V} {ts : List Tk}, TkL H vs ts → TkL H' vs ts
  | _, _, .nil => .nil
  | _, _, .cons h r => .cons (k _ _ h) (TkL.keep k r)
theorem TkL.snoc {H : Hp} {p : Addr} {w : List Nat} {i : Nat} (h : H p = some (.tup [.str (mkS w), .int (i : Nat)])) : ∀ {vs : List V} {ts : List Tk}, TkL H vs ts → TkL H (vs ++ [.ref p]) (ts ++ [(w, i)])
  | _, _, .nil => .cons h .nil
  | _, _, .cons g r => .cons g (TkL.snoc h r)
theorem Sm.tup {H H' : Hp} {a : Addr} {xs : List V} (e : Sm No H H') (h : H a = some (.tup xs)) : H' a = some (.tup xs) := e.keep _ _ (fun z => z) rfl h
/-- pieces so far, at T -/
def TI (l : List Nat) (H0 : Hp) (T : Addr) (m : Nat) (G : List Tk) (H : Hp) : Prop := ∃ vs ts, H T = some (.lst vs) ∧ TkL H vs ts ∧ Sm No H0 H ∧ vs.length ≤ m ∧ ts ++ G = S l 0
theorem TI.more {l : List Nat} {H0 H : Hp} {T p : Addr} {m : Nat} {G : List Tk} {w : List Nat} {i : Nat} (t : TI l H0 T m ((w, i) :: G) H) (hT0 : H0 T = none) (hp : H p = none) :
    ∃ vs, upd H p (.tup [.str (mkS w), .int (i : Nat)]) T = some (.lst vs) ∧ vs.length ≤ m ∧ TI l H0 T (m + 1) G (upd (upd H p (.tup [.str (mkS w), .int (i : Nat)])) T (.lst (vs ++ [.ref p]))) := by
  obtain ⟨vs, ts, h1, h2, h3, h4, h5⟩ := t
  have ne : T ≠ p := fun e => by rw [e, hp] at h1; cases h1
  have g1 : upd H p (.tup [.str (mkS w), .int (i : Nat)]) T = some (.lst vs) := by rw [upd_ne ne]; exact h1
  refine ⟨vs, g1, h4, vs ++ [.ref p], ts ++ [(w, i)], upd_same, ?_, ?_, by rw [List.length_append]; exact Nat.add_le_add_right h4 1, by rw [List.append_assoc]; exact h5⟩
  · refine TkL.snoc (by rw [upd_ne ne.symm, upd_same]) (h2.keep fun q xs e => ?_)
    have q1 : q ≠ T := fun z => by rw [z, h1] at e; cases e
    have q2 : q ≠ p := fun z => by rw [z, hp] at e; cases e
    rw [upd_ne q1, upd_ne q2]
    exact e
  · exact (h3.trans (Sm.new hp)).mut hT0 (ntbl_l g1)
theorem TI.le {l : List Nat} {H0 H : Hp} {T : Addr} {m m' : Nat} {G : List Tk} (t : TI l H0 T m G H) (h : m ≤ m') : TI l H0 T m' G H := by
  obtain ⟨vs, ts, h1, h2, h3, h4, h5⟩ := t
  exact ⟨vs, ts, h1, h2, h3, Nat.le_trans h4 h, h5⟩
end My
namespace My
open PySem PySem.Spec PyProof.Rows L2 TL
abbrev sTok : Stmt := top 30
abbrev NK : List Str := ["text", "tokens", "start", "remark", "k", "sign"]
def stV : Option Nat → V
  | none => .non
  | some s => .int (s : Nat)
def spTok : Sp := fun vs H Q _ => ∃ z : Str, vs = [.str z] ∧ z.length ≤ big ∧ ∀ (T : Addr) (vs : List V) (H' : Hp), Sm No H H' → H T = none → H' T = some (.lst vs) → TkL H' vs (S (tl z) 0) → vs.length ≤ 3 * big → Q (.ref T) H'
section
variable {P : Program} {w : World} {K : PySem.W.Frag} {mg : Str → Option Value} {base : Heap}
theorem scTok : FnScope NK ["text"] (defScope sTok) := ⟨rfl, rfl, rfl, by decide +kernel, rfl, by decide +kernel, by decide +kernel⟩
theorem ok_tok {f : Addr} {fd : FuncData} (F : Fun K "_law_tokens" "_law_tokens" sTok f fd) (B : Blt mg) : FnOk P w K mg base CX0 1 f fd ["text"] spTok := by
  refine F.ok scTok (fun vs H Q E h => ?_) (fun cdv A outer s H vs Q E hr h => ?_)
  · obtain ⟨z, rfl, _⟩ := h
    rfl
  obtain ⟨z, rfl, zb, q⟩ := h
  have nd := scTok.nd
  refine ⟨_, pss_cons (ps_set (i := 1) nd rfl (Or.inl rfl) (pe_lst pa_nil))
    (pss_cons (ps_set (i := 2) nd rfl (Or.inl rfl) pe_non)
    (pss_cons (ps_set (i := 3) nd rfl (Or.inl rfl) pe_bl)
    (pss_cons (ps_for PassesOwn.never rfl (pi_range1 (by rfl) B.range (pa_cons (pe_op op_add (pe_callB call_len (by rfl) B.len PySem.boot_len (pa_cons (pv 0) pa_nil)) pe_int) pa_nil)) (pg_name (i := 4) nd rfl (Or.inl rfl))
      (pss_cons (ps_set (i := 5) nd rfl (Or.inl rfl) (pe_ix ix_str (pe_op op_add_str (pv 0) pe_str) (pv 4) (fun _ _ => rfl)))
      (pss_one (ps_if (PW.pt (pw_or (pt_val (pv 3)) (pw_or1 (pt_cmpR op_in_sign (pv 5) pe_str (by rfl)))))
        (C8.pss_cut (ps_if (pt_cmpR op_notN (pv 2) pe_non (nomark _))
            (pss_cons (ps_expr (pe_bm PySem.F.plainAttrs_list PySem.F.slot_list_append PySem.F.type_list_append mt_append (pv 1) (pa_cons (pe_tup (pa_cons (pe_slice sl_str (pv 0) (po_some (pv 2)) (po_some (pv 4))) (pa_cons (pv 2) pa_nil))) pa_nil)))
            (pss_one (ps_set (i := 2) nd rfl (Or.inl rfl) pe_non))) pss_nil)
          (pss_one (ps_if (pt_cmpR op_eq (pv 5) pe_str (nomark _)) (pss_one (ps_set (i := 3) nd rfl (Or.inl rfl) pe_bl))
            (pss_one (ps_if (pt_cmpR op_eq (pv 5) pe_str (nomark _)) (pss_one (ps_set (i := 3) nd rfl (Or.inl rfl) pe_bl))
              (pss_one (ps_if (PW.pt (pw_and (pt_cmpR op_in_sign (pv 5) pe_str (by rfl)) (pw_and1 (pt_not (pt_val (pv 3))))))
                (pss_one (ps_expr (pe_bm PySem.F.plainAttrs_list PySem.F.slot_list_append PySem.F.type_list_append mt_append (pv 1) (pa_cons (pe_tup (pa_cons (pv 5) (pa_cons (pv 4) pa_nil))) pa_nil)))) pss_nil)))))))
        (pss_one (ps_if (pt_cmpR op_isN (pv 2) pe_non (nomark _)) (pss_one (ps_set (i := 2) nd rfl (Or.inl rfl) (pv 4))) pss_nil))))))
    (pss_one (ps_ret (pv 1)))))), ?_⟩
  have lz := len_tl z
  refine ⟨by show 0 ≤ sizeLine; decide, fun T hT => ?_⟩
  have bigz : z.length ≤ 1000000 := zb
  have app1 : ∀ {i : Nat} {σ : L2.St} {H' : Hp} {w : List Nat} {j m : Nat} {G : List Tk} {R : Hp → Prop}, TI (tl z) H T m ((w, j) :: G) H' → m ≤ 2 * big + 10 → (∀ H'', TI (tl z) H T (m + 1) G H'' → R H'') →
      ∃ vs0, H' T = some (.lst vs0) ∧ ∀ p, H' p = none → ∃ vs, upd H' p (.tup [.str (mkS w), .int (j : Nat)]) T = some (.lst vs) ∧ vs.length < sizeLine ∧ R (upd (upd H' p (.tup [.str (mkS w), .int (j : Nat)])) T (.lst (vs ++ [.ref p]))) := by
    intro i σ H' w j m G R t hm r
    obtain ⟨vs0, ts0, h1, _⟩ := id t
    refine ⟨vs0, h1, fun p hp => ?_⟩
    obtain ⟨vs, g1, g2, g3⟩ := t.more hT hp
    exact ⟨vs, g1, Nat.lt_of_le_of_lt (Nat.le_trans g2 hm) (by decide), r _ g3⟩
  refine ⟨_, rfl, _, _, rfl, ⟨big_line zb, rfl⟩, _, _, rfl, rfl, _, rfl, by omega, by omega, for_range (lo := 0) (fun i σ H' => ∃ (st : Option Nat) (rem : Bool) (v4 v5 : Option V), σ = [some (.str z), some (.ref T), some (stV st), some (.bl rem), v4, v5] ∧
      (st ≠ none → rem = false) ∧ (∀ s, st = some s → s ≤ i) ∧ ((tl z).length < i → st = none) ∧ TI (tl z) H T (2 * i) (Fu (tl z) st rem i) H') ⟨none, false, none, none, rfl, fun _ => rfl, (fun s e => by cases e), fun _ => rfl, [], [], upd_same, .nil, Sm.new hT, Nat.le_refl _, rfl⟩ ?_ ?_⟩
  · rintro i σ H' hi ⟨st, rem, v4, v5, rfl, i1, i2, i3, ti⟩
    have hi' : i ≤ (tl z).length := by omega
    have a0 : (0 : Int) + (i : Int) = (i : Int) := Int.zero_add _
    rw [a0]
    have e10 : tl ("\n" : Str) = [10] := by decide +kernel
    obtain ⟨c, hc, hcn⟩ : ∃ c, (tl z ++ [10])[i]? = some c ∧ ((tl z)[i]? = some c ∨ (i = (tl z).length ∧ c = 10)) := by
      by_cases h : i < (tl z).length
      · exact ⟨(tl z)[i], by rw [List.getElem?_append_left h, List.getElem?_eq_getElem h], .inl (List.getElem?_eq_getElem h)⟩
      · have e : i = (tl z).length := by omega
        exact ⟨10, by rw [e, List.getElem?_append_right (Nat.le_refl _)]; simp, .inr ⟨e, rfl⟩⟩
    have ec : atI (z ++ ("\n" : Str)).cps.toList ((i : Nat) : Int) = some c := by
      have e : (z ++ ("\n" : Str)).cps.toList = tl z ++ [10] := by
        show tl (z ++ ("\n" : Str)) = _
        rw [tl_append, e10]
      rw [e]
      exact atI_nat hc
    have l1 : ("\n" : Str).length = 1 := by decide +kernel
    have lt : z.length + ("\n" : Str).length ≤ sizeLine := by rw [l1]; exact Nat.le_trans (Nat.add_le_add_right zb 1) (by decide)
    refine ⟨_, rfl, z, "\n", rfl, rfl, lt, _, rfl, _, _, c, rfl, rfl, by rw [app_len]; exact lt, ec, ?_⟩
    have sEndEq : ∀ c, decide (c ∈ (" \n();" : Str).cps.toList) = isEnd c := fun c => rfl
    have epar : ("()" : Str).cps.toList = [40, 41] := by decide +kernel
    have nl10 : ∀ {Q : VK} {σ0 : L2.St} {H0 : Hp}, True := fun {_ _ _} => trivial
    have d10 := one_dec c 10 "\n" e10
    have d59 := one_dec c 59 ";" (by decide +kernel)
    refine ⟨_, rfl, rem, rfl, ?_⟩
    cases hrem : rem with
    | true =>
      have hst : st = none := by
        cases st with
        | none => rfl
        | some s => exact absurd (i1 (by simp)) (by rw [hrem]; simp)
      subst hst hrem
      have far : c ≠ 10 → Fu (tl z) none true i = Fu (tl z) none true (i + 1) := fun n => by
        rcases hcn with h | ⟨_, h⟩
        · exact Fu_far h n
        · exact absurd h n
      refine ⟨fun σ H'' => σ = [some (.str z), some (.ref T), some .non, some (.bl true), some (.int (i : Nat)), some (.str ⟨#[c]⟩)] ∧ H'' = H', ⟨_, rfl, rfl, _, rfl, rfl, rfl⟩, ?_⟩
      rintro σ H'' ⟨rfl, rfl⟩
      refine ⟨_, rfl, rfl, _, rfl, ?_⟩
      rw [d10]
      by_cases h10 : c = 10
      · rw [decide_eq_true h10]
        refine ⟨none, false, _, _, rfl, fun _ => rfl, (fun s e => by cases e), fun _ => rfl, ?_⟩
        have e : Fu (tl z) none true i = Fu (tl z) none false (i + 1) := by
          rcases hcn with h | ⟨h, _⟩
          · exact Fu_line (by rw [h, h10])
          · rw [Fu_fin (by omega), Fu_fin (by omega)]
        rw [← e]
        exact ti.le (by omega)
      rw [decide_eq_false h10]
      refine ⟨_, rfl, rfl, _, rfl, ?_⟩
      have stay : TI (tl z) H T (2 * (i + 1)) (Fu (tl z) none true (i + 1)) H'' := by
        rw [← far h10]
        exact ti.le (by omega)
      rw [d59]
      by_cases h59 : c = 59
      · rw [decide_eq_true h59]
        exact ⟨none, true, _, _, rfl, (fun n => absurd rfl n), (fun s e => by cases e), fun _ => rfl, stay⟩
      rw [decide_eq_false h59]
      refine ⟨_, rfl, c, _, rfl, rfl, _, rfl, ?_⟩
      refine ite2 (fun _ => ⟨_, rfl, true, rfl, ⟨none, true, _, _, rfl, (fun n => absurd rfl n), (fun s e => by cases e), fun _ => rfl, stay⟩⟩) fun _ => ?_
      exact ⟨none, true, _, _, rfl, (fun n => absurd rfl n), (fun s e => by cases e), fun _ => rfl, stay⟩
    | false =>
      subst hrem
      refine ⟨_, rfl, c, _, rfl, rfl, _, rfl, ?_⟩
      rw [sEndEq]
      cases he : isEnd c with
      | true =>
        have ne : noEnd c = false := by unfold noEnd; rw [he]; rfl
        refine ⟨fun σ H'' => σ = [some (.str z), some (.ref T), some .non, some (.bl false), some (.int (i : Nat)), some (.str ⟨#[c]⟩)] ∧ TI (tl z) H T (2 * i + 1) (Fu (tl z) none false i) H'', ?_, ?_⟩
        · refine ⟨_, rfl, rfl, _, rfl, ?_⟩
          cases st with
          | none => exact ⟨rfl, ti.le (by omega)⟩
          | some s =>
            have hs := i2 s rfl
            have e : Fu (tl z) (some s) false i = (((tl z).drop s).take (i - s), s) :: Fu (tl z) none false i := by
              rcases hcn with h | ⟨h, _⟩
              · exact Fu_end h ne
              · exact Fu_stop (by omega)
            rw [e] at ti
            obtain ⟨vs0, hv0, ap⟩ := app1 (i := i) (σ := []) ti (by have : big = 1000000 := rfl; omega) (R := fun H'' => TI (tl z) H T (2 * i + 1) (Fu (tl z) none false i) H'') fun H'' t => t
            have ecut : cutS z (some ((s : Nat) : Int)) (some ((i : Nat) : Int)) = mkS (((tl z).drop s).take (i - s)) := by
              rw [← tl_cut2 z s i hs (by omega), mkS_tl]
            refine ⟨_, rfl, .inl ⟨rfl, _, SqL.of hv0⟩, _, rfl, _, rfl, _, rfl, _, rfl, _, rfl, z, rfl, big_line zb, _, rfl, by show 2 ≤ sizeLine; decide, fun p hp => ?_⟩
            rw [ecut]
            obtain ⟨vs, g1, g2, g3⟩ := ap p hp
            exact ⟨T, vs, .ref p, rfl, rfl, g1, g2, rfl, g3⟩
        · rintro σ H'' ⟨rfl, ti2⟩
          refine ⟨_, rfl, rfl, _, rfl, ?_⟩
          rw [d10]
          have toBlank : c = 32 ∨ c = 10 → TI (tl z) H T (2 * (i + 1)) (Fu (tl z) none false (i + 1)) H'' := fun hb => by
            have e : Fu (tl z) none false i = Fu (tl z) none false (i + 1) := by
              rcases hcn with h | ⟨h, _⟩
              · exact Fu_blank h hb
              · rw [Fu_fin (by omega), Fu_fin (by omega)]
            rw [← e]
            exact ti2.le (by omega)
          by_cases h10 : c = 10
          · rw [decide_eq_true h10]
            exact ⟨none, false, _, _, rfl, fun _ => rfl, (fun s e => by cases e), fun _ => rfl, toBlank (.inr h10)⟩
          rw [decide_eq_false h10]
          have hc' : (tl z)[i]? = some c := by
            rcases hcn with h | ⟨_, h⟩
            · exact h
            · exact absurd h h10
          refine ⟨_, rfl, rfl, _, rfl, ?_⟩
          rw [d59]
          by_cases h59 : c = 59
          · rw [decide_eq_true h59]
            refine ⟨none, true, _, _, rfl, (fun n => absurd rfl n), (fun s e => by cases e), fun _ => rfl, ?_⟩
            rw [← Fu_rem (by rw [hc', h59])]
            exact ti2.le (by omega)
          rw [decide_eq_false h59]
          refine ⟨_, rfl, c, _, rfl, rfl, _, rfl, ?_⟩
          rw [epar]
          by_cases hp : c = 40 ∨ c = 41
          · have e : decide (c ∈ [40, 41]) = true := decide_eq_true (by simpa using hp)
            rw [e]
            have ef : Fu (tl z) none false i = ([c], i) :: Fu (tl z) none false (i + 1) := by
              rcases hp with h | h <;> subst h
              · exact Fu_open hc'
              · exact Fu_close hc'
            rw [ef] at ti2
            obtain ⟨vs0, hv0, ap⟩ := app1 (i := i) (σ := []) ti2 (by have : big = 1000000 := rfl; omega) (R := fun H'' => TI (tl z) H T (2 * (i + 1)) (Fu (tl z) none false (i + 1)) H'') fun H'' t => t.le (by omega)
            refine ⟨_, rfl, false, rfl, _, rfl, .inl ⟨rfl, _, SqL.of hv0⟩, _, rfl, _, rfl, by show 2 ≤ sizeLine; decide, fun p hp => ?_⟩
            obtain ⟨vs, g1, g2, g3⟩ := ap p hp
            exact ⟨T, vs, .ref p, rfl, rfl, g1, g2, none, false, _, _, rfl, fun _ => rfl, (fun s e => by cases e), fun _ => rfl, g3⟩
          · have e : decide (c ∈ [40, 41]) = false := decide_eq_false (by simpa using hp)
            rw [e]
            have hb : c = 32 ∨ c = 10 := by
              have := (isEnd_iff c).mp he
              omega
            exact ⟨none, false, _, _, rfl, fun _ => rfl, (fun s e => by cases e), fun _ => rfl, toBlank hb⟩
      | false =>
        have ne : noEnd c = true := by unfold noEnd; rw [he]; rfl
        have hc' : (tl z)[i]? = some c := by
          rcases hcn with h | ⟨_, h⟩
          · exact h
          · rw [h] at ne; cases ne
        refine ⟨_, rfl, rfl, _, rfl, ?_⟩
        cases st with
        | none =>
          refine ⟨_, rfl, ⟨some i, false, _, _, rfl, fun _ => rfl, (fun s e => by cases e; omega), (fun h => absurd h (by have lt := (List.getElem?_eq_some_iff.mp hc').1; omega)), ?_⟩⟩
          rw [← Fu_begin hc' ne]
          exact ti.le (by omega)
        | some s =>
          refine ⟨some s, false, _, _, rfl, fun _ => rfl, (fun s' e => by cases e; have := i2 s rfl; omega), (fun h => absurd h (by have lt := (List.getElem?_eq_some_iff.mp hc').1; omega)), ?_⟩
          rw [← Fu_on hc' ne (i2 s rfl)]
          exact ti.le (by omega)
  · rintro σ H' ⟨st, rem, v4, v5, rfl, i1, i2, i3, vs, ts, t1, t2, t3, t4, t5⟩
    have e : st = none := i3 (by omega)
    subst e
    rw [Fu_fin (by omega), List.append_nil] at t5
    rw [t5] at t2
    exact ⟨_, rfl, q T vs H' t3 hT t1 t2 (by have : big = 1000000 := rfl; omega)⟩
end
end My
namespace My
open PySem PySem.Spec PyProof.Rows L2 TL
/-! ### open lists that stand apart from one another -/
def Ops (C : Addr → Prop) (H : Hp) : List Addr → List (List Dat) → Prop
  | [], [] => True
  | a :: as, ds :: dss => (∃ vs, H a = some (.lst vs) ∧ RepL C H vs ds) ∧ ¬ C a ∧ a ∉ as ∧ Ops C H as dss
  | _, _ => False
theorem Ops.len {C : Addr → Prop} {H : Hp} : ∀ {as : List Addr} {st : List (List Dat)}, Ops C H as st → as.length = st.length
  | [], [], _ => rfl
  | _ :: _, _ :: _, h => congrArg (· + 1) (Ops.len h.2.2.2)
  | [], _ :: _, h => h.elim
  | _ :: _, [], h => h.elim
theorem Ops.out {C : Addr → Prop} {H : Hp} : ∀ {as : List Addr} {st : List (List Dat)}, Ops C H as st → ∀ a ∈ as, ¬ C a
  | [], [], _, _, h => by cases h
  | a :: as, ds :: dss, ⟨_, h3, _, h5⟩, b, hb => by
    rcases List.mem_cons.mp hb with e | e
    · rw [e]; exact h3
    · exact Ops.out h5 b e
  | [], _ :: _, h, _, _ => h.elim
  | _ :: _, [], h, _, _ => h.elim
theorem Ops.there {C : Addr → Prop} {H : Hp} : ∀ {as : List Addr} {st : List (List Dat)}, Ops C H as st → ∀ a ∈ as, ∃ vs, H a = some (.lst vs)
  | [], [], _, _, h => by cases h
  | a :: as, ds :: dss, ⟨⟨vs, h1, _⟩, _, _, h5⟩, b, hb => by
    rcases List.mem_cons.mp hb with e | e
    · exact ⟨vs, by rw [e]; exact h1⟩
    · exact Ops.there h5 b e
  | [], _ :: _, h, _, _ => h.elim
  | _ :: _, [], h, _, _ => h.elim
theorem Ops.keep {C C' : Addr → Prop} {H H' : Hp} (s : ∀ a, C a → C' a) (k : ∀ b xs, (C b ∨ C' b) → H b = some (.lst xs) → C b → H' b = some (.lst xs)) : ∀ {as : List Addr} {st : List (List Dat)}, Ops C H as st →
    (∀ a ∈ as, ∀ xs, H a = some (.lst xs) → H' a = some (.lst xs)) → (∀ a ∈ as, ¬ C' a) → Ops C' H' as st
  | [], [], _, _, _ => trivial
  | a :: as, ds :: dss, ⟨⟨vs, h1, h2⟩, h3, h4, h5⟩, ho, hn =>
    ⟨⟨vs, ho a List.mem_cons_self _ h1, h2.keep (fun b xs hc e => k b xs (.inl hc) e hc) s⟩, hn a List.mem_cons_self, h4,
      Ops.keep s k h5 (fun b hb => ho b (List.mem_cons_of_mem _ hb)) fun b hb => hn b (List.mem_cons_of_mem _ hb)⟩
  | [], _ :: _, h, _, _ => h.elim
  | _ :: _, [], h, _, _ => h.elim
/-- the reading of the pieces: those ahead are read -/
structure DC (len : Nat) (ts : List Tk) (out : Out) (H0 : Hp) (L T : Addr) (tv : List V) (k : Nat) (H : Hp) (st : List (List Dat)) (as : List Addr) (C : Addr → Prop) : Prop where
  run : tRun len (ts.drop k) st = out
  ops : Ops C H as st
  rows : H L = some (.lst (as.reverse.map V.ref))
  nC : ¬ C L
  nL : L ∉ as
  new : ∀ a, (C a ∨ a ∈ as ∨ a = L) → H0 a = none
  sm : Sm No H0 H
  bd : ∀ a ∈ as, ∀ vs, H a = some (.lst vs) → vs.length ≤ k
  deep : st.length ≤ 61
  cn : ∀ a, C a → H a ≠ none
  tl : H T = some (.lst tv)
  tk : TkL H tv ts
  nT : T ∉ as ∧ T ≠ L
section
variable {len : Nat} {ts : List Tk} {out : Out} {H0 H : Hp} {L T : Addr} {tv : List V} {k : Nat} {st : List (List Dat)} {as : List Addr} {C : Addr → Prop}
/-- what no list of ours is touched by -/
theorem DC.calm {H' : Hp} (d : DC len ts out H0 L T tv k H st as C) (s : Sm No H H') : DC len ts out H0 L T tv k H' st as C :=
  ⟨d.run, d.ops.keep (fun _ z => z) (fun b xs _ e _ => s.lst0 e) (fun a _ xs e => s.lst0 e) d.ops.out, s.lst0 d.rows, d.nC, d.nL, d.new, d.sm.trans s,
    fun a ha vs e => by
      obtain ⟨xs, h⟩ := d.ops.there a ha
      rw [s.lst0 h] at e
      cases e
      exact d.bd a ha _ h, d.deep, fun a ha z => d.cn a ha (s.dom a z), s.lst0 d.tl, d.tk.keep fun p xs e => s.tup e, d.nT⟩
theorem DC.split (d : DC len ts out H0 L T tv k H st as C) (ne : st ≠ []) : ∃ a bs t rest vs, as = a :: bs ∧ st = t :: rest ∧ H L = some (.lst (bs.reverse.map V.ref ++ [.ref a])) ∧ H a = some (.lst vs) ∧ vs.length ≤ k ∧ bs.length = rest.length ∧ bs.length ≤ 60 := by
  have l := d.ops.len
  cases as with
  | nil =>
    cases st with
    | nil => exact absurd rfl ne
    | cons t r => cases l
  | cons a bs =>
    cases st with
    | nil => cases l
    | cons t r =>
      obtain ⟨vs, hv⟩ := d.ops.there a List.mem_cons_self
      have e : (a :: bs).reverse.map V.ref = bs.reverse.map V.ref ++ [.ref a] := by rw [List.reverse_cons, List.map_append]; rfl
      have dp := d.deep
      have ll : bs.length = r.length := Nat.succ.inj l
      have dp2 : r.length + 1 ≤ 61 := dp
      exact ⟨a, bs, t, r, vs, rfl, rfl, by rw [← e]; exact d.rows, hv, d.bd a List.mem_cons_self _ hv, ll, by omega⟩
/-- a datum is appended to the innermost list -/
theorem DC.app {a : Addr} {bs : List Addr} {t : List Dat} {rest : List (List Dat)} {vs : List V} {v : V} {x : Dat} {w : List Nat} {i : Nat} (d : DC len ts out H0 L T tv k H (t :: rest) (a :: bs) C) (hv : H a = some (.lst vs)) (r : Rep C H v x)
    (hk : ts.drop k = (w, i) :: ts.drop (k + 1)) (step : tRun len (ts.drop k) (t :: rest) = tRun len (ts.drop (k + 1)) ((t ++ [x]) :: rest)) : DC len ts out H0 L T tv (k + 1) (upd H a (.lst (vs ++ [v]))) ((t ++ [x]) :: rest) (a :: bs) C := by
  obtain ⟨⟨us, h1, h2⟩, h3, h4, h5⟩ := d.ops
  rw [hv] at h1
  cases h1
  have na : H0 a = none := d.new a (.inr (.inl List.mem_cons_self))
  have nLa : L ≠ a := fun e => d.nL (by rw [e]; exact List.mem_cons_self)
  have nTa : T ≠ a := fun e => d.nT.1 (by rw [e]; exact List.mem_cons_self)
  have kp : Kp C H (upd H a (.lst (vs ++ [v]))) := fun b xs hc e => by
    rw [upd_ne (show b ≠ a from fun z => h3 (z ▸ hc))]; exact e
  refine ⟨by rw [← step]; exact d.run, ⟨⟨vs ++ [v], upd_same, (h2.keep kp fun _ z => z).snoc (r.keep kp fun _ z => z)⟩, h3, h4, ?_⟩, by rw [upd_ne nLa]; exact d.rows, d.nC, d.nL, d.new, d.sm.mut na (ntbl_l hv), ?_, d.deep, ?_, by rw [upd_ne nTa]; exact d.tl, ?_, d.nT⟩
  · refine h5.keep (fun _ z => z) (fun b xs _ e hc => kp b xs hc e) (fun b hb xs e => ?_) h5.out
    rw [upd_ne (show b ≠ a from fun z => h4 (z ▸ hb))]; exact e
  · intro b hb ys e
    by_cases z : b = a
    · subst z
      rw [upd_same] at e
      cases e
      have := d.bd b hb _ hv
      rw [List.length_append]
      exact Nat.add_le_add_right this 1
    · rw [upd_ne z] at e
      exact Nat.le_succ_of_le (d.bd b hb _ e)
  · intro b hb z
    exact d.cn b hb (upd_dom b z)
  · refine d.tk.keep fun p xs e => ?_
    rw [upd_ne (fun z => by rw [z, hv] at e; cases e)]; exact e
/-- a list is begun -/
theorem DC.beg {n : Addr} {w : List Nat} {i : Nat} (d : DC len ts out H0 L T tv k H st as C) (ne : st ≠ []) (hn : H n = none) (hk : ts.drop k = (w, i) :: ts.drop (k + 1)) (l60 : ¬ 60 < st.length)
    (step : tRun len (ts.drop k) st = tRun len (ts.drop (k + 1)) ([] :: st)) : DC len ts out H0 L T tv (k + 1) (upd (upd H n (.lst [])) L (.lst (as.reverse.map V.ref ++ [.ref n]))) ([] :: st) (n :: as) C := by
  have nLn : L ≠ n := fun e => by rw [← e, d.rows] at hn; cases hn
  have nTn : T ≠ n := fun e => by rw [← e, d.tl] at hn; cases hn
  have nas : n ∉ as := fun h => by
    obtain ⟨xs, e⟩ := d.ops.there n h
    rw [hn] at e; cases e
  have nCn : ¬ C n := fun h => d.cn n h hn
  have at_ : ∀ b xs, b ≠ L → H b = some (.lst xs) → upd (upd H n (.lst [])) L (.lst (as.reverse.map V.ref ++ [.ref n])) b = some (.lst xs) := fun b xs h1 e => by
    rw [upd_ne h1, upd_ne (fun z => by rw [z, hn] at e; cases e)]; exact e
  have hL1 : upd H n (.lst []) L = some (.lst (as.reverse.map V.ref)) := by rw [upd_ne nLn]; exact d.rows
  refine ⟨by rw [← step]; exact d.run, ⟨⟨[], by rw [upd_ne nLn.symm, upd_same], .nil⟩, nCn, nas, ?_⟩, ?_, d.nC, ?_, ?_, (d.sm.trans (Sm.new hn)).mut (d.new L (.inr (.inr rfl))) (ntbl_l hL1), ?_, by show st.length + 1 ≤ 61; omega, ?_, at_ T _ d.nT.2 d.tl, ?_, ⟨?_, d.nT.2⟩⟩
  · refine d.ops.keep (fun _ z => z) (fun b xs _ e hc => at_ b xs (fun z => d.nC (z ▸ hc)) e) (fun b hb xs e => at_ b xs (fun z => d.nL (z ▸ hb)) e) d.ops.out
  · rw [upd_same, List.reverse_cons, List.map_append]; rfl
  · intro h
    rcases List.mem_cons.mp h with e | e
    · exact nLn e
    · exact d.nL e
  · intro b hb
    rcases hb with h | h | h
    · exact d.new b (.inl h)
    · rcases List.mem_cons.mp h with e | e
      · rw [e]; exact d.sm.dom n hn
      · exact d.new b (.inr (.inl e))
    · exact d.new b (.inr (.inr h))
  · intro b hb ys e
    rcases List.mem_cons.mp hb with z | z
    · rw [z, upd_ne nLn.symm, upd_same] at e
      cases e
      exact Nat.zero_le _
    · obtain ⟨xs, hx⟩ := d.ops.there b z
      rw [at_ b xs (fun y => d.nL (y ▸ z)) hx] at e
      cases e
      exact Nat.le_succ_of_le (d.bd b z _ hx)
  · intro b hb z
    exact d.cn b hb (upd_dom b (upd_dom b z))
  · refine d.tk.keep fun p xs e => ?_
    rw [upd_ne (fun z => by rw [z, d.rows] at e; cases e), upd_ne (fun z => by rw [z, hn] at e; cases e)]; exact e
  · intro h
    rcases List.mem_cons.mp h with e | e
    · exact nTn e
    · exact d.nT.1 e
/-- the innermost list is closed -/
theorem DC.cls {a b : Addr} {bs : List Addr} {t p : List Dat} {rest : List (List Dat)} {us : List V} {w : List Nat} {i : Nat} (d : DC len ts out H0 L T tv k H (t :: p :: rest) (a :: b :: bs) C) (hu : H b = some (.lst us))
    (hk : ts.drop k = (w, i) :: ts.drop (k + 1)) (step : tRun len (ts.drop k) (t :: p :: rest) = tRun len (ts.drop (k + 1)) ((p ++ [.lst t]) :: rest)) :
    DC len ts out H0 L T tv (k + 1) (upd (upd H L (.lst ((b :: bs).reverse.map V.ref))) b (.lst (us ++ [.ref a]))) ((p ++ [.lst t]) :: rest) (b :: bs) (fun x => C x ∨ x = a) := by
  obtain ⟨⟨vs, h1, h2⟩, h3, h4, ⟨us', g1, g2⟩, g3, g4, g5⟩ := d.ops
  rw [hu] at g1
  cases g1
  have nb : H0 b = none := d.new b (.inr (.inl (List.mem_cons_of_mem _ List.mem_cons_self)))
  have nLb : L ≠ b := fun e => d.nL (by rw [e]; exact List.mem_cons_of_mem _ List.mem_cons_self)
  have nLa : L ≠ a := fun e => d.nL (by rw [e]; exact List.mem_cons_self)
  have nTb : T ≠ b := fun e => d.nT.1 (by rw [e]; exact List.mem_cons_of_mem _ List.mem_cons_self)
  have nab : a ≠ b := fun e => h4 (by rw [e]; exact List.mem_cons_self)
  have at_ : ∀ x xs, x ≠ L → x ≠ b → H x = some (.lst xs) → upd (upd H L (.lst ((b :: bs).reverse.map V.ref))) b (.lst (us ++ [.ref a])) x = some (.lst xs) := fun x xs n1 n2 e => by
    rw [upd_ne n2, upd_ne n1]; exact e
  have kp : Kp C H (upd (upd H L (.lst ((b :: bs).reverse.map V.ref))) b (.lst (us ++ [.ref a]))) := fun x xs hc e => at_ x xs (fun z => d.nC (z ▸ hc)) (fun z => g3 (z ▸ hc)) e
  have s : ∀ x, C x → C x ∨ x = a := fun _ z => .inl z
  have outs : ∀ x ∈ b :: bs, ¬ (C x ∨ x = a) := fun x hx z => by
    rcases z with z | z
    · exact d.ops.out x (List.mem_cons_of_mem _ hx) z
    · exact h4 (by rw [← z]; exact hx)
  have hL1 : upd H L (.lst ((b :: bs).reverse.map V.ref)) b = some (.lst us) := by rw [upd_ne nLb.symm]; exact hu
  refine ⟨by rw [← step]; exact d.run, ⟨⟨us ++ [.ref a], upd_same, (g2.keep kp s).snoc (.lst (.inr rfl) (at_ a vs nLa.symm nab h1) (h2.keep kp s))⟩, outs b List.mem_cons_self, g4, ?_⟩, ?_, ?_, ?_, ?_, (d.sm.mut (d.new L (.inr (.inr rfl))) (ntbl_l d.rows)).mut nb (ntbl_l hL1), ?_, ?_, ?_, at_ T _ d.nT.2 nTb d.tl, ?_, ⟨fun h => d.nT.1 (List.mem_cons_of_mem _ h), d.nT.2⟩⟩
  · refine g5.keep s (fun x xs _ e hc => kp x xs hc e) (fun x hx xs e => at_ x xs (fun z => d.nL (z ▸ List.mem_cons_of_mem _ (List.mem_cons_of_mem _ hx))) (fun z => g4 (z ▸ hx)) e) fun x hx => outs x (List.mem_cons_of_mem _ hx)
  · rw [upd_ne nLb, upd_same]
  · exact fun z => z.elim d.nC nLa
  · exact fun h => d.nL (List.mem_cons_of_mem _ h)
  · intro x hx
    rcases hx with (h | h) | h | h
    · exact d.new x (.inl h)
    · exact d.new x (.inr (.inl (by rw [h]; exact List.mem_cons_self)))
    · exact d.new x (.inr (.inl (List.mem_cons_of_mem _ h)))
    · exact d.new x (.inr (.inr h))
  · intro x hx ys e
    by_cases z : x = b
    · subst z
      rw [upd_same] at e
      cases e
      have := d.bd x (List.mem_cons_of_mem _ hx) _ hu
      rw [List.length_append]
      exact Nat.add_le_add_right this 1
    · rw [upd_ne z, upd_ne (fun y => d.nL (by rw [← y]; exact List.mem_cons_of_mem _ hx))] at e
      exact Nat.le_succ_of_le (d.bd x (List.mem_cons_of_mem _ hx) _ e)
  · have := d.deep
    have h : rest.length + 2 ≤ 61 := this
    show rest.length + 1 ≤ 61
    omega
  · intro x hx z
    have z2 := upd_dom x (upd_dom x z)
    rcases hx with h | h
    · exact d.cn x h z2
    · rw [h, h1] at z2; cases z2
  · refine d.tk.keep fun p xs e => ?_
    rw [upd_ne (fun z => by rw [z, hu] at e; cases e), upd_ne (fun z => by rw [z, d.rows] at e; cases e)]; exact e
end
end My
namespace My
open PySem PySem.Spec PyProof.Rows L2 TL
theorem scan_ok : ∀ (n : Nat) (l : List Nat) (i : Nat) (w : List Nat) (j : Nat), (w, j) ∈ scan n l i → w ≠ [] ∧ w.length ≤ l.length
  | 0, _, _, _, _, h => by cases h
  | _ + 1, [], _, _, _, h => by cases h
  | n + 1, c :: r, i, w, j, h => by
    unfold scan at h
    by_cases e1 : c = 59
    · rw [if_pos e1] at h
      have q := scan_ok n _ _ _ _ h
      exact ⟨q.1, Nat.le_trans q.2 (dw_le _ _)⟩
    rw [if_neg e1] at h
    have up : ∀ {a : Nat}, (w, j) ∈ scan n r a → w ≠ [] ∧ w.length ≤ (c :: r).length := fun h => by
      have q := scan_ok n _ _ _ _ h
      exact ⟨q.1, Nat.le_succ_of_le q.2⟩
    by_cases e2 : c = 40
    · rw [if_pos e2] at h
      rcases List.mem_cons.mp h with e | e
      · cases e; exact ⟨by simp, by simp⟩
      · exact up e
    rw [if_neg e2] at h
    by_cases e3 : c = 41
    · rw [if_pos e3] at h
      rcases List.mem_cons.mp h with e | e
      · cases e; exact ⟨by simp, by simp⟩
      · exact up e
    rw [if_neg e3] at h
    by_cases e4 : c = 32 ∨ c = 10
    · rw [if_pos e4] at h
      exact up h
    rw [if_neg e4] at h
    have ne := not_end e1 e2 e3 e4
    rcases List.mem_cons.mp h with e | e
    · cases e
      refine ⟨?_, takeW_le _ _⟩
      rw [List.takeWhile_cons, ne]
      simp
    · have q := scan_ok n _ _ _ _ e
      exact ⟨q.1, Nat.le_trans q.2 (dw_le _ _)⟩
theorem tl_mkS (w : List Nat) : tl (mkS w) = w := by simp [tl, mkS]
theorem TkL.get {H : Hp} : ∀ {vs : List V} {ts : List Tk} {i : Nat} {x : V}, TkL H vs ts → vs[i]? = some x → ∃ p w j, x = .ref p ∧ H p = some (.tup [.str (mkS w), .int (j : Nat)]) ∧ ts[i]? = some (w, j)
  | _, _, _, _, .nil, h => by simp at h
  | _, _, 0, x, .cons (p := p) (w := w) (i := j) g r, h => ⟨p, w, j, by simpa using h.symm, g, rfl⟩
  | _, _, i + 1, x, .cons g r, h => by
    obtain ⟨p, w, j, e1, e2, e3⟩ := TkL.get (i := i) r (by simpa using h)
    exact ⟨p, w, j, e1, e2, by simpa using e3⟩
theorem tR40 {len : Nat} {w : List Nat} {i : Nat} {r : List Tk} {st : List (List Dat)} (h : w = [40]) : tRun len ((w, i) :: r) st = if 60 < st.length then .deep else tRun len r ([] :: st) := by
  conv => lhs; unfold tRun
  rw [if_pos h]
theorem tR41 {len : Nat} {w : List Nat} {i : Nat} {r : List Tk} {st : List (List Dat)} (n : w ≠ [40]) (h : w = [41]) : tRun len ((w, i) :: r) st = match st with
    | t :: p :: rest => tRun len r ((p ++ [.lst t]) :: rest)
    | _ => .close i := by
  conv => lhs; unfold tRun
  refine (if_neg n).trans ((if_pos h).trans ?_)
  cases st with
  | nil => rfl
  | cons t s2 => cases s2 <;> rfl
theorem tRw {len : Nat} {w : List Nat} {i : Nat} {r : List Tk} {st : List (List Dat)} (n : w ≠ [40]) (m : w ≠ [41]) : tRun len ((w, i) :: r) st = match wordV w, st with
    | some v, t :: rest => tRun len r ((t ++ [datOf v]) :: rest)
    | _, _ => .word i := by
  conv => lhs; unfold tRun
  refine (if_neg n).trans ((if_neg m).trans ?_)
  cases wordV w <;> cases st <;> rfl
abbrev sDue : Stmt := top 31
theorem drop_at' {α : Type} {l : List α} {k : Nat} {x : α} (h : l[k]? = some x) : l.drop k = x :: l.drop (k + 1) ∧ k < l.length := by
  obtain ⟨lt, e⟩ := List.getElem?_eq_some_iff.mp h
  exact ⟨by rw [List.drop_eq_getElem_cons lt, e], lt⟩
abbrev ND : List Str := ["text", "lists", "word", "at", "closed", "datum"]
section
variable {P : Program} {w : World} {K : PySem.W.Frag} {mg : Str → Option Value} {base : Heap}
theorem scDue : FnScope ND ["text"] (defScope sDue) := ⟨rfl, rfl, rfl, by decide +kernel, rfl, by decide +kernel, by decide +kernel⟩
theorem ok_due {f fT fW : Addr} {fd dT dW : FuncData} (F : Fun K "_law_due" "_law_due" sDue f fd) (B : Blt mg) (GT : Cal P w K mg base CX0 1 "_law_tokens" ["text"] spTok fT dT) (GW : Cal P w K mg base CX0 1 "_law_word" ["word"] spW fW dW) : FnOk P w K mg base CX0 2 f fd ["text"] (spOut []) := by
  refine F.ok scDue (fun vs H Q E h => ?_) (fun cdv A outer s H vs Q E hr h => ?_)
  · obtain ⟨z, rfl, _⟩ := h
    rfl
  obtain ⟨z, rfl, zb, _, q⟩ := h
  have nd := scDue.nd
  refine ⟨_, pss_cons (ps_set (i := 1) nd rfl (Or.inl rfl) (pe_lst (pa_cons (pe_lst pa_nil) pa_nil)))
    (pss_cons (ps_for PassesOwn.never rfl (pi_list (pe_call GT.ok hr rfl GT.g GT.k GT.b .nil pass0 (pa_cons (pv 0) pa_nil))) (pg_tup (by rfl) (pgs_cons (pg_name (i := 2) nd rfl (Or.inl rfl)) (pgs_cons (pg_name (i := 3) nd rfl (Or.inl rfl)) pgs_nil)))
      (pss_one (ps_if (pt_cmpR op_eq (pv 2) pe_str (nomark _))
        (pss_cons (ps_if (pt_cmpR op_gt (pe_callB call_len (by rfl) B.len PySem.boot_len (pa_cons (pv 1) pa_nil)) pe_int (nomark _)) (pss_one (ps_ret (pe_lst (pa_cons pe_str (pa_cons pe_int pa_nil))))) pss_nil)
          (pss_one (ps_expr (pe_bm PySem.F.plainAttrs_list PySem.F.slot_list_append PySem.F.type_list_append mt_append (pv 1) (pa_cons (pe_lst pa_nil) pa_nil)))))
        (pss_one (ps_if (pt_cmpR op_eq (pv 2) pe_str (nomark _))
          (pss_cons (ps_if (pt_cmpR op_eq (pe_callB call_len (by rfl) B.len PySem.boot_len (pa_cons (pv 1) pa_nil)) pe_int (nomark _)) (pss_one (ps_ret (pe_lst (pa_cons pe_str (pa_cons (pv 3) pa_nil))))) pss_nil)
            (pss_cons (ps_set (i := 4) nd rfl (Or.inl rfl) (pe_bm0 PySem.F.plainAttrs_list PySem.F.slot_list_pop PySem.F.type_list_pop mt_pop (pv 1)))
            (pss_one (ps_expr (pe_bm PySem.F.plainAttrs_list PySem.F.slot_list_append PySem.F.type_list_append mt_append (pe_ix ix_list (pv 1) (pe_un un_neg pe_int) (fun _ _ => rfl)) (pa_cons (pv 4) pa_nil))))))
          (pss_cons (ps_set (i := 5) nd rfl (Or.inl rfl) (pe_call GW.ok hr rfl GW.g GW.k GW.b .nil pass0 (pa_cons (pv 2) pa_nil)))
            (pss_cons (ps_if (pt_cmpR op_isN (pv 5) pe_non (nomark _)) (pss_one (ps_ret (pe_lst (pa_cons pe_str (pa_cons (pv 3) pa_nil))))) pss_nil)
            (pss_one (ps_expr (pe_bm PySem.F.plainAttrs_list PySem.F.slot_list_append PySem.F.type_list_append mt_append (pe_ix ix_list (pv 1) (pe_un un_neg pe_int) (fun _ _ => rfl)) (pa_cons (pv 5) pa_nil)))))))))))
    (pss_cons (ps_if (pt_cmpR op_gt (pe_callB call_len (by rfl) B.len PySem.boot_len (pa_cons (pv 1) pa_nil)) pe_int (nomark _)) (pss_one (ps_ret (pe_lst (pa_cons pe_str (pa_cons (pe_callB call_len (by rfl) B.len PySem.boot_len (pa_cons (pv 0) pa_nil)) pa_nil))))) pss_nil)
    (pss_one (ps_ret (pe_lst (pa_cons pe_str (pa_cons (pe_ix (r := rIxL K) ix_list (pv 1) pe_int (fun _ _ => rfl)) pa_nil))))))), ?_⟩
  have lz := len_tl z
  have eout : run (z.length + 1) (tl z) 0 [[]] = tRun (tl z).length (S (tl z) 0) [[]] := by
    rw [run_scan (z.length + 1) (tl z) 0 [[]] (by omega), Nat.zero_add, lz]; rfl
  generalize run (z.length + 1) (tl z) 0 [[]] = out at q eout
  refine ⟨by show 0 ≤ sizeLine; decide, fun D hD => ⟨by show 1 ≤ sizeLine; decide, fun L hL => ?_⟩⟩
  have hD1 : upd H D (.lst []) D = some (.lst []) := upd_same
  have nLD : L ≠ D := fun e => by rw [e, hD1] at hL; cases hL
  have hL0 : H L = none := upd_dom L hL
  have s01 : Sm No H (upd (upd H D (.lst [])) L (.lst [.ref D])) := (Sm.new hD).trans (Sm.new hL)
  have hD2 : upd (upd H D (.lst [])) L (.lst [.ref D]) D = some (.lst []) := by rw [upd_ne nLD.symm]; exact hD1
  have hL2 : upd (upd H D (.lst [])) L (.lst [.ref D]) L = some (.lst [.ref D]) := upd_same
  refine ⟨_, rfl, z, rfl, zb, fun T tv H2 s2 hT0 hT tk tlb => ?_⟩
  have nTD : T ≠ D := fun e => by rw [e, hD2] at hT0; cases hT0
  have nTL : T ≠ L := fun e => by rw [e, hL2] at hT0; cases hT0
  have start0 : DC (tl z).length (S (tl z) 0) out H L T tv 0 H2 [[]] [D] (fun _ => False) := by
    refine ⟨eout.symm, ⟨⟨[], s2.lst0 hD2, .nil⟩, fun z => z, by simp, trivial⟩, s2.lst0 hL2, fun z => z, by simpa using nLD, ?_, s01.trans s2, ?_, by decide, fun _ z => z.elim, hT, tk, ⟨by simpa using nTD, nTL⟩⟩
    · intro a ha
      rcases ha with h | h | h
      · exact h.elim
      · rw [List.mem_singleton.mp h]; exact hD
      · rw [h]; exact hL0
    · intro a ha vs hv
      rw [List.mem_singleton.mp ha, s2.lst0 hD2] at hv
      cases hv
      exact Nat.le_refl _
  have lts : ∀ {k : Nat} {x : V}, tv[k]? = some x → k < 3 * big := fun {k x} h => by
    have := (List.getElem?_eq_some_iff.mp h).1
    omega
  refine ⟨T, rfl, ⟨_, SqL.of hT⟩, for_list (xs := tv) (fun k σ H' => ∃ (v2 v3 v4 v5 : Option V) (st : List (List Dat)) (as : List Addr) (C : Addr → Prop), σ = [some (.str z), some (.ref L), v2, v3, v4, v5] ∧ st ≠ [] ∧ DC (tl z).length (S (tl z) 0) out H L T tv k H' st as C)
    ⟨none, none, none, none, _, _, _, rfl, by simp, start0⟩ (fun k σ H' _ ⟨v2, v3, v4, v5, st, as, C, _, _, d⟩ => SqL.of d.tl) ?_ ?_⟩
  · rintro k x σ H' hx ⟨v2, v3, v4, v5, st, as, C, rfl, ne, d⟩
    obtain ⟨p, w, j, ex, hp, htk⟩ := d.tk.get hx
    subst ex
    obtain ⟨hk1, hk2⟩ := drop_at' htk
    have rn := d.run
    rw [hk1] at rn
    have klt := lts hx
    obtain ⟨a, bs, t, rest, vs, ea, es, hrow, ha, lvs, lbs, l60⟩ := d.split ne
    refine ⟨p, _, rfl, SqT.of hp, rfl, _, _, rfl, _, _, rfl, rfl, ?_⟩
    subst ea es
    have e40 : tl ("(" : Str) = [40] := by decide +kernel
    have e41 : tl (")" : Str) = [41] := by decide +kernel
    have llen : (bs.reverse.map V.ref ++ [V.ref a]).length = (t :: rest).length := by simp [lbs]
    have ldeep : (t :: rest).length ≤ 61 := d.deep
    have nLa : L ≠ a := fun e => d.nL (by rw [e]; exact List.mem_cons_self)
    have big' : big = 1000000 := rfl
    have out2 : ∀ {o : Out} {nm : Str} {n : Nat} {H2 : Hp}, o = out → outDat o = .lst [.sym nm, .int (n : Nat)] → Sm No H H2 → 2 ≤ sizeLine ∧ ∀ p, H2 p = none → Q (.ref p) (upd H2 p (.lst [.str nm, .int (n : Nat)])) := fun {o nm n H2} e e2 sm =>
      ⟨by decide, fun p hp => q _ _ (sm.trans (Sm.new hp)) (by rw [← e, e2]; exact .lst trivial upd_same (.cons (.sym _) (.cons (.int _) .nil)))⟩
    refine ⟨_, rfl, rfl, _, rfl, ?_⟩
    rw [dec_str_tl, tl_mkS, e40]
    by_cases w40 : w = [40]
    · rw [decide_eq_true w40]
      refine ⟨_, rfl, _, _, rfl, .inl ⟨_, SqL.of hrow, rfl⟩, _, _, rfl, rfl, _, rfl, ?_⟩
      rw [llen]
      by_cases h60 : 60 < (t :: rest).length
      · rw [decide_eq_true (by omega)]
        exact out2 (nm := "deep") (n := 0) (by rw [← rn, tR40 w40, if_pos h60]) rfl d.sm
      rw [decide_eq_false (by omega)]
      refine ⟨_, rfl, .inl ⟨rfl, _, SqL.of hrow⟩, by show 0 ≤ sizeLine; decide, fun n hn => ?_⟩
      have nLn : L ≠ n := fun e => by rw [← e, d.rows] at hn; cases hn
      have dn := d.beg ne hn hk1 h60 (by rw [hk1, tR40 w40, if_neg h60])
      refine ⟨L, (a :: bs).reverse.map V.ref, .ref n, rfl, rfl, by rw [upd_ne nLn]; exact d.rows, ?_, ⟨_, _, _, _, _, _, _, rfl, by simp, dn⟩⟩
      rw [List.length_map, List.length_reverse, List.length_cons, lbs]
      exact small1000 (by have := ldeep; rw [List.length_cons] at this; omega)
    rw [decide_eq_false w40]
    refine ⟨_, rfl, rfl, _, rfl, ?_⟩
    rw [dec_str_tl, tl_mkS, e41]
    by_cases w41 : w = [41]
    · rw [decide_eq_true w41]
      refine ⟨_, rfl, _, _, rfl, .inl ⟨_, SqL.of hrow, rfl⟩, rfl, _, rfl, ?_⟩
      rw [llen]
      cases rest with
      | nil =>
        rw [decide_eq_true (show V.int ((([t] : List (List Dat)).length : Nat) : Int) = V.int 1 from rfl)]
        exact ⟨_, rfl, out2 (nm := "close") (n := j) (by rw [← rn, tR41 w40 w41]) rfl d.sm⟩
      | cons pp r2 =>
        cases bs with
        | nil => cases lbs
        | cons b bs2 =>
          have n1 : decide (V.int (((t :: pp :: r2).length : Nat) : Int) = V.int 1) = false := decide_eq_false fun z => by
            have z' := V.int.inj z
            rw [List.length_cons, List.length_cons] at z'
            omega
          rw [n1]
          refine ⟨_, rfl, .inl ⟨rfl, _, SqL.of hrow⟩, L, _, .ref a, rfl, rfl, hrow, by simp, ?_⟩
          have dl : ((b :: bs2).reverse.map V.ref ++ [V.ref a]).dropLast = (b :: bs2).reverse.map V.ref := List.dropLast_concat
          rw [dl]
          have mb : b ∈ a :: b :: bs2 := List.mem_cons_of_mem _ List.mem_cons_self
          obtain ⟨us, hu⟩ := d.ops.there b mb
          have nLb : L ≠ b := fun e => d.nL (by rw [e]; exact mb)
          have dn := d.cls hu hk1 (by rw [hk1, tR41 w40 w41])
          have hu2 : upd H' L (.lst ((b :: bs2).reverse.map V.ref)) b = some (.lst us) := by rw [upd_ne nLb.symm]; exact hu
          have hL2 : upd H' L (.lst ((b :: bs2).reverse.map V.ref)) L = some (.lst (bs2.reverse.map V.ref ++ [.ref b])) := by
            rw [upd_same, List.reverse_cons, List.map_append]; rfl
          have lus := d.bd b mb _ hu
          exact ⟨_, rfl, _, rfl, L, _, _, _, rfl, rfl, SqL.of hL2, atI_last _ _, .inl ⟨rfl, _, SqL.of hu2⟩, _, rfl, b, us, .ref a, rfl, rfl, hu2, Nat.lt_of_le_of_lt lus (Nat.lt_of_lt_of_le klt (by decide)), ⟨_, _, _, _, _, _, _, rfl, by simp, dn⟩⟩
    rw [decide_eq_false w41]
    have wok := scan_ok _ _ _ _ _ (List.mem_of_getElem? htk)
    refine ⟨_, rfl, mkS w, rfl, by rw [tl_mkS]; exact wok.1, by rw [len_tl, tl_mkS]; exact Nat.le_trans wok.2 (by rw [← lz]; exact zb), fun H3 s3 => ?_⟩
    rw [tl_mkS]
    have d3 := d.calm s3
    have ha3 := s3.lst0 ha
    have hrow3 := s3.lst0 hrow
    refine ⟨_, rfl, rfl, _, rfl, ?_⟩
    have e1 : tRun (tl z).length ((S (tl z) 0).drop k) (t :: rest) = match wordV w, (t :: rest) with
        | some v, t :: rest => tRun (tl z).length ((S (tl z) 0).drop (k + 1)) ((t ++ [datOf v]) :: rest)
        | _, _ => .word j := by rw [hk1, tRw w40 w41]
    cases hv : wordV w with
    | none =>
      have hd : dueV w = .non := by unfold dueV; rw [hv]; rfl
      rw [hd, decide_eq_true rfl]
      rw [hv] at e1
      exact ⟨_, rfl, out2 (nm := "word") (n := j) (by rw [← d.run, e1]) rfl d3.sm⟩
    | some v =>
      have hd : dueV w = v := by unfold dueV; rw [hv]; rfl
      have nv : v ≠ .non := by
        unfold wordV at hv
        split at hv
        · cases hv; exact fun z => nomatch z
        · split at hv
          · cases hv; exact fun z => nomatch z
          · cases hv
      rw [hd, decide_eq_false nv]
      rw [hv] at e1
      have dn := d3.app ha3 (wordV_rep hv C H3) hk1 e1
      exact ⟨_, rfl, _, rfl, L, _, _, _, rfl, rfl, SqL.of hrow3, atI_last _ _, .inl ⟨rfl, _, SqL.of ha3⟩, _, rfl, a, vs, v, rfl, rfl, ha3, Nat.lt_of_le_of_lt lvs (Nat.lt_of_lt_of_le klt (by decide)), ⟨_, _, _, _, _, _, _, rfl, by simp, dn⟩⟩
  · rintro σ H' ⟨v2, v3, v4, v5, st, as, C, rfl, ne, d⟩
    obtain ⟨a, bs, t, rest, vs, ea, es, hrow, ha, lvs, lbs, l60⟩ := d.split ne
    subst ea es
    have llen : (bs.reverse.map V.ref ++ [V.ref a]).length = (t :: rest).length := by simp [lbs]
    have ltt : tv.length = (S (tl z) 0).length := by
      have : ∀ {H : Hp} {vs : List V} {ts : List Tk}, TkL H vs ts → vs.length = ts.length := by
        intro H vs ts h
        induction h with
        | nil => rfl
        | cons _ _ ih => rw [List.length_cons, List.length_cons, ih]
      exact this d.tk
    have rn := d.run
    rw [ltt, List.drop_length] at rn
    refine ⟨_, rfl, _, _, rfl, .inl ⟨_, SqL.of hrow, rfl⟩, _, _, rfl, rfl, _, rfl, ?_⟩
    rw [llen]
    cases rest with
    | nil =>
      rw [decide_eq_false (by show ¬ (1 : Int) < ((1 : Nat) : Int); decide)]
      have e : Out.ok t = out := rn
      cases bs with
      | cons b bs2 => cases lbs
      | nil =>
        refine ⟨_, rfl, L, _, 0, .ref a, rfl, rfl, SqL.of hrow, rfl, by show 2 ≤ sizeLine; decide, fun p hp => q _ _ (d.sm.trans (Sm.new hp)) ?_⟩
        obtain ⟨⟨vs', g1, g2⟩, _⟩ := d.ops
        rw [← e]
        have np : a ≠ p := fun z => by rw [z, hp] at ha; cases ha
        exact .lst trivial upd_same (.cons (.sym _) (.cons (.lst trivial (by rw [upd_ne np]; exact g1) (g2.sm (Sm.new hp)).all) .nil))
    | cons pp r2 =>
      rw [decide_eq_true (by rw [List.length_cons, List.length_cons]; omega)]
      have e : Out.ends (tl z).length = out := rn
      refine ⟨_, rfl, _, _, rfl, ⟨big_line zb, rfl⟩, by show 2 ≤ sizeLine; decide, fun p hp => q _ _ (d.sm.trans (Sm.new hp)) ?_⟩
      rw [← e, lz]
      exact .lst trivial upd_same (.cons (.sym _) (.cons (.int _) .nil))
end
end My
namespace My
open PySem PySem.Spec PyProof.Rows L2 TL
/-! ### how deep the data are -/
theorem DepLe.mono : ∀ {n m : Nat} {d : Dat}, DepLe n d → n ≤ m → DepLe m d
  | 0, _, _, h, _ => h.elim
  | n + 1, 0, _, _, h => by cases h
  | n + 1, m + 1, .lst ds, ⟨a, b⟩, h => ⟨a, fun d hd => (b d hd).mono (Nat.le_of_succ_le_succ h)⟩
  | n + 1, m + 1, .int _, _, _ => trivial
  | n + 1, m + 1, .sym _, _, _ => trivial
theorem dep_datOf {n : Nat} {l : List Nat} {v : V} (h : wordV l = some v) (hn : 1 ≤ n) : DepLe n (datOf v) := by
  obtain ⟨m, e⟩ : ∃ m, n = m + 1 := ⟨n - 1, by omega⟩
  subst e
  unfold wordV at h
  split at h
  · cases h; trivial
  · split at h
    · cases h; trivial
    · cases h
def StD (N : Nat) : List (List Dat) → Prop
  | [] => True
  | ds :: rest => (ds.length ≤ N ∧ ∀ d ∈ ds, DepLe (61 - rest.length) d) ∧ StD N rest
theorem StD.mono {N M : Nat} (h : N ≤ M) : ∀ {st : List (List Dat)}, StD N st → StD M st
  | [], _ => trivial
  | _ :: _, ⟨⟨a, b⟩, c⟩ => ⟨⟨Nat.le_trans a h, b⟩, StD.mono h c⟩
theorem tRun_dep (len : Nat) : ∀ (ts : List Tk) (st : List (List Dat)) (N : Nat) (ds : List Dat), StD N st → st.length ≤ 61 → N + ts.length ≤ big → tRun len ts st = .ok ds → ds.length ≤ big ∧ ∀ d ∈ ds, DepLe 61 d
  | [], st, N, ds, h, _, hN, e => by
    cases st with
    | nil => cases e
    | cons a r =>
      cases r with
      | cons b r => cases e
      | nil =>
        cases e
        exact ⟨Nat.le_trans h.1.1 hN, h.1.2⟩
  | (w, i) :: ts, st, N, ds, h, l, hN, e => by
    rw [List.length_cons] at hN
    by_cases w40 : w = [40]
    · rw [tR40 w40] at e
      by_cases h60 : 60 < st.length
      · rw [if_pos h60] at e; cases e
      · rw [if_neg h60] at e
        exact tRun_dep len ts ([] :: st) (N + 1) ds ⟨⟨Nat.zero_le _, fun d hd => by cases hd⟩, h.mono (Nat.le_succ N)⟩ (by rw [List.length_cons]; omega) (by omega) e
    by_cases w41 : w = [41]
    · rw [tR41 w40 w41] at e
      cases st with
      | nil => cases e
      | cons t s2 =>
        cases s2 with
        | nil => cases e
        | cons p rest =>
          obtain ⟨⟨t1, t2⟩, ⟨p1, p2⟩, r1⟩ := h
          rw [List.length_cons] at t2
          rw [List.length_cons, List.length_cons] at l
          refine tRun_dep len ts ((p ++ [.lst t]) :: rest) (N + 1) ds ⟨⟨?_, fun d hd => ?_⟩, r1.mono (Nat.le_succ N)⟩ (by rw [List.length_cons]; omega) (by omega) e
          · rw [List.length_append]; exact Nat.add_le_add_right p1 1
          · rcases List.mem_append.mp hd with m | m
            · exact p2 d m
            · rw [List.mem_singleton.mp m, show 61 - rest.length = (61 - (rest.length + 1)) + 1 by omega]
              exact ⟨by omega, t2⟩
    rw [tRw w40 w41] at e
    cases hv : wordV w with
    | none =>
      rw [hv] at e
      cases st <;> cases e
    | some v =>
      rw [hv] at e
      cases st with
      | nil => cases e
      | cons t rest =>
        obtain ⟨⟨t1, t2⟩, r1⟩ := h
        rw [List.length_cons] at l
        refine tRun_dep len ts ((t ++ [datOf v]) :: rest) (N + 1) ds ⟨⟨?_, fun d hd => ?_⟩, r1.mono (Nat.le_succ N)⟩ (by rw [List.length_cons]; omega) (by omega) e
        · rw [List.length_append]; exact Nat.add_le_add_right t1 1
        · rcases List.mem_append.mp hd with m | m
          · exact t2 d m
          · rw [List.mem_singleton.mp m]
            exact dep_datOf hv (by omega)
theorem scan_few : ∀ (n : Nat) (l : List Nat) (i : Nat), (scan n l i).length ≤ l.length
  | 0, _, _ => Nat.zero_le _
  | _ + 1, [], _ => Nat.zero_le _
  | n + 1, c :: r, i => by
    unfold scan
    by_cases e1 : c = 59
    · rw [if_pos e1]
      exact Nat.le_trans (scan_few n _ _) (dw_le _ _)
    rw [if_neg e1]
    by_cases e2 : c = 40
    · rw [if_pos e2]
      exact Nat.succ_le_succ (scan_few n r _)
    rw [if_neg e2]
    by_cases e3 : c = 41
    · rw [if_pos e3]
      exact Nat.succ_le_succ (scan_few n r _)
    rw [if_neg e3]
    by_cases e4 : c = 32 ∨ c = 10
    · rw [if_pos e4]
      exact Nat.le_succ_of_le (scan_few n r _)
    rw [if_neg e4]
    exact Nat.succ_le_succ (Nat.le_trans (scan_few n _ _) (dw_lt (not_end e1 e2 e3 e4)))
theorem out_dep {z : Str} (zb : z.length ≤ big) : DepLe 63 (outDat (run (z.length + 1) (tl z) 0 [[]])) := by
  have lz := len_tl z
  have e : run (z.length + 1) (tl z) 0 [[]] = tRun (tl z).length (S (tl z) 0) [[]] := by
    rw [run_scan (z.length + 1) (tl z) 0 [[]] (by omega), Nat.zero_add, lz]; rfl
  rw [e]
  have few : (S (tl z) 0).length ≤ (tl z).length := scan_few _ _ _
  have dp := tRun_dep (tl z).length (S (tl z) 0) [[]] 0
  generalize tRun (tl z).length (S (tl z) 0) [[]] = out at dp
  have two : ∀ {a b : Dat}, DepLe 62 a → DepLe 62 b → DepLe 63 (.lst [a, b]) := fun {a b} ha hb => ⟨show 2 ≤ big by decide, fun d hd => by
    rcases List.mem_cons.mp hd with m | m
    · rw [m]; exact ha
    · rw [List.mem_singleton.mp m]; exact hb⟩
  cases out with
  | ok ds =>
    obtain ⟨d1, d2⟩ := dp ds ⟨⟨Nat.zero_le _, fun d hd => by cases hd⟩, trivial⟩ (by decide) (by omega) rfl
    exact two trivial ⟨d1, d2⟩
  | word i => exact two trivial trivial
  | close i => exact two trivial trivial
  | ends i => exact two trivial trivial
  | deep => exact two trivial trivial
/-! ### the law -/
abbrev sLaw : Stmt := top 33
abbrev NL : List Str := ["script", "state", "k", "text", "j"]
def spLaw (K : PySem.W.Frag) (Ps : List Addr) : Sp := fun vs H Q _ => ∃ (a : Addr) (ns : List Int), vs = [.ref a] ∧ SqL K H a (ns.map V.int) ∧ ns.length ≤ 63 ∧ (∀ p ∈ Ps, GxR.TabG H p) ∧ ∀ H', Q (.bl true) H'
/-- the pieces drawn so far, at D -/
def PcP (S L D : Addr) (H0 : Hp) (i : Nat) (H' : Hp) : Prop := ∃ ys : List Str, H' D = some (.lst (ys.map V.str)) ∧ ys.length = i ∧ (∀ y ∈ ys, y.length ≤ 50) ∧ LS H' S L ∧ Sm (Two S L) H0 H'
theorem join_len (ys : List Str) (h : ∀ y ∈ ys, y.length ≤ 50) : (Txt.join ("" : Str) ys).length ≤ 50 * ys.length ∧ (ys.map (·.length)).sum ≤ 50 * ys.length := by
  have e : (Txt.join ("" : Str) ys).length = (ys.map (·.length)).sum := by
    rw [len_tl, tl_join0, List.length_flatten, List.map_map]
    rfl
  rw [e]
  have b : (ys.map (·.length)).sum ≤ 50 * ys.length := by
    clear e
    induction ys with
    | nil => exact Nat.le_refl _
    | cons y r ih =>
      have i1 := ih fun x hx => h x (List.mem_cons_of_mem _ hx)
      have i2 := h y List.mem_cons_self
      rw [List.map_cons, List.sum_cons, List.length_cons]
      omega
  exact ⟨b, b⟩
section
variable {P : Program} {w : World} {K : PySem.W.Frag} {mg : Str → Option Value} {base : Heap}
theorem scLaw : FnScope NL ["script"] (defScope sLaw) := ⟨rfl, rfl, rfl, by decide +kernel, rfl, by decide +kernel, by decide +kernel⟩
theorem ok_law {f fS fT fP fO fD fE P1 P2 : Addr} {fd dS dT dP dO dD dE : FuncData} (F : Fun K "law" "law" sLaw f fd) (B : Blt mg) (GS : Cal P w K mg base CX0 1 "_law_state" ["script"] (spState K) fS dS)
    (GT : Cal P w K mg base CX0 2 "_law_take" ["state", "limit"] spTake fT dT) (GP : Cal P w K mg base CX0 4 "_law_piece" ["state"] spPiece fP dP)
    (GO : Cal P w K mg base CX0 6 "_law_told" ["text"] (spOut [P1, P2]) fO dO) (GD : Cal P w K mg base CX0 2 "_law_due" ["text"] (spOut []) fD dD) (GE : Cal P w K mg base CX0 63 "_law_same" ["one", "two"] (spSame 63) fE dE) : FnOk P w K mg base CX0 64 f fd ["script"] (spLaw K [P1, P2]) := by
  refine F.ok scLaw (fun vs H Q E h => ?_) (fun cdv A outer s H vs Q E hr h => ?_)
  · obtain ⟨a, ns, rfl, _⟩ := h
    rfl
  obtain ⟨a, ns, rfl, hS, hn, ht, q⟩ := h
  have nd := scLaw.nd
  have hr1 : Room 1 _ := hr.mono (show 1 ≤ 63 by decide)
  have hr2 : Room 2 _ := hr.mono (show 2 ≤ 63 by decide)
  have hr4 : Room 4 _ := hr.mono (show 4 ≤ 63 by decide)
  have hr5 : Room 6 _ := hr.mono (show 6 ≤ 63 by decide)
  refine ⟨_, pss_cons (ps_set (i := 1) nd rfl (Or.inr rfl) (pe_call GS.ok hr1 rfl GS.g GS.k GS.b .nil pass0 (pa_cons (pv 0) pa_nil)))
    (pss_cons (ps_for PassesOwn.never rfl (pi_range1 (by rfl) B.range (pa_cons pe_int pa_nil)) (pg_name (i := 2) nd rfl (Or.inl rfl))
      (pss_cons (ps_set (i := 3) nd rfl (Or.inl rfl) (pe_bm PySem.F.plainAttrs_str PySem.F.slot_str_join PySem.F.type_str_join mt_join pe_str (pa_cons
          (pe_lc (own := [("j", 4)]) (g := gName 4) (tt := tYes) rfl nd (pi_range1 (by rfl) B.range (pa_cons (pe_call GT.ok hr2 rfl GT.g GT.k GT.b .nil pass0 (pa_cons (pv 1) (pa_cons pe_int pa_nil))) pa_nil)) (blkOk_by (N := NL) (sc := defScope sLaw) (by decide +kernel)) (fun _ _ _ _ _ => pg_name (i := 4) nd rfl (Or.inl rfl))
            (fun _ _ _ _ _ => pts_nil) (fun _ _ _ _ _ => pe_call GP.ok hr4 rfl GP.g GP.k GP.b .nil pass0 (pa_cons (pv 1) pa_nil))) pa_nil)))
      (pss_one (ps_if (pt_not (pt_val (pe_call GE.ok hr rfl GE.g GE.k GE.b .nil pass0 (pa_cons (pe_call GO.ok hr5 rfl GO.g GO.k GO.b .nil pass0 (pa_cons (pv 3) pa_nil)) (pa_cons (pe_call GD.ok hr2 rfl GD.g GD.k GD.b .nil pass0 (pa_cons (pv 3) pa_nil)) pa_nil))))) (pss_one (ps_ret pe_bl)) pss_nil))))
    (pss_one (ps_ret pe_bl))), ?_⟩
  have tabs : ∀ {H1 H2 : Hp} {Y : Addr → Prop}, (∀ p ∈ [P1, P2], GxR.TabG H1 p) → Sm Y H1 H2 → ∀ p ∈ [P1, P2], GxR.TabG H2 p := fun t s p hp => s.tab p (t p hp)
  refine ⟨_, rfl, a, ns, rfl, hS, hn, fun S L H1 hS0 hL0 ls s1 => ?_⟩
  refine ⟨3, rfl, by decide, by decide, for_range (n := 3) (fun i σ H' => ∃ v2 v3 : Option V, σ = [some (.ref a), some (.ref S), v2, v3, none] ∧ LS H' S L ∧ ∀ p ∈ [P1, P2], GxR.TabG H' p) ⟨none, none, rfl, ls, tabs ht s1⟩ ?_ ?_⟩
  · rintro i σ H3 hi ⟨v2, v3, rfl, l3, t3⟩
    refine ⟨rfl, _, rfl, S, L, 60, rfl, l3, by decide, nb (by decide), fun g H4 g0 g1 l4 s4 => ?_⟩
    have t4 := tabs t3 s4
    refine ⟨g, rfl, by omega, by omega, fun D hD => ?_⟩
    have nD := l4.two hD
    refine lc_range (lo := 0) (PcP S L D H4) ⟨[], upd_same, rfl, by simp, l4.new hD, Sm.new hD⟩ (fun j H5 hj p => ?_) (fun H5 p => ?_)
    · obtain ⟨ys, p1, p2, p3, p4, p5⟩ := p
      refine ⟨rfl, _, rfl, S, L, rfl, p4, fun z H6 lz l6 s6 => ?_⟩
      have p1' := s6.lst nD p1
      refine ⟨_, p1', by rw [List.length_map, p2]; exact small1000 (by omega), ys ++ [z], by rw [upd_same, List.map_append]; rfl, by simp [p2], ?_, ?_, (p5.trans s6).mut hD (ntbl_l p1')⟩
      · intro y hy
        rcases List.mem_append.mp hy with h | h
        · exact p3 y h
        · rw [List.mem_singleton.mp h]; exact lz
      · obtain ⟨cs, d, a1, a2, a3⟩ := l6
        refine ⟨cs, d, ?_, ?_, a3⟩
        · rw [upd_ne (fun z => nD (.inl z.symm))]; exact a1
        · rw [upd_ne (fun z => nD (.inr z.symm))]; exact a2
    · obtain ⟨ys, p1, p2, p3, p4, p5⟩ := p
      obtain ⟨j1, j2⟩ := join_len ys p3
      have e0 : ("" : Str).length = 0 := by decide +kernel
      refine ⟨_, D, ys, rfl, rfl, .inl (SqL.of p1), by rw [e0]; omega, ?_⟩
      generalize Txt.join ("" : Str) ys = text at j1
      have tb : text.length ≤ big := Nat.le_trans (show text.length ≤ 3000 by omega) (by decide)
      have t5 := tabs t4 p5
      refine ⟨_, rfl, text, rfl, tb, t5, fun v1 H6 s6 r1 => ?_⟩
      refine ⟨_, rfl, text, rfl, tb, (fun p hp => by cases hp), fun v2 H7 s7 r2 => ?_⟩
      refine ⟨v1, v2, _, rfl, out_dep tb, r1.sm s7, r2, fun H8 s8 => ⟨_, rfl, ?_⟩⟩
      exact ⟨_, _, rfl, ((p4.sm s6).sm s7).sm s8, tabs (tabs (tabs t5 s6) s7) s8⟩
  · rintro σ H' ⟨v2, v3, rfl, l3, t3⟩
    exact q H'
end
end My
namespace My
open PySem PySem.Spec PyProof.Rows L2 He
abbrev dd (i : Nat) (x : Str) : DefD := ⟨(x, none), x, x, defArgs (top i), defBody (top i), defScope (top i), [], []⟩
abbrev dc (i : Nat) (x q : Str) : DefD := ⟨(x, some "__init__"), "__init__", q, defArgs (inClass (top i) 0), defBody (inClass (top i) 0), defScope (inClass (top i) 0), [], []⟩
def fnK : List DefD := [dc 2 "UnexpectedEnd" "UnexpectedEnd.__init__", dc 3 "UnexpectedClose" "UnexpectedClose.__init__", dc 4 "InvalidWord" "InvalidWord.__init__",
  dd 12 "is_made_as_number", dd 13 "is_symbol", dd 14 "is_integer", dd 15 "read_word", dd 16 "word_end", dd 17 "remark_end", dd 18 "begin_list", dd 19 "end_list", dd 20 "read_data", dd 21 "parse_all",
  dd 23 "_law_mixed", dd 24 "_law_take", dd 25 "_law_state", dd 26 "_law_same", dd 27 "_law_sign", dd 28 "_law_piece", dd 29 "_law_word", dd 30 "_law_tokens", dd 31 "_law_due", dd 32 "_law_told", dd 33 "law"]
def faK : List Fa := [.glo "FoldError", .glo "UnexpectedEnd", .glo "UnexpectedClose", .glo "InvalidWord", .glo "TooDeep",
  .glo "is_made_as_number", .glo "is_symbol", .glo "is_integer", .glo "read_word", .glo "word_end", .glo "remark_end", .glo "begin_list", .glo "end_list", .glo "read_data", .glo "parse_all",
  .glo "_law_mixed", .glo "_law_take", .glo "_law_state", .glo "_law_same", .glo "_law_sign", .glo "_law_piece", .glo "_law_word", .glo "_law_tokens", .glo "_law_due", .glo "_law_told", .glo "law",
  .exc "TooDeep", .str "DIGITS" "0123456789", .str "SYMBOL_SIGNS" "abcdefghijklmnopqrstuvwxyzABCDEFGHIJKLMNOPQRSTUVWXYZ0123456789-+*<=?!.", .str "WORD_ENDS" " \n();", .int "MOST_DIGITS" 40, .int "DEEPEST_LIST" 60,
  .free "int", .free "abs", .free "len", .free "range", .free "str", .free "isinstance", .free "all", .free "list", .free "tuple", .free "bool", .free "ValueError"]
def tfK : List Defn := [("is_made_as_number", none), ("is_symbol", none)]
/-- an exception's class over own ones and ValueError -/
def excB (K : PySem.W.Frag) (C : Addr) : Bool := match K.lookup C with
  | some ⟨.type "type", _, .cls cd, sl⟩ => (match cd.mro, sl.toList with
    | .ref C' :: bm, [_, _, _, _, some (.builtin n), _] => C' == C && (n == "ValueError.__new__" && (!cd.hasDel && (cd.hasDict && PySem.HandSPX.refsVE bm)))
    | _, _ => false)
  | _ => false
/-- all that is asked of one exception class with fields at -/
def excAll (K : PySem.W.Frag) (x : Str) : Bool :=
  excB K (ga K x) && (eqO (PySem.W.findIn K (.ref (ga K x)) "__setattr__") (some (some (.builtin "object.__setattr__"))) &&
  (decide (PySem.W.subIn K (.ref (ga K x)) (.type "BaseException") = some true) && (decide (PySem.W.typeIn K (.ref (ga K x)) = some (.type "type")) && (PySem.W.keepIn K (.ref (ga K x)) &&
  (eqO (PySem.W.findIn K (.ref (ga K x)) "__getattribute__") (some (some (.builtin "BaseException.__getattribute__"))) && (eqO (PySem.W.findIn K (.ref (ga K x)) "__getattr__") (some none) &&
  (PySem.W.hasDictIn K (ga K x) && (eqO (PySem.W.findIn K (.ref (ga K x)) "__class__") (some (some (.builtin "object.__class__"))) && (decide (PySem.W.mroIn K (ga K x) (.type "object") = some true) &&
  (eqO (PySem.W.findIn K (.ref (ga K x)) "at") (some none) && decide (PySem.W.exmOne K (.ref (ga K x)) (.ref (ga K "FoldError")) = some true)))))))))))
def iniB (K : PySem.W.Frag) (x : Str) : Bool := eqO (PySem.W.findIn K (.ref (ga K x)) "__init__") (some (some (.ref (ma K (ga K x) "__init__")))) && decide (PySem.W.typeIn K (.ref (ma K (ga K x) "__init__")) = some (.type "function"))
def kitB (K : PySem.W.Frag) (x y : Str) (b : Bool) : Bool := decide (PySem.W.kitOne K (.ref (ga K x)) (.ref (ga K y)) = some b)
def nmC : Nat → Str
  | 0 => "InvalidWord"
  | 1 => "UnexpectedClose"
  | 2 => "UnexpectedEnd"
  | _ => "TooDeep"
def kitAll (K : PySem.W.Frag) : Bool := [0, 1, 2, 3].all fun i => [0, 1, 2, 3].all fun j => kitB K (nmC i) (nmC j) (decide (i = j))
def valB (r : Option PySem.W.CFound) (n : String) : Bool := match r with
  | some (.val (.builtin m)) => m == n
  | _ => false
theorem valB_ok {r : Option PySem.W.CFound} {n : String} (h : valB r n = true) : r = some (.val (.builtin n)) := by
  unfold valB at h
  split at h
  · rw [eq_of_beq h]
  · cases h
def exK (K : PySem.W.Frag) : Bool :=
  (excAll K "UnexpectedEnd" && (excAll K "UnexpectedClose" && (excAll K "InvalidWord" && excAll K "TooDeep"))) && ((iniB K "UnexpectedEnd" && (iniB K "UnexpectedClose" && iniB K "InvalidWord")) &&
  (((kitAll K) &&
  (eqO (PySem.W.specialIn K (.builtin "object.__class__") "__get__") (some (some (.builtin "getset_descriptor.__get__"))) && decide (PySem.W.takesIn K (.builtin "object.__class__") = some true))) &&
  (PySem.W.readsIn K (ga K "FoldError") (.type "type") && (eqO (PySem.W.specialIn K (.ref (ga K "FoldError")) "__getattribute__") (some (some (.builtin "type.__getattribute__"))) && valB (PySem.W.findCls K (.ref (ga K "FoldError")) (.type "type") "__init__") "ValueError.__init__"))))
/-! ### the hook: what the module's names reach, and the statics -/
def reach (g : Addr → Option Obj) : List Addr := He.asD g 5 ++ [cStatics]
theorem says_of {fa : List Fa} {fn : List DefD} {ts : List Tab} {tf : List Defn} {ex : PySem.W.Frag → Bool} {w : World} {h : Heap} {as : List Addr} (e1 : obsT fa fn ts (frT h.get? as) = valT fn ts w)
    (e2 : (ex (frT h.get? as) && tabsB h.get? tf (frT h.get? as)) = true) : SaysX fa fn ts tf ex w h (frT h.get? as) := by
  obtain ⟨x1, x2⟩ := ba e2
  have key : ∀ p ∈ tf, PySem.W.codeHdIn (frT h.get? as) (cT (frT h.get? as) p).1 (cT (frT h.get? as) p).2 = true ∧ ∃ o, h.get? (cT (frT h.get? as) p).2 = some o ∧ emptyTab o = true := by
    intro p hp
    obtain ⟨y1, y2⟩ := ba (List.all_eq_true.mp x2 p hp)
    cases q : h.get? (cT (frT h.get? as) p).2 with
    | none => rw [q] at y2; cases y2
    | some o => rw [q] at y2; exact ⟨y1, o, rfl, y2⟩
  refine ⟨e1, x1, fun p hp => (key p hp).1, fun p hp => ?_, fun p hp => ?_⟩
  · obtain ⟨_, o, q, z⟩ := key p hp
    exact frT_none q z
  · obtain ⟨_, o, q, z⟩ := key p hp
    rw [q, emptyTab_eq z]
abbrev AlY : Type := AlT × Bool
def obsY (fa : List Fa) (fn : List DefD) (tf : List Defn) (ex : PySem.W.Frag → Bool) (g : Addr → Option Obj) : AlY := (obsT fa fn [] (frT g (reach g)), ex (frT g (reach g)) && tabsB g tf (frT g (reach g)))
def hookY (fa : List Fa) (fn : List DefD) (tf : List Defn) (ex : PySem.W.Frag → Bool) : PySem.W.Hook where
  α := AlY
  obs := fun s => obsY fa fn tf ex s.heap.get?
  val := fun w => (valT fn [] w, true)
  says := fun w h => ∃ K : PySem.W.Frag, K.In h ∧ SaysX fa fn [] tf ex w h K
  of := fun _ _ e => ⟨_, frT_in, says_of (congrArg (fun z : AlY => z.1) e) (congrArg (fun z : AlY => z.2) e)⟩
  keeps := fun _ _ _ ⟨K, hK, c⟩ k => ⟨K, PySem.W.Frag.In.keeps hK k, ⟨c.t, c.more, c.hd, c.out, fun p hp => k _ _ (c.empty p hp)⟩⟩
abbrev R : PySem.W.OpenRow := PySem.W.OpenLaw.row PySem.Challenge.rw_aliasfold_k12_whole_any_text
abbrev hk : PySem.W.Hook := hookY faK fnK tfK exK
def ob (s : PySem.W.SharedT) : AlY := obsY faK fnK tfK exK (HandSHeadRun.getT s)
theorem ob_eq (s : PySem.W.SharedT) : ob s = hk.obs s.abs := by
  have e : HandSHeadRun.getT s = s.abs.heap.get? := funext (HandSHeadRun.getT_eq s)
  unfold ob
  rw [e] <;> rfl
def loose : List Str := ["FoldError", "UnexpectedEnd", "UnexpectedClose", "InvalidWord", "TooDeep", "DIGITS", "SYMBOL_SIGNS", "WORD_ENDS", "MOST_DIGITS", "DEEPEST_LIST",
  "is_made_as_number", "is_symbol", "is_integer", "read_word", "word_end", "remark_end", "begin_list", "end_list", "read_data", "parse_all",
  "_law_mixed", "_law_take", "_law_state", "_law_same", "_law_sign", "_law_piece", "_law_word", "_law_tokens", "_law_due", "_law_told"]
theorem headRun (w : World) : HandSHeadRun.RunEq R (PySem.W.view R.prog [33]) hk ob 4000 loose w := by
  intro os
  kernel_rfl
end My
namespace My
open PySem PySem.Spec PyProof.Rows L2 TL
section
variable {P : Program} {w : World} {K : PySem.W.Frag} {mg : Str → Option Value} {base : Heap}
theorem scIniE : FnScope ["self", "at"] ["self", "at"] (defScope sIniE) := ⟨rfl, rfl, rfl, by decide +kernel, rfl, by decide +kernel, by decide +kernel⟩
theorem ok_iniE {f F C : Addr} {fd : FuncData} (Fn : Fun K "__init__" "UnexpectedEnd.__init__" sIniE f fd) (B : BaseC K mg F) (T : OexC K C) (hno : PySem.W.findIn K (.ref C) "at" = some none) :
    FnOk P w K mg base CX0 1 f fd ["self", "at"] (spIni K C) := by
  refine Fn.ok scIniE (fun vs H Q E h => ?_) (fun cdv A outer s H vs Q E hr h => ?_)
  · obtain ⟨a, i, rfl, _⟩ := h
    rfl
  obtain ⟨a, i, rfl, ea, hi, q⟩ := h
  refine ⟨_, pss_cons (ps_expr (pe_baseInit B rfl (pa_cons (pv 0) (pa_cons (pe_joined (PJ.cons pe_str (PJ.cons (pe_fmt (pv 1)) PJ.nil))) pa_nil))))
    (pss_one (ps_ost (pv 0) (pv 1))), ?_⟩
  have l1 := int_len hi
  refine ⟨_, rfl, _, rfl, by decide +kernel, _, rfl, .inr ⟨i, rfl, int_log hi, _, rfl, ?_, ?_⟩⟩
  · rw [app_len]
    exact Nat.le_trans (Nat.add_le_add (show _ ≤ 100 by decide +kernel) l1) (by decide)
  refine ⟨a, C, _, rfl, by show 1 ≤ 1000; decide, T, ea, ?_⟩
  refine ⟨_, rfl, _, rfl, a, C, rfl, T, hno, .inl ⟨ea, fun d hd hda => q d hd hda⟩⟩
theorem scIniC : FnScope ["self", "at"] ["self", "at"] (defScope sIniC) := ⟨rfl, rfl, rfl, by decide +kernel, rfl, by decide +kernel, by decide +kernel⟩
theorem ok_iniC {f F C : Addr} {fd : FuncData} (Fn : Fun K "__init__" "UnexpectedClose.__init__" sIniC f fd) (B : BaseC K mg F) (T : OexC K C) (hno : PySem.W.findIn K (.ref C) "at" = some none) :
    FnOk P w K mg base CX0 1 f fd ["self", "at"] (spIni K C) := by
  refine Fn.ok scIniC (fun vs H Q E h => ?_) (fun cdv A outer s H vs Q E hr h => ?_)
  · obtain ⟨a, i, rfl, _⟩ := h
    rfl
  obtain ⟨a, i, rfl, ea, hi, q⟩ := h
  refine ⟨_, pss_cons (ps_expr (pe_baseInit B rfl (pa_cons (pv 0) (pa_cons (pe_joined (PJ.cons pe_str (PJ.cons (pe_fmt (pv 1)) PJ.nil))) pa_nil))))
    (pss_one (ps_ost (pv 0) (pv 1))), ?_⟩
  have l1 := int_len hi
  refine ⟨_, rfl, _, rfl, by decide +kernel, _, rfl, .inr ⟨i, rfl, int_log hi, _, rfl, ?_, ?_⟩⟩
  · rw [app_len]
    exact Nat.le_trans (Nat.add_le_add (show _ ≤ 100 by decide +kernel) l1) (by decide)
  refine ⟨a, C, _, rfl, by show 1 ≤ 1000; decide, T, ea, ?_⟩
  refine ⟨_, rfl, _, rfl, a, C, rfl, T, hno, .inl ⟨ea, fun d hd hda => q d hd hda⟩⟩
end
/-! ### from the head's facts -/
section
open He
variable {K : PySem.W.Frag} {h : Heap} {mg : Str → Option Value} {w : World}
theorem fun_of {x q : Str} {st : Stmt} {f : Addr} {fd : FuncData} (F : FunD K x q (defArgs st) (defBody st) (defScope st) [] [] f fd) : Fun K x q st f fd := by
  obtain ⟨oc, od, dV, kV, doc, pm, an, cdv, ct, osl, e, lk, hcd, hD, hK⟩ := F.ex
  rcases hD with ⟨_, rfl⟩ | ⟨e, _⟩
  · exact ⟨⟨oc, od, kV, doc, pm, an, cdv, ct, osl, e, lk, hcd⟩, F.kp⟩
  · exact absurd rfl e
theorem func_of {x : Str} {st : Stmt} {fd : FuncData} (F : Fun K x x st (ga K x) fd) : FunC K x st (ga K x) fd (codeOf K (x, none)) := by
  obtain ⟨oc, od, kV, doc, pm, an, cdv, ct, osl, e, lk, hcd⟩ := F.ex
  obtain ⟨c, ec⟩ := codeIn_ref hcd
  subst ec
  subst e
  have e2 : codeOf K (x, none) = c := codeOf_eq (p := (x, none)) lk rfl
  rw [e2]
  exact ⟨⟨oc, od, kV, doc, pm, an, ct, osl, rfl, lk, hcd⟩, F.kp⟩
theorem excB_ok {C : Addr} (q : excB K C = true) : ∃ nm q N bs bm sn sub ab col dd k0 k1 k2 k3 k5, K.lookup C = some (excClassObj nm q C N bs bm true sn sub ab col dd k0 k1 k2 k3 k5 "ValueError.__new__") ∧ PySem.HandSPX.refsVE bm = true := by
  unfold excB at q
  split at q
  · rename_i dd cd sl ho
    split at q
    · rename_i C' bm k0 k1 k2 k3 n k5 hm hs
      simp only [Bool.and_eq_true, beq_iff_eq, Bool.not_eq_true'] at q
      obtain ⟨e1, e2, hdel, hd, hr⟩ := q
      obtain ⟨nm, bs, mro, ns, qn, hdct, sn, sub, ab, col, del⟩ := cd
      dsimp only at hm hdel hd
      subst hm hdel hd e1 e2
      have hsl : sl = #[k0, k1, k2, k3, some (.builtin "ValueError.__new__"), k5] := by
        obtain ⟨l⟩ := sl
        simp only at hs
        rw [hs]
      subst hsl
      exact ⟨nm, qn, ns, bs, bm, sn, sub, ab, col, dd, k0, k1, k2, k3, k5, ho, hr⟩
    · cases q
  · cases q
structure ExAll (K : PySem.W.Frag) (C F : Addr) : Prop where
  o : OexC K C
  ga : PySem.W.findIn K (.ref C) "__getattribute__" = some (some (.builtin "BaseException.__getattribute__"))
  gg : PySem.W.findIn K (.ref C) "__getattr__" = some none
  hd : PySem.W.hasDictIn K C = true
  cl : PySem.W.findIn K (.ref C) "__class__" = some (some (.builtin "object.__class__"))
  mro : PySem.W.mroIn K C (.type "object") = some true
  no : PySem.W.findIn K (.ref C) "at" = some none
  exm : PySem.W.exmOne K (.ref C) (.ref F) = some true
theorem excAll_ok {x : Str} (q : excAll K x = true) : ExAll K (ga K x) (ga K "FoldError") := by
  obtain ⟨c1, q⟩ := ba q
  obtain ⟨c2, q⟩ := ba q
  obtain ⟨c3, q⟩ := ba q
  obtain ⟨c4, q⟩ := ba q
  obtain ⟨c5, q⟩ := ba q
  obtain ⟨c6, q⟩ := ba q
  obtain ⟨c7, q⟩ := ba q
  obtain ⟨c8, q⟩ := ba q
  obtain ⟨c9, q⟩ := ba q
  obtain ⟨c10, q⟩ := ba q
  obtain ⟨c11, c12⟩ := ba q
  exact ⟨⟨excB_ok c1, eqO_ok c2, of_decide_eq_true c3, of_decide_eq_true c4, c5⟩, eqO_ok c6, eqO_ok c7, c8, eqO_ok c9, of_decide_eq_true c10, eqO_ok c11, of_decide_eq_true c12⟩
theorem iniB_ok {x : Str} (q : iniB K x = true) : PySem.W.findIn K (.ref (ga K x)) "__init__" = some (some (.ref (ma K (ga K x) "__init__"))) ∧ PySem.W.typeIn K (.ref (ma K (ga K x) "__init__")) = some (.type "function") := by
  obtain ⟨a, b⟩ := ba q
  exact ⟨eqO_ok a, of_decide_eq_true b⟩
structure ExK (K : PySem.W.Frag) : Prop where
  e : ExAll K (ga K "UnexpectedEnd") (ga K "FoldError")
  c : ExAll K (ga K "UnexpectedClose") (ga K "FoldError")
  w : ExAll K (ga K "InvalidWord") (ga K "FoldError")
  ie : PySem.W.findIn K (.ref (ga K "UnexpectedEnd")) "__init__" = some (some (.ref (ma K (ga K "UnexpectedEnd") "__init__"))) ∧ PySem.W.typeIn K (.ref (ma K (ga K "UnexpectedEnd") "__init__")) = some (.type "function")
  ic : PySem.W.findIn K (.ref (ga K "UnexpectedClose")) "__init__" = some (some (.ref (ma K (ga K "UnexpectedClose") "__init__"))) ∧ PySem.W.typeIn K (.ref (ma K (ga K "UnexpectedClose") "__init__")) = some (.type "function")
  iw : PySem.W.findIn K (.ref (ga K "InvalidWord")) "__init__" = some (some (.ref (ma K (ga K "InvalidWord") "__init__"))) ∧ PySem.W.typeIn K (.ref (ma K (ga K "InvalidWord") "__init__")) = some (.type "function")
  d : ExAll K (ga K "TooDeep") (ga K "FoldError")
  kit : ∀ i j : Nat, i < 4 → j < 4 → PySem.W.kitOne K (.ref (ga K (nmC i))) (.ref (ga K (nmC j))) = some (decide (i = j))
  hn : PySem.W.specialIn K (.builtin "object.__class__") "__get__" = some (some (.builtin "getset_descriptor.__get__"))
  ht : PySem.W.takesIn K (.builtin "object.__class__") = some true
  rd : PySem.W.readsIn K (ga K "FoldError") (.type "type") = true
  sp : PySem.W.specialIn K (.ref (ga K "FoldError")) "__getattribute__" = some (some (.builtin "type.__getattribute__"))
  ini : PySem.W.findCls K (.ref (ga K "FoldError")) (.type "type") "__init__" = some (.val (.builtin "ValueError.__init__"))
theorem exK_ok (q : exK K = true) : ExK K := by
  obtain ⟨a, q⟩ := ba q
  obtain ⟨a1, a⟩ := ba a
  obtain ⟨a2, a⟩ := ba a
  obtain ⟨a3, a4⟩ := ba a
  obtain ⟨b, q⟩ := ba q
  obtain ⟨b1, b⟩ := ba b
  obtain ⟨b2, b3⟩ := ba b
  obtain ⟨k, q⟩ := ba q
  obtain ⟨k, n⟩ := ba k
  have kit : ∀ i j : Nat, i < 4 → j < 4 → PySem.W.kitOne K (.ref (ga K (nmC i))) (.ref (ga K (nmC j))) = some (decide (i = j)) := fun i j hi hj => by
    have m : ∀ {x : Nat}, x < 4 → x ∈ [0, 1, 2, 3] := fun {x} h => by simp; omega
    exact of_decide_eq_true (List.all_eq_true.mp (List.all_eq_true.mp k i (m hi)) j (m hj))
  obtain ⟨n1, n2⟩ := ba n
  obtain ⟨r1, q⟩ := ba q
  obtain ⟨r2, r3⟩ := ba q
  exact ⟨excAll_ok a1, excAll_ok a2, excAll_ok a3, iniB_ok b1, iniB_ok b2, iniB_ok b3, excAll_ok a4, kit, eqO_ok n1, of_decide_eq_true n2, r1, eqO_ok r2, valB_ok r3⟩
end
end My
namespace My
open PySem PySem.Spec PyProof.Rows L2 TL He
abbrev row12 : PySem.W.OpenLaw := PySem.Challenge.rw_aliasfold_k12_whole_any_text
theorem facts {K : PySem.W.Frag} {h : Heap} {mg : Str → Option Value} {w : World} {fa : Addr} (c : SaysX faK fnK [] tfK exK w h K) (X : K.In h) (G : h.Ns mainGlobals mg) (hfa : mg ("law" : Str) = some (.ref fa)) :
    LamX.LawAtS row12 w K CX0 64 63 "script" mg fa h := by
  have d := c.t.d
  have e := exK_ok c.more
  have glo : ∀ x : Str, Fa.glo x ∈ faK → mg x = some (.ref (ga K x)) := fun x m => glo_ok X G (d.facts m)
  have fre : ∀ x : Str, Fa.free x ∈ faK → mg x = none := fun x m => free_ok X G (d.facts m)
  have B : Blt mg := ⟨fre _ (by simp [faK]), fre _ (by simp [faK]), fre _ (by simp [faK]), fre _ (by simp [faK]), fre _ (by simp [faK]), fre _ (by simp [faK]), fre _ (by simp [faK]), fre _ (by simp [faK]), fre _ (by simp [faK]), fre _ (by simp [faK])⟩
  have T : Txs mg := ⟨str_ok X G (d.facts (f := .str "DIGITS" "0123456789") (by simp [faK])), str_ok X G (d.facts (f := .str "SYMBOL_SIGNS" "abcdefghijklmnopqrstuvwxyzABCDEFGHIJKLMNOPQRSTUVWXYZ0123456789-+*<=?!.") (by simp [faK])), str_ok X G (d.facts (f := .str "WORD_ENDS" " \n();") (by simp [faK])),
    int_ok X G (d.facts (f := .int "MOST_DIGITS" 40) (by simp [faK])), int_ok X G (d.facts (f := .int "DEEPEST_LIST" 60) (by simp [faK]))⟩
  obtain ⟨dUE, DUE⟩ := d.def_ 0 (d := dc 2 "UnexpectedEnd" "UnexpectedEnd.__init__") rfl
  have FUE : Fun K "__init__" "UnexpectedEnd.__init__" sIniE (ma K (ga K "UnexpectedEnd") "__init__") dUE := fun_of DUE
  have bUE : Binds K dUE ["self", "at"] [] := FUE.binds fun _ _ _ _ _ _ us hl => match us, hl with | [_, _], _ => rfl
  obtain ⟨dUC, DUC⟩ := d.def_ 1 (d := dc 3 "UnexpectedClose" "UnexpectedClose.__init__") rfl
  have FUC : Fun K "__init__" "UnexpectedClose.__init__" sIniC (ma K (ga K "UnexpectedClose") "__init__") dUC := fun_of DUC
  have bUC : Binds K dUC ["self", "at"] [] := FUC.binds fun _ _ _ _ _ _ us hl => match us, hl with | [_, _], _ => rfl
  obtain ⟨dIW, DIW⟩ := d.def_ 2 (d := dc 4 "InvalidWord" "InvalidWord.__init__") rfl
  have FIW : Fun K "__init__" "InvalidWord.__init__" sIniW (ma K (ga K "InvalidWord") "__init__") dIW := fun_of DIW
  have bIW : Binds K dIW ["self", "at"] [] := FIW.binds fun _ _ _ _ _ _ us hl => match us, hl with | [_, _], _ => rfl
  obtain ⟨dNu, DNu⟩ := d.def_ 3 (d := dd 12 "is_made_as_number") rfl
  have FNu : Fun K "is_made_as_number" "is_made_as_number" sNum (ga K "is_made_as_number") dNu := fun_of DNu
  have bNu : Binds K dNu ["word"] [] := FNu.binds fun _ _ _ _ _ _ us hl => match us, hl with | [_], _ => rfl
  obtain ⟨dSy, DSy⟩ := d.def_ 4 (d := dd 13 "is_symbol") rfl
  have FSy : Fun K "is_symbol" "is_symbol" sSymb (ga K "is_symbol") dSy := fun_of DSy
  have bSy : Binds K dSy ["text"] [] := FSy.binds fun _ _ _ _ _ _ us hl => match us, hl with | [_], _ => rfl
  obtain ⟨dIn, DIn⟩ := d.def_ 5 (d := dd 14 "is_integer") rfl
  have FIn : Fun K "is_integer" "is_integer" sInt (ga K "is_integer") dIn := fun_of DIn
  have bIn : Binds K dIn ["word"] [] := FIn.binds fun _ _ _ _ _ _ us hl => match us, hl with | [_], _ => rfl
  obtain ⟨dRd, DRd⟩ := d.def_ 6 (d := dd 15 "read_word") rfl
  have FRd : Fun K "read_word" "read_word" sRead (ga K "read_word") dRd := fun_of DRd
  have bRd : Binds K dRd ["word", "at"] [] := FRd.binds fun _ _ _ _ _ _ us hl => match us, hl with | [_, _], _ => rfl
  obtain ⟨dWe, DWe⟩ := d.def_ 7 (d := dd 16 "word_end") rfl
  have FWe : Fun K "word_end" "word_end" sWEnd (ga K "word_end") dWe := fun_of DWe
  have bWe : Binds K dWe ["text", "at"] [] := FWe.binds fun _ _ _ _ _ _ us hl => match us, hl with | [_, _], _ => rfl
  obtain ⟨dRe, DRe⟩ := d.def_ 8 (d := dd 17 "remark_end") rfl
  have FRe : Fun K "remark_end" "remark_end" sREnd (ga K "remark_end") dRe := fun_of DRe
  have bRe : Binds K dRe ["text", "at"] [] := FRe.binds fun _ _ _ _ _ _ us hl => match us, hl with | [_, _], _ => rfl
  obtain ⟨dBg, DBg⟩ := d.def_ 9 (d := dd 18 "begin_list") rfl
  have FBg : Fun K "begin_list" "begin_list" sBeg (ga K "begin_list") dBg := fun_of DBg
  have bBg : Binds K dBg ["rows", "deepest"] [] := FBg.binds fun _ _ _ _ _ _ us hl => match us, hl with | [_, _], _ => rfl
  obtain ⟨dEn, DEn⟩ := d.def_ 10 (d := dd 19 "end_list") rfl
  have FEn : Fun K "end_list" "end_list" sEndL (ga K "end_list") dEn := fun_of DEn
  have bEn : Binds K dEn ["rows", "at"] [] := FEn.binds fun _ _ _ _ _ _ us hl => match us, hl with | [_, _], _ => rfl
  obtain ⟨dDa, DDa⟩ := d.def_ 11 (d := dd 20 "read_data") rfl
  have FDa : Fun K "read_data" "read_data" sData (ga K "read_data") dDa := fun_of DDa
  have bDa : Binds K dDa ["text", "deepest"] [] := FDa.binds fun _ _ _ _ _ _ us hl => match us, hl with | [_, _], _ => rfl
  obtain ⟨dPa, DPa⟩ := d.def_ 12 (d := dd 21 "parse_all") rfl
  have FPa : Fun K "parse_all" "parse_all" sParse (ga K "parse_all") dPa := fun_of DPa
  have bPa : Binds K dPa ["text"] [] := FPa.binds fun _ _ _ _ _ _ us hl => match us, hl with | [_], _ => rfl
  obtain ⟨dMi, DMi⟩ := d.def_ 13 (d := dd 23 "_law_mixed") rfl
  have FMi : Fun K "_law_mixed" "_law_mixed" sMixed (ga K "_law_mixed") dMi := fun_of DMi
  have bMi : Binds K dMi ["cell"] [] := FMi.binds fun _ _ _ _ _ _ us hl => match us, hl with | [_], _ => rfl
  obtain ⟨dTa, DTa⟩ := d.def_ 14 (d := dd 24 "_law_take") rfl
  have FTa : Fun K "_law_take" "_law_take" sTake (ga K "_law_take") dTa := fun_of DTa
  have bTa : Binds K dTa ["state", "limit"] [] := FTa.binds fun _ _ _ _ _ _ us hl => match us, hl with | [_, _], _ => rfl
  obtain ⟨dSt, DSt⟩ := d.def_ 15 (d := dd 25 "_law_state") rfl
  have FSt : Fun K "_law_state" "_law_state" sState (ga K "_law_state") dSt := fun_of DSt
  have bSt : Binds K dSt ["script"] [] := FSt.binds fun _ _ _ _ _ _ us hl => match us, hl with | [_], _ => rfl
  obtain ⟨dSa, DSa⟩ := d.def_ 16 (d := dd 26 "_law_same") rfl
  have FSa : Fun K "_law_same" "_law_same" sSame (ga K "_law_same") dSa := fun_of DSa
  have bSa : Binds K dSa ["one", "two"] [] := FSa.binds fun _ _ _ _ _ _ us hl => match us, hl with | [_, _], _ => rfl
  obtain ⟨dSg, DSg⟩ := d.def_ 17 (d := dd 27 "_law_sign") rfl
  have FSg : Fun K "_law_sign" "_law_sign" sSign (ga K "_law_sign") dSg := fun_of DSg
  have bSg : Binds K dSg ["state"] [] := FSg.binds fun _ _ _ _ _ _ us hl => match us, hl with | [_], _ => rfl
  obtain ⟨dPc, DPc⟩ := d.def_ 18 (d := dd 28 "_law_piece") rfl
  have FPc : Fun K "_law_piece" "_law_piece" sPiece (ga K "_law_piece") dPc := fun_of DPc
  have bPc : Binds K dPc ["state"] [] := FPc.binds fun _ _ _ _ _ _ us hl => match us, hl with | [_], _ => rfl
  obtain ⟨dWo, DWo⟩ := d.def_ 19 (d := dd 29 "_law_word") rfl
  have FWo : Fun K "_law_word" "_law_word" sW (ga K "_law_word") dWo := fun_of DWo
  have bWo : Binds K dWo ["word"] [] := FWo.binds fun _ _ _ _ _ _ us hl => match us, hl with | [_], _ => rfl
  obtain ⟨dTk, DTk⟩ := d.def_ 20 (d := dd 30 "_law_tokens") rfl
  have FTk : Fun K "_law_tokens" "_law_tokens" sTok (ga K "_law_tokens") dTk := fun_of DTk
  have bTk : Binds K dTk ["text"] [] := FTk.binds fun _ _ _ _ _ _ us hl => match us, hl with | [_], _ => rfl
  obtain ⟨dDu, DDu⟩ := d.def_ 21 (d := dd 31 "_law_due") rfl
  have FDu : Fun K "_law_due" "_law_due" sDue (ga K "_law_due") dDu := fun_of DDu
  have bDu : Binds K dDu ["text"] [] := FDu.binds fun _ _ _ _ _ _ us hl => match us, hl with | [_], _ => rfl
  obtain ⟨dTo, DTo⟩ := d.def_ 22 (d := dd 32 "_law_told") rfl
  have FTo : Fun K "_law_told" "_law_told" sTold (ga K "_law_told") dTo := fun_of DTo
  have bTo : Binds K dTo ["text"] [] := FTo.binds fun _ _ _ _ _ _ us hl => match us, hl with | [_], _ => rfl
  obtain ⟨dLa, DLa⟩ := d.def_ 23 (d := dd 33 "law") rfl
  have FLa : Fun K "law" "law" sLaw (ga K "law") dLa := fun_of DLa
  have bLa : Binds K dLa ["script"] [] := FLa.binds fun _ _ _ _ _ _ us hl => match us, hl with | [_], _ => rfl
  have gNu := glo "is_made_as_number" (by simp [faK])
  have gSy := glo "is_symbol" (by simp [faK])
  have gIn := glo "is_integer" (by simp [faK])
  have gRd := glo "read_word" (by simp [faK])
  have gWe := glo "word_end" (by simp [faK])
  have gRe := glo "remark_end" (by simp [faK])
  have gBg := glo "begin_list" (by simp [faK])
  have gEn := glo "end_list" (by simp [faK])
  have gDa := glo "read_data" (by simp [faK])
  have gPa := glo "parse_all" (by simp [faK])
  have gMi := glo "_law_mixed" (by simp [faK])
  have gTa := glo "_law_take" (by simp [faK])
  have gSt := glo "_law_state" (by simp [faK])
  have gSa := glo "_law_same" (by simp [faK])
  have gSg := glo "_law_sign" (by simp [faK])
  have gPc := glo "_law_piece" (by simp [faK])
  have gWo := glo "_law_word" (by simp [faK])
  have gTk := glo "_law_tokens" (by simp [faK])
  have gDu := glo "_law_due" (by simp [faK])
  have gTo := glo "_law_told" (by simp [faK])
  have gLa := glo "law" (by simp [faK])
  have gFo := glo "FoldError" (by simp [faK])
  have gxE := glo "UnexpectedEnd" (by simp [faK])
  have gxC := glo "UnexpectedClose" (by simp [faK])
  have gxW := glo "InvalidWord" (by simp [faK])
  have gxD := glo "TooDeep" (by simp [faK])
  cases hfa.symm.trans gLa
  have BC : BaseC K mg (ga K "FoldError") := ⟨gFo, e.rd, e.sp, e.ini⟩
  obtain ⟨q1, q2, q3, q4⟩ := exc_ok (d.facts (f := .exc "TooDeep") (by simp [faK]))
  have DC : DeepC K mg (ga K "TooDeep") := ⟨q1, gxD, q2, q3, q4⟩
  have ecl : ∀ i, cl ⟨ga K "InvalidWord", ga K "UnexpectedClose", ga K "UnexpectedEnd", ga K "TooDeep"⟩ i = ga K (nmC i) := fun i => match i with
    | 0 => rfl
    | 1 => rfl
    | 2 => rfl
    | _ + 3 => rfl
  have all : ∀ i, ExAll K (ga K (nmC i)) (ga K "FoldError") := fun i => match i with
    | 0 => e.w
    | 1 => e.c
    | 2 => e.e
    | _ + 3 => e.d
  have TC : ToldC K mg ⟨ga K "InvalidWord", ga K "UnexpectedClose", ga K "UnexpectedEnd", ga K "TooDeep"⟩ (ga K "FoldError") := ⟨gFo, gxW, gxC, gxE, gxD, fun i => by rw [ecl]; exact (all i).exm,
    fun i => by rw [ecl]; exact ⟨(all i).ga, (all i).gg, (all i).o.exC, (all i).hd, (all i).cl, e.hn, e.ht, (all i).mro⟩, fun i => by rw [ecl]; exact ⟨(all i).ga, (all i).gg, (all i).o.exC, (all i).hd⟩, fun i => by rw [ecl]; exact (all i).no,
    fun i j hi hj => by rw [ecl, ecl]; exact e.kit i j hi hj⟩
  refine ⟨dLa, tfK.map (cT K), spLaw K [(cT K ("is_made_as_number", none)).2, (cT K ("is_symbol", none)).2], ?_, ?_, ?_, fun s u => FunD.bindsA (ps := ["script"]) DLa (fun _ _ _ _ _ _ us hl => match us, hl with | [_], _ => rfl) s [u] rfl, ?_, fun base KX GX hT => ?_⟩
  · intro p hp
    obtain ⟨t, ht, rfl⟩ := List.mem_map.mp hp
    exact c.empty t ht
  · intro p hp
    obtain ⟨t, ht, rfl⟩ := List.mem_map.mp hp
    exact c.out t ht
  · intro p hp
    obtain ⟨t, ht, rfl⟩ := List.mem_map.mp hp
    exact PySem.W.codeHd_of_K X (c.hd t ht)
  · intro H a ns hl _ hH hS
    refine ⟨a, ns, rfl, hS, hl, fun p hp => ?_, fun _ => rfl⟩
    have hm : ∃ q ∈ tfK.map (cT K), p = q.2 := by
      rcases List.mem_cons.mp hp with z | z
      · exact ⟨_, List.mem_map.mpr ⟨("is_made_as_number", none), by simp [tfK], rfl⟩, z⟩
      · exact ⟨_, List.mem_map.mpr ⟨("is_symbol", none), by simp [tfK], rfl⟩, List.mem_singleton.mp z⟩
    obtain ⟨q, hq, eq⟩ := hm
    rw [eq]
    exact ⟨#[], hH q hq, trivial⟩
  have tb : ∀ t ∈ tfK, GxR.TabB base mg (cT K t).1 (cT K t).2 := fun t ht => by
    have z := hT (cT K t) (List.mem_map.mpr ⟨t, ht, rfl⟩)
    exact ⟨z.code, z.bm, z.gP⟩
  have TB1 : GxR.TabB base mg (codeOf K ("is_made_as_number", none)) (cT K ("is_made_as_number", none)).2 := tb _ (by simp [tfK])
  have TB2 : GxR.TabB base mg (codeOf K ("is_symbol", none)) (cT K ("is_symbol", none)).2 := tb _ (by simp [tfK])
  generalize (cT K ("is_made_as_number", none)).2 = P1 at TB1
  generalize (cT K ("is_symbol", none)).2 = P2 at TB2
  have kNu := ok_num (P := row12.prog) (w := w) (func_of FNu) B T.sgn TB1
  have kSy := ok_symb (P := row12.prog) (w := w) (func_of FSy) B T TB2 kNu FNu.kp gNu bNu
  have kIn := ok_int FIn B T kNu FNu.kp gNu bNu
  have xE : ErrC row12.prog w K mg base "UnexpectedEnd" (ga K "UnexpectedEnd") _ dUE := ⟨e.e.o, gxE, e.ie.1, e.ie.2, ok_iniE FUE BC e.e.o e.e.no, bUE⟩
  have xC : ErrC row12.prog w K mg base "UnexpectedClose" (ga K "UnexpectedClose") _ dUC := ⟨e.c.o, gxC, e.ic.1, e.ic.2, ok_iniC FUC BC e.c.o e.c.no, bUC⟩
  have xW : ErrC row12.prog w K mg base "InvalidWord" (ga K "InvalidWord") _ dIW := ⟨e.w.o, gxW, e.iw.1, e.iw.2, ok_iniW FIW BC e.w.o e.w.no, bIW⟩
  have kRd := ok_read FRd B xW kIn FIn.kp gIn bIn kSy FSy.kp gSy bSy
  have kDa := ok_data (CE := ga K "TooDeep") (X := ⟨ga K "InvalidWord", ga K "UnexpectedClose", ga K "UnexpectedEnd", ga K "TooDeep"⟩) FDa B ⟨ok_rend FRe B, FRe.kp, gRe, bRe⟩ ⟨ok_wend FWe B T, FWe.kp, gWe, bWe⟩ ⟨ok_beg FBg B DC, FBg.kp, gBg, bBg⟩ ⟨ok_endl FEn B xC, FEn.kp, gEn, bEn⟩ ⟨kRd, FRd.kp, gRd, bRd⟩ xE
  have kPa := ok_parse FPa T ⟨kDa, FDa.kp, gDa, bDa⟩
  have kTa := ok_take (P := row12.prog) (w := w) (base := base) FTa B FMi gMi bMi
  have kSg := ok_sign (P := row12.prog) (w := w) (base := base) FSg B ⟨kTa, FTa.kp, gTa, bTa⟩
  exact ok_law FLa B ⟨ok_state FSt B, FSt.kp, gSt, bSt⟩ ⟨kTa, FTa.kp, gTa, bTa⟩ ⟨ok_piece FPc B ⟨kTa, FTa.kp, gTa, bTa⟩ ⟨kSg, FSg.kp, gSg, bSg⟩, FPc.kp, gPc, bPc⟩
    ⟨ok_told FTo B TC ⟨kPa, FPa.kp, gPa, bPa⟩, FTo.kp, gTo, bTo⟩ ⟨ok_due FDu B ⟨ok_tok FTk B, FTk.kp, gTk, bTk⟩ ⟨ok_w FWo B, FWo.kp, gWo, bWo⟩, FDu.kp, gDu, bDu⟩ ⟨ok_sameN FSa B gSa bSa 63, FSa.kp, gSa, bSa⟩
end My
open PySem PySem.W PySem.Calls PyProof.Rows
theorem PySem.Challenge.cw_aliasfold_k12_whole_any_text_holds : PySem.Challenge.rw_aliasfold_k12_whole_any_text.Holds := by
  w_on; o_law
  refine HandSHeadRun.head_any (r := OpenLaw.row PySem.Challenge.rw_aliasfold_k12_whole_any_text) (q := view (OpenLaw.row PySem.Challenge.rw_aliasfold_k12_whole_any_text).prog [33]) (H := My.hk) (ob := My.ob) (M := 4000) (loose := My.loose) (d := HandSHeadRun.topDef (OpenLaw.row PySem.Challenge.rw_aliasfold_k12_whole_any_text).prog 33) (kwd := []) My.ob_eq
    (by kernel_rfl) (fun s => by kernel_rfl) My.headRun (by kernel_rfl) (by kernel_rfl) (by kernel_rfl) (by rfl) (by first | assumption | decide +kernel) (by decide +kernel) ⟨rfl, rfl, rfl, rfl, rfl, by decide +kernel⟩ ?hw ?hc
  case hw => w_witness2
  case hc =>
    refine LamX.walk_ofTsE (l := PySem.Challenge.rw_aliasfold_k12_whole_any_text) (n := 63) (k := 64) (x := "script") (CX := fun _ => L2.CX0) rfl (by decide) (by kernel_rfl) ⟨rfl, by decide, by decide⟩ ?F (fun _ _ _ _ _ z => z)
    intro w mg fa h Y G hmg0
    obtain ⟨K, KX, c⟩ := Y
    have hmg : mg ("law" : PySem.Str) = some (.ref fa) := by
      have e : (HandSHeadRun.topDef (OpenLaw.row PySem.Challenge.rw_aliasfold_k12_whole_any_text).prog 33).name = ("law" : PySem.Str) := by kernel_rfl
      rw [← e]
      exact hmg0
    exact ⟨K, KX, My.facts c KX G hmg⟩
