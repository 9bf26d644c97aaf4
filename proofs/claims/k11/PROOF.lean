import PyProof.Rows.All
import Wide.All
import OpenK.AllK
import Wide.FinOn
import HandS.ForMost
import HandS.ForExc
import HandS.Wide
import HandS.Codes
import HandS.AnyAll
import HandS.StrMore
import HandS.FStr
import HandS.IsInst
import HandS.ExcInit
import HandS.ExcIs
import HandS.ExcField
import HandS.Replace
import HandS.ReplaceLit
import HandS.Flow
import HandS.NoneIn
import HandS.Style
import PySem.Challenge.RW_aliasfold_k11_texts_read
import HandS.ExcCtx
import HandS.Hot
import HandS.HotCalls
import HandS.WordsExc
import HandS.ExcInitHot
import HandS.ReplaceList
import HandS.RaiseMore
import PyProof.Rows.StrDigitsNeg
import KE.KExcIs
import HandS.More
import HandS.Head0
import HandS.Head1
import HandS.Head2
import HandS.HeadEnd
import HandS.HeadHook1
import HandS.HeadHook2
import HandS.HeadHook4
import HandS.HeadNt
import HandS.HeadWalk
set_option Elab.async false
set_option linter.all false
set_option maxRecDepth 100000
set_option maxHeartbeats 0
namespace My
open PySem L2

/-! ### heaps -/
def isTbl : HO → Bool
  | .tbl _ => true
  | _ => false
/-- what was tracked stays, but for what X names; tables stay tables; nothing is forgotten -/
structure Sm (X : Addr → Prop) (H H' : Hp) : Prop where
  keep : ∀ b o, ¬ X b → isTbl o = false → H b = some o → H' b = some o
  tab : ∀ P, GxR.TabG H P → GxR.TabG H' P
  dom : ∀ b, H' b = none → H b = none
abbrev No : Addr → Prop := fun _ => False
abbrev Two (S L : Addr) : Addr → Prop := fun b => b = S ∨ b = L
theorem Sm.refl (X : Addr → Prop) (H : Hp) : Sm X H H := ⟨fun _ _ _ _ h => h, fun _ h => h, fun _ h => h⟩
theorem Sm.trans {X : Addr → Prop} {H H1 H2 : Hp} (a : Sm X H H1) (b : Sm X H1 H2) : Sm X H H2 :=
  ⟨fun c o n t h => b.keep c o n t (a.keep c o n t h), fun P h => b.tab P (a.tab P h), fun c h => a.dom c (b.dom c h)⟩
theorem Sm.wide {X Y : Addr → Prop} {H H' : Hp} (a : Sm X H H') (h : ∀ b, X b → Y b) : Sm Y H H' :=
  ⟨fun c o n t q => a.keep c o (fun z => n (h c z)) t q, a.tab, a.dom⟩
theorem Sm.no {Y : Addr → Prop} {H H' : Hp} (a : Sm No H H') : Sm Y H H' := a.wide fun _ z => z.elim
theorem tab_upd {H : Hp} {p : Addr} {o : HO} (h : ∀ ps, H p ≠ some (.tbl ps)) : ∀ P, GxR.TabG H P → GxR.TabG (upd H p o) P := fun P ⟨ps, h1, h2⟩ =>
  ⟨ps, by rw [upd_ne (fun z => h ps (by rw [← z]; exact h1))]; exact h1, h2⟩
theorem upd_dom {H : Hp} {p : Addr} {o : HO} : ∀ b, upd H p o b = none → H b = none := fun b h => by
  by_cases hb : b = p
  · rw [hb, upd_same] at h; cases h
  · rw [upd_ne hb] at h; exact h
theorem Sm.new {X : Addr → Prop} {H : Hp} {p : Addr} {o : HO} (h : H p = none) : Sm X H (upd H p o) :=
  ⟨fun b u _ _ e => by rw [upd_ne (ne_of_none e h)]; exact e, tab_upd (fun ps z => by rw [h] at z; cases z), upd_dom⟩
theorem Sm.set {X : Addr → Prop} {H : Hp} {p : Addr} {o : HO} (h : X p) (ht : ∀ ps, H p ≠ some (.tbl ps)) : Sm X H (upd H p o) :=
  ⟨fun b u n _ e => by rw [upd_ne (fun z => n (by rw [z]; exact h))]; exact e, tab_upd ht, upd_dom⟩
theorem Sm.tabbed {X : Addr → Prop} {H H' : Hp} {P : Addr} (h0 : GxR.TabG H P) (h : GxR.Tabbed P H H') : Sm X H H' := by
  obtain ⟨ht, hk⟩ := h
  refine ⟨fun b o _ n e => ?_, fun Z hz => ?_, fun b h => ?_⟩
  · by_cases hb : b = P
    · obtain ⟨ps, h1, _⟩ := h0
      rw [hb, h1] at e
      cases e
      cases n
    · rw [hk b hb]; exact e
  · by_cases hb : Z = P
    · rw [hb]; exact ht
    · obtain ⟨ps, h1, h2⟩ := hz
      exact ⟨ps, by rw [hk Z hb]; exact h1, h2⟩
  · by_cases hb : b = P
    · obtain ⟨ps, h1, _⟩ := ht
      rw [hb, h1] at h
      cases h
    · rw [← hk b hb]; exact h
theorem Sm.seq {X : Addr → Prop} {K : PySem.W.Frag} {H H' : Hp} {a : Addr} {xs : List V} (e : Sm X H H') (n : ¬ X a) (h : SqL K H a xs) : SqL K H' a xs := by
  rcases h with (h | ⟨o, h⟩) | h
  · exact .inl (.inl (e.keep _ _ n rfl h))
  · exact .inl (.inr ⟨o, e.keep _ _ n rfl h⟩)
  · exact .inr h
theorem Sm.lst {X : Addr → Prop} {H H' : Hp} {a : Addr} {xs : List V} (e : Sm X H H') (n : ¬ X a) (h : H a = some (.lst xs)) : H' a = some (.lst xs) := e.keep _ _ n rfl h
theorem Sm.lst0 {H H' : Hp} {a : Addr} {xs : List V} (e : Sm No H H') (h : H a = some (.lst xs)) : H' a = some (.lst xs) := e.keep _ _ (fun z => z) rfl h
/-- what H did not know may change -/
theorem Sm.mut {X : Addr → Prop} {H H' : Hp} {p : Addr} {o : HO} (e : Sm X H H') (h : H p = none) (ht : ∀ ps, H' p ≠ some (.tbl ps)) : Sm X H (upd H' p o) :=
  ⟨fun b u n t q => by rw [upd_ne (ne_of_none q h)]; exact e.keep b u n t q, fun P h => tab_upd ht P (e.tab P h), fun b q => e.dom b (upd_dom b q)⟩
theorem ntbl_l {H : Hp} {a : Addr} {xs : List V} (h : H a = some (.lst xs)) : ∀ ps, H a ≠ some (.tbl ps) := fun ps z => by rw [h] at z; cases z

/-! ### the state of the draws -/
/-- at S: the rest of the script, at L, and what is left of the cell -/
def LS (H : Hp) (S L : Addr) : Prop := ∃ (cs : List Int) (d : Int), H S = some (.lst [.ref L, .int d]) ∧ H L = some (.lst (cs.map V.int)) ∧ 0 ≤ d ∧ cs.length ≤ 63
theorem LS.ne {H : Hp} {S L : Addr} (h : LS H S L) : S ≠ L := by
  obtain ⟨cs, d, h1, h2, _⟩ := h
  refine ne_of h1 h2 fun z => ?_
  cases cs with
  | nil => cases z
  | cons c r => cases z
theorem LS.sm {H H' : Hp} {S L : Addr} (h : LS H S L) (e : Sm No H H') : LS H' S L := by
  obtain ⟨cs, d, h1, h2, h3⟩ := h
  exact ⟨cs, d, e.lst0 h1, e.lst0 h2, h3⟩
theorem LS.some {H : Hp} {S L : Addr} (h : LS H S L) : H S ≠ none ∧ H L ≠ none := by
  obtain ⟨cs, d, h1, h2, h3⟩ := h
  exact ⟨by rw [h1]; simp, by rw [h2]; simp⟩
/-! ### the draws, as functions -/
def spMixed : Sp := fun vs H Q _ => ∃ c : Int, vs = [.int c] ∧ ∀ n : Int, 0 ≤ n → Q (.int n) H
def spTake : Sp := fun vs H Q _ => ∃ (S L : Addr) (n : Int), vs = [.ref S, .int n] ∧ LS H S L ∧ 0 < n ∧ n.natAbs < 2 ^ 8000 ∧
  ∀ (g : Int) (H' : Hp), 0 ≤ g → g < n → LS H' S L → Sm (Two S L) H H' → Q (.int g) H'
def spState (K : PySem.W.Frag) : Sp := fun vs H Q _ => ∃ (a : Addr) (ns : List Int), vs = [.ref a] ∧ SqL K H a (ns.map V.int) ∧ ns.length ≤ 63 ∧
  ∀ (S L : Addr) (H' : Hp), H S = none → H L = none → LS H' S L → Sm No H H' → Q (.ref S) H'
end My
namespace My
open PySem L2
def top (i : Nat) : Stmt := PySem.Challenge.pw_aliasfold_k11_texts_read.main.body.getD i (.Pass ⟨0, 0, 0, 0⟩)
abbrev sMixed : Stmt := top 24
abbrev sTake : Stmt := top 25
abbrev sState : Stmt := top 26
/-- names of builtins that no module name hides -/
structure Blt (mg : Str → Option Value) : Prop where
  int : mg "int" = none
  abs : mg "abs" = none
  len : mg "len" = none
  range : mg "range" = none
  str : mg "str" = none
  isinstance : mg "isinstance" = none
  all : mg "all" = none
  list : mg "list" = none
  tuple : mg "tuple" = none
  bool : mg "bool" = none
section
variable {P : Program} {w : World} {K : PySem.W.Frag} {mg : Str → Option Value} {base : Heap}
theorem scMixed : FnScope ["cell", "seed", "number", "k"] ["cell"] (defScope sMixed) := ⟨rfl, rfl, rfl, by decide +kernel, rfl, by decide +kernel, by decide +kernel⟩
theorem ok_mixed {f : Addr} {fd : FuncData} (F : Fun K "_law_mixed" "_law_mixed" sMixed f fd) (B : Blt mg) : FnOk P w K mg base CX0 1 f fd ["cell"] spMixed := by
  refine F.ok scMixed (fun vs H Q E h => ?_) (fun cdv A outer s H vs Q E hr h => ?_)
  · obtain ⟨c, rfl, _⟩ := h
    rfl
  obtain ⟨c, rfl, q⟩ := h
  have M : (0 : Int) < 1000000007 := by decide
  refine ⟨_, pss_cons (ps_set (i := 1) scMixed.nd rfl (Or.inl rfl) (pe_op op_mod (pe_callTy call_int1 (by rfl) B.int (by decide +kernel) (pa_cons (pv 0) pa_nil)) pe_int))
    (pss_cons (ps_set (i := 2) scMixed.nd rfl (Or.inl rfl) pe_int)
    (pss_cons (ps_for PassesOwn.never rfl (pi_range1 (by rfl) B.range (pa_cons pe_int pa_nil)) (pg_name (i := 3) scMixed.nd rfl (Or.inl rfl))
      (pss_cons (ps_set (i := 1) scMixed.nd rfl (Or.inl rfl) (pe_op op_mod (pe_callTy call_int1 (by rfl) B.int (by decide +kernel)
          (pa_cons (pe_op op_add (pe_op op_add (pe_op op_mul (pv 1) pe_int) pe_int) (pe_op op_mul pe_int (pv 3))) pa_nil)) pe_int))
      (pss_one (ps_set (i := 2) scMixed.nd rfl (Or.inl rfl) (pe_op op_add (pe_op op_mul (pv 2) pe_int) (pv 1))))))
    (pss_one (ps_ret (pv 2))))), ?_⟩
  refine ⟨_, rfl, .inl ⟨_, rfl, _, _, rfl, rfl, M, ?_⟩⟩
  refine ⟨6, rfl, by decide, by decide, for_range (n := 6) (fun i σ H' => ∃ (sd nb : Int) (v : Option V), σ = [some (.int c), some (.int sd), some (.int nb), v] ∧ 0 ≤ nb ∧ H' = H)
    ⟨_, 0, none, rfl, by omega, rfl⟩ ?_ ?_⟩
  · rintro i σ H' hi ⟨sd, nb, v, rfl, h0, rfl⟩
    refine ⟨_, rfl, _, _, rfl, rfl, .inr ⟨by decide, by decide⟩, _, _, rfl, rfl, _, rfl, _, _, rfl, rfl, .inl ⟨by decide, by decide⟩, _, _, rfl, rfl, .inl ⟨_, rfl, _, _, rfl, rfl, M, ?_⟩⟩
    refine ⟨_, rfl, _, _, rfl, rfl, .inr ⟨by decide, by decide⟩, _, rfl, _, _, rfl, rfl, _, _, _, rfl, ?_, rfl⟩
    have := Int.emod_nonneg (sd * 48271 + 12820163 + 7 * (0 + (i : Int))) (b := 1000000007) (by decide)
    omega
  · rintro σ H' ⟨sd, nb, v, rfl, h0, rfl⟩
    exact ⟨_, rfl, q nb h0⟩
end
end My
namespace My
open PySem L2
section
variable {P : Program} {w : World} {K : PySem.W.Frag} {mg : Str → Option Value} {base : Heap}
theorem scTake : FnScope ["state", "limit", "cell", "digit"] ["state", "limit"] (defScope sTake) := ⟨rfl, rfl, rfl, by decide +kernel, rfl, by decide +kernel, by decide +kernel⟩
theorem at0 {α : Type} (x : α) (r : List α) : atI (x :: r) 0 = some x := atI_nat (xs := x :: r) (j := 0) rfl
theorem at1 {α : Type} (x y : α) (r : List α) : atI (x :: y :: r) 1 = some y := atI_nat (xs := x :: y :: r) (j := 1) rfl
theorem ok_take {f fM : Addr} {fd fdM : FuncData} (F : Fun K "_law_take" "_law_take" sTake f fd) (B : Blt mg) (FM : Fun K "_law_mixed" "_law_mixed" sMixed fM fdM) (gM : mg "_law_mixed" = some (.ref fM))
    (bM : Binds K fdM ["cell"] []) : FnOk P w K mg base CX0 2 f fd ["state", "limit"] spTake := by
  have GM : FnOk P w K mg base CX0 1 fM fdM ["cell"] spMixed := ok_mixed FM B
  refine F.ok scTake (fun vs H Q E h => ?_) (fun cdv A outer s H vs Q E hr h => ?_)
  · obtain ⟨S, L, n, rfl, _⟩ := h
    rfl
  obtain ⟨S, L, n, rfl, hL, n0, nb, q⟩ := h
  have hSL := hL.ne
  obtain ⟨cs, d, hS, hL', d0, l63⟩ := hL
  refine ⟨_, C8.pss_cut (ps_if (PW.pt (pw_and (pt_cmpR op_lt (pe_ix ix_list (pv 0) pe_int (fun _ _ => rfl)) (pv 1) (nomark _))
        (pw_and1 (pt_cmpR op_gt (pe_callB call_len_seq (by rfl) B.len PySem.boot_len (pa_cons (pe_ix ix_list (pv 0) pe_int (fun _ _ => rfl)) pa_nil)) pe_int (nomark _)))))
      (pss_cons (ps_set (i := 2) scTake.nd rfl (Or.inl rfl) (pe_callB call_abs (by rfl) B.abs (by decide +kernel) (pa_cons (pe_callTy call_int1 (by rfl) B.int (by decide +kernel)
          (pa_cons (pe_bm PySem.F.plainAttrs_list PySem.F.slot_list_pop PySem.F.type_list_pop mt_popAt (pe_ix ix_list (pv 0) pe_int (fun _ _ => rfl)) (pa_cons pe_int pa_nil)) pa_nil)) pa_nil)))
      (C8.pss_cut (ps_if (pt_cmpR op_lt (pv 2) (pe_op op_pow pe_int pe_int) (nomark _)) (pss_one (ps_set (i := 2) scTake.nd rfl (Or.inl rfl) (pe_call GM (hr.mono (by decide)) rfl gM FM.kp bM .nil pass0 (pa_cons (pv 2) pa_nil)))) pss_nil)
      (pss_one (ps_asg (pv 2) (pg_sub (pv 0) pe_int set_list))))) pss_nil)
    (pss_cons (ps_set (i := 3) scTake.nd rfl (Or.inl rfl) (pe_op op_mod (pe_callTy call_int1 (by rfl) B.int (by decide +kernel) (pa_cons (pe_ix ix_list (pv 0) pe_int (fun _ _ => rfl)) pa_nil)) (pv 1)))
    (pss_cons (ps_asg (pe_op op_fdivW (pe_ix ix_list (pv 0) pe_int (fun _ _ => rfl)) (pv 1)) (pg_sub (pv 0) pe_int set_list))
    (pss_one (ps_ret (pv 3))))), ?_⟩
  -- behind the first if
  refine ⟨fun σ H' => ∃ (v : Option V), σ = [some (.ref S), some (.int n), v, none] ∧ LS H' S L ∧ Sm (Two S L) H H', ?_, ?_⟩
  · refine ⟨_, rfl, S, _, _, _, rfl, rfl, SqL.of hS, at1 _ _ _, _, rfl, _, _, rfl, rfl, _, rfl, ?_⟩
    refine ite2 (fun c => ?_) (fun c => ?_)
    · refine ⟨_, rfl, S, _, _, _, rfl, rfl, SqL.of hS, at0 _ _, L, _, rfl, .inl (SqL.of hL'), _, _, rfl, rfl, _, rfl, ?_⟩
      refine ite2 (fun c2 => ?_) (fun c2 => ?_)
      · have c2' := of_decide_eq_true c2
        rw [List.length_map] at c2'
        cases cs with
        | nil => exact absurd c2' (by decide)
        | cons c0 cr =>
          refine ⟨_, rfl, S, _, _, _, rfl, rfl, SqL.of hS, at0 _ _, .inl ⟨rfl, _, SqL.of hL'⟩, L, _, 0, 0, _, rfl, rfl, hL', by decide, by decide, ?_, rfl, ?_⟩
          · unfold seqIndex?
            simp
          refine .inl ⟨_, rfl, _, rfl, ?_⟩
          refine ⟨fun σ H' => ∃ (m : Int), σ = [some (.ref S), some (.int n), some (.int m), none] ∧ 0 ≤ m ∧ H' = upd H L (.lst (cr.map V.int)), ?_, ?_⟩
          · refine ⟨_, rfl, _, _, rfl, rfl, ⟨by decide, by decide, by decide⟩, _, _, rfl, rfl, _, rfl, ?_⟩
            refine ite2 (fun _ => ?_) (fun _ => ?_)
            · exact ⟨_, rfl, _, rfl, fun m m0 => ⟨m, rfl, m0, rfl⟩⟩
            · refine ⟨_, rfl, ?_, rfl⟩
              by_cases hc : c0 < 0
              · rw [if_pos hc]; omega
              · rw [if_neg hc]; omega
          · rintro σ H' ⟨m, rfl, m0, rfl⟩
            have hS1 : upd H L (.lst (cr.map V.int)) S = some (.lst [.ref L, .int d]) := by rw [upd_ne hSL]; exact hS
            refine ⟨_, rfl, _, rfl, S, _, _, 1, rfl, rfl, hS1, rfl, ?_⟩
            refine ⟨_, rfl, ⟨cr, m, upd_same, by rw [upd_ne hSL.symm, upd_same], m0, by simp at l63; omega⟩, ?_⟩
            exact (Sm.set (.inr rfl) (ntbl_l hL')).trans (Sm.set (.inl rfl) (ntbl_l hS1))
      · exact ⟨_, rfl, ⟨_, d, hS, hL', d0, l63⟩, Sm.refl _ _⟩
    · exact ⟨_, rfl, ⟨_, d, hS, hL', d0, l63⟩, Sm.refl _ _⟩
  · rintro σ H' ⟨v, rfl, ⟨cs', d', h1, h2, d1, l1⟩, sm⟩
    refine ⟨_, rfl, S, _, _, _, rfl, rfl, SqL.of h1, at1 _ _ _, .inl ⟨_, rfl, _, rfl, _, _, rfl, rfl, n0, ?_⟩⟩
    refine ⟨_, rfl, S, _, _, _, rfl, rfl, SqL.of h1, at1 _ _ _, _, rfl, _, _, rfl, rfl, wide_div n0 nb (by decide) (by decide), ?_⟩
    refine ⟨_, rfl, S, _, _, 1, rfl, rfl, h1, rfl, _, rfl, ?_⟩
    refine q (d' % n) _ (Int.emod_nonneg _ (by omega)) (Int.emod_lt_of_pos _ n0) ⟨cs', d' / n, upd_same, by rw [upd_ne hSL.symm]; exact h2, Int.ediv_nonneg d1 (by omega), l1⟩ (sm.trans (Sm.set (.inl rfl) (ntbl_l h1)))
end
end My
namespace My
open PySem L2
section
variable {P : Program} {w : World} {K : PySem.W.Frag} {mg : Str → Option Value} {base : Heap}
theorem scState : FnScope ["script", "cell"] ["script"] (defScope sState) := ⟨rfl, rfl, rfl, by decide +kernel, rfl, by decide +kernel, by decide +kernel⟩
theorem map_at {xs : List Int} {i : Nat} {y : V} (h : (xs.map V.int)[i]? = some y) : ∃ z, xs[i]? = some z ∧ y = .int z := by
  rw [List.getElem?_map] at h
  cases e : xs[i]? with
  | none => rw [e] at h; cases h
  | some z => rw [e] at h; exact ⟨z, rfl, (Option.some.inj h).symm⟩
theorem take_more {α : Type} {l : List α} {i : Nat} {x : α} (h : l[i]? = some x) : l.take (i + 1) = l.take i ++ [x] := by
  rw [List.take_add_one, h]; rfl
theorem cutV_ints (ns : List Int) (k : Nat) : cutV (ns.map V.int) none (some (k : Int)) = ((ns.take k).map V.int) := by
  unfold cutV
  rw [HT.sIx_none, HT.sIx_nat, List.drop_zero, List.length_map, ← List.map_take]
  congr 1
  rw [show min k ns.length - 0 = min k ns.length by omega, List.take_eq_take_iff.mpr]
  omega
theorem line_of {n : Nat} (h : n ≤ 1000) : n < sizeLine := small1000 h
theorem ok_state {f : Addr} {fd : FuncData} (F : Fun K "_law_state" "_law_state" sState f fd) (B : Blt mg) : FnOk P w K mg base CX0 1 f fd ["script"] (spState K) := by
  refine F.ok scState (fun vs H Q E h => ?_) (fun cdv A outer s H vs Q E hr h => ?_)
  · obtain ⟨a, ns, rfl, _⟩ := h
    rfl
  obtain ⟨a, ns, rfl, hS, h63, q⟩ := h
  refine ⟨_, pss_one (ps_ret (pe_lst (pa_cons (pe_lc (own := [("cell", 1)]) (g := gName 1) (tt := tYes) rfl scState.nd (pi_list (pe_slice sl_list (pv 0) po_none (po_some pe_int)))
      (blkOk_by (N := ["script", "cell"]) (sc := defScope sState) (by decide +kernel)) (fun _ _ _ _ _ => pg_name (i := 1) scState.nd rfl (Or.inl rfl)) (fun _ _ _ _ _ => pts_nil)
      (fun _ _ _ _ _ => pe_callTy call_int1 (by rfl) B.int (by decide +kernel) (pa_cons (pv 1) pa_nil))) (pa_cons pe_int pa_nil)))), ?_⟩
  refine ⟨_, rfl, _, rfl, a, _, rfl, hS, fun p hp => ?_⟩
  have ec := cutV_ints ns 63
  rw [show ((63 : Nat) : Int) = 63 from rfl] at ec
  rw [ec]
  have len63 : (ns.take 63).length ≤ 63 := by rw [List.length_take]; omega
  refine ⟨p, rfl, ⟨_, SqL.of upd_same⟩, fun D hD => ?_⟩
  have npD : p ≠ D := ne_of_none upd_same hD
  have hD0 : H D = none := upd_dom _ hD
  refine lc_list (xs := (ns.take 63).map V.int) (fun i H' => H' D = some (.lst (((ns.take 63).take i).map V.int)) ∧ H' p = some (.lst ((ns.take 63).map V.int)) ∧ Sm No H H') ⟨?_, ?_, ?_⟩ (fun i H' _ h => SqL.of h.2.1) ?_ ?_
  · rw [List.take_zero]; exact upd_same
  · rw [upd_ne npD]; exact upd_same
  · exact ((Sm.refl No H).mut hp (fun ps z => by rw [hp] at z; cases z)).mut hD0 (fun ps z => by rw [hD] at z; cases z)
  · rintro i x H' hi ⟨h1, h2, sm⟩
    obtain ⟨z, hz, rfl⟩ := map_at hi
    have ln : i < 64 := by
      have := (List.getElem?_eq_some_iff.mp hz).1
      omega
    refine ⟨rfl, ?_⟩
    refine ⟨_, rfl, .inl ⟨_, rfl, _, h1, ?_, ?_, ?_, ?_⟩⟩
    · rw [List.length_map, List.length_take]
      exact line_of (by omega)
    · rw [upd_same, take_more hz, List.map_append]; rfl
    · rw [upd_ne npD]; exact h2
    · exact sm.mut hD0 (ntbl_l h1)
  · rintro H' ⟨h1, h2, sm⟩
    rw [List.length_map, List.take_length] at h1
    refine ⟨by show 2 ≤ sizeLine; decide, fun S hSn => ?_⟩
    have hS0 := sm.dom S hSn
    have nSD : D ≠ S := ne_of_none h1 hSn
    exact q S D _ hS0 hD0 ⟨_, 0, upd_same, by rw [upd_ne nSD]; exact h1, by decide, len63⟩ (sm.mut hS0 fun ps z => by rw [hSn] at z; cases z)
end
end My
namespace My
open PySem PySem.Spec PyProof.Rows L2 GxR
theorem ad_lt {b N m : Nat} (e : b = N) (h : N + 1 ≤ m) : b < m := by omega
theorem ad_ltlt {b N m : Nat} (e : b < N) (h : N + 1 ≤ m) : b < m := by omega
theorem ad_no {b N : Nat} (e : b = N) (h : b < N) : False := by omega
theorem ad_no2 {b N m : Nat} (e : b = m) (h : b < N) (h2 : N + 1 ≤ m) : False := by omega
/-- the element of a generator expression over signs, where it may read the module's names -/
def EltG (prog : Program) (w : World) (mg : Str → Option Value) (sc : Scope) (x : Str) (e : Expr) (pb : Nat → Bool) : Prop :=
  ∀ (ce : Env) (A' : Around) (E' : Value → Shared → Prop) (c : Nat) (t : Tok) (z : Shared) (m : Str → Option Value),
    ce.scope = sc → ce.globals = mainGlobals → z.heap.Ns mainGlobals mg → z.heap.Ns ce.locals m → m x = some (.str ⟨#[c]⟩ t) →
    wpAny (model prog w) A' (eval e ce) (fun y z' => y = .bool (pb c) ∧ Keeps z z') E' z
/-- x in NAME, NAME a text of the module -/
theorem elt_inG {prog : Program} {w : World} {mg : Str → Option Value} {sc : Scope} {x g : Str} {k : Str} {tk : Tok} {p1 p2 p3 : Pos} (hk : sc.kind = .function)
    (hl : sc.names.lookup x = some .local) (hgl : sc.names.lookup g = some .globalImplicit) (hm : mg g = some (.str k tk))
    (hd : (x == ("__debug__" : Str)) = false := by decide) (hd2 : (g == ("__debug__" : Str)) = false := by decide) :
    EltG prog w mg sc x (.Compare (.Name x p1) [.In] [.Name g p2] p3) (fun c => decide (c ∈ k.cps.toList)) := by
  intro ce A' E' c t z m hs hg hG hn hx
  refine wpAny_Compare1 ?_
  refine wpAny_Name (wpAny_loadName_local (by rw [hs]; exact hk) (show ce.scope.names.lookup x = some .local by rw [hs]; exact hl) hn hx ?_) hd
  refine Calls.Name_function_global (by rw [hs]; exact hk) (show ce.scope.names.lookup g = some .globalImplicit by rw [hs]; exact hgl) (Calls.loadGlobal_global (by rw [hg]; exact hG) hm ?_) hd2
  exact PyProof.Rows.in_str ⟨congrArg Value.bool (PySem.StrLaws.found_one k c), keeps_refl _⟩
section
variable {X : Cx} {pins : List (Addr × Obj)} {σ : L2.St} {H : Hp} {s : Shared}
theorem genG {c P : Addr} {elt iter : Expr} {x : Str} {px gpos : Pos} {scope : Scope} {pb : Nat → Bool} {te : TE} {k : Nat} {Q' : Value → Shared → Prop} {R : Str → Hp → Prop}
    (hr : Room k X.A) (TB : TabB X.base X.mg c P) (hcode : X.env.code = .ref c) (S : GenS X.env scope x) (hi : PE X iter te)
    (hel : EltG X.prog X.w X.mg scope x elt pb) (hs : ∀ v, genFold iter X.env v = pure v) (I : Inv X pins σ H s)
    (h : te σ H fun v H1 => ∃ a : Str, v = .str a ∧ TabG H1 P ∧ R a H1)
    (hQ : ∀ a H1 g s5, R a H1 → Ready X pins σ H1 P a pb g s5 → Q' (.ref g) s5) :
    wpAny (model X.prog X.w) X.A (eval (.GeneratorExp elt [⟨.Name x px, iter, [], 0⟩] scope gpos) X.env) Q' X.xe s := by
  refine wpAny_GeneratorExp_walksQ hr.hd S.co (closure_ok S.free) S.cell S.dot S.loc S.kind hr.depth ?_ hs
  refine thn (hi.run pins s σ H _ I h) fun xv s1 hx => ?_
  obtain ⟨v, H1, J, rv, a, ev, ⟨ps, tP, tOk⟩, hR⟩ := hx
  subst ev
  obtain ⟨t, et⟩ := (show ∃ t, xv = Value.str a t from rv)
  subst et
  refine wpAny_pyIter_str fun o St W st0 => ?_
  generalize hN : s1.heap.objs.size = N at W st0 ⊢
  have gP : s1.heap.get? P = some { cls := .none, data := .fields ps } := J.hok P _ tP
  have ltP : P < N := by rw [← hN]; exact Heap.lt_size gP
  have szO : (s1.heap.push o).objs.size = N + 1 := by rw [Heap.size_push, hN]
  have kO : ∀ b u, s1.heap.get? b = some u → (s1.heap.push o).get? b = some u := fun b u e => Heap.get?_push_of_some _ e
  have codeO : PySem.W.CodeHd (s1.heap.push o) c P := TB.code.keeps fun b u e => kO b u (J.bk b u e)
  have limO : (s1.heap.push o).NoLimit := J.nolimit.push o
  have statics : cStatics < N := by
    obtain ⟨_, hn, _⟩ := J.nolimit
    rw [← hN]
    exact hn.lt
  have staticsP : cStatics ≠ P := fun e => by
    obtain ⟨_, hn, _⟩ := J.nolimit
    obtain ⟨q, _, _, hq, hqd, _⟩ := hn
    rw [e, gP] at hq
    cases hq
    cases hqd
  refine ⟨limO, ?_⟩
  have main : ∀ (code : Value) (h3 : Heap) (tk : Nat) (ps' : Array Value), Heap.ExtBut P (s1.heap.push o) h3 → N + 1 ≤ h3.objs.size →
      h3.get? P = some { cls := .none, data := .fields ps' } → (∃ more, ps' = ps ++ more) → TriplesOk ps'.toList →
      wpAny (model X.prog X.w) X.A (builtinsFor X.env.globals X.env.builtins) (fun bi s₄ =>
        ∃ Ia fp wr n₀ Pf St₀ pz F, Value.ref N = .ref Ia ∧ (∀ A' : Around, A'.handled = none → Walks X.prog X.w A' Ia fp wr n₀ Pf St₀) ∧ St₀ 0 s₄.heap ∧
          (∀ b ∈ fp, b < s₄.heap.objs.size) ∧ s₄.heap.NoLimit ∧ cStatics ∉ wr ∧
          (∀ href : Heap, (∀ b o, s₄.heap.get? b = some o → href.get? b = some o) →
            QuietGen X.prog X.w (genEnv scope (cloFrom X.env.cells scope.names []) s₄.heap.objs.size code bi X.env) x [] elt (List.range s₄.heap.objs.size) wr Pf pz F href) ∧
          (∀ a h₅ tk gs, gs.bare = true → s₄.heap.objs.size < a → h₅.objs.size = a + 1 → (∀ b o, s₄.heap.get? b = some o → h₅.get? b = some o) →
            WalksS X.prog X.w X.A.in4 a (a :: s₄.heap.objs.size :: List.range s₄.heap.objs.size) (s₄.heap.objs.size :: wr) (GenOnlyQ s₄.gens.size) (passing pz n₀ 0).length
              (fun j y => ∃ i, (passing pz n₀ 0)[j]? = some i ∧ F i y) (GenAt X.prog X.w X.A.in4 a s₄.gens.size s₄.heap.objs.size (List.range s₄.heap.objs.size) wr pz n₀ F) →
            GenAt X.prog X.w X.A.in4 a s₄.gens.size s₄.heap.objs.size (List.range s₄.heap.objs.size) wr pz n₀ F 0 { s₄ with gens := s₄.gens.push gs, toks := tk, heap := h₅ } →
            Q' (.ref a) { s₄ with gens := s₄.gens.push gs, toks := tk, heap := h₅ })) X.xe { s1 with heap := h3, toks := tk } := by
    intro code h3 tk ps' hx hsz hP3 hmore ht3
    have k3 : ∀ b u, b ≠ P → s1.heap.get? b = some u → h3.get? b = some u := fun b u hb e => hx b u hb (kO b u e)
    have glob3 : h3.Ns mainGlobals X.mg := ((J.mod.glob.keeps J.bk).push o).extBut hx TB.gP
    obtain ⟨bm, ob, b1, b2, b3, b4, b5, b6, b7, b8⟩ := TB.bm
    refine wpAny_builtinsFor (m := X.mg) (by rw [J.ok.glob]; exact glob3) b1 b2 (k3 _ _ b4 (J.bk _ _ b5)) b6 b7 b8 ?_
    refine ⟨N, [N], [N], a.cps.size, SignAt a, St, (fun _ => true), (fun i y => ∃ q, a.cps[i]? = some q ∧ y = .bool (pb q)), rfl, W, ?_, ?_, limO.extBut hx staticsP, ?_, ?_, ?_⟩
    · refine (W X.A hr.hd).frame _ _ _ st0 fun b hb u e => hx b u (fun z => ?_) e
      have eb : b = N := by simpa using hb
      exact ad_no (z.symm.trans eb) ltP
    · intro b hb
      have eb : b = N := by simpa using hb
      exact ad_lt eb hsz
    · intro z
      have eb : cStatics = N := by simpa using z
      rw [eb] at statics
      exact Nat.lt_irrefl _ statics
    · intro href keepH
      have ltG : mainGlobals < N := by
        obtain ⟨q, _, _, hq, _⟩ := J.mod.glob.keeps J.bk
        rw [← hN]
        exact Heap.lt_size hq
      refine ⟨fun A' E' i v z m hA hv hn hm hk => ?_, fun A' E' i v z m hA hv hp hn hm hk => ?_⟩
      · simp only [List.forIn_nil]
        exact wpAny_pure ⟨rfl, keeps_refl _⟩
      · obtain ⟨q, u, hq, ev⟩ := hv
        subst ev
        have globZ : z.heap.Ns mainGlobals X.mg := by
          obtain ⟨og, es, ep, ho, hrest⟩ := glob3
          refine ⟨og, es, ep, hk mainGlobals (List.mem_range.mpr ?_) (fun hw => ?_) og (keepH _ _ ho), hrest⟩
          · exact ad_ltlt ltG hsz
          · have eb : mainGlobals = N := by simpa using hw
            exact ad_no eb ltG
        exact wpAny_mono (hel _ A' E' q u z m rfl J.ok.glob globZ hn hm) (fun y z' r => ⟨⟨q, hq, r.1⟩, r.2⟩) fun _ _ e => e
    · intro g h5 tk5 gs hgb hag hsz5 hk5 W5 at0
      simp only [GxR.passing_true, List.length_range] at W5
      refine hQ a H1 g _ hR ⟨_, _, _, _, _, W5.in4_1, at0, ?_, fun s' mv => ?_⟩
      · rintro j y sj Qj Ej ⟨i, hij, q, hq, rfl⟩ hQj
        obtain ⟨hj, ej⟩ := List.getElem?_eq_some_iff.mp hij
        rw [List.getElem_range] at ej
        subst ej
        have e9 : a.cps.toList[j]? = some q := by rw [Array.getElem?_toList]; exact hq
        have hQ2 : Qj (trF pb a.cps.toList j) sj := hQj
        rw [trF_some e9] at hQ2
        exact wpAny_truthy_bool hQ2
      · obtain ⟨more, em⟩ := hmore
        have nwr : ∀ b u, s1.heap.get? b = some u → b ∉ h3.objs.size :: [N] := fun b u e hb => by
          have hl : b < N := by rw [← hN]; exact Heap.lt_size e
          rcases List.mem_cons.mp hb with z | z
          · exact ad_no2 z hl hsz
          · have eb : b = N := by simpa using z
            exact ad_no eb hl
        have K2 := inv_tab (more := more) (h' := s'.heap) (g' := s'.gens) (d' := s'.drawn) (t' := s'.toks) J tP
          (fun b u hb e => mv.heap b u (nwr b u e) (hk5 b u (k3 b u hb e))) (by rw [← em]; exact mv.heap P _ (nwr P _ gP) (hk5 P _ hP3)) (AllBare.movedS (J.bare.push hgb) mv)
        rw [sh_eta s1 s' mv.os] at K2
        exact ⟨upd H1 P (.tbl (ps ++ more)), ⟨⟨ps ++ more, upd_same, by rw [← em]; exact ht3⟩, fun b hb => upd_ne hb⟩, K2⟩
  cases hf : codeAmong gpos ps.toList with
  | none =>
    refine wpAny_genexprCodeX hcode (codeO.code (kO _ _ gP) tOk) (codeO.tab (kO _ _ gP)) hf fun c' h' tk hx hge hlt hco' _ htab' _ => ?_
    obtain ⟨o1, vs, f1, tf, fl, tg, inF, tx, tt, op, _, _, _, _, _, _, _, _, _, htr, _⟩ := hco'
    refine main _ h' tk _ hx ?_ htab'.2 ⟨_, rfl⟩ htr
    rw [szO] at hge
    exact Nat.le_trans hge (Nat.le_of_lt hlt)
  | some cv =>
    refine wpAny_genexprCode_hit hcode (codeO.code (kO _ _ gP) tOk) hf ?_
    exact main cv (s1.heap.push o) s1.toks ps (Heap.ExtBut.refl _ _) (Nat.le_of_eq szO.symm) (kO _ _ gP) ⟨#[], by simp⟩ tOk
/-- all(test for x in e), e a text -/
theorem pe_allG {c P : Addr} {elt iter : Expr} {x : Str} {px p pos gpos : Pos} {scope : Scope} {pb : Nat → Bool} {te : TE} {k : Nat}
    (hr : Room k X.A) (hg : Gl X "all") (hm : X.mg "all" = none) (hb : bootBuiltins "all" = some (.builtin "all")) (TB : TabB X.base X.mg c P) (hcode : X.env.code = .ref c) (S : GenS X.env scope x)
    (hi : PE X iter te) (hel : EltG X.prog X.w X.mg scope x elt pb) (hs : ∀ v, genFold iter X.env v = pure v)
    (he : starEach [.GeneratorExp elt [⟨.Name x px, iter, [], 0⟩] scope gpos] X.env = (false, eval (.GeneratorExp elt [⟨.Name x px, iter, [], 0⟩] scope gpos) X.env) :: starEach [] X.env := by rfl) :
    PE X (.Call (.Name "all" p) [.GeneratorExp elt [⟨.Name x px, iter, [], 0⟩] scope gpos] [] pos) (tAllS P pb te) := by
  refine ⟨fun pins s σ H Q I h => wpAny_Call_Name_kw (ld_blt I hg hm hb (PyProof.Rows.callWith_builtin1 ?_ he (by rfl)))⟩
  rw [he]
  show wpAny _ _ (spliced ((false, eval (.GeneratorExp elt [⟨.Name x px, iter, [], 0⟩] scope gpos) X.env) :: backTo pos (starEach [] X.env))) _ _ s
  refine Calls.spliced_cons (genG (R := fun a H1 => ∀ H2, Tabbed P H1 H2 → Q (.bl (a.cps.toList.all pb)) H2) hr TB hcode S hi hel hs I h fun a H1 g z hR rdy => Calls.spliced_nil ?_)
  obtain ⟨fp, wr, G, F, St, W, st0, tru, back⟩ := rdy
  refine call_all_walkS (W.self 0 _ _ _ st0 ⟨g, fp, wr, G, _, F, St, _, rfl, W, st0, tru, fun z' mv => ?_⟩)
  obtain ⟨H2, tb, K2⟩ := back z' mv
  have q := hR H2 tb
  rw [← all_signs a pb] at q
  exact ⟨.bl _, H2, K2, rfl, q⟩
end
end My
namespace My
open PySem L2 TL
/-! ### signs and words, by their codes -/
def sDig : Str := "0123456789"
def sSym : Str := "abcdefghijklmnopqrstuvwxyzABCDEFGHIJKLMNOPQRSTUVWXYZ0123456789-+*<=?!."
def sEnd : Str := " \n();"
def isDig (c : Nat) : Bool := decide (c ∈ sDig.cps.toList)
def isSym (c : Nat) : Bool := decide (c ∈ sSym.cps.toList)
def isEnd (c : Nat) : Bool := decide (c ∈ sEnd.cps.toList)
theorem dig_list : sDig.cps.toList = [48, 49, 50, 51, 52, 53, 54, 55, 56, 57] := by decide +kernel
theorem end_list : sEnd.cps.toList = [32, 10, 40, 41, 59] := by decide +kernel
theorem isDig_iff (c : Nat) : isDig c = true ↔ 48 ≤ c ∧ c ≤ 57 := by
  unfold isDig
  rw [dig_list, decide_eq_true_iff]
  simp only [List.mem_cons, List.not_mem_nil, or_false]
  omega
theorem isEnd_iff (c : Nat) : isEnd c = true ↔ c = 32 ∨ c = 10 ∨ c = 40 ∨ c = 41 ∨ c = 59 := by
  unfold isEnd
  rw [end_list, decide_eq_true_iff]
  simp only [List.mem_cons, List.not_mem_nil, or_false]
/-- what stands behind a sign ahead -/
def body : List Nat → List Nat
  | [] => []
  | c :: r => if c = 45 ∨ c = 43 then r else c :: r
def madeNum (l : List Nat) : Bool := !(body l).isEmpty && (body l).all isDig
def isSymL (l : List Nat) : Bool := !l.isEmpty && (!madeNum l && l.all isSym)
/-- without a minus ahead -/
def noMinus : List Nat → List Nat
  | [] => []
  | c :: r => if c = 45 then r else c :: r
def isIntL (l : List Nat) : Bool := madeNum l && (l.head? != some 43 && (decide ((noMinus l).length ≤ 40) && (l == [48] || (noMinus l).head? != some 48)))
/-! ### pieces of texts -/
theorem tl_cut0 (z : Str) (k : Nat) : tl (cutS z none (some (k : Int))) = (tl z).take k := by
  unfold cutS
  rw [HT.sIx_none, HT.sIx_nat]
  show ((z.cps.toList.drop 0).take (min k z.length - 0)) = _
  rw [List.drop_zero, Nat.sub_zero, List.take_eq_take_iff.mpr]
  have := len_tl z
  unfold tl at this
  omega
theorem tl_cut1 (z : Str) (k : Nat) : tl (cutS z (some (k : Int)) none) = (tl z).drop k := by
  unfold cutS
  rw [HT.sIx_none, HT.sIx_nat]
  show ((z.cps.toList.drop (min k z.length)).take (z.length - min k z.length)) = z.cps.toList.drop k
  have hz : z.length = z.cps.toList.length := len_tl z
  rw [hz]
  generalize z.cps.toList = l
  rw [List.take_of_length_le (by rw [List.length_drop]; omega)]
  by_cases h : k ≤ l.length
  · rw [Nat.min_eq_left h]
  · rw [Nat.min_eq_right (by omega), List.drop_of_length_le (Nat.le_refl l.length), List.drop_of_length_le (show l.length ≤ k by omega)]
theorem tl_cut2 (z : Str) (a b : Nat) (h : a ≤ b) (hb : b ≤ z.length) : tl (cutS z (some (a : Int)) (some (b : Int))) = ((tl z).drop a).take (b - a) := by
  unfold cutS
  rw [HT.sIx_nat, HT.sIx_nat]
  show ((z.cps.toList.drop (min a z.length)).take (min b z.length - min a z.length)) = _
  rw [Nat.min_eq_left hb, Nat.min_eq_left (Nat.le_trans h hb)]
theorem str_eq_iff (x y : Str) : (x = y) ↔ tl x = tl y := ⟨fun h => by rw [h], ext_tl⟩
theorem dec_str_tl (x y : Str) : decide (V.str x = V.str y) = decide (tl x = tl y) := by
  by_cases h : tl x = tl y
  · rw [decide_eq_true h, decide_eq_true (by rw [ext_tl h])]
  · rw [decide_eq_false h, decide_eq_false fun z => h (by cases z; rfl)]
theorem tl_removeprefix (x : Str) : tl (Txt.removeprefix x ("-" : Str)) = noMinus (tl x) := by
  have e1 : ("-" : Str).length = 1 := by decide +kernel
  have e2 : ("-" : Str).cps.toList = [45] := by decide +kernel
  rw [StrLaws.removeprefix_eq, StrLaws.subAt_eq, e1, e2, List.drop_zero]
  have hl := len_tl x
  show tl (if (decide (0 + 1 ≤ x.length) && ((tl x).take 1 == [45])) = true then (⟨(((tl x).drop 1).take (x.length - 1)).toArray⟩ : Str) else x) = noMinus (tl x)
  cases h : tl x with
  | nil =>
    rw [h] at hl
    rw [if_neg (by simp), h]
    rfl
  | cons c r =>
    rw [h] at hl
    have hl' : x.length = r.length + 1 := hl
    by_cases hc : c = 45
    · subst hc
      rw [if_pos (by simp [hl'])]
      show ((45 :: r).drop 1).take (x.length - 1) = noMinus (45 :: r)
      rw [hl']
      simp [noMinus]
    · rw [if_neg (by simp [hc]), h]
      simp [noMinus, hc]
theorem inV2 (x : Str) (a b : Str) : inV (.str x) [.str a, .str b] = (decide (tl x = tl a) || decide (tl x = tl b)) := by
  unfold inV
  simp only [List.any_cons, List.any_nil, Bool.or_false]
  have e : ∀ y : Str, eqV (.str y) (.str x) = decide (tl x = tl y) := fun y => by
    show decide (y = x) = _
    by_cases h : tl x = tl y
    · rw [decide_eq_true h, decide_eq_true (ext_tl h).symm]
    · rw [decide_eq_false h, decide_eq_false fun z => h (by rw [z])]
  rw [e, e]
end My
namespace My
open PySem L2 TL
/-! ### a def whose code object is known -/
structure FunC (K : PySem.W.Frag) (x : Str) (st : Stmt) (f : Addr) (fd : FuncData) (c : Addr) : Prop where
  ex : ∃ (oc : Value) (od : Option Addr) (kV doc pm : Value) (an : Option Addr) (ct : Value) (osl : Array (Option Value)),
    fd = PySem.W.fnOf x x (defArgs st) (defBody st) (defScope st) .none kV doc pm an (.ref c) ct ∧ K.lookup f = some ⟨oc, od, .func fd, osl⟩ ∧ PySem.W.codeIn K (.ref c) x = true
  kp : PySem.W.keepIn K (.ref f) = true
section
variable {P : Program} {w : World} {K : PySem.W.Frag} {mg : Str → Option Value} {base : Heap}
theorem FunC.ok {x : Str} {st : Stmt} {f c : Addr} {fd : FuncData} {N ps : List Str} {k : Nat} {sp : Sp} (F : FunC K x st f fd c) (S : FnScope N ps (defScope st)) (len : ∀ vs H Q E, sp vs H Q E → vs.length = ps.length)
    (hb : ∀ (A : Around) (outer : List Env) (s : Shared) (H : Hp) (vs : List V) (Q : VK) (E : XK), Room k (A.deeper (PyProof.Rows.envOfC x (defScope st) s.heap.objs.size f (.ref c))) → sp vs H Q E →
      ∃ t, PSs (cxOf CX0 P w K mg base N x (defScope st) f (.ref c) A outer s H E).nox (defBody st) t ∧ t { nx := fun _ H' => Q .non H', rt := Q } (start N vs) H) : FnOk P w K mg base CX0 (k + 1) f fd ps sp := by
  obtain ⟨oc, od, kV, doc, pm, an, ct, osl, e, lk, hcd⟩ := F.ex
  subst e
  refine fn_of lk hcd S len fun A outer s H vs Q E hr hsp => ?_
  obtain ⟨t, h, q⟩ := hb A outer s H vs Q E hr hsp
  exact ⟨t, h.nox, q⟩
end
abbrev sNum : Stmt := top 12
abbrev sSymb : Stmt := top 13
abbrev sInt : Stmt := top 14
/-- the module's texts and numbers -/
structure Sgn (mg : Str → Option Value) : Prop where
  dig : ∃ t, mg "DIGITS" = some (.str sDig t)
  sym : ∃ t, mg "SYMBOL_SIGNS" = some (.str sSym t)
structure Txs (mg : Str → Option Value) : Prop where
  dig : ∃ t, mg "DIGITS" = some (.str sDig t)
  sym : ∃ t, mg "SYMBOL_SIGNS" = some (.str sSym t)
  ends : ∃ t, mg "WORD_ENDS" = some (.str sEnd t)
  most : ∃ t, mg "MOST_DIGITS" = some (.int 40 t)
  deep : ∃ t, mg "DEEPEST_LIST" = some (.int 60 t)
theorem Txs.sgn {mg : Str → Option Value} (T : Txs mg) : Sgn mg := ⟨T.dig, T.sym⟩
def big : Nat := 1000000
theorem big_line {n : Nat} (h : n ≤ big) : n ≤ sizeLine := Nat.le_trans h (by decide)
theorem genS_of {env : Env} {sc : Scope} {x : Str} (a : sc.kind = .function) (b : sc.isCoroutine = false) (c : ∀ y ∈ sc.names, y.2 ≠ .cell) (d : sc.names.lookup (".0" : Str) = some NameKind.local) (e : sc.names.lookup x = some .local)
    (n : ∀ y ∈ sc.names, y.2 ≠ .free) : GxR.GenS env sc x := ⟨a, b, c, d, e, fun y hy z => absurd z (n y hy)⟩
/-- a text's test -/
def spTxt (g : List Nat → Bool) (Ps : List Addr) : Sp := fun vs H Q _ => ∃ z : Str, vs = [.str z] ∧ z.length ≤ big ∧ (∀ p ∈ Ps, GxR.TabG H p) ∧ ∀ H', Sm No H H' → Q (.bl (g (tl z))) H'
section
variable {P : Program} {w : World} {K : PySem.W.Frag} {mg : Str → Option Value} {base : Heap}
theorem scNum : FnScope ["word", "digits"] ["word"] (defScope sNum) := ⟨rfl, rfl, rfl, by decide +kernel, rfl, by decide +kernel, by decide +kernel⟩
theorem body_cases (l : List Nat) : (decide (l.take 1 = [45]) || decide (l.take 1 = [43])) = true ∧ body l = l.drop 1 ∨ (decide (l.take 1 = [45]) || decide (l.take 1 = [43])) = false ∧ body l = l := by
  cases l with
  | nil => right; exact ⟨rfl, rfl⟩
  | cons c r =>
    by_cases h : c = 45 ∨ c = 43
    · left
      refine ⟨?_, by simp [body, h]⟩
      rcases h with h | h <;> subst h <;> simp
    · right
      refine ⟨?_, by simp [body, h]⟩
      simp
      omega
theorem ok_num {f c P1 : Addr} {fd : FuncData} (F : FunC K "is_made_as_number" sNum f fd c) (B : Blt mg) (T : Sgn mg) (TB : GxR.TabB base mg c P1) : FnOk P w K mg base CX0 1 f fd ["word"] (spTxt madeNum [P1]) := by
  refine F.ok scNum (fun vs H Q E h => ?_) (fun A outer s H vs Q E hr h => ?_)
  · obtain ⟨z, rfl, _⟩ := h
    rfl
  obtain ⟨z, rfl, hz, ht, q⟩ := h
  have hT := ht P1 (by simp)
  obtain ⟨td, eD⟩ := T.dig
  refine ⟨_, pss_cons (ps_set (i := 1) scNum.nd rfl (Or.inl rfl) (pe_ifExp (pt_cmpR op_in_seq (pe_slice sl_str (pv 0) po_none (po_some pe_int)) (pe_tup (pa_cons pe_str (pa_cons pe_str pa_nil))) (by rfl))
      (pe_slice sl_str (pv 0) (po_some pe_int) po_none) (pv 0)))
    (pss_one (ps_ret (pe_and (pe_cmpR op_ne (pv 1) pe_str (nomark _)) (pe_one (pe_allG hr (by rfl) B.all (by decide +kernel) TB rfl (genS_of rfl rfl (by decide +kernel) rfl rfl (by decide +kernel)) (pv 1)
      (elt_inG rfl rfl rfl eD) (fun _ => rfl)))))), ?_⟩
  have fin : ∀ (d : Str) (p : Addr) (o : HO), H p = none → isTbl o = false → tl d = body (tl z) →
      (tAndV (tOp rNe (tVar 1) (tC (V.str ""))) (GxR.tAllS P1 (fun c => decide (c ∈ sDig.cps.toList)) (tVar 1))) [some (.str z), some (.str d)] (upd H p o) Q := by
    intro d p o hp _ e
    have sm1 : Sm No H (upd H p o) := Sm.new hp
    refine ⟨_, rfl, rfl, _, rfl, ?_⟩
    have e0 : tl ("" : Str) = [] := by decide +kernel
    rw [dec_str_tl, e, e0]
    by_cases hb : body (tl z) = []
    · rw [decide_eq_true hb]
      have g : madeNum (tl z) = false := by unfold madeNum; rw [hb]; rfl
      have r := q _ sm1
      rw [g] at r
      exact r
    · rw [decide_eq_false hb]
      refine ⟨_, rfl, d, rfl, sm1.tab _ hT, fun H2 tb => ?_⟩
      have g : madeNum (tl z) = d.cps.toList.all (fun c => decide (c ∈ sDig.cps.toList)) := by
        show madeNum (tl z) = (tl d).all (fun c => decide (c ∈ sDig.cps.toList))
        rw [e]
        unfold madeNum
        cases hx : body (tl z) with
        | nil => exact absurd hx hb
        | cons a r => rfl
      have r := q _ (sm1.trans (Sm.tabbed (sm1.tab _ hT) tb))
      rw [g] at r
      exact r
  refine ⟨_, rfl, _, rfl, z, rfl, big_line hz, ?_⟩
  refine ⟨by show 2 ≤ sizeLine; decide, fun p hp => ?_⟩
  refine ⟨p, _, rfl, .inr (SqT.of upd_same), rfl, rfl, _, rfl, ?_⟩
  rw [if_neg Bool.false_ne_true, inV2]
  have e1 : tl (cutS z none (some 1)) = (tl z).take 1 := tl_cut0 z 1
  have em : tl ("-" : Str) = [45] := by decide +kernel
  have ep : tl ("+" : Str) = [43] := by decide +kernel
  rw [e1, em, ep]
  rcases body_cases (tl z) with ⟨h1, h2⟩ | ⟨h1, h2⟩
  · rw [h1]
    refine ⟨_, rfl, _, rfl, z, rfl, big_line hz, ?_⟩
    exact fin _ p _ hp rfl (by rw [h2]; exact tl_cut1 z 1)
  · rw [h1]
    exact ⟨_, rfl, fin _ p _ hp rfl h2.symm⟩
end
end My
namespace My
open PySem L2 TL
section
variable {P : Program} {w : World} {K : PySem.W.Frag} {mg : Str → Option Value} {base : Heap}
theorem spTxt_len {g : List Nat → Bool} {Ps : List Addr} : ∀ vs H Q E, spTxt g Ps vs H Q E → vs.length = (["word"] : List Str).length := by
  intro vs H Q E h
  obtain ⟨z, rfl, _⟩ := h
  rfl
/-! ### is_symbol -/
theorem scSymb : FnScope ["text"] ["text"] (defScope sSymb) := ⟨rfl, rfl, rfl, by decide +kernel, rfl, by decide +kernel, by decide +kernel⟩
theorem ok_symb {f c P1 P2 fN : Addr} {fd fdN : FuncData} (F : FunC K "is_symbol" sSymb f fd c) (B : Blt mg) (T : Txs mg) (TB : GxR.TabB base mg c P2)
    (GN : FnOk P w K mg base CX0 1 fN fdN ["word"] (spTxt madeNum [P1])) (kN : PySem.W.keepIn K (.ref fN) = true) (gN : mg "is_made_as_number" = some (.ref fN)) (bN : Binds K fdN ["word"] []) :
    FnOk P w K mg base CX0 2 f fd ["text"] (spTxt isSymL [P1, P2]) := by
  refine F.ok scSymb (fun vs H Q E h => ?_) (fun A outer s H vs Q E hr h => ?_)
  · obtain ⟨z, rfl, _⟩ := h
    rfl
  obtain ⟨z, rfl, hz, ht, q⟩ := h
  have h1 := ht P1 (by simp)
  have h2 := ht P2 (by simp)
  obtain ⟨td, eD⟩ := T.sym
  refine ⟨_, pss_cons (ps_if (PW.pt (pw_or (pt_cmpR op_eq (pv 0) pe_str (nomark _)) (pw_or1 (pt_val (pe_call GN (hr.mono (by decide)) rfl gN kN bN .nil pass0 (pa_cons (pv 0) pa_nil)))))) (pss_one (ps_ret pe_bl)) pss_nil)
    (pss_one (ps_ret (pe_allG hr (by rfl) B.all (by decide +kernel) TB rfl (genS_of rfl rfl (by decide +kernel) rfl rfl (by decide +kernel)) (pv 0) (elt_inG rfl rfl rfl eD) (fun _ => rfl)))), ?_⟩
  have e0 : tl ("" : Str) = [] := by decide +kernel
  refine ⟨_, rfl, rfl, _, rfl, ?_⟩
  rw [dec_str_tl, e0]
  refine ite2 (fun c => ?_) (fun c => ?_)
  · have g : isSymL (tl z) = false := by
      have c' := of_decide_eq_true c
      unfold isSymL
      rw [c']; rfl
    have r := q H (Sm.refl _ _)
    rw [g] at r
    exact r
  · have c' : tl z ≠ [] := fun x => c (decide_eq_true x)
    have ne : (tl z).isEmpty = false := by
      cases hx : tl z with
      | nil => exact absurd hx c'
      | cons a r => rfl
    refine ⟨_, rfl, z, rfl, hz, ?_, fun H1 sm => ⟨_, rfl, ?_⟩⟩
    · intro p hp
      have : p = P1 := by simpa using hp
      rw [this]; exact h1
    refine ite2 (fun d => ?_) (fun d => ?_)
    · have g : isSymL (tl z) = false := by
        unfold isSymL
        rw [d, ne]; rfl
      have r := q H1 sm
      rw [g] at r
      exact r
    · refine ⟨_, rfl, z, rfl, sm.tab _ h2, fun H2 tb => ?_⟩
      have g : isSymL (tl z) = z.cps.toList.all (fun c => decide (c ∈ sSym.cps.toList)) := by
        unfold isSymL
        rw [ne, Bool.eq_false_iff.mpr d]
        rfl
      have r := q H2 (sm.trans (Sm.tabbed (sm.tab _ h2) tb))
      rw [g] at r
      exact r
/-! ### is_integer -/
theorem scInt : FnScope ["word", "digits"] ["word"] (defScope sInt) := ⟨rfl, rfl, rfl, by decide +kernel, rfl, by decide +kernel, by decide +kernel⟩
theorem made_ne {l : List Nat} (h : madeNum l = true) : l ≠ [] := by
  intro e
  subst e
  cases h
theorem ok_int {f P1 fN : Addr} {fd fdN : FuncData} (F : Fun K "is_integer" "is_integer" sInt f fd) (B : Blt mg) (T : Txs mg)
    (GN : FnOk P w K mg base CX0 1 fN fdN ["word"] (spTxt madeNum [P1])) (kN : PySem.W.keepIn K (.ref fN) = true) (gN : mg "is_made_as_number" = some (.ref fN)) (bN : Binds K fdN ["word"] []) :
    FnOk P w K mg base CX0 2 f fd ["word"] (spTxt isIntL [P1]) := by
  refine F.ok scInt spTxt_len (fun cdv A outer s H vs Q E hr h => ?_)
  obtain ⟨z, rfl, hz, ht, q⟩ := h
  obtain ⟨tm, eM⟩ := T.most
  have lz := len_tl z
  refine ⟨_, pss_cons (ps_if (PW.pt (pw_or (pt_not (pt_val (pe_call GN hr rfl gN kN bN .nil pass0 (pa_cons (pv 0) pa_nil)))) (pw_or1 (pt_cmpR op_eq (pe_ix ix_str (pv 0) pe_int (fun _ _ => rfl)) pe_str (nomark _))))) (pss_one (ps_ret pe_bl)) pss_nil)
    (pss_cons (ps_set (i := 1) scInt.nd rfl (Or.inl rfl) (pe_bm PySem.F.plainAttrs_str PySem.F.slot_str_removeprefix PySem.F.type_str_removeprefix mt_removeprefix (pv 0) (pa_cons pe_str pa_nil)))
    (pss_cons (ps_if (pt_cmpR op_gt (pe_callB call_len (by rfl) B.len PySem.boot_len (pa_cons (pv 1) pa_nil)) (pe_glob (v := .int 40) rfl eM ⟨_, rfl⟩) (nomark _)) (pss_one (ps_ret pe_bl)) pss_nil)
    (pss_one (ps_ret (pe_or (pe_cmpR op_eq (pv 0) pe_str (nomark _)) (pe_one (pe_cmpR op_ne (pe_ix ix_str (pv 1) pe_int (fun _ _ => rfl)) pe_str (nomark _)))))))), ?_⟩
  refine ⟨_, rfl, z, rfl, hz, ht, fun H1 sm => ⟨_, rfl, ?_⟩⟩
  cases hm : madeNum (tl z) with
  | false =>
    have g : isIntL (tl z) = false := by unfold isIntL; rw [hm]; rfl
    have r := q H1 sm
    rw [g] at r
    exact r
  | true =>
    cases hx : tl z with
    | nil => exact absurd hx (made_ne hm)
    | cons c0 r0 =>
      have g0 : isIntL (tl z) = ((tl z).head? != some 43 && (decide ((noMinus (tl z)).length ≤ 40) && (tl z == [48] || (noMinus (tl z)).head? != some 48))) := by
        unfold isIntL; rw [hm]; rfl
      have ea : atI z.cps.toList 0 = some c0 := by
        show atI (tl z) 0 = some c0
        rw [hx]; exact at0 _ _
      have one : ∀ (a b : Nat) (y : Str), tl y = [b] → decide (V.str ⟨#[a]⟩ = V.str y) = decide (a = b) := fun a b y e => by
        rw [dec_str_tl, e]
        show decide ([a] = [b]) = decide (a = b)
        by_cases h : a = b
        · rw [decide_eq_true h, decide_eq_true (by rw [h])]
        · rw [decide_eq_false h, decide_eq_false (fun e => h (List.cons.inj e).1)]
      refine ⟨_, rfl, z, _, c0, rfl, rfl, big_line hz, ea, rfl, _, rfl, ?_⟩
      rw [one c0 43 "+" (by decide +kernel)]
      by_cases h43 : c0 = 43
      · have g : isIntL (tl z) = false := by rw [g0, hx, h43]; rfl
        rw [decide_eq_true h43]
        have r := q H1 sm
        rw [g] at r
        exact r
      rw [decide_eq_false h43]
      have ed := tl_removeprefix z
      refine ⟨_, rfl, rfl, z, _, rfl, rfl, big_line hz, ?_⟩
      generalize Txt.removeprefix z ("-" : Str) = dz at ed
      have ld := len_tl dz
      have lnm : (noMinus (tl z)).length ≤ (tl z).length := by
        rw [hx]
        show (if c0 = 45 then r0 else c0 :: r0).length ≤ (c0 :: r0).length
        split <;> simp
      have ldz : dz.length ≤ sizeLine := by
        rw [ld, ed]
        exact Nat.le_trans lnm (by rw [← lz]; exact big_line hz)
      refine ⟨_, rfl, _, _, rfl, ⟨ldz, rfl⟩, _, _, rfl, rfl, _, rfl, ?_⟩
      rw [ld, ed]
      by_cases h40 : (noMinus (tl z)).length ≤ 40
      · rw [decide_eq_false (by omega)]
        have e48 : tl ("0" : Str) = [48] := by decide +kernel
        refine ⟨_, rfl, rfl, _, rfl, ?_⟩
        rw [dec_str_tl, e48]
        by_cases hz0 : tl z = [48]
        · rw [decide_eq_true hz0]
          have g : isIntL (tl z) = true := by rw [g0, hz0]; decide
          have r := q H1 sm
          rw [g] at r
          exact r
        · rw [decide_eq_false hz0]
          have dne : noMinus (tl z) ≠ [] := by
            intro e
            rw [hx] at e hm
            have e : (if c0 = 45 then r0 else c0 :: r0) = [] := e
            split at e
            · rename_i h45
              subst h45
              subst e
              cases hm
            · cases e
          cases hd : noMinus (tl z) with
          | nil => exact absurd hd dne
          | cons d0 dr =>
            have ead : atI dz.cps.toList 0 = some d0 := by
              show atI (tl dz) 0 = some d0
              rw [ed, hd]; exact at0 _ _
            refine ⟨_, rfl, dz, _, d0, rfl, rfl, ldz, ead, rfl, ?_⟩
            rw [one d0 48 "0" e48]
            have g : isIntL (tl z) = !decide (d0 = 48) := by
              rw [g0, hd, hx]
              rw [hd] at h40
              rw [hx] at hz0
              have n1 : ((c0 :: r0).head? != some 43) = true := by simp [h43]
              have n2 : ((c0 :: r0) == [48]) = false := beq_eq_false_iff_ne.mpr hz0
              rw [n1, n2, decide_eq_true h40]
              by_cases h0 : d0 = 48
              · subst h0; rfl
              · rw [decide_eq_false h0]; simp [h0]
            have r := q H1 sm
            rw [g] at r
            exact r
      · rw [decide_eq_true (by omega)]
        have g : isIntL (tl z) = false := by
          rw [g0, decide_eq_false h40]
          simp
        have r := q H1 sm
        rw [g] at r
        exact r
end
end My
namespace My
open PySem PySem.Spec PyProof.Rows L2 TL
/-- what is known of the base class of all the program's errors: its __init__ is ValueError's -/
structure BaseC (K : PySem.W.Frag) (mg : Str → Option Value) (F : Addr) : Prop where
  g : mg "FoldError" = some (.ref F)
  rd : PySem.W.readsIn K F (.type "type") = true
  ga : PySem.W.specialIn K (.ref F) "__getattribute__" = some (some (.builtin "type.__getattribute__"))
  ini : PySem.W.findCls K (.ref F) (.type "type") "__init__" = some (.val (.builtin "ValueError.__init__"))
theorem pe_baseInit {X : Cx} {e : Expr} {es : List Expr} {ta : TA} {p1 p2 pos : Pos} {F : Addr} {pl : Sem Bool} (B : BaseC X.K X.mg F) (hg : Gl X "FoldError") (ha : PA X (e :: es) ta)
    (hc : eval (.Call (.Attribute (.Name "FoldError" p1) "__init__" p2) (e :: es) [] pos) X.env = (do
      let ov ← eval (.Name "FoldError" p1) X.env
      standAt p2.atName
      let (f, first) ← holding [ov] (getMethod ov "__init__" pl)
      callWith pos f first (backTo pos (starEach (e :: es) X.env)) (backToKw pos (keywordEach [] X.env))) := by rfl)
    (he : starEach (e :: es) X.env = (false, eval e X.env) :: starEach es X.env := by rfl) (hpl : (backTo pos (starEach es X.env)).any (·.1) = false := by rfl) :
    PE X (.Call (.Attribute (.Name "FoldError" p1) "__init__" p2) (e :: es) [] pos) (tVeI X.K ta) := by
  refine ⟨fun pins s σ H Q I h => PySem.W.methodCall_KW (ld_glob I hg B.g ?_) hc⟩
  refine PySem.W.method_cls I.kIn B.ga (PySem.W.cls_value I.kIn B.rd B.ini rfl ?_)
  show wpAny _ _ (callWith pos (Value.builtin "ValueError.__init__") [] (backTo pos (starEach (e :: es) X.env)) []) _ _ _
  refine PyProof.Rows.callWith_method1 (thn (ha.run pos pins _ σ H _ (I.tok _) h) fun us s1 hh => ?_) he hpl
  obtain ⟨vs, H1, J, rv, a, C, ws, ev, hl, T, ea, q⟩ := hh
  subst ev
  cases rv with
  | @cons _ u0 _ ur r0 rr =>
    have eu : u0 = Value.ref a := r0
    subst eu
    refine oinit_ok T J ea ?_ fun s' J' => ⟨.non, H1, J', rfl, q⟩
    rw [← Paired.length rr]
    exact Nat.le_of_lt (small1000 hl)
/-- __init__(self, at) of an error with the field at -/
def spIni (K : PySem.W.Frag) (C : Addr) : Sp := fun vs H Q _ => ∃ (a : Addr) (i : Int), vs = [.ref a, .int i] ∧ H a = some (exo a C none) ∧ i.natAbs < 10 ^ 10 ∧
  ∀ d, H d = none → d ≠ a → Q .non (upd (upd H d (exd d [("at", .int i)])) a (exo a C (some d)))
theorem int_len {i : Int} (h : i.natAbs < 10 ^ 10) : (Str.ofString (toString i)).length ≤ 11 := by
  have e := int_text_length_le10 (k := 10) (by decide) h
  rw [PySem.ofString_length]
  omega
theorem int_log {i : Int} (h : i.natAbs < 10 ^ 10) : i.natAbs.log2 < 1920 := by
  have e : i.natAbs < 2 ^ 40 := Nat.lt_of_lt_of_le h (by decide)
  exact Nat.lt_of_lt_of_le (PySem.Flt.log2_lt_of (by decide) e) (by decide)
theorem app_len (x y : Str) : (x ++ y).length = x.length + y.length := by
  rw [len_tl, tl_append, List.length_append, ← len_tl, ← len_tl]
section
variable {P : Program} {w : World} {K : PySem.W.Frag} {mg : Str → Option Value} {base : Heap}
abbrev sIniE : Stmt := inClass (top 2) 0
abbrev sIniC : Stmt := inClass (top 3) 0
abbrev sIniW : Stmt := inClass (top 4) 0
theorem scIniW : FnScope ["self", "at"] ["self", "at"] (defScope sIniW) := ⟨rfl, rfl, rfl, by decide +kernel, rfl, by decide +kernel, by decide +kernel⟩
theorem ok_iniW {f F C : Addr} {fd : FuncData} (Fn : Fun K "__init__" "InvalidWord.__init__" sIniW f fd) (B : BaseC K mg F) (T : OexC K C) (hno : PySem.W.findIn K (.ref C) "at" = some none) :
    FnOk P w K mg base CX0 1 f fd ["self", "at"] (spIni K C) := by
  refine Fn.ok scIniW (fun vs H Q E h => ?_) (fun cdv A outer s H vs Q E hr h => ?_)
  · obtain ⟨a, i, rfl, _⟩ := h
    rfl
  obtain ⟨a, i, rfl, ea, hi, q⟩ := h
  refine ⟨_, pss_cons (ps_expr (pe_baseInit B rfl (pa_cons (pv 0) (pa_cons (pe_joined (PJ.cons pe_str (PJ.cons (pe_fmt (pv 1)) PJ.nil))) pa_nil))))
    (pss_one (ps_ost (pv 0) (pv 1))), ?_⟩
  have l1 := int_len hi
  refine ⟨_, rfl, _, rfl, by decide +kernel, _, rfl, .inr ⟨i, rfl, int_log hi, _, rfl, ?_, ?_⟩⟩
  · rw [app_len]
    exact Nat.le_trans (Nat.add_le_add (show _ ≤ 100 by decide +kernel) l1) (by decide)
  refine ⟨a, C, _, rfl, by show 1 ≤ 1000; decide, T, ea, ?_⟩
  refine ⟨_, rfl, _, rfl, a, C, rfl, T, hno, .inl ⟨ea, fun d hd hda => q d hd hda⟩⟩
end
end My
namespace My
open PySem PySem.Spec PyProof.Rows L2 TL
/-! ### errors whose context is None: what raises them -/
theorem okN {P : Program} {w : World} {K : PySem.W.Frag} {mg : Str → Option Value} {base : Heap} {x qual : Str} {st : Stmt} {f : Addr} {fd : FuncData} {N ps : List Str} {k : Nat} {sp : Sp} (F : Fun K x qual st f fd) (S : FnScope N ps (defScope st))
    (len : ∀ vs H Q E, sp vs H Q E → vs.length = ps.length)
    (body : ∀ (cdv : Value) (A : Around) (outer : List Env) (s : Shared) (H : Hp) (vs : List V) (Q : VK) (E : XK), Room k (A.deeper (envOfC qual (defScope st) s.heap.objs.size f cdv)) → sp vs H Q E →
      ∃ t, PSs (cxOf (L2N.CX P w) P w K mg base N qual (defScope st) f cdv A outer s H E) (defBody st) t ∧ t { nx := fun _ H' => Q .non H', rt := Q } (start N vs) H) : FnOk P w K mg base (L2N.CX P w) (k + 1) f fd ps sp := by
  obtain ⟨oc, od, kV, doc, pm, an, cdv, ct, osl, efd, lk, hcd⟩ := F.ex
  subst efd
  exact fn_of lk hcd S len fun A out s0 H0 vs Q E room told => body cdv A out s0 H0 vs Q E room told
theorem pmkN_plain {X : Cx} {C : Addr} {bmB : List Value} {B newId initId : String} {x : Str} {e : Expr} {te : TE} {p pos : Pos} (F : ExcBaseFacts B newId initId bmB) (q : PySem.W.excIn X.K C bmB newId = true) (gC : X.mg x = some (.ref C))
    (kC : PySem.W.keepIn X.K (.ref C) = true) (r : Raises X (.ref C)) (hg : Gl X x) (he : PE X e te) (hdb : (x == ("__debug__" : Str)) = false := by decide)
    (hse : starEach [e] X.env = (false, eval e X.env) :: starEach [] X.env := by rfl) (hpl : (backTo pos (starEach [] X.env)).any (·.1) = false := by rfl) :
    L2N.PMk X (.Call (.Name x p) [e] [] pos) (fun σ H Q => tCons te tNil σ H fun vs H1 => vs.length = 1 ∧ Q (.ref C) none H1) := by
  intro pins s σ H Q I h
  refine wpAny_Call_Name_kw (ld_glob I hg gC ?_ hdb)
  have ha : PA X [e] (tCons te tNil) := pa_cons he pa_nil hse
  refine PySem.W.callWith_K (h₀ := X.base) I.ok.mod.kin kC (thn (ha.run pos pins s σ H _ I h) fun us s1 hh => ?_) hse hpl
  obtain ⟨vs, H1, J, rv, el, q1⟩ := hh
  have lu : us.length ≤ sizeLine := by
    rw [← Paired.length rv, el]
    decide
  obtain ⟨bm, N, nm, qn, bs, hdct, sn, sub, ab, col, dd, k0, k1, k2, k3, k5, mN, hC, hN, hni, T⟩ := exc_obj J.kIn q
  refine ⟨J.kIn, wpAny_call_exc_subT F T hC hN hni (fun h' e hm => ?_) lu⟩
  exact L2N.mk_of J hm r q1 (J.hok.gone hm.new)
theorem pmkN_oex {X : Cx} {CX : CXT} {x : Str} {e : Expr} {es : List Expr} {ta : TA} {p pos : Pos} {C fI : Addr} {k : Nat} {fd : FuncData} {ps : List Str} {sp : Sp} (T : OexC X.K C) (iC : PySem.W.findIn X.K (.ref C) "__init__" = some (some (.ref fI)))
    (tI : PySem.W.typeIn X.K (.ref fI) = some (.type "function")) (F : FnOk X.prog X.w X.K X.mg X.base CX k fI fd ps sp) (room : Room (k + 1) X.A) (bd : Binds X.K fd ps []) (_ : Vals ([] : List V) ([] : List Value)) (no : Passes CX X (fun _ _ _ => False))
    (hg : Gl X x) (hm : X.mg x = some (.ref C)) (ha : PA X (e :: es) ta) (hdb : (x == ("__debug__" : Str)) = false := by decide)
    (hse : starEach (e :: es) X.env = (false, eval e X.env) :: starEach es X.env := by rfl) (hpl : (backTo pos (starEach es X.env)).any (·.1) = false := by rfl) : L2N.PMk X (.Call (.Name x p) (e :: es) [] pos) (tMkO C sp [] ta) := by
  intro pins s0 σ H Q I told
  obtain ⟨nm, qn, ns, bs, bm, sn, sub, ab, col, dd, k0, k1, k2, k3, k5, lkC, ve⟩ := T.cls
  refine wpAny_Call_Name_kw (ld_glob I hg hm ?_ hdb)
  refine PySem.W.callWith_K (h₀ := X.base) I.ok.mod.kin T.kC (thn (ha.run pos pins s0 σ H _ I told) fun us s1 hh => ?_) hse hpl
  obtain ⟨vs, H1, J, rv, few, q1⟩ := hh
  refine ⟨J.kIn, ?_⟩
  show wpAny _ _ (call (.ref C) us) _ _ _
  obtain ⟨hp, gs, dr, tk, oss⟩ := s1
  have grown : ∀ b o, hp.get? b = some o → ((hp.push (PySem.W.kdv_tup us)).push (PySem.HandSPX.excO C hp.objs.size)).get? b = some o := fun b o z => Heap.get?_push_of_some _ (Heap.get?_push_of_some _ z)
  have new : ((hp.push (PySem.W.kdv_tup us)).push (PySem.HandSPX.excO C hp.objs.size)).get? (hp.objs.size + 1) = some (PySem.HandSPX.excO C hp.objs.size) := by heap_get
  have asked := q1 (hp.objs.size + 1) (J.hok.fresh (Nat.le_succ _))
  rw [List.append_nil] at asked
  have J2 := J.laid (t' := tk) (a := hp.objs.size + 1) (o := exo (hp.objs.size + 1) C none) grown (Nat.le_succ _) (exo_ok new)
  have rv2 : Vals (V.ref (hp.objs.size + 1) :: vs) (Value.ref (hp.objs.size + 1) :: us) := .cons rfl rv
  have el : (Value.ref (hp.objs.size + 1) :: us ++ []).length = ps.length := by
    rw [List.append_nil, ← rv2.length]
    exact F.len _ _ _ _ asked
  have lu : us.length ≤ sizeLine := by
    rw [← Paired.length rv]
    exact Nat.le_of_lt (small1000 few)
  have bd2 := bd _ (Value.ref (hp.objs.size + 1) :: us) J2.kIn el
  rw [List.append_nil] at bd2
  refine wpAny_call (PySem.HandSPX.call_own PySem.F.excBase_ValueError (fun Y => PySem.HandSPX.refsVE_contains Y bm ve) (J.kIn _ _ lkC) (PySem.W.looks_findIn J.kIn iC) (fun self => PySem.W.bind_fn J.kIn self tI) lu
    (codeAny_mono (F.run _ X.stack _ _ ⟨Value.ref (hp.objs.size + 1) :: us, []⟩ _ _ _ (fun _ _ _ => False) (room.make C us []) (J2.env0.make C us []) bd2 rv2 asked) fun r s2 end_ => ?_))
  cases r with
  | error er => exact no pins σ _ _ er s2 J2 end_
  | ok fl =>
    cases fl with
    | ret u =>
      obtain ⟨v, H2, os2, bare2, un2, hok2, ru, ev, d, fs, ea, ed, hd1, q2⟩ := end_
      subst ev
      obtain ⟨h2, g2, d2, t2, os'⟩ := s2
      obtain ⟨t0, G, I3, kG, goneA, atA, na⟩ := mk_end0 (d2 := d2) (t2 := t2) J (Nat.le_succ _) grown un2 hok2 os2 bare2 ea ed hd1
      refine ⟨ru, hp.objs.size + 1, _, _, ⟨G, g2, d2, t2, os'⟩, _, .ref C, some d, rfl, I3, kG, goneA, atA, ⟨rfl, rfl, fun ws z => ?_⟩, rfl, rfl, na, rfl, bare2, raises_own T.exC T.tyC, q2⟩
      cases z
      rfl
    | next => exact end_.elim
    | brk => exact end_.elim
    | cont => exact end_.elim
end My
namespace My
open PySem PySem.Spec PyProof.Rows L2 TL
/-! ### words -/
theorem isInt_text {z : Str} (h : isIntL (tl z) = true) : (∃ n, intText? z = some n) ∧ z.length ≤ 640 := by
  have lz := len_tl z
  unfold isIntL madeNum at h
  simp only [Bool.and_eq_true, Bool.not_eq_true', bne_iff_ne, ne_eq, decide_eq_true_eq] at h
  obtain ⟨⟨hb, hd⟩, h43, h40, _⟩ := h
  have dig : ∀ l : List Nat, l.all isDig = true → NumText.AllDigits l := by
    intro l hl c hc
    exact (isDig_iff c).mp (List.all_eq_true.mp hl c hc)
  cases hx : tl z with
  | nil => rw [hx] at hb; cases hb
  | cons c r =>
    rw [hx] at hb hd h43 h40 lz
    have h43' : c ≠ 43 := fun e => h43 (by rw [e]; rfl)
    by_cases h45 : c = 45
    · subst h45
      have eb : body (45 :: r) = r := rfl
      have en : noMinus (45 :: r) = r := rfl
      rw [eb] at hb hd
      rw [en] at h40
      have lz' : z.length = r.length + 1 := lz
      have rne : r ≠ [] := fun e => by rw [e] at hb; cases hb
      exact ⟨⟨_, intText_neg (x := z) (cs := r) hx (dig r hd) rne (by omega)⟩, by omega⟩
    · have eb : body (c :: r) = c :: r := by simp [body, h45, h43']
      have en : noMinus (c :: r) = c :: r := by simp [noMinus, h45]
      rw [eb] at hd
      rw [en] at h40
      have h40' : r.length + 1 ≤ 40 := h40
      have lz' : z.length = r.length + 1 := lz
      have hx2 : z.cps.toList = c :: r := hx
      refine ⟨⟨_, intText_digits (x := z) (by rw [hx2]; exact dig _ hd) (by rw [hx2]; simp) (by omega)⟩, by omega⟩
def mkS (l : List Nat) : Str := ⟨l.toArray⟩
theorem mkS_tl (z : Str) : mkS (tl z) = z := mk_tl z
def wordV (l : List Nat) : Option V := if isIntL l = true then some (.int ((intText? (mkS l)).getD 0)) else if isSymL l = true then some (.str (mkS l)) else none
def spRead (C : Addr) (Ps : List Addr) : Sp := fun vs H Q E => ∃ (z : Str) (i : Int), vs = [.str z, .int i] ∧ z.length ≤ big ∧ i.natAbs < 10 ^ 10 ∧ (∀ p ∈ Ps, GxR.TabG H p) ∧
  (∀ v, wordV (tl z) = some v → ∀ H', Sm No H H' → Q v H') ∧
  (wordV (tl z) = none → ∀ H' d, Sm No H H' → H d = none → H' d = some (.xd [("at", .int i)]) → E (.ref C) (some d) H')
/-- what a class of errors with the field at must show where one is made -/
structure ErrC (P : Program) (w : World) (K : PySem.W.Frag) (mg : Str → Option Value) (base : Heap) (x : Str) (C fI : Addr) (fdI : FuncData) : Prop where
  o : OexC K C
  g : mg x = some (.ref C)
  iC : PySem.W.findIn K (.ref C) "__init__" = some (some (.ref fI))
  tI : PySem.W.typeIn K (.ref fI) = some (.type "function")
  f : FnOk P w K mg base CX0 1 fI fdI ["self", "at"] (spIni K C)
  b : Binds K fdI ["self", "at"] []
abbrev sRead : Stmt := top 15
abbrev sWEnd : Stmt := top 16
section
variable {P : Program} {w : World} {K : PySem.W.Frag} {mg : Str → Option Value} {base : Heap}
theorem scRead : FnScope ["word", "at"] ["word", "at"] (defScope sRead) := ⟨rfl, rfl, rfl, by decide +kernel, rfl, by decide +kernel, by decide +kernel⟩
/-- the reading of C(at): what is left behind it -/
theorem mkO_at {C : Addr} {H H0 : Hp} {i : Int} {Q : XK} {ta : TA} {σ : L2.St} (hi : i.natAbs < 10 ^ 10) (h : ∀ Q' : List V → Hp → Prop, Q' [.int i] H → ta σ H Q')
    (sm : Sm No H0 H) (q : ∀ H' d, Sm No H0 H' → H0 d = none → H' d = some (.xd [("at", .int i)]) → Q (.ref C) (some d) H') : tMkO C (spIni K C) [] ta σ H Q := by
  refine h _ ⟨by show 1 ≤ 1000; decide, fun a ha => ?_⟩
  refine ⟨a, i, rfl, upd_same, hi, fun d hd hda => ⟨rfl, d, [("at", .int i)], upd_same, ?_, ?_, ?_⟩⟩
  · rw [upd_ne hda, upd_same]
  · rw [upd_ne hda] at hd; exact hd
  have hd0 : H d = none := by rw [upd_ne hda] at hd; exact hd
  refine q _ d ?_ (sm.dom d hd0) upd_same
  have ne_a : ∀ {b : Addr} {o : HO}, H b = some o → b ≠ a := fun {b o} e z => by rw [z, ha] at e; cases e
  have ne_d : ∀ {b : Addr} {o : HO}, H b = some o → b ≠ d := fun {b o} e z => by rw [z, hd0] at e; cases e
  have val : ∀ {b : Addr} {o : HO}, H b = some o → (upd (L2.del (upd (upd (upd H a (exo a C none)) d (exd d [("at", V.int i)])) a (exo a C (some d))) a) d (.xd [("at", .int i)])) b = some o := fun {b o} e => by
    rw [upd_ne (ne_d e), del_ne (ne_a e), upd_ne (ne_a e), upd_ne (ne_d e), upd_ne (ne_a e)]
    exact e
  refine sm.trans ⟨fun b o _ _ e => val e, fun Z ⟨ps, z1, z2⟩ => ⟨ps, val z1, z2⟩, fun b e => ?_⟩
  cases q : H b with
  | none => rfl
  | some o => rw [val q] at e; cases e
theorem ok_read {f C fI fN fS P1 P2 : Addr} {fd fdI fdN fdS : FuncData} (F : Fun K "read_word" "read_word" sRead f fd) (B : Blt mg) (X : ErrC P w K mg base "InvalidWord" C fI fdI)
    (GN : FnOk P w K mg base CX0 2 fN fdN ["word"] (spTxt isIntL [P1])) (kN : PySem.W.keepIn K (.ref fN) = true) (gN : mg "is_integer" = some (.ref fN)) (bN : Binds K fdN ["word"] [])
    (GS : FnOk P w K mg base CX0 2 fS fdS ["text"] (spTxt isSymL [P1, P2])) (kS : PySem.W.keepIn K (.ref fS) = true) (gS : mg "is_symbol" = some (.ref fS)) (bS : Binds K fdS ["text"] []) :
    FnOk P w K mg base (L2N.CX P w) 3 f fd ["word", "at"] (spRead C [P1, P2]) := by
  refine okN F scRead (fun vs H Q E h => ?_) (fun cdv A outer s H vs Q E hr h => ?_)
  · obtain ⟨z, i, rfl, _⟩ := h
    rfl
  obtain ⟨z, i, rfl, hz, hi, ht, qV, qE⟩ := h
  refine ⟨_, pss_cons (ps_if (pt_val (pe_call GN hr rfl gN kN bN .nil pass0 (pa_cons (pv 0) pa_nil)))
      (pss_one (ps_ret (pe_callTy call_int_str (by rfl) B.int (by decide +kernel) (pa_cons (pv 0) pa_nil)))) pss_nil)
    (pss_cons (ps_if (pt_val (pe_call GS hr rfl gS kS bS .nil pass0 (pa_cons (pv 0) pa_nil))) (pss_one (ps_ret (pv 0))) pss_nil)
    (pss_one (L2N.ps_raise rfl (L2N.takes_of rfl rfl rfl rfl) (pmkN_oex X.o X.iC X.tI X.f hr X.b .nil pass0 rfl X.g (pa_cons (pv 1) pa_nil))))), ?_⟩
  refine ⟨_, rfl, z, rfl, hz, fun p hp => ht p (by simp at hp; simp [hp]), fun H1 s1 => ⟨_, rfl, ?_⟩⟩
  cases h1 : isIntL (tl z) with
  | true =>
    obtain ⟨⟨n, hn⟩, hl⟩ := isInt_text h1
    refine ⟨_, rfl, z, n, rfl, hn, hl, qV (.int n) ?_ H1 s1⟩
    unfold wordV
    rw [if_pos h1, mkS_tl, hn]
    rfl
  | false =>
    refine ⟨_, rfl, z, rfl, hz, fun p hp => s1.tab p (ht p hp), fun H2 s2 => ⟨_, rfl, ?_⟩⟩
    cases h2 : isSymL (tl z) with
    | true =>
      refine ⟨_, rfl, qV (.str z) ?_ H2 (s1.trans s2)⟩
      unfold wordV
      rw [if_neg (by rw [h1]; simp), if_pos h2, mkS_tl]
    | false =>
      show tMkO C (spIni K C) [] (tCons (tVar 1) tNil) [some (.str z), some (.int i)] H2 (fun cls d H' => E cls d H')
      refine mkO_at hi (fun Q' q' => ⟨_, rfl, q'⟩) (s1.trans s2) fun H' d sm hd e => ?_
      refine qE ?_ H' d sm hd e
      unfold wordV
      rw [if_neg (by rw [h1]; simp), if_neg (by rw [h2]; simp)]
end
end My
namespace My
open PySem PySem.Spec PyProof.Rows L2 TL
/-! ### the reading of a text, as a function -/
inductive Dat where
  | int (i : Int)
  | sym (s : Str)
  | lst (ds : List Dat)
inductive Out where
  | ok (ds : List Dat)
  | word (i : Nat)
  | close (i : Nat)
  | deep
  | ends (i : Nat)
def datOf : V → Dat
  | .int i => .int i
  | .str s => .sym s
  | _ => .lst []
def noEnd (c : Nat) : Bool := !isEnd c
def noLine (c : Nat) : Bool := !decide (c = 10)
def run : Nat → List Nat → Nat → List (List Dat) → Out
  | 0, _, _, _ => .deep
  | _ + 1, [], i, st => match st with
    | [ds] => .ok ds
    | _ => .ends i
  | n + 1, c :: r, i, st =>
    if c = 59 then run n ((c :: r).dropWhile noLine) (i + ((c :: r).takeWhile noLine).length) st
    else if c = 40 then (if 60 < st.length then .deep else run n r (i + 1) ([] :: st))
    else if c = 41 then (match st with
      | t :: p :: rest => run n r (i + 1) ((p ++ [.lst t]) :: rest)
      | _ => .close i)
    else if c = 32 ∨ c = 10 then run n r (i + 1) st
    else match wordV ((c :: r).takeWhile noEnd), st with
      | some v, t :: rest => run n ((c :: r).dropWhile noEnd) (i + ((c :: r).takeWhile noEnd).length) ((t ++ [datOf v]) :: rest)
      | _, _ => .word i
/-- the reading with at most m lists, one in another -/
def runD (m : Nat) : Nat → List Nat → Nat → List (List Dat) → Out
  | 0, _, _, _ => .deep
  | _ + 1, [], i, st => match st with
    | [ds] => .ok ds
    | _ => .ends i
  | n + 1, c :: r, i, st =>
    if c = 59 then runD m n ((c :: r).dropWhile noLine) (i + ((c :: r).takeWhile noLine).length) st
    else if c = 40 then (if m < st.length then .deep else runD m n r (i + 1) ([] :: st))
    else if c = 41 then (match st with
      | t :: p :: rest => runD m n r (i + 1) ((p ++ [.lst t]) :: rest)
      | _ => .close i)
    else if c = 32 ∨ c = 10 then runD m n r (i + 1) st
    else match wordV ((c :: r).takeWhile noEnd), st with
      | some v, t :: rest => runD m n ((c :: r).dropWhile noEnd) (i + ((c :: r).takeWhile noEnd).length) ((t ++ [datOf v]) :: rest)
      | _, _ => .word i
theorem runD_run : runD 60 = run := by
  funext n
  induction n with
  | zero => rfl
  | succ n ih =>
    funext l i st
    cases l with
    | nil => rfl
    | cons c r =>
      show (if c = 59 then _ else _) = (if c = 59 then _ else _)
      rw [ih]
theorem span_at (p : Nat → Bool) (l : List Nat) : ∀ (n a k : Nat), k = a + n → k ≤ l.length → (∀ v c, a ≤ v → v < k → l[v]? = some c → p c = true) → (∀ c, l[k]? = some c → p c = false) →
    (l.drop a).takeWhile p = (l.drop a).take n ∧ (l.drop a).dropWhile p = l.drop k
  | 0, a, k, e, hk, _, h2 => by
    have e' : k = a := by omega
    subst e'
    cases hd : l.drop k with
    | nil => exact ⟨rfl, rfl⟩
    | cons c r =>
      have hc : l[k]? = some c := by
        have := congrArg (fun z : List Nat => z[0]?) hd
        simpa using this
      have pc := h2 c hc
      refine ⟨?_, ?_⟩
      · rw [List.takeWhile_cons, pc]; rfl
      · rw [List.dropWhile_cons, pc]; rfl
  | n + 1, a, k, e, hk, h1, h2 => by
    have lt : a < l.length := by omega
    have pc := h1 a l[a] (Nat.le_refl _) (by omega) (List.getElem?_eq_getElem lt)
    obtain ⟨i1, i2⟩ := span_at p l n (a + 1) k (by omega) hk (fun v c g1 g2 g3 => h1 v c (by omega) g2 g3) h2
    rw [List.drop_eq_getElem_cons lt, List.takeWhile_cons, List.dropWhile_cons, pc]
    refine ⟨?_, ?_⟩
    · show l[a] :: _ = l[a] :: (l.drop (a + 1)).take n
      rw [i1]
    · exact i2
/-! ### data in the heap: C names the closed lists -/
mutual
inductive Rep (C : Addr → Prop) (H : Hp) : V → Dat → Prop
  | int (i : Int) : Rep C H (.int i) (.int i)
  | sym (s : Str) : Rep C H (.str s) (.sym s)
  | lst {a : Addr} {vs : List V} {ds : List Dat} (hc : C a) (h : H a = some (.lst vs)) (r : RepL C H vs ds) : Rep C H (.ref a) (.lst ds)
inductive RepL (C : Addr → Prop) (H : Hp) : List V → List Dat → Prop
  | nil : RepL C H [] []
  | cons {v : V} {d : Dat} {vs : List V} {ds : List Dat} (h : Rep C H v d) (r : RepL C H vs ds) : RepL C H (v :: vs) (d :: ds)
end
/-- a list that C names stays as it is -/
def Kp (C : Addr → Prop) (H H' : Hp) : Prop := ∀ a vs, C a → H a = some (.lst vs) → H' a = some (.lst vs)
mutual
theorem Rep.keep {C C' : Addr → Prop} {H H' : Hp} (k : Kp C H H') (s : ∀ a, C a → C' a) : ∀ {v : V} {d : Dat}, Rep C H v d → Rep C' H' v d
  | _, _, .int i => .int i
  | _, _, .sym x => .sym x
  | _, _, .lst hc h r => .lst (s _ hc) (k _ _ hc h) (RepL.keep k s r)
theorem RepL.keep {C C' : Addr → Prop} {H H' : Hp} (k : Kp C H H') (s : ∀ a, C a → C' a) : ∀ {vs : List V} {ds : List Dat}, RepL C H vs ds → RepL C' H' vs ds
  | _, _, .nil => .nil
  | _, _, .cons h r => .cons (Rep.keep k s h) (RepL.keep k s r)
end
theorem RepL.snoc {C : Addr → Prop} {H : Hp} : ∀ {vs : List V} {ds : List Dat} {v : V} {d : Dat}, RepL C H vs ds → Rep C H v d → RepL C H (vs ++ [v]) (ds ++ [d])
  | _, _, _, _, .nil, h => .cons h .nil
  | _, _, _, _, .cons g r, h => .cons g (RepL.snoc r h)
/-- the open lists, the innermost first; ch: the list that is open within the first of them -/
def Opn (C : Addr → Prop) (H : Hp) : Option Addr → List Addr → List (List Dat) → Prop
  | _, [], [] => True
  | ch, a :: as, ds :: dss => (∃ vs, H a = some (.lst (vs ++ (ch.map V.ref).toList)) ∧ RepL C H vs ds) ∧ ¬ C a ∧ a ∉ as ∧ Opn C H (some a) as dss
  | _, _, _ => False
theorem Opn.len {C : Addr → Prop} {H : Hp} : ∀ {ch : Option Addr} {as : List Addr} {st : List (List Dat)}, Opn C H ch as st → as.length = st.length
  | _, [], [], _ => rfl
  | _, _ :: _, _ :: _, h => congrArg (· + 1) (Opn.len h.2.2.2)
  | _, [], _ :: _, h => h.elim
  | _, _ :: _, [], h => h.elim
theorem Opn.keep {C C' : Addr → Prop} {H H' : Hp} (s : ∀ a, C a → C' a) (k : Kp C H H') : ∀ {ch : Option Addr} {as : List Addr} {st : List (List Dat)}, Opn C H ch as st →
    (∀ a ∈ as, ∀ vs, H a = some (.lst vs) → H' a = some (.lst vs)) → (∀ a ∈ as, ¬ C' a) → Opn C' H' ch as st
  | _, [], [], _, _, _ => trivial
  | _, a :: as, ds :: dss, ⟨⟨vs, h1, h2⟩, h3, h4, h5⟩, ho, hn =>
    ⟨⟨vs, ho a List.mem_cons_self _ h1, h2.keep k s⟩, hn a List.mem_cons_self, h4, Opn.keep s k h5 (fun b hb => ho b (List.mem_cons_of_mem _ hb)) fun b hb => hn b (List.mem_cons_of_mem _ hb)⟩
  | _, [], _ :: _, h, _, _ => h.elim
  | _, _ :: _, [], h, _, _ => h.elim
theorem Opn.there {C : Addr → Prop} {H : Hp} : ∀ {ch : Option Addr} {as : List Addr} {st : List (List Dat)}, Opn C H ch as st → ∀ a ∈ as, ∃ vs, H a = some (.lst vs)
  | _, [], [], _, _, h => absurd h (by simp)
  | _, a :: as, ds :: dss, ⟨⟨vs, h1, h2⟩, h3, h4, h5⟩, b, hb => by
    rcases List.mem_cons.mp hb with e | e
    · exact ⟨_, by rw [e]; exact h1⟩
    · exact Opn.there h5 b e
  | _, [], _ :: _, h, _, _ => h.elim
  | _, _ :: _, [], h, _, _ => h.elim
theorem Opn.out {C : Addr → Prop} {H : Hp} : ∀ {ch : Option Addr} {as : List Addr} {st : List (List Dat)}, Opn C H ch as st → ∀ a ∈ as, ¬ C a
  | _, [], [], _, _, h => absurd h (by simp)
  | _, a :: as, ds :: dss, ⟨⟨vs, h1, h2⟩, h3, h4, h5⟩, b, hb => by
    rcases List.mem_cons.mp hb with e | e
    · rw [e]; exact h3
    · exact Opn.out h5 b e
  | _, [], _ :: _, h, _, _ => h.elim
  | _, _ :: _, [], h, _, _ => h.elim
theorem none_list (vs : List V) : vs ++ ((none : Option Addr).map V.ref).toList = vs := List.append_nil vs
/-- a datum is appended to the innermost list -/
theorem Opn.app {C : Addr → Prop} {H : Hp} {a : Addr} {as : List Addr} {t : List Dat} {rest : List (List Dat)} {v : V} {d : Dat} (h : Opn C H none (a :: as) (t :: rest)) (r : Rep C H v d) :
    ∃ vs, H a = some (.lst vs) ∧ ∀ H' : Hp, H' a = some (.lst (vs ++ [v])) → (∀ b, b ≠ a → (C b ∨ b ∈ as) → ∀ xs, H b = some (.lst xs) → H' b = some (.lst xs)) → Opn C H' none (a :: as) ((t ++ [d]) :: rest) := by
  obtain ⟨⟨vs, h1, h2⟩, h3, h4, h5⟩ := h
  rw [none_list] at h1
  refine ⟨vs, h1, fun H' e k => ?_⟩
  have kp : Kp C H H' := fun b xs hc hb => k b (fun z => h3 (z ▸ hc)) (.inl hc) xs hb
  refine ⟨⟨vs ++ [v], by rw [none_list]; exact e, (h2.keep kp fun _ z => z).snoc (r.keep kp fun _ z => z)⟩, h3, h4, ?_⟩
  exact h5.keep (fun _ z => z) kp (fun b hb xs hx => k b (fun z => h4 (z ▸ hb)) (.inr hb) xs hx) h5.out
/-- a list is begun -/
theorem Opn.beg {C : Addr → Prop} {H : Hp} {a n : Addr} {as : List Addr} {t : List Dat} {rest : List (List Dat)} (h : Opn C H none (a :: as) (t :: rest)) (hn : H n = none) (nC : ¬ C n) :
    ∃ vs, H a = some (.lst vs) ∧ ∀ H' : Hp, H' n = some (.lst []) → H' a = some (.lst (vs ++ [.ref n])) → (∀ b, b ≠ a → (C b ∨ b ∈ as) → ∀ xs, H b = some (.lst xs) → H' b = some (.lst xs)) → Opn C H' none (n :: a :: as) ([] :: t :: rest) := by
  have th := h.there
  obtain ⟨⟨vs, h1, h2⟩, h3, h4, h5⟩ := h
  rw [none_list] at h1
  refine ⟨vs, h1, fun H' e0 e k => ?_⟩
  have kp : Kp C H H' := fun b xs hc hb => k b (fun z => h3 (z ▸ hc)) (.inl hc) xs hb
  refine ⟨⟨[], by rw [none_list]; exact e0, .nil⟩, nC, ?_, ⟨vs, e, h2.keep kp fun _ z => z⟩, h3, h4, ?_⟩
  · intro hm
    obtain ⟨xs, hx⟩ := th n hm
    rw [hn] at hx
    cases hx
  · exact h5.keep (fun _ z => z) kp (fun b hb xs hx => k b (fun z => h4 (z ▸ hb)) (.inr hb) xs hx) h5.out
/-- the innermost list is closed -/
theorem Opn.cls {C : Addr → Prop} {H : Hp} {a b : Addr} {as : List Addr} {t p : List Dat} {rest : List (List Dat)} (h : Opn C H none (a :: b :: as) (t :: p :: rest)) :
    Opn (fun x => C x ∨ x = a) H none (b :: as) ((p ++ [.lst t]) :: rest) := by
  obtain ⟨⟨vs, h1, h2⟩, h3, h4, ⟨us, g1, g2⟩, g3, g4, g5⟩ := h
  rw [none_list] at h1
  have kp : Kp C H H := fun _ _ _ e => e
  have s : ∀ x, C x → C x ∨ x = a := fun _ z => .inl z
  refine ⟨⟨us ++ [.ref a], by rw [none_list]; exact g1, (g2.keep kp s).snoc (.lst (.inr rfl) h1 (h2.keep kp s))⟩, ?_, g4, ?_⟩
  · intro z
    rcases z with z | z
    · exact g3 z
    · exact h4 (by rw [← z]; exact List.mem_cons_self)
  · refine g5.keep s kp (fun _ _ _ e => e) fun x hx z => ?_
    rcases z with z | z
    · exact g5.out x hx z
    · exact h4 (by rw [← z]; exact List.mem_cons_of_mem _ hx)
theorem Opn.keepH {C : Addr → Prop} {H H' : Hp} {ch : Option Addr} {as : List Addr} {st : List (List Dat)} (h : Opn C H ch as st) (k : ∀ b xs, H b = some (.lst xs) → (C b ∨ b ∈ as) → H' b = some (.lst xs)) : Opn C H' ch as st :=
  h.keep (fun _ z => z) (fun b xs hc e => k b xs e (.inl hc)) (fun b hb xs e => k b xs e (.inr hb)) h.out
end My
namespace My
open PySem PySem.Spec PyProof.Rows L2 TL
abbrev sREnd : Stmt := top 17
abbrev sBeg : Stmt := top 18
abbrev sEndL : Stmt := top 19
/-- an own error without an __init__, made with one argument -/
theorem pmk_plain {X : Cx} {C : Addr} {bmB : List Value} {B newId initId : String} {x : Str} {e : Expr} {te : TE} {p pos : Pos} (F : ExcBaseFacts B newId initId bmB) (q : PySem.W.excIn X.K C bmB newId = true) (gC : X.mg x = some (.ref C))
    (kC : PySem.W.keepIn X.K (.ref C) = true) (r : Raises X (.ref C)) (hg : Gl X x) (he : PE X e te) (hdb : (x == ("__debug__" : Str)) = false := by decide)
    (hse : starEach [e] X.env = (false, eval e X.env) :: starEach [] X.env := by rfl) (hpl : (backTo pos (starEach [] X.env)).any (·.1) = false := by rfl) :
    PMk X (.Call (.Name x p) [e] [] pos) (fun σ H Q => tCons te tNil σ H fun vs H1 => vs.length = 1 ∧ Q (.ref C) none H1) := by
  intro pins s σ H Q I h
  refine wpAny_Call_Name_kw (ld_glob I hg gC ?_ hdb)
  have ha : PA X [e] (tCons te tNil) := pa_cons he pa_nil hse
  refine PySem.W.callWith_K (h₀ := X.base) I.ok.mod.kin kC (thn (ha.run pos pins s σ H _ I h) fun us s1 hh => ?_) hse hpl
  obtain ⟨vs, H1, J, rv, el, q1⟩ := hh
  have lu : us.length ≤ sizeLine := by
    rw [← Paired.length rv, el]
    decide
  obtain ⟨bm, N, nm, qn, bs, hdct, sn, sub, ab, col, dd, k0, k1, k2, k3, k5, mN, hC, hN, hni, T⟩ := exc_obj J.kIn q
  refine ⟨J.kIn, wpAny_call_exc_subT F T hC hN hni (fun h' e hm => ?_) lu⟩
  exact mk_of J hm r q1 (J.hok.gone hm.new)
def spScan (p : Nat → Bool) : Sp := fun vs H Q _ => ∃ (z : Str) (i : Nat), vs = [.str z, .int i] ∧ z.length ≤ big ∧ i ≤ z.length ∧ Q (.int ((i + (((tl z).drop i).takeWhile p).length : Nat) : Int)) H
section
variable {P : Program} {w : World} {K : PySem.W.Frag} {mg : Str → Option Value} {base : Heap}
theorem scWEnd : FnScope ["text", "at", "end"] ["text", "at"] (defScope sWEnd) := ⟨rfl, rfl, rfl, by decide +kernel, rfl, by decide +kernel, by decide +kernel⟩
theorem ok_wend {f : Addr} {fd : FuncData} (F : Fun K "word_end" "word_end" sWEnd f fd) (B : Blt mg) (T : Txs mg) : FnOk P w K mg base CX0 1 f fd ["text", "at"] (spScan noEnd) := by
  refine F.ok scWEnd (fun vs H Q E h => ?_) (fun cdv A outer s H vs Q E hr h => ?_)
  · obtain ⟨z, i, rfl, _⟩ := h
    rfl
  obtain ⟨z, i, rfl, hz, hi, q⟩ := h
  obtain ⟨te, eE⟩ := T.ends
  have lz := len_tl z
  refine ⟨_, pss_cons (ps_set (i := 2) scWEnd.nd rfl (Or.inl rfl) (pv 1))
    (pss_cons (ps_while PassesOwn.never (PW.pt (pw_and (pt_cmpR op_lt (pv 2) (pe_callB call_len (by rfl) B.len PySem.boot_len (pa_cons (pv 0) pa_nil)) (nomark _))
        (pw_and1 (pt_cmpR op_notIn_sign (pe_ix ix_str (pv 0) (pv 2) (fun _ _ => rfl)) (pe_glob (v := .str sEnd) rfl eE ⟨_, rfl⟩) (by rfl)))))
      (pss_one (ps_aug (i := 2) scWEnd.nd rfl (Or.inl rfl) pe_int ip_add)))
    (pss_one (ps_ret (pv 2)))), ?_⟩
  refine ⟨_, rfl, ?_⟩
  refine while_by (fun σ H' => ∃ k : Nat, σ = [some (.str z), some (.int i), some (.int (k : Nat))] ∧ H' = H ∧ i ≤ k ∧ k ≤ z.length ∧ ∀ v c, i ≤ v → v < k → (tl z)[v]? = some c → noEnd c = true)
    (fun σ _ => match σ with | [_, _, some (.int k)] => z.length - k.toNat | _ => 0) ⟨i, rfl, rfl, Nat.le_refl _, hi, fun v c h1 h2 => by omega⟩ ?_ ?_
  · rintro σ H' ⟨k, rfl, rfl, h1, h2, h3⟩
    refine ⟨_, rfl, _, rfl, _, _, rfl, ⟨big_line hz, rfl⟩, _, _, rfl, rfl, _, rfl, ?_⟩
    refine ite2 (fun c => ?_) (fun c => ?_)
    · have lt : k < z.length := by have := of_decide_eq_true c; omega
      have lt' : k < (tl z).length := by omega
      have ea : atI z.cps.toList (k : Int) = some (tl z)[k] := atI_nat (List.getElem?_eq_getElem lt')
      refine ⟨_, rfl, _, rfl, z, _, _, rfl, rfl, big_line hz, ea, _, _, rfl, rfl, _, rfl, ?_⟩
      refine ite2 (fun d => ?_) (fun d => ?_)
      · refine ⟨_, rfl, _, _, rfl, rfl, ⟨k + 1, rfl, rfl, by omega, by omega, fun v c g1 g2 g3 => ?_⟩, ?_⟩
        · by_cases hv : v = k
          · subst hv
            rw [List.getElem?_eq_getElem lt'] at g3
            rw [← Option.some.inj g3]
            exact d
          · exact h3 v c g1 (by omega) g3
        · show z.length - ((k : Int) + 1).toNat < z.length - ((k : Nat) : Int).toNat
          omega
      · refine ⟨_, rfl, ?_⟩
        obtain ⟨e1, e2⟩ := span_at noEnd (tl z) (k - i) i k (by omega) (by omega) h3 (fun c hc => by
          rw [List.getElem?_eq_getElem lt'] at hc
          rw [← Option.some.inj hc]
          exact Bool.eq_false_iff.mpr d)
        rw [e1, List.length_take, List.length_drop] at q
        rw [show i + min (k - i) ((tl z).length - i) = k by omega] at q
        exact q
    · have ge : ¬ k < z.length := fun h => c (decide_eq_true (by omega))
      refine ⟨_, rfl, ?_⟩
      obtain ⟨e1, e2⟩ := span_at noEnd (tl z) (k - i) i k (by omega) (by omega) h3 (fun c hc => by
        rw [List.getElem?_eq_none (by omega)] at hc
        cases hc)
      rw [e1, List.length_take, List.length_drop] at q
      rw [show i + min (k - i) ((tl z).length - i) = k by omega] at q
      exact q
  · intro σ H' Q1 Q2 hm h
    obtain ⟨v, e, v2, e2, x, n, e3, hl, i1, j1, e4, e5, b, e6, h7⟩ := h
    refine ⟨v, e, v2, e2, x, n, e3, hl, i1, j1, e4, e5, b, e6, ?_⟩
    revert h7
    refine fun h7 => ?_
    cases b with
    | true =>
      obtain ⟨u1, f1, u2, f2, y1, y2, y3, g1, g2, g3, g4, k1, k2, g5, g6, k3, g7, g8⟩ := h7
      exact ⟨u1, f1, u2, f2, y1, y2, y3, g1, g2, g3, g4, k1, k2, g5, g6, k3, g7, hm _ _ g8⟩
    | false => exact hm _ _ h7
end
end My
namespace My
open PySem PySem.Spec PyProof.Rows L2 TL
section
variable {P : Program} {w : World} {K : PySem.W.Frag} {mg : Str → Option Value} {base : Heap}
theorem scREnd : FnScope ["text", "at", "end"] ["text", "at"] (defScope sREnd) := ⟨rfl, rfl, rfl, by decide +kernel, rfl, by decide +kernel, by decide +kernel⟩
theorem line_sign : ("\n" : Str) = ⟨#[10]⟩ := by decide +kernel
theorem from_nat (n i : Nat) (h : i ≤ n) : PySem.fromIndex n (i : Int) = i := by
  unfold PySem.fromIndex
  omega
theorem getD_some {z : Str} {v c : Nat} (h : (tl z)[v]? = some c) : z.cps.getD v 0 = c := by
  have e : z.cps[v]? = some c := by rw [← Array.getElem?_toList]; exact h
  rw [Array.getD_eq_getD_getElem?, e]; rfl
theorem ok_rend {f : Addr} {fd : FuncData} (F : Fun K "remark_end" "remark_end" sREnd f fd) (B : Blt mg) : FnOk P w K mg base CX0 1 f fd ["text", "at"] (spScan noLine) := by
  refine F.ok scREnd (fun vs H Q E h => ?_) (fun cdv A outer s H vs Q E hr h => ?_)
  · obtain ⟨z, i, rfl, _⟩ := h
    rfl
  obtain ⟨z, i, rfl, hz, hi, q⟩ := h
  have lz := len_tl z
  refine ⟨_, pss_cons (ps_set (i := 2) scREnd.nd rfl (Or.inl rfl) (pe_bm PySem.F.plainAttrs_str PySem.F.slot_str_find PySem.F.type_str_find mt_find3 (pv 0) (pa_cons pe_str (pa_cons (pv 1) pa_nil))))
    (pss_one (ps_ret (pe_ifExp (pt_cmpR op_eq (pv 2) (pe_un un_neg pe_int) (nomark _)) (pe_callB call_len (by rfl) B.len PySem.boot_len (pa_cons (pv 0) pa_nil)) (pv 2)))), ?_⟩
  have fin : ∀ k : Nat, i ≤ k → k ≤ z.length → (∀ v, i ≤ v → v < k → z.cps.getD v 0 ≠ 10) → (k < z.length → z.cps.getD k 0 = 10) → Q (.int (k : Nat)) H := by
    intro k h1 h2 h3 h4
    obtain ⟨e1, e2⟩ := span_at noLine (tl z) (k - i) i k (by omega) (by omega) (fun v c g1 g2 g3 => by
      have := h3 v g1 g2
      rw [getD_some g3] at this
      simp [noLine, this]) (fun c hc => by
      have lt : k < z.length := by
        have := (List.getElem?_eq_some_iff.mp hc).1
        omega
      have := h4 lt
      rw [getD_some hc] at this
      simp [noLine, this])
    rw [e1, List.length_take, List.length_drop, show i + min (k - i) ((tl z).length - i) = k by omega] at q
    exact q
  refine ⟨_, rfl, rfl, _, rfl, z, _, _, rfl, rfl, ?_⟩
  rw [line_sign]
  have sp := StrLaws.find3_spec z 10 (i : Int)
  rw [from_nat z.length i hi] at sp
  rcases sp with ⟨e, hn⟩ | ⟨k, e, h1, h2, h3, h4⟩
  · rw [e]
    refine ⟨_, rfl, _, rfl, rfl, _, rfl, ?_⟩
    exact ⟨_, rfl, _, _, rfl, ⟨big_line hz, rfl⟩, fin z.length hi (Nat.le_refl _) (fun v g1 g2 => hn v g1 g2) (fun h => absurd h (Nat.lt_irrefl _))⟩
  · rw [e]
    refine ⟨_, rfl, _, rfl, rfl, _, rfl, ?_⟩
    have ne : decide (V.int (k : Int) = V.int (-1)) = false := decide_eq_false fun z => by
      have := V.int.inj z
      omega
    rw [ne]
    exact ⟨_, rfl, fin k h1 (by omega) h4 (fun _ => h3)⟩
/-! ### lists are begun and ended -/
theorem scBeg : FnScope ["rows", "deepest", "inner"] ["rows", "deepest"] (defScope sBeg) := ⟨rfl, rfl, rfl, by decide +kernel, rfl, by decide +kernel, by decide +kernel⟩
/-- TooDeep -/
structure DeepC (K : PySem.W.Frag) (mg : Str → Option Value) (C : Addr) : Prop where
  q : PySem.W.excIn K C [.type "ValueError", .type "Exception", .type "BaseException", .type "object"] "ValueError.__new__" = true
  g : mg "TooDeep" = some (.ref C)
  k : PySem.W.keepIn K (.ref C) = true
  s : PySem.W.subIn K (.ref C) (.type "BaseException") = some true
  t : PySem.W.typeIn K (.ref C) = some (.type "type")
def spBeg (C : Addr) : Sp := fun vs H Q E => ∃ (R a : Addr) (xs vs' : List V) (m : Nat), vs = [.ref R, .int (m : Nat)] ∧ H R = some (.lst (xs ++ [.ref a])) ∧ H a = some (.lst vs') ∧ R ≠ a ∧ xs.length ≤ big ∧ vs'.length ≤ big ∧ m ≤ big ∧
  (m < xs.length + 1 → E (.ref C) none H) ∧
  (¬ m < xs.length + 1 → ∀ n, H n = none → Q .non (upd (upd (upd H n (.lst [])) a (.lst (vs' ++ [.ref n]))) R (.lst (xs ++ [.ref a] ++ [.ref n]))))
theorem ok_beg {f C : Addr} {fd : FuncData} (F : Fun K "begin_list" "begin_list" sBeg f fd) (B : Blt mg) (D : DeepC K mg C) : FnOk P w K mg base (L2N.CX P w) 2 f fd ["rows", "deepest"] (spBeg C) := by
  refine okN F scBeg (fun vs H Q E h => ?_) (fun cdv A outer s H vs Q E hr h => ?_)
  · obtain ⟨R, a, xs, vs', m, rfl, _⟩ := h
    rfl
  obtain ⟨R, a, xs, vs', m, rfl, hR, ha, nRa, lx, lv, lm, qE, qQ⟩ := h
  refine ⟨_, pss_cons (ps_if (pt_cmpR op_gt (pe_callB call_len (by rfl) B.len PySem.boot_len (pa_cons (pv 0) pa_nil)) (pv 1) (nomark _))
      (pss_one (L2N.ps_raise rfl (L2N.takes_of rfl rfl rfl rfl) (pmkN_plain PySem.F.excBase_ValueError D.q D.g D.k (raises_own D.s D.t) rfl (pe_joined (PJ.cons pe_str (PJ.cons (pe_fmt (pv 1)) (PJ.cons pe_str PJ.nil))))))) pss_nil)
    (pss_cons (ps_set (i := 2) scBeg.nd rfl (Or.inl rfl) (pe_lst pa_nil))
    (pss_cons (ps_expr (pe_bm PySem.F.plainAttrs_list PySem.F.slot_list_append PySem.F.type_list_append mt_append (pe_ix ix_list (pv 0) (pe_un un_neg pe_int) (fun _ _ => rfl)) (pa_cons (pv 2) pa_nil)))
    (pss_one (ps_expr (pe_bm PySem.F.plainAttrs_list PySem.F.slot_list_append PySem.F.type_list_append mt_append (pv 0) (pa_cons (pv 2) pa_nil)))))), ?_⟩
  have ll : (xs ++ [V.ref a]).length = xs.length + 1 := by simp
  refine ⟨_, rfl, _, _, rfl, .inl ⟨_, SqL.of hR, rfl⟩, _, rfl, _, _, rfl, rfl, _, rfl, ?_⟩
  rw [ll]
  by_cases hc : m < xs.length + 1
  · rw [decide_eq_true (by omega)]
    have hm10 : ((m : Nat) : Int).natAbs < 10 ^ 10 := Nat.lt_of_le_of_lt (show m ≤ big from lm) (by decide)
    have li := int_len hm10
    have l0 : (Str.empty ++ ("a list within " : Str)).length = 14 := by decide +kernel
    have l1 : (Str.empty ++ ("a list within " : Str) ++ Str.ofString (toString ((m : Nat) : Int))).length ≤ 25 := by
      rw [app_len, l0]; omega
    have l2 : (" lists" : Str).length = 6 := by decide +kernel
    refine ⟨_, rfl, by decide +kernel, _, rfl, .inr ⟨m, rfl, int_log hm10, _, rfl, Nat.le_trans l1 (by decide), _, rfl, ?_, rfl, qE hc⟩⟩
    rw [app_len, l2]
    exact Nat.le_trans (Nat.add_le_add_right l1 6) (by decide)
  · rw [decide_eq_false (by omega)]
    have gQ := qQ hc
    refine ⟨by decide, fun n hn => ?_⟩
    have gn := gQ n hn
    have nRn : R ≠ n := ne_of_none hR hn
    have nan : a ≠ n := ne_of_none ha hn
    have hR1 : upd H n (.lst []) R = some (.lst (xs ++ [V.ref a])) := by rw [upd_ne nRn]; exact hR
    have ha1 : upd H n (.lst []) a = some (.lst vs') := by rw [upd_ne nan]; exact ha
    refine ⟨_, rfl, _, rfl, R, _, _, _, rfl, rfl, SqL.of hR1, atI_last _ _, .inl ⟨rfl, _, SqL.of ha1⟩, _, rfl, a, _, _, rfl, rfl, ha1, Nat.lt_of_le_of_lt lv (by decide), ?_⟩
    have hR2 : upd (upd H n (.lst [])) a (.lst (vs' ++ [V.ref n])) R = some (.lst (xs ++ [V.ref a])) := by rw [upd_ne nRa]; exact hR1
    exact ⟨_, rfl, .inl ⟨rfl, _, SqL.of hR2⟩, _, rfl, R, _, _, rfl, rfl, hR2, by rw [ll]; exact Nat.lt_of_le_of_lt (Nat.add_le_add_right lx 1) (by decide), gn⟩
end
end My
namespace My
open PySem PySem.Spec PyProof.Rows L2 TL
/-- the classes of the errors of a text -/
structure Errs where
  w : Addr
  c : Addr
  e : Addr
  d : Addr
def atX (C : Addr) (i : Nat) (H : Hp) (E : XK) : Prop := ∀ H' d, Sm No H H' → H d = none → H' d = some (.xd [("at", .int (i : Nat))]) → E (.ref C) (some d) H'
/-- what comes out of a text -/
def outP (X : Errs) (H : Hp) (Q : VK) (E : XK) : Out → Prop
  | .ok ds => ∀ (D : Addr) (vs : List V) (C : Addr → Prop) (H' : Hp), Sm No H H' → H D = none → (∀ a, C a → H a = none) → ¬ C D → H' D = some (.lst vs) → RepL C H' vs ds → Q (.ref D) H'
  | .word i => atX X.w i H E
  | .close i => atX X.c i H E
  | .ends i => atX X.e i H E
  | .deep => ∀ H', Sm No H H' → E (.ref X.d) none H'
def spParse (X : Errs) (Ps : List Addr) : Sp := fun vs H Q E => ∃ z : Str, vs = [.str z] ∧ z.length ≤ big ∧ (∀ p ∈ Ps, GxR.TabG H p) ∧ outP X H Q E (run (z.length + 1) (tl z) 0 [[]])
def spData (X : Errs) (Ps : List Addr) : Sp := fun vs H Q E => ∃ (z : Str) (m : Nat), vs = [.str z, .int (m : Nat)] ∧ z.length ≤ big ∧ m ≤ big ∧ (∀ p ∈ Ps, GxR.TabG H p) ∧ outP X H Q E (runD m (z.length + 1) (tl z) 0 [[]])
abbrev sParse : Stmt := top 21
abbrev sData : Stmt := top 20
def spEndL (C : Addr) : Sp := fun vs H Q E => ∃ (R : Addr) (xs : List V) (y : V) (i : Nat), vs = [.ref R, .int (i : Nat)] ∧ H R = some (.lst (xs ++ [y])) ∧ xs.length ≤ big ∧ i ≤ big ∧ (xs = [] → atX C i H E) ∧ (xs ≠ [] → Q .non (upd H R (.lst xs)))
theorem big10 {i : Nat} (h : i ≤ big) : ((i : Nat) : Int).natAbs < 10 ^ 10 := by
  have e : ((i : Nat) : Int).natAbs = i := rfl
  rw [e]
  exact Nat.lt_of_le_of_lt h (by decide)
section
variable {P : Program} {w : World} {K : PySem.W.Frag} {mg : Str → Option Value} {base : Heap}
theorem scEndL : FnScope ["rows", "at"] ["rows", "at"] (defScope sEndL) := ⟨rfl, rfl, rfl, by decide +kernel, rfl, by decide +kernel, by decide +kernel⟩
theorem ok_endl {f C fI : Addr} {fd fdI : FuncData} (F : Fun K "end_list" "end_list" sEndL f fd) (B : Blt mg) (X : ErrC P w K mg base "UnexpectedClose" C fI fdI) : FnOk P w K mg base (L2N.CX P w) 3 f fd ["rows", "at"] (spEndL C) := by
  refine okN F scEndL (fun vs H Q E h => ?_) (fun cdv A outer s H vs Q E hr h => ?_)
  · obtain ⟨R, xs, y, i, rfl, _⟩ := h
    rfl
  obtain ⟨R, xs, y, i, rfl, hR, lx, li, qE, qQ⟩ := h
  refine ⟨_, pss_cons (ps_if (pt_cmpR op_eq (pe_callB call_len (by rfl) B.len PySem.boot_len (pa_cons (pv 0) pa_nil)) pe_int (nomark _))
      (pss_one (L2N.ps_raise rfl (L2N.takes_of rfl rfl rfl rfl) (pmkN_oex X.o X.iC X.tI X.f hr X.b .nil pass0 rfl X.g (pa_cons (pv 1) pa_nil)))) pss_nil)
    (pss_one (ps_expr (pe_bm0 PySem.F.plainAttrs_list PySem.F.slot_list_pop PySem.F.type_list_pop mt_pop (pv 0)))), ?_⟩
  have ll : (xs ++ [y]).length = xs.length + 1 := by simp
  refine ⟨_, rfl, _, _, rfl, .inl ⟨_, SqL.of hR, rfl⟩, rfl, _, rfl, ?_⟩
  rw [ll]
  cases xs with
  | nil =>
    show tMkO C (spIni K C) [] (tCons (tVar 1) tNil) [some (.ref R), some (.int i)] H (fun cls d H' => E cls d H')
    exact mkO_at (big10 li) (fun Q' q' => ⟨_, rfl, q'⟩) (Sm.refl _ H) fun H' d sm hd e => qE rfl H' d sm hd e
  | cons x r =>
    have ne : decide (V.int (((x :: r).length + 1 : Nat) : Int) = V.int 1) = false := decide_eq_false fun z => by
      have z' := V.int.inj z
      simp at z'
      omega
    rw [ne]
    refine ⟨_, rfl, .inl ⟨rfl, _, SqL.of hR⟩, R, _, y, rfl, rfl, hR, by simp, ?_⟩
    have g := qQ (by simp)
    have dl : ((x :: r) ++ [y]).dropLast = x :: r := List.dropLast_concat
    rw [dl]
    exact g
theorem scData : FnScope ["text", "deepest", "data", "rows", "at", "sign", "end"] ["text", "deepest"] (defScope sData) := ⟨rfl, rfl, rfl, by decide +kernel, rfl, by decide +kernel, by decide +kernel⟩
theorem scParse : FnScope ["text"] ["text"] (defScope sParse) := ⟨rfl, rfl, rfl, by decide +kernel, rfl, by decide +kernel, by decide +kernel⟩
end
end My
namespace My
open PySem PySem.Spec PyProof.Rows L2 TL
/-- the state of the reading at the place i; H: the heap ahead of it -/
structure PC (dm : Nat) (z : Str) (out : Out) (H : Hp) (R D : Addr) (i : Nat) (H' : Hp) (n : Nat) (st : List (List Dat)) (as : List Addr) (C : Addr → Prop) : Prop where
  le : i ≤ (tl z).length
  fuel : (tl z).length < n + i
  run : runD dm n ((tl z).drop i) i st = out
  last : ∃ bs, as = bs ++ [D]
  opn : Opn C H' none as st
  rows : H' R = some (.lst (as.reverse.map V.ref))
  nC : ¬ C R
  nR : R ∉ as
  sm : Sm No H H'
  new : ∀ a, C a ∨ a ∈ as ∨ a = R → H a = none
  small : ∀ a ∈ as, ∀ vs, H' a = some (.lst vs) → vs.length ≤ i
  deep : as.length ≤ dm + 1 ∧ dm ≤ big
  cn : ∀ a, C a → H' a ≠ none
section
variable {dm : Nat} {z : Str} {out : Out} {H H' : Hp} {R D : Addr} {i n : Nat} {st : List (List Dat)} {as : List Addr} {C : Addr → Prop}
theorem drop_at {l : List Nat} {i c : Nat} (h : l[i]? = some c) : l.drop i = c :: l.drop (i + 1) ∧ i < l.length := by
  obtain ⟨h1, h2⟩ := List.getElem?_eq_some_iff.mp h
  rw [← h2]
  exact ⟨List.drop_eq_getElem_cons h1, h1⟩
theorem dropW (p : Nat → Bool) : ∀ l : List Nat, l.dropWhile p = l.drop (l.takeWhile p).length
  | [] => rfl
  | c :: r => by
    rw [List.dropWhile_cons, List.takeWhile_cons]
    cases h : p c with
    | true => exact dropW p r
    | false => rfl
theorem takeW_le (p : Nat → Bool) : ∀ l : List Nat, (l.takeWhile p).length ≤ l.length
  | [] => Nat.le_refl _
  | c :: r => by
    rw [List.takeWhile_cons]
    cases h : p c with
    | true => exact Nat.succ_le_succ (takeW_le p r)
    | false => exact Nat.zero_le _
/-- no object is touched, the place moves on -/
theorem PC.move {m j : Nat} (h : PC dm z out H R D i H' n st as C) (hij : i ≤ j) (hj : j ≤ (tl z).length) (hf : (tl z).length < m + j) (hr : My.runD dm m ((tl z).drop j) j st = out) : PC dm z out H R D j H' m st as C :=
  ⟨hj, hf, hr, h.last, h.opn, h.rows, h.nC, h.nR, h.sm, h.new, fun a ha vs hv => Nat.le_trans (h.small a ha vs hv) hij, h.deep, h.cn⟩
theorem PC.fuel1 {c : Nat} (h : PC dm z out H R D i H' n st as C) (hc : (tl z)[i]? = some c) : ∃ m, n = m + 1 ∧ (tl z).length < m + (i + 1) ∧ i + 1 ≤ (tl z).length := by
  have l := (drop_at hc).2
  have f := h.fuel
  cases n with
  | zero => omega
  | succ m => exact ⟨m, rfl, by omega, by omega⟩
theorem PC.remark (h : PC dm z out H R D i H' n st as C) (hc : (tl z)[i]? = some 59) :
    i < i + (((tl z).drop i).takeWhile noLine).length ∧ ∃ m, PC dm z out H R D (i + (((tl z).drop i).takeWhile noLine).length) H' m st as C := by
  obtain ⟨m, e, f, l⟩ := h.fuel1 hc
  subst e
  have r := h.run
  obtain ⟨d1, d2⟩ := drop_at hc
  have pos : 0 < (((tl z).drop i).takeWhile noLine).length := by
    rw [d1, List.takeWhile_cons, show noLine 59 = true from rfl]
    exact Nat.succ_pos _
  have tk := takeW_le noLine ((tl z).drop i)
  rw [List.length_drop] at tk
  have r2 : My.runD dm m (((tl z).drop i).dropWhile noLine) (i + (((tl z).drop i).takeWhile noLine).length) st = out := by
    rw [d1] at r ⊢
    exact r
  rw [dropW, List.drop_drop] at r2
  exact ⟨by omega, m, h.move (by omega) (by omega) (by omega) r2⟩
theorem PC.blank {c : Nat} (h : PC dm z out H R D i H' n st as C) (hc : (tl z)[i]? = some c) (hb : c = 32 ∨ c = 10) : ∃ m, PC dm z out H R D (i + 1) H' m st as C := by
  obtain ⟨m, e, f, l⟩ := h.fuel1 hc
  subst e
  have r := h.run
  obtain ⟨d1, d2⟩ := drop_at hc
  rw [d1] at r
  have r2 : My.runD dm m ((tl z).drop (i + 1)) (i + 1) st = out := by
    rcases hb with hb | hb
    · subst hb; exact r
    · subst hb; exact r
  exact ⟨m, h.move (by omega) l f r2⟩
/-- the rows' list, from its end -/
theorem PC.split (h : PC dm z out H R D i H' n st as C) : ∃ (a : Addr) (bs : List Addr) (t : List Dat) (rest : List (List Dat)), as = a :: bs ∧ st = t :: rest ∧ H' R = some (.lst (bs.reverse.map V.ref ++ [.ref a])) ∧ a ∈ as ∧ R ≠ a ∧ (bs.reverse.map V.ref).length = bs.length := by
  obtain ⟨bs, e⟩ := h.last
  have l := h.opn.len
  cases as with
  | nil => cases bs <;> cases e
  | cons a r =>
    cases st with
    | nil => cases l
    | cons t rest =>
      refine ⟨a, r, t, rest, rfl, rfl, ?_, List.mem_cons_self, fun e => h.nR (by rw [e]; exact List.mem_cons_self), by simp⟩
      rw [h.rows, List.reverse_cons, List.map_append]
      rfl
theorem PC.sm' {H2 : Hp} (h : PC dm z out H R D i H' n st as C) (s : Sm No H' H2) : PC dm z out H R D i H2 n st as C := by
  refine ⟨h.le, h.fuel, h.run, h.last, h.opn.keepH fun b xs e _ => s.lst0 e, s.lst0 h.rows, h.nC, h.nR, h.sm.trans s, h.new, fun a ha vs hv => ?_, h.deep, fun a ha e => h.cn a ha (s.dom a e)⟩
  obtain ⟨us, hu⟩ := h.opn.there a ha
  have := s.lst0 hu
  rw [hv] at this
  cases this
  exact h.small a ha vs hu
theorem PC.beg (h : PC dm z out H R D i H' n st as C) (hc : (tl z)[i]? = some 40) (hz : z.length ≤ big) : ∃ (a : Addr) (xs vs : List V), H' R = some (.lst (xs ++ [.ref a])) ∧ H' a = some (.lst vs) ∧ R ≠ a ∧ xs.length ≤ big ∧ vs.length ≤ big ∧
    (dm < xs.length + 1 → out = .deep) ∧ (¬ dm < xs.length + 1 → ∀ q, H' q = none → ∃ m st' as' C', PC dm z out H R D (i + 1) (upd (upd (upd H' q (.lst [])) a (.lst (vs ++ [.ref q]))) R (.lst (xs ++ [.ref a] ++ [.ref q]))) m st' as' C') := by
  obtain ⟨m, e, f, l⟩ := h.fuel1 hc
  subst e
  have r := h.run
  obtain ⟨d1, d2⟩ := drop_at hc
  rw [d1] at r
  obtain ⟨a, bs, t, rest, ea, es, hR, ma, nRa, lb⟩ := h.split
  subst ea es
  obtain ⟨vs0, hv0⟩ := h.opn.there a ma
  have sm0 := h.small a ma vs0 hv0
  have lz := len_tl z
  have ol := h.opn.len
  have ls : (t :: rest).length = bs.length + 1 := by rw [← ol]; rfl
  refine ⟨a, _, vs0, hR, hv0, nRa, by rw [lb]; have d1 := h.deep.1; have d2 := h.deep.2; simp at d1; omega, by have := h.le; omega, fun g => ?_, fun g q hq => ?_⟩
  · rw [lb] at g
    have r2 : (if dm < (t :: rest).length then Out.deep else My.runD dm m ((tl z).drop (i + 1)) (i + 1) ([] :: t :: rest)) = out := r
    rw [if_pos (by rw [ls]; omega)] at r2
    exact r2.symm
  · rw [lb] at g
    have r2 : (if dm < (t :: rest).length then Out.deep else My.runD dm m ((tl z).drop (i + 1)) (i + 1) ([] :: t :: rest)) = out := r
    rw [if_neg (by rw [ls]; omega)] at r2
    have q0 : H q = none := h.sm.dom q hq
    have ne : ∀ {b : Addr} {o : HO}, H' b = some o → b ≠ q := fun {b o} e => ne_of_none e hq
    obtain ⟨vs, hv, big⟩ := h.opn.beg hq (fun z => h.cn q z hq)
    rw [hv0] at hv
    cases hv
    have nqR : R ≠ q := ne h.rows
    have naq : a ≠ q := ne hv0
    have at_ : ∀ {b : Addr} {o : HO}, H' b = some o → b ≠ a → b ≠ R → (upd (upd (upd H' q (.lst [])) a (.lst (vs0 ++ [.ref q]))) R (.lst (bs.reverse.map V.ref ++ [.ref a] ++ [.ref q]))) b = some o := fun {b o} e n1 n2 => by
      rw [upd_ne n2, upd_ne n1, upd_ne (ne e)]
      exact e
    have rn : ∀ b ∈ a :: bs, b ≠ R := fun b hb z => h.nR (z ▸ hb)
    have s1 : Sm No H (upd H' q (.lst [])) := h.sm.mut q0 fun ps z => by rw [hq] at z; cases z
    have s2 : Sm No H (upd (upd H' q (.lst [])) a (.lst (vs0 ++ [.ref q]))) := s1.mut (h.new a (.inr (.inl ma))) (ntbl_l (by rw [upd_ne naq]; exact hv0))
    have s3 := s2.mut (o := .lst (bs.reverse.map V.ref ++ [.ref a] ++ [.ref q])) (h.new R (.inr (.inr rfl))) (ntbl_l (by rw [upd_ne nRa, upd_ne nqR]; exact h.rows))
    have s0 := h.small a ma vs0 hv0
    obtain ⟨cs, el⟩ := h.last
    refine ⟨m, [] :: t :: rest, q :: a :: bs, C, ⟨l, f, r2, ⟨q :: cs, by rw [el]; rfl⟩, big _ ?_ ?_ ?_, ?_, h.nC, ?_, s3, ?_, ?_, ?_, ?_⟩⟩
    · rw [upd_ne nqR.symm, upd_ne naq.symm, upd_same]
    · rw [upd_ne nRa.symm, upd_same]
    · intro b hb hm xs e
      exact at_ e hb fun z => hm.elim (fun g => h.nC (z ▸ g)) fun g => h.nR (z ▸ List.mem_cons_of_mem _ g)
    · rw [upd_same, List.reverse_cons, List.reverse_cons, List.map_append, List.map_append]
      rfl
    · intro z
      rcases List.mem_cons.mp z with z | z
      · exact nqR z
      · exact h.nR z
    · intro b hb
      rcases hb with hb | hb | hb
      · exact h.new b (.inl hb)
      · rcases List.mem_cons.mp hb with e | e
        · rw [e]; exact q0
        · exact h.new b (.inr (.inl e))
      · exact h.new b (.inr (.inr hb))
    · intro b hb vs hv
      rcases List.mem_cons.mp hb with e | e
      · rw [e, upd_ne nqR.symm, upd_ne naq.symm, upd_same] at hv
        cases hv
        exact Nat.zero_le _
      · by_cases hba : b = a
        · rw [hba, upd_ne nRa.symm, upd_same] at hv
          cases hv
          simp
          exact s0
        · obtain ⟨us, hu⟩ := h.opn.there b e
          have hv2 := (at_ hu hba (rn b e)).symm.trans hv
          have ev : us = vs := by injection hv2 with z; injection z
          rw [← ev]
          exact Nat.le_succ_of_le (h.small b e us hu)
    · refine ⟨?_, h.deep.2⟩
      show (a :: bs).length + 1 ≤ dm + 1
      simp
      omega
    · intro b hb e
      exact h.cn b hb (upd_dom b (upd_dom b (upd_dom b e)))
end
end My
namespace My
open PySem PySem.Spec PyProof.Rows L2 TL
section
variable {dm : Nat} {z : Str} {out : Out} {H H' : Hp} {R D : Addr} {i n : Nat} {st : List (List Dat)} {as : List Addr} {C : Addr → Prop}
theorem PC.cls (h : PC dm z out H R D i H' n st as C) (hc : (tl z)[i]? = some 41) : ∃ (xs : List V) (y : V), H' R = some (.lst (xs ++ [y])) ∧ xs.length ≤ big ∧ (xs = [] → out = .close i) ∧
    (xs ≠ [] → ∃ m st' as' C', PC dm z out H R D (i + 1) (upd H' R (.lst xs)) m st' as' C') := by
  obtain ⟨m, e, f, l⟩ := h.fuel1 hc
  subst e
  have r := h.run
  obtain ⟨d1, d2⟩ := drop_at hc
  rw [d1] at r
  obtain ⟨a, bs, t, rest, ea, es, hR, ma, nRa, lb⟩ := h.split
  subst ea es
  have ol := h.opn.len
  have dp := h.deep
  refine ⟨_, _, hR, by rw [lb]; have d1 := dp.1; have d2 := dp.2; simp at d1; omega, fun g => ?_, fun g => ?_⟩
  · have b0 : bs = [] := by
      have := congrArg List.length g
      rw [lb] at this
      exact List.length_eq_zero_iff.mp this
    subst b0
    cases rest with
    | nil => exact r.symm
    | cons p q => cases ol
  · cases bs with
    | nil => exact absurd rfl g
    | cons b bs =>
      cases rest with
      | nil => cases ol
      | cons p rest =>
        have r2 : My.runD dm m ((tl z).drop (i + 1)) (i + 1) ((p ++ [.lst t]) :: rest) = out := r
        obtain ⟨cs, el⟩ := h.last
        have keepL : ∀ c xs, H' c = some (.lst xs) → ((C c ∨ c = a) ∨ c ∈ b :: bs) → (upd H' R (.lst ((b :: bs).reverse.map V.ref))) c = some (.lst xs) := fun c xs e hm => by
          rw [upd_ne (fun z => ?_)]
          · exact e
          · subst z
            rcases hm with (hm | hm) | hm
            · exact h.nC hm
            · exact nRa hm
            · exact h.nR (List.mem_cons_of_mem _ hm)
        refine ⟨m, (p ++ [.lst t]) :: rest, b :: bs, fun x => C x ∨ x = a, ⟨l, f, r2, ?_, h.opn.cls.keepH keepL, upd_same, ?_, fun z => h.nR (List.mem_cons_of_mem _ z), ?_, ?_, ?_, ?_, ?_⟩⟩
        · cases cs with
          | nil =>
            have e2 := (List.cons.inj el).2
            cases e2
          | cons c cs => exact ⟨cs, (List.cons.inj el).2⟩
        · intro z
          rcases z with z | z
          · exact h.nC z
          · exact nRa z
        · exact h.sm.mut (h.new R (.inr (.inr rfl))) (ntbl_l h.rows)
        · intro x hx
          rcases hx with (hx | hx) | hx | hx
          · exact h.new x (.inl hx)
          · exact h.new x (.inr (.inl (by rw [hx]; exact ma)))
          · exact h.new x (.inr (.inl (List.mem_cons_of_mem _ hx)))
          · exact h.new x (.inr (.inr hx))
        · intro x hx vs hv
          rw [upd_ne (fun z => h.nR (by rw [← z]; exact List.mem_cons_of_mem _ hx))] at hv
          exact Nat.le_succ_of_le (h.small x (List.mem_cons_of_mem _ hx) vs hv)
        · refine ⟨?_, dp.2⟩
          have d1 := dp.1
          simp at d1 ⊢
          omega
        · intro x hx e
          have e' := upd_dom x e
          rcases hx with hx | hx
          · exact h.cn x hx e'
          · obtain ⟨vs, hv⟩ := h.opn.there a ma
            rw [hx, hv] at e'
            cases e'
theorem wordV_rep {l : List Nat} {v : V} (h : wordV l = some v) (C : Addr → Prop) (H : Hp) : Rep C H v (datOf v) := by
  unfold wordV at h
  split at h
  · cases h; exact .int _
  · split at h
    · cases h; exact .sym _
    · cases h
theorem PC.word {c : Nat} (h : PC dm z out H R D i H' n st as C) (hc : (tl z)[i]? = some c) (hz : z.length ≤ big) (n1 : c ≠ 59) (n2 : c ≠ 40) (n3 : c ≠ 41) (n4 : c ≠ 32) (n5 : c ≠ 10) :
    ∃ (a : Addr) (xs vs : List V), H' R = some (.lst (xs ++ [.ref a])) ∧ H' a = some (.lst vs) ∧ vs.length ≤ big ∧ i < i + (((tl z).drop i).takeWhile noEnd).length ∧ i + (((tl z).drop i).takeWhile noEnd).length ≤ z.length ∧
    (wordV (((tl z).drop i).takeWhile noEnd) = none → out = .word i) ∧
    (∀ v, wordV (((tl z).drop i).takeWhile noEnd) = some v → ∀ H2, Sm No H' H2 → ∃ m st' as' C', PC dm z out H R D (i + (((tl z).drop i).takeWhile noEnd).length) (upd H2 a (.lst (vs ++ [v]))) m st' as' C') := by
  obtain ⟨m, e, f, l⟩ := h.fuel1 hc
  subst e
  have r := h.run
  obtain ⟨d1, d2⟩ := drop_at hc
  obtain ⟨a, bs, t, rest, ea, es, hR, ma, nRa, lb⟩ := h.split
  subst ea es
  obtain ⟨vs0, hv0⟩ := h.opn.there a ma
  have sm0 := h.small a ma vs0 hv0
  have lz := len_tl z
  have pos : 0 < (((tl z).drop i).takeWhile noEnd).length := by
    have ne : noEnd c = true := by
      unfold noEnd
      cases he : isEnd c with
      | false => rfl
      | true =>
        have := (isEnd_iff c).mp he
        omega
    rw [d1, List.takeWhile_cons, ne]
    exact Nat.succ_pos _
  have tk := takeW_le noEnd ((tl z).drop i)
  rw [List.length_drop] at tk
  have r2 : (match wordV (((tl z).drop i).takeWhile noEnd), t :: rest with
      | some v, t :: rest => My.runD dm m (((tl z).drop i).dropWhile noEnd) (i + (((tl z).drop i).takeWhile noEnd).length) ((t ++ [datOf v]) :: rest)
      | _, _ => Out.word i) = out := by
    rw [d1] at r ⊢
    have r' : (if c = 59 then _ else if c = 40 then _ else if c = 41 then _ else if c = 32 ∨ c = 10 then _ else _) = out := r
    rw [if_neg n1, if_neg n2, if_neg n3, if_neg (by omega)] at r'
    exact r'
  generalize hw : (((tl z).drop i).takeWhile noEnd) = wd at *
  refine ⟨a, _, vs0, hR, hv0, by have := h.le; omega, by omega, by omega, fun g => ?_, fun v g H2 s => ?_⟩
  · rw [g] at r2
    exact r2.symm
  · rw [g] at r2
    have r3 : My.runD dm m (((tl z).drop i).dropWhile noEnd) (i + wd.length) ((t ++ [datOf v]) :: rest) = out := r2
    rw [dropW, hw, List.drop_drop] at r3
    have h2 := h.sm' s
    obtain ⟨vs, hv, ap⟩ := h2.opn.app (wordV_rep g C H2)
    have hv1 := s.lst0 hv0
    rw [hv1] at hv
    cases hv
    refine ⟨m, (t ++ [datOf v]) :: rest, a :: bs, C, ⟨by omega, by omega, r3, h.last, ap _ upd_same ?_, ?_, h.nC, h.nR, ?_, h.new, ?_, h.deep, ?_⟩⟩
    · intro b hb _ xs e
      rw [upd_ne hb]; exact e
    · rw [upd_ne nRa]; exact h2.rows
    · exact h2.sm.mut (h.new a (.inr (.inl ma))) (ntbl_l hv1)
    · intro b hb vs hv
      by_cases hba : b = a
      · rw [hba, upd_same] at hv
        cases hv
        simp
        omega
      · rw [upd_ne hba] at hv
        exact Nat.le_trans (h2.small b hb vs hv) (by omega)
    · intro b hb e
      exact h2.cn b hb (upd_dom b e)
end
end My
namespace My
open PySem PySem.Spec PyProof.Rows L2 TL
/-- one callee: its promise, where it stands, how it binds -/
structure Cal (P : Program) (w : World) (K : PySem.W.Frag) (mg : Str → Option Value) (base : Heap) (CX : CXT) (k : Nat) (x : Str) (ps : List Str) (sp : Sp) (f : Addr) (fd : FuncData) : Prop where
  ok : FnOk P w K mg base CX k f fd ps sp
  k : PySem.W.keepIn K (.ref f) = true
  g : mg x = some (.ref f)
  b : Binds K fd ps []
section
variable {P : Program} {w : World} {K : PySem.W.Frag} {mg : Str → Option Value} {base : Heap}
theorem ok_data {f fRE fB fE fW fR CE fI P1 P2 : Addr} {fd dRE dB dE dW dR fdI : FuncData} {X : Errs} (F : Fun K "read_data" "read_data" sData f fd) (B : Blt mg)
    (GRE : Cal P w K mg base CX0 1 "remark_end" ["text", "at"] (spScan noLine) fRE dRE) (GW : Cal P w K mg base CX0 1 "word_end" ["text", "at"] (spScan noEnd) fW dW)
    (GB : Cal P w K mg base (L2N.CX P w) 2 "begin_list" ["rows", "deepest"] (spBeg X.d) fB dB) (GE : Cal P w K mg base (L2N.CX P w) 3 "end_list" ["rows", "at"] (spEndL X.c) fE dE)
    (GR : Cal P w K mg base (L2N.CX P w) 3 "read_word" ["word", "at"] (spRead X.w [P1, P2]) fR dR) (XE : ErrC P w K mg base "UnexpectedEnd" X.e fI fdI) :
    FnOk P w K mg base (L2N.CX P w) 4 f fd ["text", "deepest"] (spData X [P1, P2]) := by
  refine okN F scData (fun vs H Q E h => ?_) (fun cdv A outer s H vs Q E hr h => ?_)
  · obtain ⟨z, dm, rfl, _⟩ := h
    rfl
  obtain ⟨z, dm, rfl, hz, hdm, ht, hq⟩ := h
  have lz := len_tl z
  have hr1 : Room 1 _ := hr.mono (show 1 ≤ 3 by decide)
  have hr2 : Room 2 _ := hr.mono (show 2 ≤ 3 by decide)
  have nd := scData.nd
  refine ⟨_, pss_cons (ps_set (i := 2) nd rfl (Or.inl rfl) (pe_lst pa_nil))
    (pss_cons (ps_set (i := 3) nd rfl (Or.inl rfl) (pe_lst (pa_cons (pv 2) pa_nil)))
    (pss_cons (ps_set (i := 4) nd rfl (Or.inl rfl) pe_int)
    (C8.pss_cut (ps_while (passes_of rfl) (pt_cmpR op_lt (pv 4) (pe_callB call_len (by rfl) B.len PySem.boot_len (pa_cons (pv 0) pa_nil)) (nomark _))
      (pss_cons (ps_set (i := 5) nd rfl (Or.inl rfl) (pe_ix ix_str (pv 0) (pv 4) (fun _ _ => rfl)))
      (pss_cons (ps_set (i := 6) nd rfl (Or.inl rfl) (pe_op op_add (pv 4) pe_int))
      (C8.pss_cut (ps_if (pt_cmpR op_eq (pv 5) pe_str (nomark _)) (pss_one (ps_set (i := 6) nd rfl (Or.inl rfl) (pe_call GRE.ok hr1 rfl GRE.g GRE.k GRE.b .nil pass0 (pa_cons (pv 0) (pa_cons (pv 4) pa_nil)))))
        (pss_one (ps_if (pt_cmpR op_eq (pv 5) pe_str (nomark _)) (pss_one (ps_expr (pe_call GB.ok hr2 rfl GB.g GB.k GB.b .nil (L2N.passes_call (L2N.takes_of rfl rfl rfl rfl) fun _ _ _ _ h => h) (pa_cons (pv 3) (pa_cons (pv 1) pa_nil)))))
        (pss_one (ps_if (pt_cmpR op_eq (pv 5) pe_str (nomark _)) (pss_one (ps_expr (pe_call GE.ok hr rfl GE.g GE.k GE.b .nil (L2N.passes_call (L2N.takes_of rfl rfl rfl rfl) fun _ _ _ _ h => h) (pa_cons (pv 3) (pa_cons (pv 4) pa_nil)))))
        (pss_one (ps_if (pt_cmpR op_notIn_sign (pv 5) pe_str (by rfl))
          (pss_cons (ps_set (i := 6) nd rfl (Or.inl rfl) (pe_call GW.ok hr1 rfl GW.g GW.k GW.b .nil pass0 (pa_cons (pv 0) (pa_cons (pv 4) pa_nil))))
          (pss_one (ps_expr (pe_bm PySem.F.plainAttrs_list PySem.F.slot_list_append PySem.F.type_list_append mt_append (pe_ix ix_list (pv 3) (pe_un un_neg pe_int) (fun _ _ => rfl))
            (pa_cons (pe_call GR.ok hr rfl GR.g GR.k GR.b .nil (L2N.passes_call (L2N.takes_of rfl rfl rfl rfl) fun _ _ _ _ h => h) (pa_cons (pe_slice sl_str (pv 0) (po_some (pv 4)) (po_some (pv 6))) (pa_cons (pv 4) pa_nil))) pa_nil)))))
          pss_nil)))))))
      (pss_one (ps_set (i := 4) nd rfl (Or.inl rfl) (pv 6)))))))
    (pss_cons (ps_if (pt_cmpR op_gt (pe_callB call_len (by rfl) B.len PySem.boot_len (pa_cons (pv 3) pa_nil)) pe_int (nomark _))
      (pss_one (L2N.ps_raise rfl (L2N.takes_of rfl rfl rfl rfl) (pmkN_oex XE.o XE.iC XE.tI XE.f hr2 XE.b .nil pass0 rfl XE.g (pa_cons (pe_callB call_len (by rfl) B.len PySem.boot_len (pa_cons (pv 0) pa_nil)) pa_nil)))) pss_nil)
    (pss_one (ps_ret (pv 2))))))), ?_⟩
  generalize hO : My.runD dm (z.length + 1) (tl z) 0 [[]] = out at hq
  refine ⟨by decide, fun D hD => ?_⟩
  have hD1 : upd H D (.lst []) D = some (.lst []) := upd_same
  refine ⟨_, rfl, by show 1 ≤ sizeLine; decide, fun R hR => ?_⟩
  have nRD : R ≠ D := fun e => by rw [e, hD1] at hR; cases hR
  have hR0 : H R = none := upd_dom R hR
  have start0 : PC dm z out H R D 0 (upd (upd H D (.lst [])) R (.lst [.ref D])) (z.length + 1) [[]] [D] (fun _ => False) := by
    refine ⟨Nat.zero_le _, by omega, hO, ⟨[], rfl⟩, ⟨⟨[], ?_, .nil⟩, fun z => z, by simp, trivial⟩, upd_same, fun z => z, by simpa using nRD, ?_, ?_, ?_, ⟨Nat.le_add_left 1 dm, hdm⟩, fun _ z => z.elim⟩
    · rw [upd_ne nRD.symm]; exact hD1
    · exact (Sm.new hD).mut hR0 fun ps e => by rw [hR] at e; cases e
    · intro a ha
      rcases ha with ha | ha | ha
      · exact ha.elim
      · rw [List.mem_singleton.mp ha]; exact hD
      · rw [ha]; exact hR0
    · intro a ha vs hv
      rw [List.mem_singleton.mp ha, upd_ne nRD.symm, hD1] at hv
      cases hv
      exact Nat.le_refl _
  have errAt : ∀ {C : Addr} {i : Nat} {H2 : Hp}, atX C i H E → Sm No H H2 → atX C i H2 E := fun q s H' d s' hd e => q H' d (s.trans s') (s.dom d hd) e
  refine ⟨fun σ H' => ∃ (v4 v5 : Option V) (n : Nat) (st : List (List Dat)) (as : List Addr) (C : Addr → Prop), σ = [some (.str z), some (.int (dm : Nat)), some (.ref D), some (.ref R), some (.int ((tl z).length : Nat)), v4, v5] ∧ PC dm z out H R D (tl z).length H' n st as C, ?_, ?_⟩
  · refine while_by (fun σ H' => ∃ (i : Nat) (v4 v5 : Option V) (n : Nat) (st : List (List Dat)) (as : List Addr) (C : Addr → Prop), σ = [some (.str z), some (.int (dm : Nat)), some (.ref D), some (.ref R), some (.int (i : Nat)), v4, v5] ∧ PC dm z out H R D i H' n st as C)
      (fun σ _ => match σ with | [_, _, _, _, some (.int k), _, _] => z.length - k.toNat | _ => 0) ⟨0, none, none, _, _, _, _, rfl, start0⟩ ?_ ?_
    · rintro σ H' ⟨i, v4, v5, n, st, as, C, rfl, pc⟩
      refine ⟨_, rfl, _, rfl, _, _, rfl, ⟨big_line hz, rfl⟩, _, _, rfl, rfl, _, rfl, ?_⟩
      refine ite2 (fun c => ?_) (fun c => ?_)
      · have lt : i < (tl z).length := by have := of_decide_eq_true c; omega
        have hc : (tl z)[i]? = some (tl z)[i] := List.getElem?_eq_getElem lt
        generalize (tl z)[i] = sg at hc
        have ea : atI z.cps.toList (i : Int) = some sg := atI_nat hc
        have htH : ∀ p ∈ [P1, P2], GxR.TabG H' p := fun p hp => pc.sm.tab p (ht p hp)
        refine ⟨_, rfl, _, rfl, z, _, _, rfl, rfl, big_line hz, ea, _, rfl, _, _, rfl, rfl, ?_⟩
        refine ⟨fun σ H2 => ∃ (j : Nat) (v4 : Option V) (n : Nat) (st : List (List Dat)) (as : List Addr) (C : Addr → Prop), σ = [some (.str z), some (.int (dm : Nat)), some (.ref D), some (.ref R), some (.int (i : Nat)), v4, some (.int (j : Nat))] ∧ i < j ∧ PC dm z out H R D j H2 n st as C, ?_, ?_⟩
        · have one : ∀ (b : Nat) (y : Str), tl y = [b] → decide (V.str ⟨#[sg]⟩ = V.str y) = decide (sg = b) := fun b y e => by
            rw [dec_str_tl, e]
            show decide ([sg] = [b]) = decide (sg = b)
            by_cases h : sg = b
            · rw [decide_eq_true h, decide_eq_true (by rw [h])]
            · rw [decide_eq_false h, decide_eq_false (fun e => h (List.cons.inj e).1)]
          have el : ∀ {k : Nat} {L : List Nat}, k = L.length → L.take k = L := fun {k L} e => by rw [e, List.take_length]
          have tw : ∀ (p : Nat → Bool) (l : List Nat), l.take (l.takeWhile p).length = l.takeWhile p := by
            intro p l
            induction l with
            | nil => rfl
            | cons c r ih =>
              rw [List.takeWhile_cons]
              cases p c with
              | true => exact congrArg (c :: ·) ih
              | false => rfl
          refine ⟨_, rfl, rfl, _, rfl, ?_⟩
          rw [one 59 ";" (by decide +kernel)]
          by_cases h59 : sg = 59
          · subst h59
            obtain ⟨lj, m, pj⟩ := pc.remark hc
            exact ⟨_, rfl, _, rfl, z, i, rfl, hz, by omega, ⟨_, _, m, st, as, C, rfl, lj, pj⟩⟩
          rw [decide_eq_false h59]
          refine ⟨_, rfl, rfl, _, rfl, ?_⟩
          rw [one 40 "(" (by decide +kernel)]
          by_cases h40 : sg = 40
          · subst h40
            obtain ⟨a, xs, vs, hR1, ha, nRa, lx, lv, gE, gQ⟩ := pc.beg hc hz
            refine ⟨_, rfl, _, rfl, R, a, xs, vs, dm, rfl, hR1, ha, nRa, lx, lv, hdm, fun g => ?_, fun g q hq' => ?_⟩
            · have e := gE g
              rw [e] at hq
              exact hq H' pc.sm
            · obtain ⟨m, st', as', C', pj⟩ := gQ g q hq'
              exact ⟨i + 1, _, m, st', as', C', rfl, Nat.lt_succ_self i, pj⟩
          rw [decide_eq_false h40]
          refine ⟨_, rfl, rfl, _, rfl, ?_⟩
          rw [one 41 ")" (by decide +kernel)]
          by_cases h41 : sg = 41
          · subst h41
            obtain ⟨xs, y, hR1, lx, gE, gQ⟩ := pc.cls hc
            refine ⟨_, rfl, _, rfl, R, xs, y, i, rfl, hR1, lx, by omega, fun g => ?_, fun g => ?_⟩
            · have e := gE g
              rw [e] at hq
              exact errAt hq pc.sm
            · obtain ⟨m, st', as', C', pj⟩ := gQ g
              exact ⟨i + 1, _, m, st', as', C', rfl, Nat.lt_succ_self i, pj⟩
          rw [decide_eq_false h41]
          have bl : (" \n" : Str).cps.toList = [32, 10] := by decide +kernel
          refine ⟨_, rfl, sg, _, rfl, rfl, _, rfl, ?_⟩
          rw [bl]
          by_cases hb : sg = 32 ∨ sg = 10
          · have e : decide (sg ∈ [32, 10]) = true := decide_eq_true (by simpa using hb)
            rw [e]
            obtain ⟨m, pj⟩ := pc.blank hc hb
            exact ⟨i + 1, _, m, st, as, C, rfl, Nat.lt_succ_self i, pj⟩
          · have e : decide (sg ∈ [32, 10]) = false := decide_eq_false (by simpa using hb)
            rw [e]
            obtain ⟨a, xs, vs, hR1, ha, lv, lj, le, gE, gQ⟩ := pc.word hc hz h59 h40 h41 (fun z => hb (.inl z)) (fun z => hb (.inr z))
            have ec : tl (cutS z (some (i : Int)) (some ((i + (((tl z).drop i).takeWhile noEnd).length : Nat) : Int))) = ((tl z).drop i).takeWhile noEnd := by
              rw [tl_cut2 z i _ (by omega) le, show i + (((tl z).drop i).takeWhile noEnd).length - i = (((tl z).drop i).takeWhile noEnd).length by omega]
              exact tw _ _
            refine ⟨_, rfl, _, rfl, z, i, rfl, hz, by omega, ?_⟩
            refine ⟨_, rfl, _, rfl, R, _, _, _, rfl, rfl, SqL.of hR1, atI_last _ _, .inl ⟨rfl, _, SqL.of ha⟩, ?_⟩
            refine ⟨_, rfl, _, rfl, _, rfl, _, rfl, _, rfl, z, rfl, big_line hz, _, rfl, ?_⟩
            refine ⟨_, _, rfl, Nat.le_trans (cutS_length z _ _) hz, big10 (by omega), htH, fun v hv H2 s2 => ?_, fun hv H2 d s2 hd e => ?_⟩
            · rw [ec] at hv
              obtain ⟨m, st', as', C', pj⟩ := gQ v hv H2 s2
              exact ⟨a, vs, v, rfl, rfl, s2.lst0 ha, Nat.lt_of_le_of_lt lv (by decide), ⟨_, _, m, st', as', C', rfl, lj, pj⟩⟩
            · rw [ec] at hv
              have e0 := gE hv
              rw [e0] at hq
              exact hq H2 d (pc.sm.trans s2) (pc.sm.dom d hd) e
        · rintro σ H2 ⟨j, w4, m, st', as', C', rfl, lj, pj⟩
          refine ⟨_, rfl, ⟨j, w4, _, m, st', as', C', rfl, pj⟩, ?_⟩
          show z.length - ((j : Nat) : Int).toNat < z.length - ((i : Nat) : Int).toNat
          have := pj.le
          omega
      · have e : i = (tl z).length := by
          have : ¬ i < z.length := fun h => c (decide_eq_true (by omega))
          have := pc.le
          omega
        subst e
        exact ⟨v4, v5, n, st, as, C, rfl, pc⟩
    · rintro σ H' Q1 Q2 hm ⟨v, e, v2, e2, x, n, e3, hl, i1, j1, e4, e5, b, e6, h7⟩
      exact ⟨v, e, v2, e2, x, n, e3, hl, i1, j1, e4, e5, b, e6, hm _ _ h7⟩
  · rintro σ H' ⟨v4, v5, n, st, as, C, rfl, pc⟩
    obtain ⟨a, bs, t, rest, ea, es, hR1, ma, nRa, lb⟩ := pc.split
    subst ea es
    have ol := pc.opn.len
    have r := pc.run
    have f := pc.fuel
    have dn : (tl z).drop (tl z).length = [] := List.drop_length
    refine ⟨_, rfl, _, _, rfl, .inl ⟨_, SqL.of hR1, rfl⟩, _, _, rfl, rfl, _, rfl, ?_⟩
    have ll : (bs.reverse.map V.ref ++ [V.ref a]).length = bs.length + 1 := by rw [List.length_append, lb]; rfl
    rw [ll]
    cases n with
    | zero => omega
    | succ m =>
      rw [dn] at r
      cases bs with
      | nil =>
        cases rest with
        | cons p q => cases ol
        | nil =>
          have r2 : Out.ok t = out := r
          rw [← r2] at hq
          obtain ⟨cs, el⟩ := pc.last
          have eD : a = D := by
            cases cs with
            | nil => exact (List.cons.inj el).1
            | cons c cs => cases cs <;> cases el
          obtain ⟨⟨vs, h1, h2⟩, h3, _⟩ := pc.opn
          rw [none_list] at h1
          rw [eD] at h1 h3
          exact ⟨_, rfl, hq D vs C H' pc.sm hD (fun x hx => pc.new x (.inl hx)) h3 h1 h2⟩
      | cons b bs =>
        cases rest with
        | nil => cases ol
        | cons p q =>
          have r2 : Out.ends (tl z).length = out := r
          rw [← r2] at hq
          rw [decide_eq_true (by simp; omega)]
          show tMkO X.e (spIni K X.e) [] (tCons (tCB (fun xs H Q => ∃ x n, xs = [x] ∧ LenV K x H n ∧ Q (V.int (n : Nat)) H) (tCons (tVar 0) tNil)) tNil) [some (V.str z), some (V.int (dm : Nat)), some (V.ref D), some (V.ref R), some (V.int ((tl z).length : Nat)), v4, v5] H' (fun cls d H' => E cls d H')
          refine mkO_at (i := ((tl z).length : Nat)) (big10 (by omega)) (fun Q' q' => ?_) (Sm.refl _ H') fun H2 d s2 hd e => hq H2 d (pc.sm.trans s2) (pc.sm.dom d hd) e
          refine ⟨_, rfl, _, _, rfl, ⟨big_line hz, rfl⟩, ?_⟩
          rw [lz]
          exact q'
theorem ok_parse {f fD P1 P2 : Addr} {fd dD : FuncData} {X : Errs} (F : Fun K "parse_all" "parse_all" sParse f fd) (T : Txs mg)
    (GD : Cal P w K mg base (L2N.CX P w) 4 "read_data" ["text", "deepest"] (spData X [P1, P2]) fD dD) : FnOk P w K mg base (L2N.CX P w) 5 f fd ["text"] (spParse X [P1, P2]) := by
  refine okN F scParse (fun vs H Q E h => ?_) (fun cdv A outer s H vs Q E hr h => ?_)
  · obtain ⟨z, rfl, _⟩ := h
    rfl
  obtain ⟨z, rfl, hz, ht, hq⟩ := h
  obtain ⟨td, eD⟩ := T.deep
  refine ⟨_, pss_one (ps_ret (pe_call GD.ok hr rfl GD.g GD.k GD.b .nil (L2N.passes_call (L2N.takes_of rfl rfl rfl rfl) fun _ _ _ _ h => h) (pa_cons (pv 0) (pa_cons (pe_glob (v := .int 60) rfl eD ⟨_, rfl⟩) pa_nil)))), ?_⟩
  refine ⟨_, rfl, z, 60, rfl, hz, by decide, ht, ?_⟩
  rw [runD_run]
  exact hq
end
end My
namespace My
open PySem PySem.Spec PyProof.Rows L2 TL
/-- a comprehension over the signs of a text -/
theorem lc_str {x : Str} {g : TG} {tt : TT} {te : TE} {vs : List Nat} {σ : L2.St} {H1 : Hp} {D : Addr} {Qd : Hp → Prop} (Pv : Nat → Hp → Prop) (h0 : Pv 0 (upd H1 D (.lst [])))
    (hs : ∀ i c H, (tl x)[i]? = some c → Pv i H → g (.str ⟨#[c]⟩) (wipe σ vs) H fun σ2 H2 => wipe σ2 vs = wipe σ vs ∧ tt σ2 H2 fun b H3 =>
      if b = true then te σ2 H3 fun y H4 => ∃ acc, H4 D = some (.lst acc) ∧ acc.length < sizeLine ∧ Pv (i + 1) (upd H4 D (.lst (acc ++ [y]))) else Pv (i + 1) H3)
    (hd : ∀ H, Pv (tl x).length H → Qd H) :
    ∃ W : Nat → Nat → Hp → Prop, (∃ m, W 0 m (upd H1 D (.lst []))) ∧ ∀ i m H, W i m H →
      ((Its x).stop i H ∧ Qd H) ∨ ((Its x).go i H ∧ ∃ Nx : Hp → Prop, (∀ H', Nx H' → ∃ m', m' < m ∧ W (i + 1) m' H') ∧
        ∀ v H', (Its x).yld i H v H' → g v (wipe σ vs) H' fun σ2 H2 => wipe σ2 vs = wipe σ vs ∧ tt σ2 H2 fun b H3 =>
          if b = true then te σ2 H3 fun y H4 => ∃ acc, H4 D = some (.lst acc) ∧ acc.length < sizeLine ∧ Nx (upd H4 D (.lst (acc ++ [y]))) else Nx H3) := by
  have sz : x.cps.size = (tl x).length := by simp [tl]
  refine ⟨fun i m H => m + i = (tl x).length ∧ Pv i H, ⟨(tl x).length, rfl, h0⟩, ?_⟩
  rintro i m H ⟨e, p⟩
  by_cases lt : i < (tl x).length
  · refine .inr ⟨show i < x.cps.size by omega, Pv (i + 1), fun H' p' => ⟨m - 1, by omega, by omega, p'⟩, ?_⟩
    rintro v H' ⟨eh, c, hc, ev⟩
    subst eh ev
    exact hs i c _ (by show x.cps.toList[i]? = some c; rw [Array.getElem?_toList]; exact hc) p
  · have ei : i = (tl x).length := by omega
    subst ei
    exact .inl ⟨show x.cps.size ≤ (tl x).length by omega, hd H p⟩
abbrev sNumeral : Stmt := top 29
section
variable {P : Program} {w : World} {K : PySem.W.Frag} {mg : Str → Option Value} {base : Heap}
theorem scNumeral : FnScope ["word", "digits", "sign"] ["word"] (defScope sNumeral) := ⟨rfl, rfl, rfl, by decide +kernel, rfl, by decide +kernel, by decide +kernel⟩
theorem filt0 {α : Type} (p : α → Bool) (l : List α) : ((l.filter fun c => !p c).length = 0) ↔ l.all p = true := by
  rw [List.length_eq_zero_iff, List.filter_eq_nil_iff, List.all_eq_true]
  constructor
  · intro h c hc
    have := h c hc
    simpa using this
  · intro h c hc
    simp [h c hc]
theorem ok_numeral {f : Addr} {fd : FuncData} (F : Fun K "_law_is_numeral" "_law_is_numeral" sNumeral f fd) (B : Blt mg) : FnOk P w K mg base CX0 1 f fd ["word"] (spTxt madeNum []) := by
  refine F.ok scNumeral spTxt_len (fun cdv A outer s H vs Q E hr h => ?_)
  obtain ⟨z, rfl, hz, _, q⟩ := h
  have nd := scNumeral.nd
  refine ⟨_, pss_cons (ps_set (i := 1) nd rfl (Or.inl rfl) (pv 0))
    (C8.pss_cut (ps_if (pt_cmpR op_in_seq (pe_slice sl_str (pv 0) po_none (po_some pe_int)) (pe_lst (pa_cons pe_str (pa_cons pe_str pa_nil))) (by rfl)) (pss_one (ps_set (i := 1) nd rfl (Or.inl rfl) (pe_slice sl_str (pv 0) (po_some pe_int) po_none))) pss_nil)
    (pss_one (ps_ret (pe_and (pe_cmpR op_ne (pv 1) pe_str (nomark _)) (pe_one (pe_cmpR op_eq (pe_callB call_len (by rfl) B.len PySem.boot_len (pa_cons
      (pe_lc (own := [("sign", 2)]) (g := gName 2) rfl nd (pi_str (pv 1)) (blkOk_by (N := ["word", "digits", "sign"]) (sc := defScope sNumeral) (by decide +kernel)) (fun _ _ _ _ _ => pg_name (i := 2) nd rfl (Or.inl rfl))
        (fun _ _ _ _ _ => pts_one (pt_cmpR op_notIn_sign (pv 2) pe_str (by rfl))) (fun _ _ _ _ _ => pv 2)) pa_nil)) pe_int (nomark _))))))), ?_⟩
  refine ⟨_, rfl, ?_⟩
  refine ⟨fun σ H' => ∃ d : Str, σ = [some (.str z), some (.str d), none] ∧ tl d = body (tl z) ∧ d.length ≤ big ∧ Sm No H H', ?_, ?_⟩
  · refine ⟨_, rfl, _, rfl, z, rfl, big_line hz, by show 2 ≤ sizeLine; decide, fun p hp => ?_⟩
    refine ⟨p, _, rfl, .inl (SqL.of upd_same), rfl, rfl, _, rfl, ?_⟩
    have e1 : tl (cutS z none (some 1)) = (tl z).take 1 := tl_cut0 z 1
    have em : tl ("-" : Str) = [45] := by decide +kernel
    have ep : tl ("+" : Str) = [43] := by decide +kernel
    rw [if_neg Bool.false_ne_true, inV2, e1, em, ep]
    rcases body_cases (tl z) with ⟨h1, h2⟩ | ⟨h1, h2⟩
    · rw [h1]
      exact ⟨_, rfl, _, rfl, z, rfl, big_line hz, _, rfl, by rw [h2]; exact tl_cut1 z 1, Nat.le_trans (cutS_length z _ _) hz, Sm.new hp⟩
    · rw [h1]
      exact ⟨z, rfl, h2.symm, hz, Sm.new hp⟩
  · rintro σ H' ⟨d, rfl, ed, ld, sm⟩
    have e0 : tl ("" : Str) = [] := by decide +kernel
    refine ⟨_, rfl, rfl, _, rfl, ?_⟩
    rw [dec_str_tl, ed, e0]
    by_cases hb : body (tl z) = []
    · rw [decide_eq_true hb]
      have g : madeNum (tl z) = false := by unfold madeNum; rw [hb]; rfl
      have r := q H' sm
      rw [g] at r
      exact r
    · rw [decide_eq_false hb]
      refine ⟨_, rfl, d, rfl, fun D hD => ?_⟩
      have hD0 : H D = none := sm.dom D hD
      refine lc_str (fun i H2 => ∃ acc, H2 D = some (.lst acc) ∧ acc.length = (((tl d).take i).filter fun c => !isDig c).length ∧ Sm No H H2) ⟨[], upd_same, rfl, sm.mut hD0 fun ps z => by rw [hD] at z; cases z⟩ ?_ ?_
      · rintro i c H2 hc ⟨acc, a1, a2, a3⟩
        have i1 : i < (tl d).length := (List.getElem?_eq_some_iff.mp hc).1
        have la : acc.length ≤ (tl d).length := by
          rw [a2]
          exact Nat.le_trans (List.length_filter_le _ _) (by rw [List.length_take]; omega)
        have ld' : (tl d).length ≤ big := by rw [← len_tl]; exact ld
        have em : (((tl d).take (i + 1)).filter fun c => !isDig c).length = (((tl d).take i).filter fun c => !isDig c).length + (if isDig c then 0 else 1) := by
          rw [take_more hc, List.filter_append, List.length_append]
          congr 1
          cases h : isDig c <;> simp [h]
        refine ⟨rfl, _, rfl, c, _, rfl, rfl, _, rfl, ?_⟩
        have sd : decide (c ∈ ("0123456789" : Str).cps.toList) = isDig c := rfl
        rw [sd]
        cases h : isDig c with
        | true => exact ⟨acc, a1, by rw [em, h, a2]; rfl, a3⟩
        | false =>
          exact ⟨_, rfl, acc, a1, Nat.lt_of_le_of_lt (Nat.le_trans la ld') (by decide), acc ++ [V.str ⟨#[c]⟩], upd_same, by rw [em, h, List.length_append, a2]; rfl, a3.mut hD0 (ntbl_l a1)⟩
      · rintro H2 ⟨acc, a1, a2, a3⟩
        rw [List.take_length] at a2
        refine ⟨_, _, rfl, .inl ⟨_, SqL.of a1, rfl⟩, rfl, ?_⟩
        have g : madeNum (tl z) = decide (V.int ((acc.length : Nat) : Int) = V.int 0) := by
          have e : madeNum (tl z) = (body (tl z)).all isDig := by
            unfold madeNum
            cases hx : body (tl z) with
            | nil => exact absurd hx hb
            | cons a r => rfl
          rw [e, ← ed]
          by_cases ha : (tl d).all isDig = true
          · rw [ha]
            have := (filt0 isDig (tl d)).mpr ha
            rw [this] at a2
            rw [a2]
            exact (decide_eq_true rfl).symm
          · rw [Bool.eq_false_iff.mpr ha]
            refine (decide_eq_false fun z => ha ((filt0 isDig (tl d)).mp ?_)).symm
            have := V.int.inj z
            omega
        have r := q H2 a3
        rw [g] at r
        exact r
end
end My
namespace My
open PySem PySem.Spec PyProof.Rows L2 TL
def All (_ : Addr) : Prop := True
def tyD : Dat → String
  | .int _ => "int"
  | .sym _ => "str"
  | .lst _ => "list"
theorem Rep.sm {C : Addr → Prop} {H H' : Hp} {v : V} {d : Dat} (r : Rep C H v d) (s : Sm No H H') : Rep C H' v d := r.keep (fun a vs _ e => s.lst0 e) fun _ z => z
theorem RepL.sm {C : Addr → Prop} {H H' : Hp} {v : List V} {d : List Dat} (r : RepL C H v d) (s : Sm No H H') : RepL C H' v d := r.keep (fun a vs _ e => s.lst0 e) fun _ z => z
theorem Rep.all {C : Addr → Prop} {H : Hp} {v : V} {d : Dat} (r : Rep C H v d) : Rep All H v d := r.keep (fun _ _ _ e => e) fun _ _ => trivial
theorem RepL.all {C : Addr → Prop} {H : Hp} {v : List V} {d : List Dat} (r : RepL C H v d) : RepL All H v d := r.keep (fun _ _ _ e => e) fun _ _ => trivial
theorem RepL.len {C : Addr → Prop} {H : Hp} : ∀ {vs : List V} {ds : List Dat}, RepL C H vs ds → vs.length = ds.length
  | _, _, .nil => rfl
  | _, _, .cons _ r => congrArg (· + 1) (RepL.len r)
theorem RepL.get {C : Addr → Prop} {H : Hp} : ∀ {vs : List V} {ds : List Dat} {i : Nat}, RepL C H vs ds → i < ds.length → ∃ v d, vs[i]? = some v ∧ ds[i]? = some d ∧ Rep C H v d
  | _, _, 0, .cons h r, _ => ⟨_, _, rfl, rfl, h⟩
  | _, _, i + 1, .cons h r, l => by
    obtain ⟨v, d, e1, e2, x⟩ := RepL.get (i := i) r (Nat.lt_of_succ_lt_succ l)
    exact ⟨v, d, by simpa using e1, by simpa using e2, x⟩
theorem Rep.ty {K : PySem.W.Frag} {C : Addr → Prop} {H : Hp} {v : V} {d : Dat} (r : Rep C H v d) : TyX K H v (.type (tyD d)) := by
  cases r with
  | int i => exact .base (.int i)
  | sym s => exact .base (.str s)
  | lst hc h r => exact .base (.lst h)
/-- an expression gives True or False, what was there stays -/
def EvB (t : TE) (σ : L2.St) (H : Hp) (b : Bool) : Prop := ∀ Q : VK, (∀ H', Sm No H H' → Q (.bl b) H') → t σ H Q
def EvI (t : TE) (σ : L2.St) (H : Hp) (i : Int) : Prop := ∀ Q : VK, (∀ H', Sm No H H' → Q (.int i) H') → t σ H Q
section
variable {K : PySem.W.Frag} {σ : L2.St} {H : Hp} {i : Nat} {v : V} {d : Dat} {b : Bool}
abbrev tIsiT (K : PySem.W.Frag) (i : Nat) : TE := tCB (rIsiT K) (tCons (tVar i) (tCons (tTup (tCons (tC (.ty "list")) (tCons (tC (.ty "tuple")) tNil))) tNil))
abbrev tIsi (K : PySem.W.Frag) (i : Nat) (T : String) : TE := tCB (rIsi K) (tCons (tVar i) (tCons (tC (.ty T)) tNil))
theorem ev_isiT (h : σ[i]? = some (some v)) (r : Rep All H v d) : EvB (tIsiT K i) σ H (decide (tyD d = "list")) := fun Q q => by
  refine ⟨v, h, by show 2 ≤ sizeLine; decide, fun p hp => ?_⟩
  have s : Sm No H (upd H p (.tup [.ty "list", .ty "tuple"])) := Sm.new hp
  refine ⟨v, p, _, _, [.type "list", .type "tuple"], _, rfl, upd_same, .cons (.ty _) (.cons (.ty _) .nil), (r.sm s).ty, ?_, q _ s⟩
  have ki : ∀ (b : String) (r : Bool), kitB "int" b = some r → PySem.W.kitOne K (.type "int") (.type b) = some r := fun _ _ h => kit_ty h
  have ks : ∀ (b : String) (r : Bool), kitB "str" b = some r → PySem.W.kitOne K (.type "str") (.type b) = some r := fun _ _ h => kit_ty h
  have kl : ∀ (b : String) (r : Bool), kitB "list" b = some r → PySem.W.kitOne K (.type "list") (.type b) = some r := fun _ _ h => kit_ty h
  cases d with
  | int i => exact kitAny_cons (ki "list" false (by decide +kernel)) (fun _ => kitAny_cons (ki "tuple" false (by decide +kernel)) (fun _ => rfl) (fun z => nomatch z)) (fun z => nomatch z)
  | sym s => exact kitAny_cons (ks "list" false (by decide +kernel)) (fun _ => kitAny_cons (ks "tuple" false (by decide +kernel)) (fun _ => rfl) (fun z => nomatch z)) (fun z => nomatch z)
  | lst ds => exact kitAny_cons (kl "list" true (by decide +kernel)) (fun z => nomatch z) (fun _ => rfl)
theorem ev_isi {T : String} (h : σ[i]? = some (some v)) (r : Rep All H v d) (k : kitB (tyD d) T = some b) : EvB (tIsi K i T) σ H b := fun Q q =>
  ⟨v, h, v, _, _, .type T, b, rfl, .ty T, r.ty, kit_ty k, q H (Sm.refl _ _)⟩
end
/-- how deep a datum is, and how long its lists are at the most -/
def DepLe : Nat → Dat → Prop
  | 0, _ => False
  | n + 1, .lst ds => ds.length ≤ big ∧ ∀ d ∈ ds, DepLe n d
  | _ + 1, _ => True
def spSame (n : Nat) : Sp := fun vs H Q _ => ∃ (v1 v2 : V) (d : Dat), vs = [v1, v2] ∧ DepLe n d ∧ Rep All H v1 d ∧ Rep All H v2 d ∧ ∀ H', Sm No H H' → Q (.bl true) H'
abbrev sSame : Stmt := top 27
section
variable {P : Program} {w : World} {K : PySem.W.Frag} {mg : Str → Option Value} {base : Heap}
theorem scSame : FnScope ["one", "two", "k"] ["one", "two"] (defScope sSame) := ⟨rfl, rfl, rfl, by decide +kernel, rfl, by decide +kernel, by decide +kernel⟩
theorem ok_same {n : Nat} {f : Addr} {fd : FuncData} (F : Fun K "_law_same" "_law_same" sSame f fd) (B : Blt mg) (g : mg "_law_same" = some (.ref f)) (bn : Binds K fd ["one", "two"] []) (G : FnOk P w K mg base CX0 n f fd ["one", "two"] (spSame n)) :
    FnOk P w K mg base CX0 (n + 1) f fd ["one", "two"] (spSame (n + 1)) := by
  refine F.ok scSame (fun vs H Q E h => ?_) (fun cdv A outer s H vs Q E hr h => ?_)
  · obtain ⟨v1, v2, d, rfl, _⟩ := h
    rfl
  obtain ⟨v1, v2, d, rfl, dep, r1, r2, q⟩ := h
  have nd := scSame.nd
  refine ⟨_, pss_cons (ps_if (PW.pt (pw_and (pt_val (pe_callB call_isiT (by rfl) B.isinstance (by decide +kernel) (pa_cons (pv 0) (pa_cons (pe_tup (pa_cons (pe_bltn (v := .ty "list") (by rfl) B.list (by decide +kernel) rfl) (pa_cons (pe_bltn (v := .ty "tuple") (by rfl) B.tuple (by decide +kernel) rfl) pa_nil))) pa_nil))))
        (pw_and1 (pt_val (pe_callB call_isiT (by rfl) B.isinstance (by decide +kernel) (pa_cons (pv 1) (pa_cons (pe_tup (pa_cons (pe_bltn (v := .ty "list") (by rfl) B.list (by decide +kernel) rfl) (pa_cons (pe_bltn (v := .ty "tuple") (by rfl) B.tuple (by decide +kernel) rfl) pa_nil))) pa_nil)))))))
      (pss_cons (ps_if (PW.pt (pw_or (pt_cmpR op_ne (pe_callB call_isi (by rfl) B.isinstance (by decide +kernel) (pa_cons (pv 0) (pa_cons (pe_bltn (v := .ty "list") (by rfl) B.list (by decide +kernel) rfl) pa_nil))) (pe_callB call_isi (by rfl) B.isinstance (by decide +kernel) (pa_cons (pv 1) (pa_cons (pe_bltn (v := .ty "list") (by rfl) B.list (by decide +kernel) rfl) pa_nil))) (nomark _))
          (pw_or1 (pt_cmpR op_ne (pe_callB call_len (by rfl) B.len PySem.boot_len (pa_cons (pv 0) pa_nil)) (pe_callB call_len (by rfl) B.len PySem.boot_len (pa_cons (pv 1) pa_nil)) (nomark _))))) (pss_one (ps_ret pe_bl)) pss_nil)
      (pss_one (ps_ret (pe_cmpR op_eq (pe_callB call_len (by rfl) B.len PySem.boot_len (pa_cons
        (pe_lc (own := [("k", 2)]) (g := gName 2) rfl nd (pi_range1 (by rfl) B.range (pa_cons (pe_callB call_len (by rfl) B.len PySem.boot_len (pa_cons (pv 0) pa_nil)) pa_nil)) (blkOk_by (N := ["one", "two", "k"]) (sc := defScope sSame) (by decide +kernel)) (fun _ _ _ _ _ => pg_name (i := 2) nd rfl (Or.inl rfl))
          (fun _ _ _ _ _ => pts_one (pt_not (pt_val (pe_call G hr rfl g F.kp bn .nil pass0 (pa_cons (pe_ix (r := rIxL K) ix_list (pv 0) (pv 2) (fun _ _ => rfl)) (pa_cons (pe_ix (r := rIxL K) ix_list (pv 1) (pv 2) (fun _ _ => rfl)) pa_nil)))))) (fun _ _ _ _ _ => pv 2)) pa_nil)) pe_int (nomark _))))) pss_nil)
    (pss_cons (ps_if (PW.pt (pw_and (pt_val (pe_callB call_isi (by rfl) B.isinstance (by decide +kernel) (pa_cons (pv 0) (pa_cons (pe_bltn (v := .ty "int") (by rfl) B.int (by decide +kernel) rfl) pa_nil)))) (pw_and1 (pt_val (pe_callB call_isi (by rfl) B.isinstance (by decide +kernel) (pa_cons (pv 1) (pa_cons (pe_bltn (v := .ty "int") (by rfl) B.int (by decide +kernel) rfl) pa_nil)))))))
      (pss_one (ps_ret (pe_and (pe_not (pe_callB call_isi (by rfl) B.isinstance (by decide +kernel) (pa_cons (pv 0) (pa_cons (pe_bltn (v := .ty "bool") (by rfl) B.bool (by decide +kernel) rfl) pa_nil)))) (pe_and (pe_not (pe_callB call_isi (by rfl) B.isinstance (by decide +kernel) (pa_cons (pv 1) (pa_cons (pe_bltn (v := .ty "bool") (by rfl) B.bool (by decide +kernel) rfl) pa_nil)))) (pe_one (pe_cmpR op_eq (pv 0) (pv 1) (nomark _))))))) pss_nil)
    (pss_one (ps_ret (pe_and (pe_callB call_isi (by rfl) B.isinstance (by decide +kernel) (pa_cons (pv 0) (pa_cons (pe_bltn (v := .ty "str") (by rfl) B.str (by decide +kernel) rfl) pa_nil))) (pe_and (pe_callB call_isi (by rfl) B.isinstance (by decide +kernel) (pa_cons (pv 1) (pa_cons (pe_bltn (v := .ty "str") (by rfl) B.str (by decide +kernel) rfl) pa_nil))) (pe_one (pe_cmpR op_eq (pv 0) (pv 1) (nomark _)))))))), ?_⟩
  refine ev_isiT (i := 0) rfl r1 _ fun H1 s1 => ⟨_, rfl, ?_⟩
  cases d with
  | lst ds =>
    have tl1 : decide (tyD (.lst ds) = "list") = true := rfl
    rw [tl1]
    refine ev_isiT (i := 1) rfl (r2.sm s1) _ fun H2 s2 => ⟨_, rfl, ?_⟩
    rw [tl1]
    have s12 := s1.trans s2
    refine ev_isi (i := 0) (T := "list") (b := true) rfl (r1.sm s12) (show kitB "list" "list" = some true by decide +kernel) _ fun H3 s3 => ?_
    refine ev_isi (i := 1) (T := "list") (b := true) rfl (r2.sm (s12.trans s3)) (show kitB "list" "list" = some true by decide +kernel) _ fun H4 s4 => ?_
    have s14 := s12.trans (s3.trans s4)
    have r1' := r1.sm s14
    have r2' := r2.sm s14
    cases r1 with
    | @lst a1 vs1 _ _ g1 l1 =>
    cases r2 with
    | @lst a2 vs2 _ _ g2 l2 =>
    have e1 := s14.lst0 g1
    have e2 := s14.lst0 g2
    have n1 := l1.len
    have n2 := l2.len
    obtain ⟨db, dd⟩ := dep
    refine ⟨rfl, _, rfl, ?_⟩
    refine ⟨_, rfl, _, _, rfl, .inl ⟨_, SqL.of e1, rfl⟩, _, rfl, _, _, rfl, .inl ⟨_, SqL.of e2, rfl⟩, rfl, _, rfl, ?_⟩
    rw [n1, n2, decide_eq_true (show V.int ((ds.length : Nat) : Int) = V.int ((ds.length : Nat) : Int) from rfl)]
    have db' : (ds.length : Int) ≤ 1000000 := by have : ds.length ≤ 1000000 := db; omega
    refine ⟨_, rfl, _, _, rfl, .inl ⟨_, SqL.of e1, rfl⟩, _, rfl, by rw [n1]; omega, by rw [n1]; omega, fun D hD => ?_⟩
    have hD0 : H D = none := s14.dom D hD
    refine lc_range (lo := 0) (fun i H' => H' D = some (.lst []) ∧ Sm No H H') ⟨upd_same, s14.mut hD0 fun ps z => by rw [hD] at z; cases z⟩ ?_ ?_
    · rintro i H5 hi ⟨p1, p2⟩
      rw [n1, Int.toNat_natCast] at hi
      obtain ⟨x1, d1, f1, f2, f3⟩ := l1.get hi
      obtain ⟨x2, d2, f4, f5, f6⟩ := l2.get hi
      rw [f2] at f5
      cases f5
      have a0 : (0 : Int) + (i : Int) = ((i : Nat) : Int) := by omega
      rw [a0]
      refine ⟨rfl, ?_⟩
      refine ⟨_, rfl, _, rfl, a1, _, _, _, rfl, rfl, SqL.of (p2.lst0 g1), atI_nat f1, _, rfl, _, rfl, a2, _, _, _, rfl, rfl, SqL.of (p2.lst0 g2), atI_nat f4, ?_⟩
      refine ⟨x1, x2, d1, rfl, dd d1 (List.mem_of_getElem? f2), f3.sm p2, f6.sm p2, fun H6 s6 => ⟨_, rfl, ?_⟩⟩
      exact ⟨s6.lst0 p1, p2.trans s6⟩
    · rintro H5 ⟨p1, p2⟩
      refine ⟨_, _, rfl, .inl ⟨_, SqL.of p1, rfl⟩, rfl, ?_⟩
      exact q H5 p2
  | int i =>
    have tl1 : decide (tyD (.int i) = "list") = false := rfl
    rw [tl1]
    refine ev_isi (i := 0) (T := "int") (b := true) rfl (r1.sm s1) (show kitB "int" "int" = some true by decide +kernel) _ fun H2 s2 => ⟨_, rfl, ?_⟩
    refine ev_isi (i := 1) (T := "int") (b := true) rfl (r2.sm (s1.trans s2)) (show kitB "int" "int" = some true by decide +kernel) _ fun H3 s3 => ⟨_, rfl, ?_⟩
    refine ev_isi (i := 0) (T := "bool") (b := false) rfl (r1.sm (s1.trans (s2.trans s3))) (show kitB "int" "bool" = some false by decide +kernel) _ fun H4 s4 => ⟨_, rfl, _, rfl, ?_⟩
    refine ev_isi (i := 1) (T := "bool") (b := false) rfl (r2.sm (s1.trans (s2.trans (s3.trans s4)))) (show kitB "int" "bool" = some false by decide +kernel) _ fun H5 s5 => ⟨_, rfl, _, rfl, ?_⟩
    cases r1
    cases r2
    refine ⟨_, rfl, _, rfl, rfl, ?_⟩
    have r := q H5 (s1.trans (s2.trans (s3.trans (s4.trans s5))))
    rw [decide_eq_true rfl]
    exact r
  | sym i =>
    have tl1 : decide (tyD (.sym i) = "list") = false := rfl
    rw [tl1]
    refine ev_isi (i := 0) (T := "int") (b := false) rfl (r1.sm s1) (show kitB "str" "int" = some false by decide +kernel) _ fun H2 s2 => ⟨_, rfl, ?_⟩
    refine ev_isi (i := 0) (T := "str") (b := true) rfl (r1.sm (s1.trans s2)) (show kitB "str" "str" = some true by decide +kernel) _ fun H3 s3 => ⟨_, rfl, ?_⟩
    refine ev_isi (i := 1) (T := "str") (b := true) rfl (r2.sm (s1.trans (s2.trans s3))) (show kitB "str" "str" = some true by decide +kernel) _ fun H4 s4 => ⟨_, rfl, ?_⟩
    cases r1
    cases r2
    refine ⟨_, rfl, _, rfl, rfl, ?_⟩
    have r := q H4 (s1.trans (s2.trans (s3.trans s4)))
    rw [decide_eq_true rfl]
    exact r
theorem same_none {f : Addr} {fd : FuncData} : FnOk P w K mg base CX0 0 f fd ["one", "two"] (spSame 0) := by
  have no : ∀ vs H Q E, ¬ spSame 0 vs H Q E := by
    rintro vs H Q E ⟨v1, v2, d, _, h, _⟩
    exact h.elim
  exact ⟨fun vs H Q E h => absurd h (no vs H Q E), fun A outer s H args us vs Q E _ _ _ _ h => absurd h (no vs H Q E)⟩
theorem ok_sameN {f : Addr} {fd : FuncData} (F : Fun K "_law_same" "_law_same" sSame f fd) (B : Blt mg) (g : mg "_law_same" = some (.ref f)) (bn : Binds K fd ["one", "two"] []) : ∀ n : Nat, FnOk P w K mg base CX0 n f fd ["one", "two"] (spSame n)
  | 0 => same_none
  | n + 1 => ok_same F B g bn (ok_sameN F B g bn n)
end
end My
namespace My
open PySem PySem.Spec PyProof.Rows L2 TL
/-! ### a text times a small number -/
def rMulS : R2 := fun x y H Q => ∃ (z : Str) (n : Int), x = .str z ∧ y = .int n ∧ 0 ≤ n ∧ n ≤ 1000 ∧ z.length ≤ 1000 ∧ ∀ r : Str, tl r = (List.replicate n.toNat (tl z)).flatten → Q (.str r) H
theorem fold_app (a : Array Nat) : ∀ (k : Nat) (b : Array Nat), ((List.replicate k a).foldl (· ++ ·) b).toList = b.toList ++ (List.replicate k a.toList).flatten
  | 0, b => by simp
  | k + 1, b => by
    rw [List.replicate_succ, List.foldl_cons, fold_app a k, List.replicate_succ, List.flatten_cons, Array.toList_append, List.append_assoc]
theorem op_mulS {X : Cx} : OpR X (binaryOp .Mult) rMulS := by
  intro pins s σ H x y v u Q I rx ry h
  obtain ⟨z, n, ex, ey, n0, n1, lz, q⟩ := h
  subst ex ey
  obtain ⟨t, et⟩ := (show ∃ t, v = Value.str z t from rx)
  obtain ⟨t', et'⟩ := (show ∃ t, u = Value.int n t from ry)
  subst et et'
  have nat : n = ((n.toNat : Nat) : Int) := by omega
  have small : z.length * n.toNat ≤ 1000 * 1000 := Nat.mul_le_mul lz (by omega)
  refine PySem.P.mul_str ?_ (fun h1 _ => ?_) (fun h1 _ => ?_) ?_
  · have a : ¬ n < -(2 ^ 63 : Int) := by omega
    have b : ¬ n ≥ 2 ^ 63 := by omega
    rw [decide_eq_false a, decide_eq_false b]; rfl
  · have p : (0 : Int) < n := by omega
    have lz' : (z.length : Int) ≤ 1000 := by omega
    have hd : (1000 : Int) ≤ (2 ^ 63 - 1) / n := by
      rw [Int.le_ediv_iff_mul_le p]
      omega
    omega
  · unfold Builtin.Str.tooLong
    refine decide_eq_false ?_
    show ¬ z.length * n.toNat > 2 ^ 24
    omega
  by_cases h1 : n < 1
  · rw [if_pos h1]
    have e : n.toNat = 0 := by omega
    rw [e] at q
    exact ⟨by decide, .str Str.empty, H, I.tok _, ⟨_, rfl⟩, q Str.empty rfl⟩
  · rw [if_neg h1]
    by_cases h2 : (n == 1 || z.length == 0) = true
    · rw [if_pos h2]
      refine ⟨.str z, H, I, ⟨t, rfl⟩, q z ?_⟩
      rw [Bool.or_eq_true, beq_iff_eq, beq_iff_eq] at h2
      rcases h2 with h2 | h2
      · rw [h2]; simp
      · have e : tl z = [] := List.length_eq_zero_iff.mp (by rw [← len_tl]; exact h2)
        rw [e]; simp
    · rw [if_neg h2]
      have e : tl (⟨(List.replicate n.toNat z.cps).foldl (· ++ ·) #[]⟩ : Str) = (List.replicate n.toNat (tl z)).flatten := by
        show ((List.replicate n.toNat z.cps).foldl (· ++ ·) #[]).toList = _
        rw [fold_app]; rfl
      refine ⟨?_, .str _, H, I.tok _, ⟨_, rfl⟩, q _ e⟩
      rw [len_tl, e, List.length_flatten, List.map_replicate, List.sum_replicate_nat, ← len_tl, Nat.mul_comm]
      exact Nat.le_trans small (by decide)
/-! ### texts of signs that part no words -/
def Wd (l : List Nat) : Prop := ∀ c ∈ l, noEnd c = true
def WordOk (z : Str) : Prop := tl z ≠ [] ∧ Wd (tl z) ∧ z.length ≤ 100
theorem Wd.app {a b : List Nat} (x : Wd a) (y : Wd b) : Wd (a ++ b) := fun c hc => (List.mem_append.mp hc).elim (x c) (y c)
theorem Wd.sub {a b : List Nat} (x : Wd a) (h : ∀ c ∈ b, c ∈ a) : Wd b := fun c hc => x c (h c hc)
theorem Wd.of {l : List Nat} (h : l.all noEnd = true) : Wd l := fun c hc => List.all_eq_true.mp h c hc
theorem wd_num {n : Nat} : Wd (numL n) := fun c hc => by
  unfold noEnd
  cases he : isEnd c with
  | false => rfl
  | true =>
    have h := (isEnd_iff c).mp he
    have d := numL_digits n c hc
    omega
theorem tl_join0 (ys : List Str) : tl (Txt.join ("" : Str) ys) = (ys.map tl).flatten := by
  have e0 : tl ("" : Str) = [] := by decide +kernel
  rw [join_eq, tl_join, e0]
  induction ys with
  | nil => rfl
  | cons y r ih =>
    cases r with
    | nil => simp [joinL]
    | cons x r => rw [List.map_cons, List.map_cons, List.flatten_cons, joinL, List.nil_append, ← List.map_cons, ih]
end My
namespace My
open PySem PySem.Spec PyProof.Rows L2 TL
theorem atI_some {α : Type} {xs : List α} {g : Int} (h0 : 0 ≤ g) (h1 : g < (xs.length : Nat)) : ∃ v, atI xs g = some v ∧ v ∈ xs := by
  have e : g = ((g.toNat : Nat) : Int) := by omega
  have lt : g.toNat < xs.length := by omega
  refine ⟨xs[g.toNat], ?_, List.getElem_mem lt⟩
  have q := atI_nat (List.getElem?_eq_getElem lt)
  rw [← e] at q
  exact q
theorem LS.two {H : Hp} {S L p : Addr} (h : LS H S L) (hp : H p = none) : ¬ Two S L p := by
  obtain ⟨h1, h2⟩ := h.some
  intro z
  rcases z with z | z
  · rw [z] at hp; exact h1 hp
  · rw [z] at hp; exact h2 hp
theorem LS.new {H : Hp} {S L p : Addr} {o : HO} (h : LS H S L) (hp : H p = none) : LS (upd H p o) S L := h.sm (Sm.new hp)
theorem ev_take {σ : L2.St} {H : Hp} {S L : Addr} {n : Int} {E : XK} (h : σ[0]? = some (some (.ref S))) (hl : LS H S L) (n0 : 0 < n) (nb : n.natAbs < 2 ^ 8000) {Q : VK}
    (q : ∀ (g : Int) (H' : Hp), 0 ≤ g → g < n → LS H' S L → Sm (Two S L) H H' → Q (.int g) H') : tCall spTake [] E (tCons (tVar 0) (tCons (tC (.int n)) tNil)) σ H Q :=
  ⟨_, h, S, L, n, rfl, hl, n0, nb, q⟩
/-- a drawn one of a written list of texts -/
theorem ev_pick {K : PySem.W.Frag} {σ : L2.St} {H : Hp} {S L : Addr} {n : Int} {E : XK} {ta : TA} {ys : List Str} (h : σ[0]? = some (some (.ref S))) (hl : LS H S L) (n0 : 0 < n) (nb : n.natAbs < 2 ^ 8000) (len : n = (ys.length : Nat)) (lz : ys.length ≤ 1000)
    (ha : ∀ (H : Hp) (Q : List V → Hp → Prop), Q (ys.map V.str) H → ta σ H Q) {Q : VK}
    (q : ∀ (y : Str) (H' : Hp), y ∈ ys → LS H' S L → Sm (Two S L) H H' → Q (.str y) H') : tOp (rIxL K) (tLst ta) (tCall spTake [] E (tCons (tVar 0) (tCons (tC (.int n)) tNil))) σ H Q := by
  refine ha _ _ ⟨by rw [List.length_map]; exact Nat.le_of_lt (small1000 lz), fun p hp => ?_⟩
  refine ev_take h (hl.new hp) n0 nb fun g H' g0 g1 l s => ?_
  obtain ⟨y, e, m⟩ := atI_some (xs := ys.map V.str) g0 (by rw [List.length_map]; omega)
  obtain ⟨u, hu, ey⟩ := List.mem_map.mp m
  subst ey
  exact ⟨p, _, g, _, rfl, rfl, SqL.of (s.lst (hl.two hp) upd_same), e, q u H' hu l ((Sm.new hp).trans s)⟩
theorem nb {n : Int} (h : n.natAbs ≤ 1000000) : n.natAbs < 2 ^ 8000 :=
  Nat.lt_of_lt_of_le (Nat.lt_of_le_of_lt h (show 1000000 < 2 ^ 20 by decide)) (Nat.pow_le_pow_right (by decide) (by decide))
theorem fact_of {ys : List Str} (h : ys.all (fun y => (tl y).all noEnd && decide (y.length ≤ 10)) = true) : ∀ y ∈ ys, Wd (tl y) ∧ y.length ≤ 10 := fun y hy => by
  have q := List.all_eq_true.mp h y hy
  rw [Bool.and_eq_true] at q
  exact ⟨Wd.of q.1, of_decide_eq_true q.2⟩
theorem num_len {n : Nat} (h : n < 10 ^ 5) : (numL n).length ≤ 5 := numL_len (by decide) h
/-- a written number's text -/
theorem num_txt {m : Int} (h0 : 0 ≤ m) (h1 : m < 100000) : ∃ n : Nat, tl (Str.ofString (toString m)) = numL n ∧ (Str.ofString (toString m)).length ≤ 5 := by
  have e : m = ((m.toNat : Nat) : Int) := by omega
  have q : tl (Str.ofString (toString m)) = numL m.toNat := by
    rw [e, Int.toNat_natCast]
    exact tl_num _
  exact ⟨m.toNat, q, by rw [len_tl, q]; exact num_len (by omega)⟩
theorem one_tl (c : Nat) : tl ⟨#[c]⟩ = [c] := rfl
theorem flat_wd {ys : List Str} (h : ∀ y ∈ ys, Wd (tl y)) : Wd ((ys.map tl).flatten) := fun c hc => by
  obtain ⟨l, hl, hcl⟩ := List.mem_flatten.mp hc
  obtain ⟨y, hy, e⟩ := List.mem_map.mp hl
  subst e
  exact h y hy c hcl
theorem flat_len {ys : List Str} (h : ∀ y ∈ ys, y.length = 1) : ((ys.map tl).flatten).length = ys.length ∧ (ys.map (·.length)).sum = ys.length := by
  induction ys with
  | nil => exact ⟨rfl, rfl⟩
  | cons y r ih =>
    obtain ⟨i1, i2⟩ := ih fun x hx => h x (List.mem_cons_of_mem _ hx)
    have e := h y List.mem_cons_self
    refine ⟨?_, ?_⟩
    · rw [List.map_cons, List.flatten_cons, List.length_append, i1, ← len_tl, e, List.length_cons]
      omega
    · rw [List.map_cons, List.sum_cons, i2, e, List.length_cons]
      omega
/-- a row of drawn signs that is being made at D -/
def RowP (S L D : Addr) (H0 : Hp) (i : Nat) (H' : Hp) : Prop :=
  ∃ ys : List Str, H' D = some (.lst (ys.map V.str)) ∧ ys.length = i ∧ (∀ y ∈ ys, Wd (tl y) ∧ y.length = 1) ∧ LS H' S L ∧ Sm (Two S L) H0 H'
theorem RowP.start {S L D : Addr} {H0 : Hp} (h : LS H0 S L) (hD : H0 D = none) : RowP S L D H0 0 (upd H0 D (.lst [])) := ⟨[], upd_same, rfl, by simp, h.new hD, Sm.new hD⟩
theorem row_turn {S L D : Addr} {H0 H : Hp} {σ : L2.St} {i : Nat} {lim : Int} {src : Str} {E : XK} {ts : TE} (hts : ∀ Q : VK, Q (.str src) H → ts σ H Q) (h : σ[0]? = some (some (.ref S))) (n0 : 0 < lim) (len : lim = (src.length : Nat)) (lsrc : src.length ≤ 1000)
    (wd : Wd (tl src)) (l0 : LS H0 S L) (hD0 : H0 D = none) (hi : i ≤ 1000) (p : RowP S L D H0 i H) :
    tOp rIxS ts (tCall spTake [] E (tCons (tVar 0) (tCons (tC (.int lim)) tNil))) σ H (fun y H4 => ∃ acc, H4 D = some (.lst acc) ∧ acc.length < sizeLine ∧ RowP S L D H0 (i + 1) (upd H4 D (.lst (acc ++ [y])))) := by
  obtain ⟨ys, p1, p2, p3, p4, p5⟩ := p
  refine hts _ (ev_take h p4 n0 (nb (by omega)) fun g H' g0 g1 l s => ?_)
  have lt := len_tl src
  obtain ⟨c, e, m⟩ := atI_some (xs := tl src) g0 (by omega)
  have nD := l0.two hD0
  have p1' := s.lst nD p1
  refine ⟨src, g, c, rfl, rfl, Nat.le_of_lt (small1000 lsrc), e, ys.map V.str, p1', by rw [List.length_map, p2]; exact small1000 hi, ys ++ [⟨#[c]⟩], by rw [upd_same, List.map_append]; rfl, by simp [p2], ?_, ?_, ?_⟩
  · intro y hy
    rcases List.mem_append.mp hy with z | z
    · exact p3 y z
    · rw [List.mem_singleton.mp z]
      refine ⟨?_, rfl⟩
      intro x hx
      rw [one_tl, List.mem_singleton] at hx
      rw [hx]
      exact wd c m
  · obtain ⟨cs, d, a1, a2, a3⟩ := l
    refine ⟨cs, d, ?_, ?_, a3⟩
    · rw [upd_ne (fun z => nD (.inl z.symm))]; exact a1
    · rw [upd_ne (fun z => nD (.inr z.symm))]; exact a2
  · exact (p5.trans s).mut hD0 (ntbl_l p1')
/-- the text of such a row -/
theorem RowP.text {S L D : Addr} {H0 H' : Hp} {n : Nat} (p : RowP S L D H0 n H') : ∃ ys : List Str, H' D = some (.lst (ys.map V.str)) ∧ Wd (tl (Txt.join ("" : Str) ys)) ∧ (Txt.join ("" : Str) ys).length = n ∧ (ys.map (·.length)).sum + ys.length * ("" : Str).length = n ∧ LS H' S L ∧ Sm (Two S L) H0 H' := by
  obtain ⟨ys, p1, p2, p3, p4, p5⟩ := p
  have e := tl_join0 ys
  obtain ⟨f1, f2⟩ := flat_len fun y hy => (p3 y hy).2
  refine ⟨ys, p1, ?_, ?_, ?_, p4, p5⟩
  · rw [e]; exact flat_wd fun y hy => (p3 y hy).1
  · rw [len_tl, e, f1, p2]
  · have e0 : ("" : Str).length = 0 := by decide +kernel
    rw [f2, e0, p2]; omega
end My
namespace My
open PySem PySem.Spec PyProof.Rows L2 TL
/-! ### where one token at least is out: str.replace asks for it -/
structure FnT (P : Program) (w : World) (K : PySem.W.Frag) (mg : Str → Option Value) (base : Heap) (CX : CXT) (k : Nat) (f : Addr) (fd : FuncData) (ps : List Str) (sp : Sp) : Prop where
  len : ∀ vs H Q E, sp vs H Q E → vs.length = ps.length
  run : ∀ (A : Around) (outer : List Env) (s : Shared) (H : Hp) (args : Args) (us : List Value) (vs : List V) (Q : VK) (E : XK), 1 ≤ s.toks → Room k A → Env0 P w K mg base A outer s H →
    BindsTo s fd args (ps.zip us) → Vals vs us → sp vs H Q E → codeAny (model P w) A (.call (.ref f) args) (CR CX outer P w H s Q E) s
section
variable {P : Program} {w : World} {K : PySem.W.Frag} {mg : Str → Option Value} {base : Heap}
theorem funT {x : Str} {st : Stmt} {f : Addr} {fd : FuncData} {N ps : List Str} {k : Nat} {sp : Sp} {CX : CXT} (F : Fun K x x st f fd) (S : FnScope N ps (defScope st)) (len : ∀ vs H Q E, sp vs H Q E → vs.length = ps.length)
    (hbody : ∀ (cdv : Value) (A : Around) (outer : List Env) (s : Shared) (H : Hp) (vs : List V) (Q : VK) (E : XK), Room k (A.deeper (envOfC x (defScope st) s.heap.objs.size f cdv)) → sp vs H Q E →
      ∃ t, PSsT (cxOf CX P w K mg base N x (defScope st) f cdv A outer s H E) (defBody st) t ∧ t { nx := fun _ H' => Q .non H', rt := Q } (start N vs) H) :
    FnT P w K mg base CX (k + 1) f fd ps sp := by
  obtain ⟨oc, od, kV, doc, pm, an, cdv, ct, osl, efd, lk, hcd⟩ := F.ex
  subst efd
  refine ⟨len, fun A outer s H args us vs Q E k0 hr e0 hb rv hsp => ?_⟩
  have KX : K.In s.heap := e0.mod.kin.keeps fun b o e => (e0.bs b o e).1
  have nl : s.heap.NoLimit := e0.mod.nolimit.keeps fun b o e => (e0.bs b o e).1
  have hkind : ∀ y ∈ ps.zip us, (defScope st).names.lookup y.1 = some .local ∨ ((defScope st).names.lookup y.1 = some .cell ∧ ((cellsFrom (s.heap.objs.size + 1) (defScope st).names []).lookup y.1).isSome = true) := by
    rintro ⟨n, v⟩ hy
    rcases S.par n (List.of_mem_zip hy).1 with q | q
    · exact .inl q
    · exact .inr ⟨q, PySem.W.cellsFrom_some _ _ _ (.inl q)⟩
  refine codeAny_call_function hr.depth (KX _ _ lk) rfl S.co S.gen rfl (PySem.W.codeRec_of KX hcd) (hb _ _ _ _ ?_)
  refine wpAny_with_toks k0 (wpAny_newFunctionEnv_cells S.kind hkind fun env he s1 x k1 => ?_)
  subst he
  refine ⟨nl.keeps x.toInCall.keep, codeAny_func ?_⟩
  obtain ⟨t, ht, hq⟩ := hbody cdv A outer s H vs Q E (hr.deeper _) hsp
  have I := inv_start (CX := CX) (E := E) (mg := mg) (base := base) S hr.hd e0 (len _ _ _ _ hsp) rv x
  refine wpAny_mono (ht [] s1 (start N vs) H _ k1 I hq) (fun fl s' hs => ?_) fun e s' hs => hs
  cases fl with
  | ret u =>
    obtain ⟨v, σ', H', J, r2, q⟩ := hs
    exact ⟨v, H', J.os, J.bare, J.base, J.hok, r2, q⟩
  | next =>
    obtain ⟨σ', H', J, q⟩ := hs
    exact ⟨V.non, H', J.os, J.bare, J.base, J.hok, rfl, q⟩
  | brk =>
    obtain ⟨_, _, _, q⟩ := hs
    exact False.elim q
  | cont =>
    obtain ⟨_, _, _, q⟩ := hs
    exact False.elim q
end
section
variable {X : Cx}
theorem pet_call {CX : CXT} {k : Nat} {f : Addr} {fd : FuncData} {ps : List Str} {sp : Sp} {E : XK} {x : Str} {p pos : Pos} {e : Expr} {es : List Expr} {t : TA} (F : FnT X.prog X.w X.K X.mg X.base CX k f fd ps sp) (hr : Room k X.A) (hg : Gl X x)
    (hm : X.mg x = some (.ref f)) (hk : PySem.W.keepIn X.K (.ref f) = true) (hb : Binds X.K fd ps []) (hx : Passes CX X E) (ha : PA X (e :: es) t) (hdb : (x == ("__debug__" : Str)) = false := by decide)
    (he : starEach (e :: es) X.env = (false, eval e X.env) :: starEach es X.env := by rfl) (hpl : (backTo pos (starEach es X.env)).any (·.1) = false := by rfl) : PET X (.Call (.Name x p) (e :: es) [] pos) (tCall sp [] E t) := by
  intro pins s σ H Q k0 I h
  refine wpAny_Call_Name_kw (ld_glob I hg hm ?_ hdb)
  refine PySem.W.callWith_K (h₀ := X.base) I.ok.mod.kin hk (wpAny_mono (wpAny_toks_of k0 (ha.run pos pins s σ H _ I h)) (fun us s1 hh => ?_) fun _ _ z => z.2) he hpl
  obtain ⟨k1, vs, H1, J, rv, q⟩ := hh
  have q' : sp vs H1 Q E := by
    have := q
    rw [List.append_nil] at this
    exact this
  have hl : us.length = ps.length := by rw [← rv.length]; exact F.len _ _ _ _ q'
  have bd := hb s1 us J.kIn (by rw [List.append_nil]; exact hl)
  rw [List.append_nil] at bd
  refine ⟨J.kIn, wpAny_call (codeAny_mono (F.run X.A X.stack s1 H1 ⟨us, []⟩ us vs Q E k1 hr J.env0 bd rv q') fun r s' hq => ?_)⟩
  cases r with
  | error er => exact hx pins σ H1 s1 er s' J hq
  | ok fl =>
    cases fl with
    | ret u => exact J.after hq
    | next => exact False.elim hq
    | brk => exact False.elim hq
    | cont => exact False.elim hq
theorem pst_set {i : Nat} {x : Str} {e : Expr} {te : TE} {pos pos' : Pos} (hN : X.N.Nodup) (hi : X.N[i]? = some x) (hx : Loc X.env.scope x) (he : PET X e te) (hs : swapsWith e (some (.Name x pos')) pos.line X.env = pure false := by rfl)
    (hf : X.fn x = true ∨ X.env.scope.names.lookup x = some .local := by first | exact .inl rfl | exact .inr rfl | assumption) : PST X (.Assign [.Name x pos'] e pos) (tAsg te (gName i)) := by
  intro pins s σ H D k0 I h
  refine wpAny_Assign_Name (thn (he pins s σ H _ k0 I h) fun v s1 hh => ?_) hs
  obtain ⟨y, H1, J, r1, q⟩ := hh
  exact store_ok J hN hi hx r1 (fun s2 I2 => ⟨_, H1, I2, q⟩) hf
/-- what is walked, one token out behind it -/
def PIB (X : Cx) (tg iter : Expr) (wi : TI) : Prop := ∀ (pins : List (Addr × Obj)) (s : Shared) (σ : L2.St) (H : Hp) (R : It → Hp → Prop), L2.Inv X pins σ H s → wi σ H R →
  wpAny (model X.prog X.w) X.A (eval iter X.env) (fun v s1 => 1 ≤ s1.toks ∧ wpAny (model X.prog X.w) X.A (pyIter v) (PIE X pins σ tg R) X.xe s1) X.xe s
theorem pib_range {tg : Expr} {c : Int} {j : Nat} {cp p pos : Pos} (hg : Gl X "range") (hm : X.mg "range" = none)
    (hs : starEach [.Constant (.int c) j cp] X.env = [(false, eval (.Constant (.int c) j cp) X.env)] := by rfl) : PIB X tg (.Call (.Name "range" p) [.Constant (.int c) j cp] [] pos) (iRng1 (tCons (tC (.int c)) tNil)) := by
  intro pins s σ H R I h
  obtain ⟨n, e, b1, b2, q⟩ := h
  have en : c = n := by injection e with e1; injection e1
  subst en
  refine Call_ (ld_blt I hg hm boot_range (PyProof.Rows.callWith_type1 ?_ hs rfl))
  rw [hs]
  show wpAny _ _ (spliced ((false, eval (.Constant (.int c) j cp) X.env) :: backTo pos [])) _ _ s
  refine Calls.spliced_cons (wpAny_Constant_int (Calls.spliced_nil ?_))
  refine wpAny_mono (wpAny_toks_of (n := 1) (by show 1 ≤ s.toks + 1; omega) (call_range_1 (range_it (I.tok (s.toks + 1)) (by omega) (by omega) b1 b2 (by simpa using q)))) (fun v s1 z => z) fun _ _ z => z.2
theorem ps_forB {tg iter : Expr} {body : List Stmt} {wi : TI} {g : TG} {tb : TS} {pos : Pos} (hp : PassesOwn (model X.prog X.w) X.A X.env X.xe) (hc : X.calm = true) (hi : PIB X tg iter wi) (hg : PG X tg g) (hb : PSsT X body tb)
    (hs : ∀ x, foldedSetIterable iter X.env x = pure x := by intro _; rfl) : PS X (.For tg iter body [] pos) (tFor wi g tb) := by
  refine ⟨fun pins s σ H D I h => wpAny_For (thn (hi pins s σ H _ I h) fun v s1 h1 => wpAny_mono (wpAny_toks_of h1.1 h1.2) (fun itv s2 hx => ?_) fun _ _ z => z.2) hs⟩
  obtain ⟨k2, it, fp, tn, J, H2, ev, I2, T, st2, f2, W, ⟨m0, w0⟩, turn⟩ := hx
  subst ev
  have still : ∀ {H' : Hp}, (∀ b ∈ fp, H' b = none) → ∀ b ∈ fp, FpOk X pins H' b := fun hn b hb => ⟨hn b hb, (f2 b hb).2⟩
  refine codeAny_forLoop_any (fun n z => 1 ≤ z.toks ∧ ∃ i σ' H', L2.Inv X pins σ' H' z ∧ tn i z.heap ∧ (∀ b ∈ fp, H' b = none) ∧ W i n σ' H') ?_ m0 ⟨k2, 0, σ, H2, I2, st2, fun b hb => (f2 b hb).1, w0⟩
  rintro n s3 ⟨k3, i, σ3, H3, I3, st3, fr3, w3⟩
  rcases turn i n σ3 H3 w3 with ⟨stop, qn⟩ | ⟨go, N, hN, step⟩
  · refine wpAny_passesOwn hp (thn (T.done X rfl rfl rfl hc i pins s3 σ3 H3 X.xe I3 (still fr3) st3 stop) fun r s4 z => ?_)
    obtain ⟨hr, I4⟩ := z
    subst hr
    exact wpAny_execs_nil ⟨σ3, H3, I4, qn⟩
  refine wpAny_passesOwn hp (wpAny_mono (wpAny_toks_of k3 (T.item X rfl rfl rfl hc i pins s3 σ3 H3 X.xe I3 (still fr3) st3 go)) (fun r s4 z => ?_) fun _ _ z => z.2)
  obtain ⟨k4, u, hr, h4⟩ := z
  subst hr
  refine wpAny_passesOwn hp (wpAny_mono (wpAny_toks_of k4 h4) (fun _ s5 z => ?_) fun _ _ z => z.2)
  obtain ⟨k5, x, H5, I5, r5, y5, st5, fr5⟩ := z
  have pinned := I5.pinned (still fr5) (T.obj _ _ st5)
  refine wpAny_passesOwn hp (wpAny_mono (wpAny_toks_of k5 (hg.run _ s5 σ3 H5 x u _ pinned r5 (step x H5 y5))) (fun _ s6 z => ?_) fun _ _ z => z.2)
  obtain ⟨k6, σ6, H6, I6, q6⟩ := z
  refine wpAny_passesOwn hp (wpAny_mono (wpAny_toks_of k6 (hb _ s6 σ6 H6 _ k6 I6 q6)) (fun f s7 z => ?_) fun _ _ z => z.2)
  obtain ⟨k7, q7⟩ := z
  have pin : ∀ b ∈ fp, ∀ o, s5.heap.get? b = some o → (b, o) ∈ X.pn ++ (pins ++ pinsAt fp s5.heap) := fun b hb o e => List.mem_append_right _ (List.mem_append_right _ (mem_pinsAt hb e))
  have again : ∀ (σ7 : L2.St) (H7 : Hp), L2.Inv X (pins ++ pinsAt fp s5.heap) σ7 H7 s7 → N σ7 H7 → ∃ m, m < n ∧ 1 ≤ s7.toks ∧ ∃ i σ' H', L2.Inv X pins σ' H' s7 ∧ tn i s7.heap ∧ (∀ b ∈ fp, H' b = none) ∧ W i m σ' H' := by
    intro σ7 H7 I7 n7
    obtain ⟨m', hm, w7⟩ := hN σ7 H7 n7
    refine ⟨m', hm, k7, i + 1, σ7, H7, I7.unpinned, T.keep _ _ _ st5 fun b hb o e => (I7.pin (b, o) (pin b hb o e)).1, fun b hb => ?_, w7⟩
    obtain ⟨o, e, _⟩ := T.obj _ _ st5 b hb
    exact (I7.pin (b, o) (pin b hb o e)).2.1
  cases f with
  | next =>
    obtain ⟨σ7, H7, I7, n7⟩ := q7
    exact again σ7 H7 I7 n7
  | cont =>
    obtain ⟨σ7, H7, I7, n7⟩ := q7
    exact again σ7 H7 I7 n7
  | brk =>
    obtain ⟨σ7, H7, I7, q8⟩ := q7
    exact ⟨σ7, H7, I7.unpinned, q8⟩
  | ret v =>
    obtain ⟨x7, σ7, H7, I7, r7, q8⟩ := q7
    exact ⟨x7, σ7, H7, I7.unpinned, r7, q8⟩
end
end My
namespace My
open PySem PySem.Spec PyProof.Rows L2 TL PySem.StrLaws
/-! ### str.replace of a pair of signs, on words that are joined by blanks -/
/-- a word: an atom without blanks and brackets, or a bracket -/
def Atom (w : List Nat) : Prop := w ≠ [] ∧ ∀ c ∈ w, c ≠ 32 ∧ c ≠ 40 ∧ c ≠ 41
def WdOk (w : List Nat) : Prop := Atom w ∨ w = [40] ∨ w = [41]
theorem WdOk.ne {w : List Nat} (h : WdOk w) : w ≠ [] := by
  rcases h with h | h | h
  · exact h.1
  · rw [h]; simp
  · rw [h]; simp
theorem WdOk.no32 {w : List Nat} (h : WdOk w) : ∀ c ∈ w, c ≠ 32 := fun c hc => by
  rcases h with h | h | h
  · exact (h.2 c hc).1
  · rw [h, List.mem_singleton] at hc; omega
  · rw [h, List.mem_singleton] at hc; omega
theorem WdOk.no40 {w : List Nat} (h : WdOk w) (n : w ≠ [40]) : ∀ c ∈ w, c ≠ 40 := fun c hc => by
  rcases h with h | h | h
  · exact (h.2 c hc).2.1
  · exact absurd h n
  · rw [h, List.mem_singleton] at hc; omega
theorem WdOk.head41 {w : List Nat} (h : WdOk w) (n : w ≠ [41]) : ∀ c r, w = c :: r → c ≠ 41 := fun c r e => by
  rcases h with h | h | h
  · exact (h.2 c (by rw [e]; exact List.mem_cons_self)).2.2
  · rw [h] at e; cases e; decide
  · exact absurd h n
/-- signs that do not begin the pair are copied -/
theorem copy_free {a b : Nat} {z : List Nat} : ∀ (w l : List Nat), (∀ c ∈ w, c ≠ a) → replL [a, b] z (w ++ l) = w ++ replL [a, b] z l
  | [], l, _ => rfl
  | c :: w, l, h => by
    have n : ¬ (c :: (w ++ l)).take [a, b].length = [a, b] := fun e => by
      have e1 := congrArg (fun x : List Nat => x.head?) e
      simp at e1
      exact h c List.mem_cons_self e1
    rw [List.cons_append, replL_miss n, copy_free w l fun x hx => h x (List.mem_cons_of_mem _ hx)]
    rfl
def J1 : List (List Nat) → List Nat
  | [] => []
  | [w] => w
  | w :: v :: r => w ++ 32 :: J1 (v :: r)
def G1 : List (List Nat) → List Nat
  | [] => []
  | [w] => w
  | w :: v :: r => w ++ ((if w = [40] then [] else [32]) ++ G1 (v :: r))
def G2 : List (List Nat) → List Nat
  | [] => []
  | [w] => w
  | w :: v :: r => w ++ ((if w = [40] ∨ v = [41] then [] else [32]) ++ G2 (v :: r))
theorem pass1 : ∀ ws : List (List Nat), (∀ w ∈ ws, WdOk w) → replL [40, 32] [40] (J1 ws) = G1 ws
  | [], _ => replL_nil
  | [w], h => by
    have hw := h w List.mem_cons_self
    unfold J1 G1
    by_cases e : w = [40]
    · subst e
      rw [replL_miss (by decide), replL_nil]
    · have q := copy_free (a := 40) (b := 32) (z := [40]) w [] (hw.no40 e)
      rw [List.append_nil, replL_nil, List.append_nil] at q
      exact q
  | w :: v :: r, h => by
    have hw := h w List.mem_cons_self
    have ih := pass1 (v :: r) fun x hx => h x (List.mem_cons_of_mem _ hx)
    unfold J1 G1
    by_cases e : w = [40]
    · subst e
      rw [if_pos rfl, List.nil_append]
      show replL [40, 32] [40] (40 :: 32 :: J1 (v :: r)) = [40] ++ G1 (v :: r)
      rw [replL_hit (by decide) rfl]
      show [40] ++ replL [40, 32] [40] (J1 (v :: r)) = _
      rw [ih]
    · rw [copy_free w _ (hw.no40 e), if_neg e, replL_miss (fun z => by simp at z), ih]
      rfl
theorem G1_cons (w : List Nat) (r : List (List Nat)) : ∃ t, G1 (w :: r) = w ++ t := by
  cases r with
  | nil => exact ⟨[], by unfold G1; rw [List.append_nil]⟩
  | cons v r => exact ⟨_, by conv => lhs; unfold G1⟩
theorem pass2 : ∀ ws : List (List Nat), (∀ w ∈ ws, WdOk w) → replL [32, 41] [41] (G1 ws) = G2 ws
  | [], _ => replL_nil
  | [w], h => by
    have hw := h w List.mem_cons_self
    unfold G1 G2
    have q := copy_free (a := 32) (b := 41) (z := [41]) w [] hw.no32
    rw [List.append_nil, replL_nil, List.append_nil] at q
    exact q
  | w :: v :: r, h => by
    have hw := h w List.mem_cons_self
    have hv := h v (List.mem_cons_of_mem _ List.mem_cons_self)
    have ih := pass2 (v :: r) fun x hx => h x (List.mem_cons_of_mem _ hx)
    obtain ⟨t, et⟩ := G1_cons v r
    have l1 : G1 (w :: v :: r) = w ++ ((if w = [40] then [] else [32]) ++ G1 (v :: r)) := by conv => lhs; unfold G1
    have l2 : G2 (w :: v :: r) = w ++ ((if w = [40] ∨ v = [41] then [] else [32]) ++ G2 (v :: r)) := by conv => lhs; unfold G2
    rw [l1, l2, copy_free w _ hw.no32]
    by_cases e : w = [40]
    · rw [if_pos e, if_pos (.inl e), List.nil_append, List.nil_append, ih]
    rw [if_neg e]
    by_cases e2 : v = [41]
    · rw [if_pos (.inr e2), List.nil_append]
      congr 1
      have eg : G1 (v :: r) = 41 :: t := by rw [et, e2]; rfl
      rw [eg] at ih ⊢
      show replL [32, 41] [41] (32 :: 41 :: t) = _
      rw [replL_hit (by decide) rfl, ← ih]
      show [41] ++ replL [32, 41] [41] t = _
      rw [replL_miss (fun z => by simp at z)]
      rfl
    · rw [if_neg (fun z => z.elim e e2)]
      congr 1
      show replL [32, 41] [41] (32 :: G1 (v :: r)) = 32 :: G2 (v :: r)
      rw [replL_miss, ih]
      intro z
      rw [et] at z
      cases v with
      | nil => exact hv.ne rfl
      | cons c s =>
        simp at z
        exact hv.head41 e2 c s rfl z
/-! ### the words of a datum, and its text -/
mutual
def wds : Dat → List (List Nat)
  | .int i => [tl (Str.ofString (toString i))]
  | .sym s => [tl s]
  | .lst ds => [40] :: (wdsL ds ++ [[41]])
def wdsL : List Dat → List (List Nat)
  | [] => []
  | d :: r => wds d ++ wdsL r
end
mutual
def wr : Dat → List Nat
  | .int i => tl (Str.ofString (toString i))
  | .sym s => tl s
  | .lst ds => 40 :: (wrL ds ++ [41])
def wrL : List Dat → List Nat
  | [] => []
  | [d] => wr d
  | d :: e :: r => wr d ++ 32 :: wrL (e :: r)
end
/-- an atom's text is a word -/
def AtomD : Dat → Prop
  | .int i => Atom (tl (Str.ofString (toString i)))
  | .sym s => Atom (tl s)
  | .lst ds => ∀ d ∈ ds, AtomD d
theorem G2_app : ∀ (xs ys : List (List Nat)) (y : List Nat) (x : List Nat), xs.getLast? = some x → ys.head? = some y → x ≠ [40] → y ≠ [41] → G2 (xs ++ ys) = G2 xs ++ 32 :: G2 ys
  | [], _, _, _, h, _, _, _ => by cases h
  | [a], [], _, _, _, h, _, _ => by cases h
  | [a], b :: ys, y, x, h1, h2, n1, n2 => by
    have ea : a = x := by simpa using h1
    have eb : b = y := by simpa using h2
    subst ea eb
    show G2 (a :: b :: ys) = a ++ 32 :: G2 (b :: ys)
    conv => lhs; unfold G2
    rw [if_neg (fun z => z.elim n1 n2)]
    rfl
  | a :: b :: xs, ys, y, x, h1, h2, n1, n2 => by
    have ih := G2_app (b :: xs) ys y x (by simpa using h1) h2 n1 n2
    have l1 : G2 (a :: b :: xs) = a ++ ((if a = [40] ∨ b = [41] then [] else [32]) ++ G2 (b :: xs)) := by conv => lhs; unfold G2
    have l2 : G2 (a :: b :: (xs ++ ys)) = a ++ ((if a = [40] ∨ b = [41] then [] else [32]) ++ G2 (b :: (xs ++ ys))) := by conv => lhs; unfold G2
    show G2 (a :: b :: (xs ++ ys)) = _
    rw [l2, l1, show b :: (xs ++ ys) = (b :: xs) ++ ys from rfl, ih]
    simp only [List.append_assoc]
theorem G2_open (ys : List (List Nat)) (y : List Nat) (h : ys.head? = some y) : G2 ([40] :: ys) = 40 :: G2 ys := by
  cases ys with
  | nil => cases h
  | cons b r =>
    conv => lhs; unfold G2
    rw [if_pos (.inl rfl)]
    rfl
theorem G2_close : ∀ (xs : List (List Nat)), xs ≠ [] → G2 (xs ++ [[41]]) = G2 xs ++ [41]
  | [], h => absurd rfl h
  | [a], _ => by
    show G2 [a, [41]] = a ++ [41]
    conv => lhs; unfold G2
    rw [if_pos (.inr rfl)]
    rfl
  | a :: b :: xs, _ => by
    have ih := G2_close (b :: xs) (by simp)
    have l1 : G2 (a :: b :: xs) = a ++ ((if a = [40] ∨ b = [41] then [] else [32]) ++ G2 (b :: xs)) := by conv => lhs; unfold G2
    have l2 : G2 (a :: b :: (xs ++ [[41]])) = a ++ ((if a = [40] ∨ b = [41] then [] else [32]) ++ G2 (b :: (xs ++ [[41]]))) := by conv => lhs; unfold G2
    show G2 (a :: b :: (xs ++ [[41]])) = _
    rw [l2, l1, show b :: (xs ++ [[41]]) = (b :: xs) ++ [[41]] from rfl, ih]
    simp only [List.append_assoc]
end My
namespace My
open PySem PySem.Spec PyProof.Rows L2 TL PySem.StrLaws
structure WdsOk (ws : List (List Nat)) (t : List Nat) : Prop where
  all : ∀ w ∈ ws, WdOk w
  first : ∃ x, ws.head? = some x ∧ x ≠ [41]
  last : ∃ x, ws.getLast? = some x ∧ x ≠ [40]
  text : G2 ws = t
theorem WdsOk.ne {ws : List (List Nat)} {t : List Nat} (h : WdsOk ws t) : ws ≠ [] := by
  obtain ⟨x, e, _⟩ := h.first
  intro z
  rw [z] at e; cases e
theorem WdsOk.one {w : List Nat} (h : Atom w) : WdsOk [w] w := by
  have n : ∀ b, b = 40 ∨ b = 41 → w ≠ [b] := fun b hb e => by
    have := h.2 b (by rw [e]; exact List.mem_cons_self)
    omega
  exact ⟨fun v hv => by rw [List.mem_singleton.mp hv]; exact .inl h, ⟨w, rfl, n 41 (.inr rfl)⟩, ⟨w, rfl, n 40 (.inl rfl)⟩, rfl⟩
theorem WdsOk.app {xs ys : List (List Nat)} {s t : List Nat} (h : WdsOk xs s) (g : WdsOk ys t) : WdsOk (xs ++ ys) (s ++ 32 :: t) := by
  obtain ⟨x, hx, nx⟩ := h.last
  obtain ⟨y, hy, ny⟩ := g.first
  refine ⟨fun w hw => (List.mem_append.mp hw).elim (h.all w) (g.all w), ?_, ?_, ?_⟩
  · obtain ⟨f, hf, nf⟩ := h.first
    refine ⟨f, ?_, nf⟩
    rw [List.head?_append, hf]; rfl
  · obtain ⟨f, hf, nf⟩ := g.last
    refine ⟨f, ?_, nf⟩
    rw [List.getLast?_append, hf]; rfl
  · rw [G2_app xs ys y x hx hy nx ny, h.text, g.text]
theorem WdsOk.list {ws : List (List Nat)} {t : List Nat} (h : WdsOk ws t) : WdsOk ([40] :: (ws ++ [[41]])) (40 :: (t ++ [41])) := by
  obtain ⟨y, hy, ny⟩ := h.first
  refine ⟨fun w hw => ?_, ⟨[40], rfl, by decide⟩, ⟨[41], ?_, by decide⟩, ?_⟩
  · rcases List.mem_cons.mp hw with e | e
    · exact .inr (.inl e)
    · rcases List.mem_append.mp e with e | e
      · exact h.all w e
      · exact .inr (.inr (List.mem_singleton.mp e))
  · rw [← List.cons_append, List.getLast?_append]; rfl
  · rw [G2_open (ws ++ [[41]]) y (by rw [List.head?_append, hy]; rfl), G2_close ws h.ne, h.text]
theorem WdsOk.nil : WdsOk ([40] :: ([] ++ [[41]])) (40 :: ([] ++ [41])) :=
  ⟨fun w hw => by
    rcases List.mem_cons.mp hw with e | e
    · exact .inr (.inl e)
    · exact .inr (.inr (List.mem_singleton.mp e)), ⟨[40], rfl, by decide⟩, ⟨[41], rfl, by decide⟩, rfl⟩
mutual
theorem wds_ok : ∀ d : Dat, AtomD d → WdsOk (wds d) (wr d)
  | .int i, h => by
    unfold AtomD at h
    unfold wds wr
    exact .one h
  | .sym s, h => by
    unfold AtomD at h
    unfold wds wr
    exact .one h
  | .lst ds, h => by
    unfold AtomD at h
    unfold wds wr
    rcases wdsL_ok ds h with e | q
    · subst e
      unfold wdsL wrL
      exact .nil
    · exact q.list
theorem wdsL_ok : ∀ (ds : List Dat), (∀ x ∈ ds, AtomD x) → ds = [] ∨ WdsOk (wdsL ds) (wrL ds)
  | [], _ => .inl rfl
  | d :: r, h => by
    have q := wds_ok d (h d List.mem_cons_self)
    have l1 : wdsL (d :: r) = wds d ++ wdsL r := by conv => lhs; unfold wdsL
    rcases wdsL_ok r fun x hx => h x (List.mem_cons_of_mem _ hx) with e | p
    · subst e
      right
      rw [l1]
      unfold wdsL wrL
      rw [List.append_nil]
      exact q
    · right
      rw [l1]
      cases r with
      | nil => exact absurd rfl p.ne
      | cons e s =>
        have l2 : wrL (d :: e :: s) = wr d ++ 32 :: wrL (e :: s) := by conv => lhs; unfold wrL
        rw [l2]
        exact q.app p
end
theorem J1_join (ys : List Str) : tl (Txt.join (" " : Str) ys) = J1 (ys.map tl) := by
  have e : tl (" " : Str) = [32] := by decide +kernel
  rw [join_eq, tl_join, e]
  induction ys with
  | nil => rfl
  | cons y r ih =>
    cases r with
    | nil => rfl
    | cons x r =>
      rw [List.map_cons, List.map_cons]
      conv => rhs; unfold J1
      rw [← List.map_cons, ← ih]
      simp [joinL]
/-- what format_datum makes of the words of a datum is its text -/
theorem format_text {d : Dat} (h : AtomD d) {ys : List Str} (e : ys.map tl = wds d) : tl (Txt.replace (Txt.replace (Txt.join (" " : Str) ys) ("( " : Str) ("(" : Str)) (" )" : Str) (")" : Str)) = wr d := by
  have w := wds_ok d h
  have e1 : ("( " : Str).cps.toList = [40, 32] := by decide +kernel
  have e2 : ("(" : Str).cps.toList = [40] := by decide +kernel
  have e3 : (" )" : Str).cps.toList = [32, 41] := by decide +kernel
  have e4 : (")" : Str).cps.toList = [41] := by decide +kernel
  have a1 : (Txt.replace (Txt.join (" " : Str) ys) ("( " : Str) ("(" : Str)).cps.toList = G1 (wds d) := by
    rw [replace_list (by decide +kernel), e1, e2]
    show replL [40, 32] [40] (tl (Txt.join (" " : Str) ys)) = _
    rw [J1_join, e]
    exact pass1 _ w.all
  show (Txt.replace _ (" )" : Str) (")" : Str)).cps.toList = wr d
  rw [replace_list (by decide +kernel), e3, e4, a1, pass2 _ w.all]
  exact w.text
end My
namespace My
open PySem PySem.Spec PyProof.Rows L2 TL PySem.StrLaws
section
variable {X : Cx}
def rStrE : List V → Hp → VK → Prop := fun xs H Q => (∃ a, xs = [.str a] ∧ Q (.str a) H) ∨ ∃ i : Int, xs = [.int i] ∧ i.natAbs.log2 < 1920 ∧ Q (.str (toString i)) H
theorem call_strE : CallR X (.type "str") rStrE := fun pins s σ H xs us Q I r h => h.elim (fun h => SkE.call_str_str pins s σ H xs us Q I r h) fun h => call_str_int pins s σ H xs us Q I r h
end
/-- a datum whose texts are short words -/
def FmtD : Dat → Prop
  | .int i => Atom (tl (Str.ofString (toString i))) ∧ i.natAbs.log2 < 1920
  | .sym s => Atom (tl s)
  | .lst ds => ∀ d ∈ ds, FmtD d
theorem fmt_atom : ∀ d : Dat, FmtD d → AtomD d
  | .int i, h => by
    unfold FmtD at h
    unfold AtomD
    exact h.1
  | .sym s, h => by
    unfold FmtD at h
    unfold AtomD
    exact h
  | .lst ds, h => by
    unfold FmtD at h
    unfold AtomD
    exact fun d hd => fmt_atom d (h d hd)
def Small (d : Dat) : Prop := (wds d).length ≤ 10000 ∧ ∀ w ∈ wds d, w.length ≤ 50
/-- what stands on the pile: data, or a closing bracket -/
def iw : Option Dat → List (List Nat)
  | some d => wds d
  | none => [[41]]
def ItR (H : Hp) (v : V) : Option Dat → Prop
  | some d => Rep All H v d ∧ FmtD d
  | none => v = .str ")"
theorem wds_pos : ∀ d : Dat, 1 ≤ (wds d).length
  | .int i => by unfold wds; exact Nat.le_refl _
  | .sym s => by unfold wds; exact Nat.le_refl _
  | .lst ds => by unfold wds; rw [List.length_cons]; omega
theorem iw_len (its : List (Option Dat)) : its.length ≤ ((its.map iw).flatten).length := by
  induction its with
  | nil => exact Nat.le_refl _
  | cons o r ih =>
    rw [List.map_cons, List.flatten_cons, List.length_append, List.length_cons]
    have : 1 ≤ (iw o).length := by
      cases o with
      | none => exact Nat.le_refl _
      | some d => exact wds_pos d
    omega
theorem wdsL_flat : ∀ ds : List Dat, wdsL ds = ((ds.map some).map iw).flatten
  | [] => by unfold wdsL; rfl
  | d :: r => by
    unfold wdsL
    rw [wdsL_flat r]; rfl
/-- the pile, its top first -/
inductive Pile (H : Hp) : List V → List (Option Dat) → Prop
  | nil : Pile H [] []
  | cons {v : V} {o : Option Dat} {vs : List V} {its : List (Option Dat)} (h : ItR H v o) (r : Pile H vs its) : Pile H (v :: vs) (o :: its)
theorem Pile.app {H : Hp} : ∀ {xs : List V} {is : List (Option Dat)} {ys : List V} {js : List (Option Dat)}, Pile H xs is → Pile H ys js → Pile H (xs ++ ys) (is ++ js)
  | _, _, _, _, .nil, g => g
  | _, _, _, _, .cons h r, g => .cons h (Pile.app r g)
theorem Pile.of {H : Hp} : ∀ {vs : List V} {ds : List Dat}, RepL All H vs ds → (∀ d ∈ ds, FmtD d) → Pile H vs (ds.map some)
  | _, _, .nil, _ => .nil
  | _, _, .cons h r, f => .cons ⟨h, f _ List.mem_cons_self⟩ (Pile.of r fun d hd => f d (List.mem_cons_of_mem _ hd))
theorem Pile.len {H : Hp} : ∀ {vs : List V} {is : List (Option Dat)}, Pile H vs is → vs.length = is.length
  | _, _, .nil => rfl
  | _, _, .cons _ r => congrArg (· + 1) (Pile.len r)
def spFmt : Sp := fun vs H Q _ => ∃ (v : V) (d : Dat), vs = [v] ∧ Rep All H v d ∧ FmtD d ∧ Small d ∧ ∀ z H', Sm No H H' → tl z = wr d → Q (.str z) H'
abbrev sFmt : Stmt := top 22
abbrev NF : List Str := ["datum", "words", "rest", "part"]
theorem J1_len : ∀ ws : List (List Nat), (∀ w ∈ ws, w.length ≤ 50) → (J1 ws).length ≤ 51 * ws.length
  | [], _ => by unfold J1; exact Nat.le_refl _
  | [w], h => by
    unfold J1
    have := h w List.mem_cons_self
    rw [List.length_singleton]
    omega
  | w :: v :: r, h => by
    have i1 := J1_len (v :: r) fun x hx => h x (List.mem_cons_of_mem _ hx)
    have i2 := h w List.mem_cons_self
    have l1 : J1 (w :: v :: r) = w ++ 32 :: J1 (v :: r) := by conv => lhs; unfold J1
    rw [l1, List.length_append, List.length_cons, List.length_cons (a := w)]
    omega
theorem sum_len (ys : List Str) (h : ∀ y ∈ ys, y.length ≤ 50) : (ys.map (·.length)).sum ≤ 50 * ys.length := by
  induction ys with
  | nil => exact Nat.le_refl _
  | cons y r ih =>
    have i1 := ih fun x hx => h x (List.mem_cons_of_mem _ hx)
    have i2 := h y List.mem_cons_self
    rw [List.map_cons, List.sum_cons, List.length_cons]
    omega
section
variable {P : Program} {w : World} {K : PySem.W.Frag} {mg : Str → Option Value} {base : Heap}
theorem scFmt : FnScope NF ["datum"] (defScope sFmt) := ⟨rfl, rfl, rfl, by decide +kernel, rfl, by decide +kernel, by decide +kernel⟩
theorem ok_fmt {f : Addr} {fd : FuncData} (F : Fun K "format_datum" "format_datum" sFmt f fd) (B : Blt mg) : FnT P w K mg base CX0 1 f fd ["datum"] spFmt := by
  refine funT F scFmt (fun vs H Q E h => ?_) (fun cdv A outer s H vs Q E hr h => ?_)
  · obtain ⟨v, d, rfl, _⟩ := h
    rfl
  obtain ⟨v0, d0, rfl, rp, fm, sm0, q⟩ := h
  have nd := scFmt.nd
  refine ⟨_, psst_cons (PST.of (ps_set (i := 1) nd rfl (Or.inl rfl) (pe_lst pa_nil)))
    (psst_cons (PST.of (ps_set (i := 2) nd rfl (Or.inl rfl) (pe_lst (pa_cons (pv 0) pa_nil))))
    (psst_cons (PST.of (ps_while (passes_of rfl) (pt_truth (pv 2) (by intro _; rfl))
      (pss_cons (ps_set (i := 3) nd rfl (Or.inl rfl) (pe_bm0 PySem.F.plainAttrs_list PySem.F.slot_list_pop PySem.F.type_list_pop mt_pop (pv 2)))
      (pss_one (ps_if (pt_val (pe_callB call_isi (by rfl) B.isinstance (by decide +kernel) (pa_cons (pv 3) (pa_cons (pe_bltn (v := .ty "list") (by rfl) B.list (by decide +kernel) rfl) pa_nil))))
        (pss_cons (ps_expr (pe_bm PySem.F.plainAttrs_list PySem.F.slot_list_append PySem.F.type_list_append mt_append (pv 1) (pa_cons pe_str pa_nil)))
        (pss_cons (ps_expr (pe_bm PySem.F.plainAttrs_list PySem.F.slot_list_append PySem.F.type_list_append mt_append (pv 2) (pa_cons pe_str pa_nil)))
        (pss_one (ps_expr (pe_bm PySem.F.plainAttrs_list PySem.F.slot_list_extend PySem.F.type_list_extend mt_extend (pv 2) (pa_cons (pe_revL (pv 3)) pa_nil))))))
        (pss_one (ps_expr (pe_bm PySem.F.plainAttrs_list PySem.F.slot_list_append PySem.F.type_list_append mt_append (pv 1) (pa_cons (pe_callTy call_strE (by rfl) B.str (by decide +kernel) (pa_cons (pv 3) pa_nil)) pa_nil)))))))))
    (CwR.psst_one (CwR.pst_ret (CwR.pet_replT (CwR.pet_replC (pe_bm PySem.F.plainAttrs_str PySem.F.slot_str_join PySem.F.type_str_join mt_join pe_str (pa_cons (pv 1) pa_nil)) (by decide +kernel)) (by decide +kernel)))))), ?_⟩
  refine ⟨by show 0 ≤ sizeLine; decide, fun W hW => ?_⟩
  have hW1 : upd H W (.lst []) W = some (.lst []) := upd_same
  refine ⟨_, rfl, by show 1 ≤ sizeLine; decide, fun R hR => ?_⟩
  have nWR : W ≠ R := fun e => by rw [← e, hW1] at hR; cases hR
  have hR0 : H R = none := upd_dom R hR
  have s0 : Sm No H (upd (upd H W (.lst [])) R (.lst [v0])) := (Sm.new hW).trans (Sm.new hR)
  obtain ⟨few, short⟩ := sm0
  dsimp only [gName, tSeq]
  refine while_by (fun σ H' => ∃ (vs : List V) (ys : List Str) (its : List (Option Dat)) (v3 : Option V), σ = [some v0, some (.ref W), some (.ref R), v3] ∧ H' W = some (.lst (ys.map V.str)) ∧ H' R = some (.lst vs) ∧ Sm No H H' ∧ Pile H vs.reverse its ∧ ys.map tl ++ (its.map iw).flatten = wds d0)
    (fun _ H' => match H' W with | some (.lst ws) => 10001 - ws.length | _ => 0) ⟨[v0], [], [some d0], none, rfl, by rw [upd_ne nWR]; exact hW1, upd_same, s0, .cons ⟨rp, fm⟩ .nil, by simp [iw]⟩ ?_ ?_
  · rintro σ H' ⟨vs, ys, its, v3, rfl, hw, hr', sm, pile, eq⟩
    have lall := congrArg List.length eq
    rw [List.length_append, List.length_map] at lall
    have lits := iw_len its
    have lvs : vs.length = its.length := by rw [← pile.len, List.length_reverse]
    have mu : (match H' W with | some (.lst ws) => 10001 - ws.length | _ => 0) = 10001 - ys.length := by rw [hw]; simp
    rw [mu]
    refine ⟨_, rfl, !vs.isEmpty, .inl ⟨vs, SqL.of hr', rfl⟩, ?_⟩
    generalize hrv : vs.reverse = rv at pile
    cases pile with
    | nil =>
      have ev : vs = [] := List.reverse_eq_nil_iff.mp hrv
      subst ev
      have e2 : ys.map tl = wds d0 := by
        have := eq
        simpa using this
      have sh : ∀ y ∈ ys, y.length ≤ 50 := fun y hy => by
        rw [len_tl]
        exact short _ (by rw [← e2]; exact List.mem_map_of_mem hy)
      have ly : ys.length ≤ 10000 := by have := congrArg List.length e2; rw [List.length_map] at this; omega
      have l1 : (" " : Str).length = 1 := by decide +kernel
      have lc : (")" : Str).length = 1 := by decide +kernel
      have lo : ("(" : Str).length = 1 := by decide +kernel
      have sl := sum_len ys sh
      have lj : (Txt.join (" " : Str) ys).length ≤ 510000 := by
        have j := J1_len (ys.map tl) (fun w hw => by rw [e2] at hw; exact short w hw)
        rw [len_tl, J1_join]
        rw [List.length_map] at j
        omega
      have lr := TK.replace_len (Txt.join (" " : Str) ys) ("( " : Str) ("(" : Str)
      rw [lo] at lr
      refine ⟨rfl, _, rfl, _, W, ys, rfl, rfl, .inl (SqL.of hw), by rw [l1]; omega, _, rfl, by rw [lo]; omega, _, rfl, by rw [lc]; omega, ?_⟩
      exact q _ H' sm (format_text (fmt_atom d0 fm) e2)
    | @cons v o r its' hv pl =>
      have ev : vs = r.reverse ++ [v] := by rw [← List.reverse_reverse vs, hrv, List.reverse_cons]
      subst ev
      have ne : (!(r.reverse ++ [v]).isEmpty) = true := by simp
      rw [ne]
      have lw : 1 ≤ (iw o).length := by
        cases o with
        | none => exact Nat.le_refl _
        | some d => exact wds_pos d
      rw [List.map_cons, List.flatten_cons] at eq
      have lall2 := congrArg List.length eq
      rw [List.length_append, List.length_append, List.length_map] at lall2
      have li2 := iw_len its'
      have lr : r.length = its'.length := pl.len
      refine ⟨_, rfl, .inl ⟨rfl, _, SqL.of hr'⟩, R, _, v, rfl, rfl, hr', by simp, ?_⟩
      have dl : (r.reverse ++ [v]).dropLast = r.reverse := List.dropLast_concat
      rw [dl]
      have hw3 : upd H' R (.lst r.reverse) W = some (.lst (ys.map V.str)) := by rw [upd_ne nWR]; exact hw
      have hr3 : upd H' R (.lst r.reverse) R = some (.lst r.reverse) := upd_same
      have sm3 : Sm No H (upd H' R (.lst r.reverse)) := sm.mut hR0 (ntbl_l hr')
      generalize upd H' R (.lst r.reverse) = H3 at hw3 hr3 sm3
      have pile3 : Pile H (r.reverse).reverse its' := by rw [List.reverse_reverse]; exact pl
      -- an atom's text is put behind the words
      have atom : ∀ z : Str, iw o = [tl z] → ∃ vs0, H3 W = some (.lst vs0) ∧ vs0.length < sizeLine ∧ (∃ (vs : List V) (ys : List Str) (its : List (Option Dat)) (v3 : Option V), [some v0, some (.ref W), some (.ref R), some v] = [some v0, some (.ref W), some (.ref R), v3] ∧ upd H3 W (.lst (vs0 ++ [.str z])) W = some (.lst (ys.map V.str)) ∧
          upd H3 W (.lst (vs0 ++ [.str z])) R = some (.lst vs) ∧ Sm No H (upd H3 W (.lst (vs0 ++ [.str z]))) ∧ Pile H vs.reverse its ∧ ys.map tl ++ (its.map iw).flatten = wds d0) ∧
          (match upd H3 W (.lst (vs0 ++ [.str z])) W with | some (.lst ws) => 10001 - ws.length | _ => 0) < 10001 - ys.length := by
        intro z ez
        refine ⟨_, hw3, by rw [List.length_map]; exact Nat.lt_of_le_of_lt (show ys.length ≤ 10000 by omega) (by decide), ⟨r.reverse, ys ++ [z], its', _, rfl, by rw [upd_same, List.map_append]; rfl, by rw [upd_ne nWR.symm]; exact hr3, sm3.mut hW (ntbl_l hw3), pile3, ?_⟩, ?_⟩
        · rw [← eq, ez, List.map_append, List.append_assoc]; rfl
        · rw [upd_same]
          show 10001 - (ys.map V.str ++ [V.str z]).length < 10001 - ys.length
          rw [List.length_append, List.length_map, List.length_singleton]
          omega
      cases o with
      | none =>
        have ez : v = .str ")" := hv
        subst ez
        refine ⟨_, rfl, _, _, .type "str", .type "list", false, rfl, .ty "list", .base (.str _), kit_ty (by decide +kernel), _, rfl, ?_⟩
        obtain ⟨vs0, a1, a2, a3⟩ := atom ")" (by show [[41]] = _; decide +kernel)
        exact ⟨_, rfl, .inl ⟨rfl, _, SqL.of a1⟩, _, rfl, .inl ⟨_, rfl, W, vs0, _, rfl, rfl, a1, a2, a3⟩⟩
      | some d =>
        obtain ⟨rv', fd'⟩ := hv
        cases rv' with
        | int i =>
          unfold FmtD at fd'
          refine ⟨_, rfl, _, _, .type "int", .type "list", false, rfl, .ty "list", .base (.int _), kit_ty (by decide +kernel), _, rfl, ?_⟩
          obtain ⟨vs0, a1, a2, a3⟩ := atom (Str.ofString (toString i)) (by show wds (.int i) = _; unfold wds; rfl)
          exact ⟨_, rfl, .inl ⟨rfl, _, SqL.of a1⟩, _, rfl, .inr ⟨i, rfl, fd'.2, W, vs0, _, rfl, rfl, a1, a2, a3⟩⟩
        | sym z =>
          refine ⟨_, rfl, _, _, .type "str", .type "list", false, rfl, .ty "list", .base (.str _), kit_ty (by decide +kernel), _, rfl, ?_⟩
          obtain ⟨vs0, a1, a2, a3⟩ := atom z (by show wds (.sym z) = _; unfold wds; rfl)
          exact ⟨_, rfl, .inl ⟨rfl, _, SqL.of a1⟩, _, rfl, .inl ⟨_, rfl, W, vs0, _, rfl, rfl, a1, a2, a3⟩⟩
        | @lst a us ds _ ha rl =>
          unfold FmtD at fd'
          have ha3 := sm3.lst0 ha
          have naW : a ≠ W := fun e => by rw [e, hW] at ha; cases ha
          have naR : a ≠ R := fun e => by rw [e, hR0] at ha; cases ha
          refine ⟨_, rfl, _, _, .type "list", .type "list", true, rfl, .ty "list", .base (.lst ha3), kit_ty (by decide +kernel), _, rfl, ?_⟩
          have hr4 : upd H3 W (.lst (ys.map V.str ++ [.str "("])) R = some (.lst r.reverse) := by rw [upd_ne nWR.symm]; exact hr3
          have lus : us.length = ds.length := rl.len
          have lds : (wdsL ds).length + 2 = (iw (some (.lst ds))).length := by
            show _ = (wds (.lst ds)).length
            unfold wds
            rw [List.length_cons, List.length_append, List.length_singleton]
          have lfl : ds.length ≤ (wdsL ds).length := by
            have := iw_len (ds.map some)
            rw [← wdsL_flat, List.length_map] at this
            exact this
          refine ⟨_, rfl, .inl ⟨rfl, _, SqL.of hw3⟩, W, _, _, rfl, rfl, hw3, by rw [List.length_map]; exact Nat.lt_of_le_of_lt (show ys.length ≤ 10000 by omega) (by decide), ?_⟩
          refine ⟨_, rfl, .inl ⟨rfl, _, SqL.of hr4⟩, R, _, _, rfl, rfl, hr4, by rw [List.length_reverse]; exact Nat.lt_of_le_of_lt (show r.length ≤ 10000 by omega) (by decide), ?_⟩
          have hr5 : upd (upd H3 W (.lst (ys.map V.str ++ [.str "("]))) R (.lst (r.reverse ++ [.str ")"])) R = some (.lst (r.reverse ++ [.str ")"])) := upd_same
          have ha5 : upd (upd H3 W (.lst (ys.map V.str ++ [.str "("]))) R (.lst (r.reverse ++ [.str ")"])) a = some (.lst us) := by rw [upd_ne naR, upd_ne naW]; exact ha3
          have hw5 : upd (upd H3 W (.lst (ys.map V.str ++ [.str "("]))) R (.lst (r.reverse ++ [.str ")"])) W = some (.lst ((ys ++ [("(" : Str)]).map V.str)) := by rw [upd_ne nWR, upd_same, List.map_append]; rfl
          have sm5 : Sm No H (upd (upd H3 W (.lst (ys.map V.str ++ [.str "("]))) R (.lst (r.reverse ++ [.str ")"]))) := (sm3.mut hW (ntbl_l hw3)).mut hR0 (ntbl_l hr4)
          generalize upd (upd H3 W (.lst (ys.map V.str ++ [.str "("]))) R (.lst (r.reverse ++ [.str ")"])) = H5 at hr5 ha5 hw5 sm5
          refine ⟨_, rfl, .inl ⟨rfl, _, SqL.of hr5⟩, _, rfl, a, us, rfl, SqL.of ha5, fun p hp => ?_⟩
          have npR : R ≠ p := fun e => by rw [e, hp] at hr5; cases hr5
          have npW : W ≠ p := fun e => by rw [e, hp] at hw5; cases hw5
          have hr6 : upd H5 p (.lst us.reverse) R = some (.lst (r.reverse ++ [.str ")"])) := by rw [upd_ne npR]; exact hr5
          refine ⟨R, p, _, _, rfl, rfl, hr6, upd_same, ?_, ?_, ?_⟩
          · rw [List.length_append, List.length_reverse, List.length_reverse, List.length_singleton]
            exact Nat.le_trans (show r.length + 1 + us.length ≤ 20000 by omega) (by decide)
          · refine ⟨r.reverse ++ [.str ")"] ++ us.reverse, ys ++ [("(" : Str)], ds.map some ++ (none :: its'), _, rfl, by rw [upd_ne nWR, upd_ne npW]; exact hw5, upd_same, (sm5.trans (Sm.new hp)).mut hR0 (ntbl_l hr6), ?_, ?_⟩
            · rw [List.reverse_append, List.reverse_reverse, List.reverse_append, List.reverse_reverse]
              exact Pile.app (.of rl fd') (.cons rfl pl)
            · rw [← eq, List.map_append, List.map_append, List.flatten_append, ← wdsL_flat]
              have e1 : iw (some (Dat.lst ds)) = [40] :: (wdsL ds ++ [[41]]) := by show wds (.lst ds) = _; unfold wds; rfl
              have e2 : tl ("(" : Str) = [40] := by decide +kernel
              rw [e1, List.map_cons, List.map_nil, e2, List.map_cons, List.flatten_cons]
              show _ = List.map tl ys ++ ([40] :: (wdsL ds ++ [[41]]) ++ (List.map iw its').flatten)
              simp [iw]
          · have e : upd (upd H5 p (.lst us.reverse)) R (.lst (r.reverse ++ [V.str ")"] ++ us.reverse)) W = some (.lst ((ys ++ [("(" : Str)]).map V.str)) := by rw [upd_ne nWR, upd_ne npW]; exact hw5
            rw [e]
            show 10001 - ((ys ++ [("(" : Str)]).map V.str).length < 10001 - ys.length
            rw [List.length_map, List.length_append, List.length_singleton]
            omega
  · rintro σ H' Q1 Q2 hm ⟨v, e, k, t, h⟩
    exact ⟨v, e, k, t, hm _ _ h⟩
end
end My
namespace My
open PySem PySem.Spec PyProof.Rows L2 TL PySem.StrLaws
/-! ### _law_written -/
theorem J1_wr : ∀ ds : List Dat, J1 (ds.map wr) = wrL ds
  | [] => by unfold wrL; rfl
  | [d] => by unfold wrL; rfl
  | d :: e :: r => by
    have ih := J1_wr (e :: r)
    have l2 : wrL (d :: e :: r) = wr d ++ 32 :: wrL (e :: r) := by conv => lhs; unfold wrL
    rw [l2, ← ih, List.map_cons, List.map_cons]
    conv => lhs; unfold J1
theorem J1_sum : ∀ ws : List (List Nat), (ws.map List.length).sum + ws.length ≤ (J1 ws).length + 1
  | [] => by decide
  | [w] => by unfold J1; simp
  | w :: v :: r => by
    have ih := J1_sum (v :: r)
    have l1 : J1 (w :: v :: r) = w ++ 32 :: J1 (v :: r) := by conv => lhs; unfold J1
    rw [l1, List.length_append, List.map_cons, List.sum_cons]
    simp only [List.length_cons] at ih ⊢
    omega
theorem sum_mem : ∀ (ws : List (List Nat)) (w : List Nat), w ∈ ws → w.length ≤ (ws.map List.length).sum
  | v :: r, w, h => by
    rw [List.map_cons, List.sum_cons]
    rcases List.mem_cons.mp h with e | e
    · rw [e]; omega
    · have := sum_mem r w e
      omega
theorem wr_mem {ds : List Dat} {d : Dat} (h : d ∈ ds) : (wr d).length ≤ (wrL ds).length := by
  have a := sum_mem (ds.map wr) (wr d) (List.mem_map_of_mem h)
  have b := J1_sum (ds.map wr)
  rw [J1_wr, List.length_map] at b
  have : 1 ≤ ds.length := List.length_pos_of_mem h
  omega
def spWrt (n : Nat) : Sp := fun vs H Q _ => ∃ (v : V) (d : Dat), vs = [v] ∧ DepLe n d ∧ Rep All H v d ∧ FmtD d ∧ (wr d).length ≤ big ∧ ∀ z H', Sm No H H' → tl z = wr d → Q (.str z) H'
abbrev sWrt : Stmt := top 35
section
variable {P : Program} {w : World} {K : PySem.W.Frag} {mg : Str → Option Value} {base : Heap}
theorem scWrt : FnScope ["datum", "part"] ["datum"] (defScope sWrt) := ⟨rfl, rfl, rfl, by decide +kernel, rfl, by decide +kernel, by decide +kernel⟩
theorem ok_wrt {n : Nat} {f : Addr} {fd : FuncData} (F : Fun K "_law_written" "_law_written" sWrt f fd) (B : Blt mg) (g : mg "_law_written" = some (.ref f)) (bn : Binds K fd ["datum"] []) (G : FnOk P w K mg base CX0 n f fd ["datum"] (spWrt n)) :
    FnOk P w K mg base CX0 (n + 1) f fd ["datum"] (spWrt (n + 1)) := by
  refine F.ok scWrt (fun vs H Q E h => ?_) (fun cdv A outer s H vs Q E hr h => ?_)
  · obtain ⟨v, d, rfl, _⟩ := h
    rfl
  obtain ⟨v, d, rfl, dep, rp, fm, lb, q⟩ := h
  have nd := scWrt.nd
  refine ⟨_, pss_cons (ps_if (pt_val (pe_callB call_isi (by rfl) B.isinstance (by decide +kernel) (pa_cons (pv 0) (pa_cons (pe_bltn (v := .ty "list") (by rfl) B.list (by decide +kernel) rfl) pa_nil))))
      (pss_one (ps_ret (pe_op op_add_str (pe_op op_add_str pe_str (pe_bm PySem.F.plainAttrs_str PySem.F.slot_str_join PySem.F.type_str_join mt_join pe_str (pa_cons
        (pe_lc (own := [("part", 1)]) (g := gName 1) (tt := tYes) rfl nd (pi_list (pv 0)) (blkOk_by (N := ["datum", "part"]) (sc := defScope sWrt) (by decide +kernel)) (fun _ _ _ _ _ => pg_name (i := 1) nd rfl (Or.inl rfl))
          (fun _ _ _ _ _ => pts_nil) (fun _ _ _ _ _ => pe_call G hr rfl g F.kp bn .nil pass0 (pa_cons (pv 1) pa_nil))) pa_nil))) pe_str))) pss_nil)
    (pss_one (ps_ret (pe_callTy call_strE (by rfl) B.str (by decide +kernel) (pa_cons (pv 0) pa_nil)))), ?_⟩
  cases rp with
  | int i =>
    unfold FmtD at fm
    refine ⟨_, rfl, _, _, .type "int", .type "list", false, rfl, .ty "list", .base (.int _), kit_ty (by decide +kernel), _, rfl, ?_⟩
    exact ⟨_, rfl, .inr ⟨i, rfl, fm.2, q (Str.ofString (toString i)) H (Sm.refl _ _) (by unfold wr; rfl)⟩⟩
  | sym z =>
    refine ⟨_, rfl, _, _, .type "str", .type "list", false, rfl, .ty "list", .base (.str _), kit_ty (by decide +kernel), _, rfl, ?_⟩
    exact ⟨_, rfl, .inl ⟨_, rfl, q z H (Sm.refl _ _) (by unfold wr; rfl)⟩⟩
  | @lst a us ds _ ha rl =>
    unfold FmtD at fm
    have ew : wr (.lst ds) = 40 :: (wrL ds ++ [41]) := by unfold wr; rfl
    have lw : (wrL ds).length + 2 ≤ big := by
      rw [ew, List.length_cons, List.length_append, List.length_singleton] at lb
      omega
    obtain ⟨db, dd⟩ := dep
    refine ⟨_, rfl, _, _, .type "list", .type "list", true, rfl, .ty "list", .base (.lst ha), kit_ty (by decide +kernel), _, rfl, ?_⟩
    refine ⟨rfl, _, rfl, a, rfl, ⟨us, SqL.of ha⟩, fun D hD => ?_⟩
    refine lc_list (xs := us) (fun k H' => ∃ ys : List Str, H' D = some (.lst (ys.map V.str)) ∧ ys.map tl = (ds.take k).map wr ∧ Sm No H H') ⟨[], upd_same, rfl, Sm.new hD⟩ (fun k H' _ ⟨ys, _, _, c⟩ => SqL.of (c.lst0 ha)) (fun k x H' hk p => ?_) (fun H3 p => ?_)
    · obtain ⟨ys, p1, p2, p3⟩ := p
      have lk : k < ds.length := by rw [← rl.len]; exact (List.getElem?_eq_some_iff.mp hk).1
      obtain ⟨x', d', e1, e2, e3⟩ := rl.get lk
      rw [hk] at e1
      cases e1
      have md := List.mem_of_getElem? e2
      refine ⟨rfl, _, rfl, x, d', rfl, dd d' md, e3.sm p3, fm d' md, Nat.le_trans (wr_mem md) (by omega), fun z H4 s4 ez => ?_⟩
      have p1' := s4.lst0 p1
      have ly : ys.length ≤ big := by
        have := congrArg List.length p2
        rw [List.length_map, List.length_map, List.length_take] at this
        omega
      refine ⟨_, p1', by rw [List.length_map]; exact Nat.lt_of_le_of_lt ly (by decide), ys ++ [z], by rw [upd_same, List.map_append]; rfl, ?_, (p3.trans s4).mut hD (ntbl_l p1')⟩
      rw [take_more e2, List.map_append, List.map_append, p2]
      simp [ez]
    · obtain ⟨ys, p1, p2, p3⟩ := p
      rw [rl.len, List.take_length] at p2
      have l1 : (" " : Str).length = 1 := by decide +kernel
      have lo : ("(" : Str).length = 1 := by decide +kernel
      have lc : (")" : Str).length = 1 := by decide +kernel
      have to : tl ("(" : Str) = [40] := by decide +kernel
      have tc : tl (")" : Str) = [41] := by decide +kernel
      have js : tl (Txt.join (" " : Str) ys) = wrL ds := by rw [J1_join, p2, J1_wr]
      have ny : ys.length = ds.length := by
        have := congrArg List.length p2
        rw [List.length_map, List.length_map] at this
        exact this
      have b := J1_sum (ys.map tl)
      rw [p2, J1_wr, ← p2, List.map_map, List.length_map] at b
      have es : (ys.map (List.length ∘ tl)) = ys.map (·.length) := List.map_congr_left fun y _ => (len_tl y).symm
      rw [es] at b
      have lj : (Txt.join (" " : Str) ys).length = (wrL ds).length := by rw [len_tl, js]
      have big' : big = 1000000 := rfl
      refine ⟨_, D, ys, rfl, rfl, .inl (SqL.of p1), by rw [l1]; omega, _, _, rfl, rfl, by rw [lo, lj]; exact Nat.le_trans (show 1 + (wrL ds).length ≤ 1000001 by omega) (by decide), _, _, rfl, rfl, ?_, ?_⟩
      · rw [app_len, lo, lj, lc]
        exact Nat.le_trans (show 1 + (wrL ds).length + 1 ≤ 1000001 by omega) (by decide)
      · refine q _ H3 p3 ?_
        rw [tl_append, tl_append, to, js, tc, ew]
        simp
theorem wrt_none {f : Addr} {fd : FuncData} : FnOk P w K mg base CX0 0 f fd ["datum"] (spWrt 0) := by
  have no : ∀ vs H Q E, ¬ spWrt 0 vs H Q E := by
    rintro vs H Q E ⟨v, d, _, h, _⟩
    exact h.elim
  exact ⟨fun vs H Q E h => absurd h (no vs H Q E), fun A outer s H args us vs Q E _ _ _ _ h => absurd h (no vs H Q E)⟩
theorem ok_wrtN {f : Addr} {fd : FuncData} (F : Fun K "_law_written" "_law_written" sWrt f fd) (B : Blt mg) (g : mg "_law_written" = some (.ref f)) (bn : Binds K fd ["datum"] []) : ∀ n : Nat, FnOk P w K mg base CX0 n f fd ["datum"] (spWrt n)
  | 0 => wrt_none
  | n + 1 => ok_wrt F B g bn (ok_wrtN F B g bn n)
end
end My
namespace My
open PySem PySem.Spec PyProof.Rows L2 TL PySem.StrLaws
/-! ### _law_pieces -/
theorem wdsL_mem {ds : List Dat} {d : Dat} (h : d ∈ ds) : (wds d).length ≤ (wdsL ds).length := by
  induction ds with
  | nil => cases h
  | cons e r ih =>
    have l1 : wdsL (e :: r) = wds e ++ wdsL r := by conv => lhs; unfold wdsL
    rw [l1, List.length_append]
    rcases List.mem_cons.mp h with m | m
    · rw [m]; omega
    · have := ih m
      omega
theorem wdsL_snoc (ds : List Dat) (d : Dat) : wdsL (ds ++ [d]) = wdsL ds ++ wds d := by
  induction ds with
  | nil =>
    show wdsL [d] = _
    unfold wdsL wdsL
    rw [List.append_nil]; rfl
  | cons e r ih =>
    have l1 : wdsL (e :: r) = wds e ++ wdsL r := by conv => lhs; unfold wdsL
    have l2 : wdsL (e :: (r ++ [d])) = wds e ++ wdsL (r ++ [d]) := by conv => lhs; unfold wdsL
    rw [List.cons_append, l2, ih, l1, List.append_assoc]
def spPcs (n : Nat) : Sp := fun vs H Q _ => ∃ (v : V) (d : Dat), vs = [v] ∧ DepLe n d ∧ Rep All H v d ∧ FmtD d ∧ (wds d).length ≤ big ∧ ∀ (L : Addr) (ys : List Str) H', Sm No H H' → H L = none → H' L = some (.lst (ys.map V.str)) → ys.map tl = wds d → Q (.ref L) H'
abbrev sPcs : Stmt := top 33
abbrev NP : List Str := ["datum", "pieces", "part"]
section
variable {P : Program} {w : World} {K : PySem.W.Frag} {mg : Str → Option Value} {base : Heap}
theorem scPcs : FnScope NP ["datum"] (defScope sPcs) := ⟨rfl, rfl, rfl, by decide +kernel, rfl, by decide +kernel, by decide +kernel⟩
theorem ok_pcs {n : Nat} {f : Addr} {fd : FuncData} (F : Fun K "_law_pieces" "_law_pieces" sPcs f fd) (B : Blt mg) (g : mg "_law_pieces" = some (.ref f)) (bn : Binds K fd ["datum"] []) (G : FnOk P w K mg base CX0 n f fd ["datum"] (spPcs n)) :
    FnOk P w K mg base CX0 (n + 1) f fd ["datum"] (spPcs (n + 1)) := by
  refine F.ok scPcs (fun vs H Q E h => ?_) (fun cdv A outer s H vs Q E hr h => ?_)
  · obtain ⟨v, d, rfl, _⟩ := h
    rfl
  obtain ⟨v, d, rfl, dep, rp, fm, lb, q⟩ := h
  have nd := scPcs.nd
  refine ⟨_, pss_cons (ps_if (pt_val (pe_callB call_isi (by rfl) B.isinstance (by decide +kernel) (pa_cons (pv 0) (pa_cons (pe_bltn (v := .ty "list") (by rfl) B.list (by decide +kernel) rfl) pa_nil))))
      (pss_cons (ps_set (i := 1) nd rfl (Or.inl rfl) (pe_lst (pa_cons pe_str pa_nil)))
      (pss_cons (ps_for PassesOwn.never rfl (pi_list (pv 0)) (pg_name (i := 2) nd rfl (Or.inl rfl))
        (pss_one (ps_set (i := 1) nd rfl (Or.inl rfl) (pe_op op_cat (pv 1) (pe_call G hr rfl g F.kp bn .nil pass0 (pa_cons (pv 2) pa_nil))))))
      (pss_one (ps_ret (pe_op op_cat (pv 1) (pe_lst (pa_cons pe_str pa_nil))))))) pss_nil)
    (pss_one (ps_ret (pe_lst (pa_cons (pe_callTy call_strE (by rfl) B.str (by decide +kernel) (pa_cons (pv 0) pa_nil)) pa_nil)))), ?_⟩
  cases rp with
  | int i =>
    unfold FmtD at fm
    refine ⟨_, rfl, _, _, .type "int", .type "list", false, rfl, .ty "list", .base (.int _), kit_ty (by decide +kernel), _, rfl, ?_⟩
    exact ⟨_, rfl, .inr ⟨i, rfl, fm.2, by show 1 ≤ sizeLine; decide, fun p hp => q p [Str.ofString (toString i)] _ (Sm.new hp) hp upd_same (by unfold wds; rfl)⟩⟩
  | sym z =>
    refine ⟨_, rfl, _, _, .type "str", .type "list", false, rfl, .ty "list", .base (.str _), kit_ty (by decide +kernel), _, rfl, ?_⟩
    exact ⟨_, rfl, .inl ⟨_, rfl, by show 1 ≤ sizeLine; decide, fun p hp => q p [z] _ (Sm.new hp) hp upd_same (by unfold wds; rfl)⟩⟩
  | @lst a us ds _ ha rl =>
    unfold FmtD at fm
    have ew : wds (.lst ds) = [40] :: (wdsL ds ++ [[41]]) := by unfold wds; rfl
    have lw : (wdsL ds).length + 2 ≤ big := by
      rw [ew, List.length_cons, List.length_append, List.length_singleton] at lb
      omega
    have big' : big = 1000000 := rfl
    obtain ⟨db, dd⟩ := dep
    refine ⟨_, rfl, _, _, .type "list", .type "list", true, rfl, .ty "list", .base (.lst ha), kit_ty (by decide +kernel), _, rfl, ?_⟩
    refine ⟨by show 1 ≤ sizeLine; decide, fun p0 hp0 => ?_⟩
    have s0 : Sm No H (upd H p0 (.lst [.str "("])) := Sm.new hp0
    have few : ∀ k, (wdsL (ds.take k)).length ≤ (wdsL ds).length := fun k => by
      have : wdsL ds = wdsL (ds.take k) ++ wdsL (ds.drop k) := by
        rw [wdsL_flat, wdsL_flat, wdsL_flat, ← List.flatten_append, ← List.map_append, ← List.map_append, List.take_append_drop]
      rw [this, List.length_append]
      omega
    refine ⟨_, rfl, a, rfl, ⟨us, SqL.of (s0.lst0 ha)⟩, for_list (xs := us) (fun k σ H' => ∃ (p : Addr) (ys : List Str) (v2 : Option V), σ = [some (.ref a), some (.ref p), v2] ∧ H' p = some (.lst (ys.map V.str)) ∧ ys.map tl = [40] :: wdsL (ds.take k) ∧ Sm No H H')
      ⟨p0, ["("], none, rfl, upd_same, by unfold wdsL; show [tl ("(" : Str)] = [[40]]; decide +kernel, s0⟩ (fun k σ H' _ ⟨p, ys, v2, _, _, _, c⟩ => SqL.of (c.lst0 ha)) ?_ ?_⟩
    · rintro k x σ H' hk ⟨p, ys, v2, rfl, h1, h2, h3⟩
      have lk : k < ds.length := by rw [← rl.len]; exact (List.getElem?_eq_some_iff.mp hk).1
      obtain ⟨x', d', e1, e2, e3⟩ := rl.get lk
      rw [hk] at e1
      cases e1
      have md := List.mem_of_getElem? e2
      have ly : ys.length = (wdsL (ds.take k)).length + 1 := by
        have := congrArg List.length h2
        rw [List.length_map, List.length_cons] at this
        exact this
      have fk := few k
      refine ⟨_, rfl, _, rfl, x, d', rfl, dd d' md, e3.sm h3, fm d' md, Nat.le_trans (wdsL_mem md) (by omega), fun L zs H4 s4 hL hL4 ez => ?_⟩
      have lz : zs.length ≤ (wdsL ds).length := by
        have := congrArg List.length ez
        rw [List.length_map] at this
        rw [this]
        exact wdsL_mem md
      refine ⟨p, L, _, _, rfl, rfl, s4.lst0 h1, hL4, ?_, fun p5 hp5 => ⟨p5, ys ++ zs, _, rfl, by rw [upd_same, List.map_append], ?_, (h3.trans s4).trans (Sm.new hp5)⟩⟩
      · rw [List.length_map, List.length_map]
        exact Nat.le_trans (show ys.length + zs.length ≤ 3000000 by omega) (by decide)
      · rw [List.map_append, h2, ez, take_more e2, wdsL_snoc]
        rfl
    · rintro σ H' ⟨p, ys, v2, rfl, h1, h2, h3⟩
      rw [rl.len, List.take_length] at h2
      have ly : ys.length = (wdsL ds).length + 1 := by
        have := congrArg List.length h2
        rw [List.length_map, List.length_cons] at this
        exact this
      refine ⟨_, rfl, by show 1 ≤ sizeLine; decide, fun p5 hp5 => ?_⟩
      have s5 : Sm No H' (upd H' p5 (.lst [.str ")"])) := Sm.new hp5
      refine ⟨p, p5, _, _, rfl, rfl, s5.lst0 h1, upd_same, ?_, fun p6 hp6 => ?_⟩
      · rw [List.length_map]
        exact Nat.le_trans (show ys.length + 1 ≤ 3000000 by omega) (by decide)
      · have s6 := s5.trans (Sm.new (o := .lst (ys.map V.str ++ [V.str ")"])) hp6)
        refine q p6 (ys ++ [(")" : Str)]) _ (h3.trans s6) ((h3.trans s5).dom p6 hp6) (by rw [upd_same, List.map_append]; rfl) ?_
        have tc : tl (")" : Str) = [41] := by decide +kernel
        rw [List.map_append, h2, List.map_singleton, tc, ew]
        rfl
theorem pcs_none {f : Addr} {fd : FuncData} : FnOk P w K mg base CX0 0 f fd ["datum"] (spPcs 0) := by
  have no : ∀ vs H Q E, ¬ spPcs 0 vs H Q E := by
    rintro vs H Q E ⟨v, d, _, h, _⟩
    exact h.elim
  exact ⟨fun vs H Q E h => absurd h (no vs H Q E), fun A outer s H args us vs Q E _ _ _ _ h => absurd h (no vs H Q E)⟩
theorem ok_pcsN {f : Addr} {fd : FuncData} (F : Fun K "_law_pieces" "_law_pieces" sPcs f fd) (B : Blt mg) (g : mg "_law_pieces" = some (.ref f)) (bn : Binds K fd ["datum"] []) : ∀ n : Nat, FnOk P w K mg base CX0 n f fd ["datum"] (spPcs n)
  | 0 => pcs_none
  | n + 1 => ok_pcs F B g bn (ok_pcsN F B g bn n)
end
end My
namespace My
open PySem PySem.Spec PyProof.Rows L2 TL
/-! ### drawn symbols -/
def spSymD : Sp := fun vs H Q _ => ∃ S L : Addr, vs = [.ref S] ∧ LS H S L ∧ ∀ z H', isSymL (tl z) = true → z.length ≤ 50 → LS H' S L → Sm (Two S L) H H' → Q (.str z) H'
abbrev sSymD : Stmt := top 28
abbrev NS : List Str := ["state", "signs", "size", "word", "k"]
/-- the signs drawn so far, at D -/
def SgP (S L D : Addr) (H0 : Hp) (i : Nat) (H' : Hp) : Prop := ∃ ys : List Str, H' D = some (.lst (ys.map V.str)) ∧ ys.length = i ∧ (∀ y ∈ ys, ∃ c, y = ⟨#[c]⟩ ∧ isSym c = true) ∧ LS H' S L ∧ Sm (Two S L) H0 H'
theorem sg_text {S L D : Addr} {H0 H' : Hp} {n : Nat} (p : SgP S L D H0 n H') : ∃ ys : List Str, H' D = some (.lst (ys.map V.str)) ∧ (tl (Txt.join ("" : Str) ys)).length = n ∧ (tl (Txt.join ("" : Str) ys)).all isSym = true ∧ (ys.map (·.length)).sum + ys.length * ("" : Str).length = n ∧ LS H' S L ∧ Sm (Two S L) H0 H' := by
  obtain ⟨ys, p1, p2, p3, p4, p5⟩ := p
  have e0 : ("" : Str).length = 0 := by decide +kernel
  have key : ((ys.map tl).flatten).length = ys.length ∧ ((ys.map tl).flatten).all isSym = true ∧ (ys.map (·.length)).sum = ys.length := by
    clear p1 p2 p4 p5
    induction ys with
    | nil => exact ⟨rfl, rfl, rfl⟩
    | cons y r ih =>
      obtain ⟨i1, i2, i3⟩ := ih fun x hx => p3 x (List.mem_cons_of_mem _ hx)
      obtain ⟨c, ec, hc⟩ := p3 y List.mem_cons_self
      subst ec
      refine ⟨?_, ?_, ?_⟩
      · rw [List.map_cons, List.flatten_cons, List.length_append, i1, List.length_cons]
        show 1 + r.length = r.length + 1
        omega
      · rw [List.map_cons, List.flatten_cons, List.all_append, i2]
        show ([c].all isSym && true) = true
        simp [hc]
      · rw [List.map_cons, List.sum_cons, i3, List.length_cons]
        show 1 + r.length = r.length + 1
        omega
  refine ⟨ys, p1, ?_, ?_, by rw [key.2.2, e0, p2]; omega, p4, p5⟩
  · rw [tl_join0, key.1, p2]
  · rw [tl_join0]; exact key.2.1
theorem made_snoc {l : List Nat} {x : Nat} (ne : l ≠ []) (hx : isDig x = false) : madeNum (l ++ [x]) = false := by
  cases l with
  | nil => exact absurd rfl ne
  | cons c r =>
    have hb : ∃ m, body ((c :: r) ++ [x]) = m ++ [x] := by
      by_cases h : c = 45 ∨ c = 43
      · exact ⟨r, by simp [body, h]⟩
      · exact ⟨c :: r, by simp [body, h]⟩
    obtain ⟨m, em⟩ := hb
    unfold madeNum
    rw [em, List.all_append]
    simp [hx]
section
variable {P : Program} {w : World} {K : PySem.W.Frag} {mg : Str → Option Value} {base : Heap}
theorem scSymD : FnScope NS ["state"] (defScope sSymD) := ⟨rfl, rfl, rfl, by decide +kernel, rfl, by decide +kernel, by decide +kernel⟩
theorem ok_symD {f fT fN : Addr} {fd dT dN : FuncData} (F : Fun K "_law_symbol" "_law_symbol" sSymD f fd) (B : Blt mg) (G : Cal P w K mg base CX0 2 "_law_take" ["state", "limit"] spTake fT dT) (GN : Cal P w K mg base CX0 1 "_law_is_numeral" ["word"] (spTxt madeNum []) fN dN) :
    FnOk P w K mg base CX0 3 f fd ["state"] spSymD := by
  refine F.ok scSymD (fun vs H Q E h => ?_) (fun cdv A outer s H vs Q E hr h => ?_)
  · obtain ⟨S, L, rfl, _⟩ := h
    rfl
  obtain ⟨S, L, rfl, hl, q⟩ := h
  have nd := scSymD.nd
  have hr1 : Room 1 _ := hr.mono (show 1 ≤ 2 by decide)
  refine ⟨_, pss_cons (ps_set (i := 1) nd rfl (Or.inr rfl) pe_str)
    (pss_cons (ps_set (i := 2) nd rfl (Or.inl rfl) (pe_ix (r := rIxL K) ix_list (pe_lst (pa_cons pe_int (pa_cons (pe_op op_add pe_int (pe_call G.ok hr rfl G.g G.k G.b .nil pass0 (pa_cons (pv 0) (pa_cons pe_int pa_nil)))) (pa_cons (pe_op op_add pe_int (pe_call G.ok hr rfl G.g G.k G.b .nil pass0 (pa_cons (pv 0) (pa_cons pe_int pa_nil))))
        (pa_cons (pe_op op_add pe_int (pe_call G.ok hr rfl G.g G.k G.b .nil pass0 (pa_cons (pv 0) (pa_cons pe_int pa_nil)))) pa_nil))))) (pe_call G.ok hr rfl G.g G.k G.b .nil pass0 (pa_cons (pv 0) (pa_cons pe_int pa_nil))) (fun _ _ => rfl)))
    (pss_cons (ps_set (i := 3) nd rfl (Or.inl rfl) (pe_bm PySem.F.plainAttrs_str PySem.F.slot_str_join PySem.F.type_str_join mt_join pe_str (pa_cons
        (pe_lc (own := [("k", 4)]) (g := gName 4) (tt := tYes) rfl nd (pi_range1 (by rfl) B.range (pa_cons (pv 2) pa_nil)) (blkOk_by (N := NS) (sc := defScope sSymD) (by decide +kernel)) (fun _ _ _ _ _ => pg_name (i := 4) nd rfl (Or.inl rfl))
          (fun _ _ _ _ _ => pts_nil) (fun _ _ _ _ _ => pe_ix ix_str (pv 1) (pe_call G.ok hr rfl G.g G.k G.b .nil pass0 (pa_cons (pv 0) (pa_cons pe_int pa_nil))) (fun _ _ => rfl))) pa_nil)))
    (pss_cons (ps_if (pt_val (pe_call GN.ok hr1 rfl GN.g GN.k GN.b .nil pass0 (pa_cons (pv 3) pa_nil))) (pss_one (ps_ret (pe_op op_add_str (pv 3) (pe_ix (r := rIxL K) ix_list (pe_lst (pa_cons pe_str (pa_cons pe_str (pa_cons pe_str (pa_cons pe_str pa_nil)))))
        (pe_call G.ok hr rfl G.g G.k G.b .nil pass0 (pa_cons (pv 0) (pa_cons pe_int pa_nil))) (fun _ _ => rfl))))) pss_nil)
    (pss_one (ps_ret (pv 3)))))), ?_⟩
  have seven : isSymL (tl ("a" : Str)) = true := by decide +kernel
  refine ⟨_, rfl, S, L, 6, rfl, hl, by decide, nb (by decide), fun ga H1 a0 a1 l1 s1 => ⟨_, _, rfl, rfl, ?_⟩⟩
  refine ⟨_, rfl, S, L, 6, rfl, l1, by decide, nb (by decide), fun gb H2 b0 b1 l2 s2 => ⟨_, _, rfl, rfl, ?_⟩⟩
  refine ⟨_, rfl, S, L, 40, rfl, l2, by decide, nb (by decide), fun gc H3 c0 c1 l3 s3 => ⟨_, _, rfl, rfl, ?_⟩⟩
  refine ⟨by show 4 ≤ sizeLine; decide, fun p hp => ?_⟩
  refine ⟨_, rfl, S, L, 4, rfl, l3.new hp, by decide, nb (by decide), fun gd H4 d0 d1 l4 s4 => ?_⟩
  have sp := s4.lst (l3.two hp) upd_same
  have s14 := s1.trans (s2.trans (s3.trans ((Sm.new (o := .lst [V.int 1, V.int (1 + ga), V.int (1 + gb), V.int (1 + gc)]) hp).trans s4)))
  obtain ⟨v, ev, mv⟩ := atI_some (xs := [V.int 1, V.int (1 + ga), V.int (1 + gb), V.int (1 + gc)]) d0 d1
  have bv : ∃ n : Int, v = .int n ∧ 1 ≤ n ∧ n ≤ 40 := by
    simp only [List.mem_cons, List.not_mem_nil, or_false] at mv
    rcases mv with e | e | e | e <;> exact ⟨_, e, by omega, by omega⟩
  obtain ⟨n, en, n1, n40⟩ := bv
  subst en
  refine ⟨p, _, gd, _, rfl, rfl, SqL.of sp, ev, ?_⟩
  refine ⟨rfl, _, rfl, n, rfl, by omega, by omega, fun D hD => ?_⟩
  have nD := l4.two hD
  have l30 : (tl ("abcxyzABCXYZ0123456789-+*<=?!." : Str)).length = 30 := by decide +kernel
  have asym : (tl ("abcxyzABCXYZ0123456789-+*<=?!." : Str)).all isSym = true := by decide +kernel
  refine lc_range (lo := 0) (SgP S L D H4) ⟨[], upd_same, rfl, by simp, l4.new hD, Sm.new hD⟩ (fun i H5 hi t => ?_) (fun H5 t => ?_)
  · obtain ⟨ys, t1, t2, t3, t4, t5⟩ := t
    refine ⟨rfl, _, rfl, _, rfl, S, L, 30, rfl, t4, by decide, nb (by decide), fun g H6 g0 g1 l6 s6 => ?_⟩
    obtain ⟨c, ec, mc⟩ := atI_some (xs := tl ("abcxyzABCXYZ0123456789-+*<=?!." : Str)) g0 (by rw [l30]; exact g1)
    have t1' := s6.lst nD t1
    refine ⟨_, g, c, rfl, rfl, by decide +kernel, ec, _, t1', by rw [List.length_map, t2]; exact small1000 (by omega), ys ++ [⟨#[c]⟩], by rw [upd_same, List.map_append]; rfl, by simp [t2], ?_, ?_, (t5.trans s6).mut hD (ntbl_l t1')⟩
    · intro y hy
      rcases List.mem_append.mp hy with h | h
      · exact t3 y h
      · rw [List.mem_singleton.mp h]
        exact ⟨c, rfl, List.all_eq_true.mp asym c mc⟩
    · obtain ⟨cs, d, a1, a2, a3⟩ := l6
      refine ⟨cs, d, ?_, ?_, a3⟩
      · rw [upd_ne (fun z => nD (.inl z.symm))]; exact a1
      · rw [upd_ne (fun z => nD (.inr z.symm))]; exact a2
  obtain ⟨ys, y1, y2, y3, y4, y5, y6⟩ := sg_text t
  refine ⟨_, D, ys, rfl, rfl, .inl (SqL.of y1), by rw [y4]; omega, ?_⟩
  generalize Txt.join ("" : Str) ys = word at y2 y3
  have lw := len_tl word
  have wne : tl word ≠ [] := fun e => by rw [e] at y2; simp at y2; omega
  have wb : word.length ≤ 40 := by omega
  refine ⟨_, rfl, word, rfl, Nat.le_trans wb (by decide), (fun p hp => by cases hp), fun H6 s6 => ⟨_, rfl, ?_⟩⟩
  have l6 := y5.sm s6
  have s16 := s14.trans (y6.trans s6.no)
  cases hm : madeNum (tl word) with
  | false =>
    refine ⟨_, rfl, q word H6 ?_ (by omega) l6 s16⟩
    unfold isSymL
    rw [hm, y3]
    cases h : tl word with
    | nil => exact absurd h wne
    | cons c r => rfl
  | true =>
    refine ⟨_, rfl, by show 4 ≤ sizeLine; decide, fun p5 hp5 => ?_⟩
    refine ⟨_, rfl, S, L, 4, rfl, l6.new hp5, by decide, nb (by decide), fun g H7 g0 g1 l7 s7 => ?_⟩
    have sp7 := s7.lst (l6.two hp5) upd_same
    have s17 := s16.trans ((Sm.new (o := .lst [V.str "a", V.str ".", V.str "-", V.str "!"]) hp5).trans s7)
    obtain ⟨u, eu, mu⟩ := atI_some (xs := [V.str "a", V.str ".", V.str "-", V.str "!"]) g0 g1
    have bu : ∃ (y : Str) (c : Nat), u = .str y ∧ tl y = [c] ∧ isDig c = false ∧ isSym c = true ∧ y.length = 1 := by
      simp only [List.mem_cons, List.not_mem_nil, or_false] at mu
      rcases mu with e | e | e | e
      · exact ⟨_, 97, e, by decide +kernel, by decide +kernel, by decide +kernel, by decide +kernel⟩
      · exact ⟨_, 46, e, by decide +kernel, by decide +kernel, by decide +kernel, by decide +kernel⟩
      · exact ⟨_, 45, e, by decide +kernel, by decide +kernel, by decide +kernel, by decide +kernel⟩
      · exact ⟨_, 33, e, by decide +kernel, by decide +kernel, by decide +kernel, by decide +kernel⟩
    obtain ⟨y, c, ey, ty, dc, sc, ly⟩ := bu
    subst ey
    refine ⟨p5, _, g, _, rfl, rfl, SqL.of sp7, eu, _, _, rfl, rfl, Nat.le_trans (show word.length + y.length ≤ 41 by omega) (by decide), q _ H7 ?_ (by rw [app_len]; omega) l7 s17⟩
    unfold isSymL
    rw [tl_append, ty, made_snoc wne dc, List.all_append, y3]
    have e1 : ([c] : List Nat).all isSym = true := by simp [sc]
    rw [e1]
    cases h : tl word with
    | nil => exact absurd h wne
    | cons c r => rfl
end
end My
namespace My
open PySem PySem.Spec PyProof.Rows L2 TL
/-! ### drawn integers -/
def spIntD : Sp := fun vs H Q _ => ∃ S L : Addr, vs = [.ref S] ∧ LS H S L ∧ ∀ (i : Int) H', i.natAbs < 10 ^ 40 → LS H' S L → Sm (Two S L) H H' → Q (.int i) H'
abbrev sIntD : Stmt := top 30
abbrev NI : List Str := ["state", "number"]
theorem ten40 : (10 : Int) ^ (40 : Int).toNat = 10000000000000000000000000000000000000000 := by decide +kernel
theorem ten40b : (10 : Nat) ^ 40 = 10000000000000000000000000000000000000000 := by decide +kernel
section
variable {P : Program} {w : World} {K : PySem.W.Frag} {mg : Str → Option Value} {base : Heap}
theorem scIntD : FnScope NI ["state"] (defScope sIntD) := ⟨rfl, rfl, rfl, by decide +kernel, rfl, by decide +kernel, by decide +kernel⟩
theorem ok_intD {f fT : Addr} {fd dT : FuncData} (F : Fun K "_law_integer" "_law_integer" sIntD f fd) (B : Blt mg) (G : Cal P w K mg base CX0 2 "_law_take" ["state", "limit"] spTake fT dT) : FnOk P w K mg base CX0 3 f fd ["state"] spIntD := by
  refine F.ok scIntD (fun vs H Q E h => ?_) (fun cdv A outer s H vs Q E hr h => ?_)
  · obtain ⟨S, L, rfl, _⟩ := h
    rfl
  obtain ⟨S, L, rfl, hl, q⟩ := h
  have nd := scIntD.nd
  refine ⟨_, pss_cons (ps_set (i := 1) nd rfl (Or.inl rfl) (pe_ix (r := rIxL K) ix_list (pe_lst (pa_cons (pe_call G.ok hr rfl G.g G.k G.b .nil pass0 (pa_cons (pv 0) (pa_cons pe_int pa_nil))) (pa_cons (pe_call G.ok hr rfl G.g G.k G.b .nil pass0 (pa_cons (pv 0) (pa_cons pe_int pa_nil)))
        (pa_cons (pe_call G.ok hr rfl G.g G.k G.b .nil pass0 (pa_cons (pv 0) (pa_cons (pe_op op_pow pe_int pe_int) pa_nil))) pa_nil)))) (pe_call G.ok hr rfl G.g G.k G.b .nil pass0 (pa_cons (pv 0) (pa_cons pe_int pa_nil))) (fun _ _ => rfl)))
    (C8.pss_cut (ps_if (pt_cmpR op_eq (pe_call G.ok hr rfl G.g G.k G.b .nil pass0 (pa_cons (pv 0) (pa_cons pe_int pa_nil))) pe_int (nomark _))
      (pss_one (ps_set (i := 1) nd rfl (Or.inl rfl) (pe_op op_sub (pe_op op_sub (pe_op op_pow pe_int pe_int) pe_int) (pe_call G.ok hr rfl G.g G.k G.b .nil pass0 (pa_cons (pv 0) (pa_cons pe_int pa_nil)))))) pss_nil)
    (pss_one (ps_ret (pe_ix (r := rIxL K) ix_list (pe_lst (pa_cons (pv 1) (pa_cons (pe_op op_sub pe_int (pv 1)) pa_nil))) (pe_call G.ok hr rfl G.g G.k G.b .nil pass0 (pa_cons (pv 0) (pa_cons pe_int pa_nil))) (fun _ _ => rfl))))), ?_⟩
  have nbig : ((10 : Int) ^ (40 : Int).toNat).natAbs < 2 ^ 8000 := by
    rw [ten40]
    exact Nat.lt_of_lt_of_le (show 10000000000000000000000000000000000000000 < 2 ^ 200 by decide +kernel) (Nat.pow_le_pow_right (by decide) (by decide))
  have npos : 0 < (10 : Int) ^ (40 : Int).toNat := by rw [ten40]; decide
  refine ⟨_, rfl, S, L, 3, rfl, hl, by decide, nb (by decide), fun ga H1 a0 a1 l1 s1 => ?_⟩
  refine ⟨_, rfl, S, L, 1000, rfl, l1, by decide, nb (by decide), fun gb H2 b0 b1 l2 s2 => ?_⟩
  refine ⟨_, rfl, _, _, rfl, rfl, ⟨by decide, by decide, by decide⟩, S, L, _, rfl, l2, npos, nbig, fun gc H3 c0 c1 l3 s3 => ?_⟩
  rw [ten40] at c1
  refine ⟨by show 3 ≤ sizeLine; decide, fun p hp => ?_⟩
  refine ⟨_, rfl, S, L, 3, rfl, l3.new hp, by decide, nb (by decide), fun gd H4 d0 d1 l4 s4 => ?_⟩
  have sp := s4.lst (l3.two hp) upd_same
  have s14 := s1.trans (s2.trans (s3.trans ((Sm.new (o := .lst [V.int ga, V.int gb, V.int gc]) hp).trans s4)))
  obtain ⟨v, ev, mv⟩ := atI_some (xs := [V.int ga, V.int gb, V.int gc]) d0 d1
  have bv : ∃ n : Int, v = .int n ∧ 0 ≤ n ∧ n < 10000000000000000000000000000000000000000 := by
    simp only [List.mem_cons, List.not_mem_nil, or_false] at mv
    rcases mv with e | e | e <;> exact ⟨_, e, by omega, by omega⟩
  obtain ⟨n, en, n0, n1⟩ := bv
  subst en
  refine ⟨p, _, gd, _, rfl, rfl, SqL.of sp, ev, ?_⟩
  refine ⟨fun σ H' => ∃ n : Int, σ = [some (.ref S), some (.int n)] ∧ 0 ≤ n ∧ n < 10000000000000000000000000000000000000000 ∧ LS H' S L ∧ Sm (Two S L) H H', ?_, ?_⟩
  · refine ⟨_, rfl, S, L, 6, rfl, l4, by decide, nb (by decide), fun g H5 g0 g1 l5 s5 => ⟨rfl, _, rfl, ?_⟩⟩
    have s15 := s14.trans s5
    refine ite2 (fun c => ?_) (fun c => ⟨n, rfl, n0, n1, l5, s15⟩)
    refine ⟨_, _, rfl, rfl, ⟨by decide, by decide, by decide⟩, _, _, rfl, rfl, _, rfl, S, L, 3, rfl, l5, by decide, nb (by decide), fun h H6 h0 h1 l6 s6 => ⟨_, _, rfl, rfl, ?_⟩⟩
    rw [ten40]
    exact ⟨_, rfl, by omega, by omega, l6, s15.trans s6⟩
  · rintro σ H' ⟨n, rfl, n0, n1, l5, s5⟩
    refine ⟨_, rfl, _, rfl, _, _, rfl, rfl, by show 2 ≤ sizeLine; decide, fun p5 hp5 => ?_⟩
    refine ⟨_, rfl, S, L, 2, rfl, l5.new hp5, by decide, nb (by decide), fun g H7 g0 g1 l7 s7 => ?_⟩
    have sp7 := s7.lst (l5.two hp5) upd_same
    have s17 := s5.trans ((Sm.new (o := .lst [V.int n, V.int (0 - n)]) hp5).trans s7)
    obtain ⟨u, eu, mu⟩ := atI_some (xs := [V.int n, V.int (0 - n)]) g0 g1
    have bu : ∃ m : Int, u = .int m ∧ m.natAbs < 10 ^ 40 := by
      rw [ten40b]
      simp only [List.mem_cons, List.not_mem_nil, or_false] at mu
      rcases mu with e | e <;> exact ⟨_, e, by omega⟩
    obtain ⟨m, em, lm⟩ := bu
    subst em
    exact ⟨p5, _, g, _, rfl, rfl, SqL.of sp7, eu, q m H7 lm l7 s17⟩
end
end My
namespace My
open PySem PySem.Spec PyProof.Rows L2 TL
/-! ### texts of integers -/
def intL (i : Int) : List Nat := tl (Str.ofString (toString i))
theorem intL_nat {i : Int} (h : 0 ≤ i) : intL i = numL i.natAbs := by
  have e : i = ((i.natAbs : Nat) : Int) := by omega
  unfold intL
  rw [e, tl_num, Int.natAbs_natCast]
theorem ofString_minus (s : String) : tl (Str.ofString ("-" ++ s)) = 45 :: tl (Str.ofString s) := by
  have e : ("-" : String).toList = ['-'] := by decide +kernel
  unfold tl
  rw [Str.ofString_eq_toList, Str.ofString_eq_toList, String.toList_append, List.map_append, e]
  rfl
theorem intL_neg {i : Int} (h : i < 0) : intL i = 45 :: numL i.natAbs := by
  have e : (0 - i) = ((i.natAbs : Nat) : Int) := by omega
  unfold intL
  rw [toString_neg h, ofString_minus, e, tl_num]
theorem numL_head : ∀ (n : Nat), 1 ≤ n → ∃ c r, numL n = c :: r ∧ c ≠ 48 := by
  intro n
  induction n using Nat.strongRecOn with
  | _ n ih =>
    intro h
    by_cases h10 : n < 10
    · exact ⟨48 + n, [], numL_lt h10, by omega⟩
    · obtain ⟨c, r, e, nc⟩ := ih (n / 10) (by omega) (by omega)
      exact ⟨c, r ++ [48 + n % 10], by rw [numL_step (by omega), e]; rfl, nc⟩
theorem numL_zero : numL 0 = [48] := numL_lt (by decide)
theorem num_all (n : Nat) : (numL n).all isDig = true := List.all_eq_true.mpr fun c hc => (isDig_iff c).mpr (numL_digits n c hc)
theorem int_word {i : Int} (h : i.natAbs < 10 ^ 40) : wordV (intL i) = some (.int i) := by
  have l40 := numL_len (n := i.natAbs) (k := 40) (by decide) h
  have ne := numL_ne i.natAbs
  have dig := numL_digits i.natAbs
  have key : isIntL (intL i) = true ∧ intText? (Str.ofString (toString i)) = some i := by
    by_cases hi : 0 ≤ i
    · have e := intL_nat hi
      obtain ⟨c, r, ec⟩ : ∃ c r, numL i.natAbs = c :: r := by
        cases hn : numL i.natAbs with
        | nil => exact absurd hn ne
        | cons c r => exact ⟨c, r, rfl⟩
      have hc := dig c (by rw [ec]; exact List.mem_cons_self)
      have eb : body (numL i.natAbs) = numL i.natAbs := by rw [ec]; simp [body]; omega
      have em : noMinus (numL i.natAbs) = numL i.natAbs := by rw [ec]; simp [noMinus]; omega
      refine ⟨?_, ?_⟩
      · rw [e]
        unfold isIntL madeNum
        rw [eb, em, num_all, decide_eq_true l40]
        have h43 : ((numL i.natAbs).head? != some 43) = true := by rw [ec, bne_iff_ne]; intro z; have := Option.some.inj z; omega
        rw [h43]
        have h0 : ((numL i.natAbs) == [48] || (numL i.natAbs).head? != some 48) = true := by
          by_cases z : i.natAbs = 0
          · rw [z, numL_zero]; rfl
          · obtain ⟨c', r', e', n'⟩ := numL_head i.natAbs (by omega)
            rw [e', Bool.or_eq_true]
            right
            rw [bne_iff_ne]
            intro z
            exact n' (Option.some.inj z)
        rw [h0, ec]
        rfl
      · have q := int_num (n := i.natAbs) (by omega)
        have e2 : ((i.natAbs : Nat) : Int) = i := by omega
        rw [e2] at q
        exact q
    · have hn : i < 0 := by omega
      have e := intL_neg hn
      obtain ⟨c', r', e', n'⟩ := numL_head i.natAbs (by omega)
      refine ⟨?_, ?_⟩
      · rw [e]
        have eb : body (45 :: numL i.natAbs) = numL i.natAbs := rfl
        have em : noMinus (45 :: numL i.natAbs) = numL i.natAbs := rfl
        unfold isIntL madeNum
        rw [eb, em, num_all, decide_eq_true l40]
        have h48 : ((numL i.natAbs).head? != some 48) = true := by rw [e', bne_iff_ne]; intro z; exact n' (Option.some.inj z)
        rw [h48, e']
        simp
      · have q := intText_neg (x := Str.ofString (toString i)) (cs := numL i.natAbs) e dig ne (by rw [len_tl]; show (intL i).length ≤ 4300; rw [e, List.length_cons]; omega)
        rw [numL_val] at q
        rw [q]
        congr 1
        omega
  unfold wordV
  rw [if_pos key.1]
  show some (V.int ((intText? (mkS (tl (Str.ofString (toString i))))).getD 0)) = _
  rw [mkS_tl, key.2]
  rfl
theorem int_signs {i : Int} : intL i ≠ [] ∧ ∀ c ∈ intL i, c = 45 ∨ (48 ≤ c ∧ c ≤ 57) := by
  by_cases hi : 0 ≤ i
  · rw [intL_nat hi]
    exact ⟨numL_ne _, fun c hc => .inr (numL_digits _ c hc)⟩
  · rw [intL_neg (by omega)]
    refine ⟨by simp, fun c hc => ?_⟩
    rcases List.mem_cons.mp hc with e | e
    · exact .inl e
    · exact .inr (numL_digits _ c e)
theorem int_atom (i : Int) : Atom (intL i) := ⟨int_signs.1, fun c hc => by have := int_signs.2 c hc; omega⟩
theorem int_wd (i : Int) : Wd (intL i) := fun c hc => by
  have := int_signs.2 c hc
  unfold noEnd
  cases h : isEnd c with
  | false => rfl
  | true =>
    have := (isEnd_iff c).mp h
    omega
theorem int_short {i : Int} (h : i.natAbs < 10 ^ 40) : (intL i).length ≤ 41 := by
  have l40 := numL_len (n := i.natAbs) (k := 40) (by decide) h
  by_cases hi : 0 ≤ i
  · rw [intL_nat hi]; omega
  · rw [intL_neg (by omega), List.length_cons]; omega
theorem int_log40 {i : Int} (h : i.natAbs < 10 ^ 40) : i.natAbs.log2 < 1920 := by
  rw [ten40b] at h
  have e : i.natAbs < 2 ^ 200 := Nat.lt_of_lt_of_le h (by decide +kernel)
  exact Nat.lt_of_lt_of_le (PySem.Flt.log2_lt_of (by decide) e) (by decide)
/-! ### texts of symbols -/
theorem sym_word {z : Str} (h : isSymL (tl z) = true) : wordV (tl z) = some (.str z) := by
  have h2 := h
  unfold isSymL at h2
  simp only [Bool.and_eq_true, Bool.not_eq_true'] at h2
  have n : ¬ isIntL (tl z) = true := by unfold isIntL; rw [h2.2.1]; simp
  unfold wordV
  rw [if_neg n, if_pos h, mkS_tl]
theorem sym_signs {z : Str} (h : isSymL (tl z) = true) : tl z ≠ [] ∧ ∀ c ∈ tl z, isSym c = true := by
  unfold isSymL at h
  simp only [Bool.and_eq_true, Bool.not_eq_true'] at h
  refine ⟨fun e => ?_, fun c hc => List.all_eq_true.mp h.2.2 c hc⟩
  rw [e] at h
  cases h.1
theorem sym_free {c : Nat} (h : isSym c = true) : c ≠ 32 ∧ c ≠ 40 ∧ c ≠ 41 ∧ noEnd c = true := by
  have key : (tl sSym).all (fun c => decide (c ≠ 32) && (decide (c ≠ 40) && (decide (c ≠ 41) && noEnd c))) = true := by decide +kernel
  have m : c ∈ tl sSym := of_decide_eq_true h
  have q := List.all_eq_true.mp key c m
  simp only [Bool.and_eq_true, decide_eq_true_eq] at q
  exact q
theorem sym_atom {z : Str} (h : isSymL (tl z) = true) : Atom (tl z) := ⟨(sym_signs h).1, fun c hc => by
  have := sym_free ((sym_signs h).2 c hc)
  exact ⟨this.1, this.2.1, this.2.2.1⟩⟩
theorem sym_wd {z : Str} (h : isSymL (tl z) = true) : Wd (tl z) := fun c hc => (sym_free ((sym_signs h).2 c hc)).2.2.2
end My
namespace My
open PySem PySem.Spec PyProof.Rows L2 TL
/-! ### the pieces of a text -/
abbrev Tk := List Nat × Nat
def scan : Nat → List Nat → Nat → List Tk
  | 0, _, _ => []
  | _ + 1, [], _ => []
  | n + 1, c :: r, i =>
    if c = 59 then scan n ((c :: r).dropWhile noLine) (i + ((c :: r).takeWhile noLine).length)
    else if c = 40 then ([40], i) :: scan n r (i + 1)
    else if c = 41 then ([41], i) :: scan n r (i + 1)
    else if c = 32 ∨ c = 10 then scan n r (i + 1)
    else ((c :: r).takeWhile noEnd, i) :: scan n ((c :: r).dropWhile noEnd) (i + ((c :: r).takeWhile noEnd).length)
theorem not_end {c : Nat} (n1 : c ≠ 59) (n2 : c ≠ 40) (n3 : c ≠ 41) (n4 : ¬ (c = 32 ∨ c = 10)) : noEnd c = true := by
  unfold noEnd
  cases h : isEnd c with
  | false => rfl
  | true =>
    have := (isEnd_iff c).mp h
    omega
theorem dw_le (p : Nat → Bool) (l : List Nat) : (l.dropWhile p).length ≤ l.length := by
  have := congrArg List.length (List.takeWhile_append_dropWhile (p := p) (l := l))
  rw [List.length_append] at this
  omega
theorem dw_lt {p : Nat → Bool} {c : Nat} {r : List Nat} (h : p c = true) : ((c :: r).dropWhile p).length ≤ r.length := by
  rw [List.dropWhile_cons, h]
  exact dw_le p r
theorem scan_fuel : ∀ (n m : Nat) (l : List Nat) (i : Nat), l.length < n → l.length < m → scan n l i = scan m l i
  | 0, _, _, _, h, _ => by cases h
  | _ + 1, 0, _, _, _, h => by cases h
  | n + 1, m + 1, [], i, _, _ => rfl
  | n + 1, m + 1, c :: r, i, h1, h2 => by
    have a1 : r.length < n := Nat.lt_of_succ_lt_succ h1
    have a2 : r.length < m := Nat.lt_of_succ_lt_succ h2
    unfold scan
    by_cases e1 : c = 59
    · rw [if_pos e1, if_pos e1]
      have q := dw_lt (p := noLine) (r := r) (show noLine c = true by rw [e1]; rfl)
      exact scan_fuel n m _ _ (by omega) (by omega)
    rw [if_neg e1, if_neg e1]
    by_cases e2 : c = 40
    · rw [if_pos e2, if_pos e2, scan_fuel n m _ _ a1 a2]
    rw [if_neg e2, if_neg e2]
    by_cases e3 : c = 41
    · rw [if_pos e3, if_pos e3, scan_fuel n m _ _ a1 a2]
    rw [if_neg e3, if_neg e3]
    by_cases e4 : c = 32 ∨ c = 10
    · rw [if_pos e4, if_pos e4, scan_fuel n m _ _ a1 a2]
    rw [if_neg e4, if_neg e4]
    have q := dw_lt (p := noEnd) (r := r) (not_end e1 e2 e3 e4)
    rw [scan_fuel n m _ _ (by omega) (by omega)]
def S (l : List Nat) (i : Nat) : List Tk := scan (l.length + 1) l i
theorem S_nil (i : Nat) : S [] i = [] := rfl
theorem S_rem (r : List Nat) (i : Nat) : S (59 :: r) i = S (r.dropWhile noLine) (i + 1 + (r.takeWhile noLine).length) := by
  have d : (59 :: r).dropWhile noLine = r.dropWhile noLine := rfl
  have t : (59 :: r).takeWhile noLine = 59 :: r.takeWhile noLine := rfl
  unfold S
  rw [scan, if_pos rfl, d, t, List.length_cons, List.length_cons, Nat.add_comm (r.takeWhile noLine).length 1, ← Nat.add_assoc]
  have := dw_le noLine r
  exact scan_fuel _ _ _ _ (by omega) (by omega)
theorem S_open (r : List Nat) (i : Nat) : S (40 :: r) i = ([40], i) :: S r (i + 1) := by
  unfold S
  rw [scan, if_neg (by decide), if_pos rfl]; rfl
theorem S_close (r : List Nat) (i : Nat) : S (41 :: r) i = ([41], i) :: S r (i + 1) := by
  unfold S
  rw [scan, if_neg (by decide), if_neg (by decide), if_pos rfl]; rfl
theorem S_blank {c : Nat} (r : List Nat) (i : Nat) (h : c = 32 ∨ c = 10) : S (c :: r) i = S r (i + 1) := by
  unfold S
  rw [scan, if_neg (by omega), if_neg (by omega), if_neg (by omega), if_pos h]; rfl
theorem S_word {c : Nat} (r : List Nat) (i : Nat) (h : noEnd c = true) : S (c :: r) i = (c :: r.takeWhile noEnd, i) :: S (r.dropWhile noEnd) (i + 1 + (r.takeWhile noEnd).length) := by
  have z : ¬ (c = 32 ∨ c = 10 ∨ c = 40 ∨ c = 41 ∨ c = 59) := fun z => by
    have e := (isEnd_iff c).mpr z
    unfold noEnd at h
    rw [e] at h; cases h
  have d : (c :: r).dropWhile noEnd = r.dropWhile noEnd := by rw [List.dropWhile_cons, h]; rfl
  have t : (c :: r).takeWhile noEnd = c :: r.takeWhile noEnd := by rw [List.takeWhile_cons, h]; rfl
  unfold S
  rw [scan, if_neg (by omega), if_neg (by omega), if_neg (by omega), if_neg (by omega), d, t, List.length_cons, List.length_cons, Nat.add_comm (r.takeWhile noEnd).length 1, ← Nat.add_assoc]
  have := dw_le noEnd r
  rw [scan_fuel (r.length + 1) ((r.dropWhile noEnd).length + 1) _ _ (by omega) (by omega)]
/-! ### the data out of the pieces -/
def tRun (len : Nat) : List Tk → List (List Dat) → Out
  | [], st => (match st with
    | [ds] => .ok ds
    | _ => .ends len)
  | (w, i) :: r, st =>
    if w = [40] then (if 60 < st.length then .deep else tRun len r ([] :: st))
    else if w = [41] then (match st with
      | t :: p :: rest => tRun len r ((p ++ [.lst t]) :: rest)
      | _ => .close i)
    else match wordV w, st with
      | some v, t :: rest => tRun len r ((t ++ [datOf v]) :: rest)
      | _, _ => .word i
theorem span_len (p : Nat → Bool) (l : List Nat) : (l.takeWhile p).length + (l.dropWhile p).length = l.length := by
  have := congrArg List.length (List.takeWhile_append_dropWhile (p := p) (l := l))
  rw [List.length_append] at this
  exact this
theorem run_scan : ∀ (n : Nat) (l : List Nat) (i : Nat) (st : List (List Dat)), l.length < n → run n l i st = tRun (i + l.length) (scan n l i) st
  | 0, _, _, _, h => by cases h
  | n + 1, [], i, st, _ => by
    unfold run scan tRun
    rfl
  | n + 1, c :: r, i, st, h => by
    have a1 : r.length < n := Nat.lt_of_succ_lt_succ h
    have l1 : i + (c :: r).length = i + 1 + r.length := by rw [List.length_cons]; omega
    unfold run scan
    by_cases e1 : c = 59
    · rw [if_pos e1, if_pos e1]
      have q := dw_lt (p := noLine) (r := r) (show noLine c = true by rw [e1]; rfl)
      rw [run_scan n _ _ st (by omega)]
      have sl := span_len noLine (c :: r)
      rw [Nat.add_assoc, sl]
    rw [if_neg e1, if_neg e1]
    by_cases e2 : c = 40
    · rw [if_pos e2, if_pos e2, l1]
      unfold tRun
      rw [if_pos rfl]
      split
      · rfl
      · exact run_scan n r (i + 1) _ a1
    rw [if_neg e2, if_neg e2]
    by_cases e3 : c = 41
    · rw [if_pos e3, if_pos e3, l1]
      unfold tRun
      rw [if_neg (by decide), if_pos rfl]
      cases st with
      | nil => rfl
      | cons t s2 => cases s2 with
        | nil => rfl
        | cons p rest => exact run_scan n r (i + 1) _ a1
    rw [if_neg e3, if_neg e3]
    by_cases e4 : c = 32 ∨ c = 10
    · rw [if_pos e4, if_pos e4, l1]
      exact run_scan n r (i + 1) _ a1
    rw [if_neg e4, if_neg e4]
    have ne := not_end e1 e2 e3 e4
    have q := dw_lt (p := noEnd) (r := r) ne
    have sl := span_len noEnd (c :: r)
    have tw : (c :: r).takeWhile noEnd = c :: r.takeWhile noEnd := by rw [List.takeWhile_cons, ne]; rfl
    have w1 : (c :: r).takeWhile noEnd ≠ [40] := fun e => by rw [tw] at e; exact e2 (List.cons.inj e).1
    have w2 : (c :: r).takeWhile noEnd ≠ [41] := fun e => by rw [tw] at e; exact e3 (List.cons.inj e).1
    show _ = tRun _ (_ :: _) st
    unfold tRun
    rw [if_neg w1, if_neg w2]
    cases hv : wordV ((c :: r).takeWhile noEnd) with
    | none => cases st <;> rfl
    | some v => cases st with
      | nil => rfl
      | cons t rest =>
        show run n _ _ _ = tRun _ _ _
        rw [run_scan n _ _ _ (by omega), Nat.add_assoc, sl]
end My
namespace My
open PySem PySem.Spec PyProof.Rows L2 TL
theorem tR40 {len : Nat} {w : List Nat} {i : Nat} {r : List Tk} {st : List (List Dat)} (h : w = [40]) : tRun len ((w, i) :: r) st = if 60 < st.length then .deep else tRun len r ([] :: st) := by
  conv => lhs; unfold tRun
  rw [if_pos h]
theorem tR41 {len : Nat} {w : List Nat} {i : Nat} {r : List Tk} {st : List (List Dat)} (n : w ≠ [40]) (h : w = [41]) : tRun len ((w, i) :: r) st = match st with
    | t :: p :: rest => tRun len r ((p ++ [.lst t]) :: rest)
    | _ => .close i := by
  conv => lhs; unfold tRun
  refine (if_neg n).trans ((if_pos h).trans ?_)
  cases st with
  | nil => rfl
  | cons t s2 => cases s2 <;> rfl
theorem tRw {len : Nat} {w : List Nat} {i : Nat} {r : List Tk} {st : List (List Dat)} (n : w ≠ [40]) (m : w ≠ [41]) : tRun len ((w, i) :: r) st = match wordV w, st with
    | some v, t :: rest => tRun len r ((t ++ [datOf v]) :: rest)
    | _, _ => .word i := by
  conv => lhs; unfold tRun
  refine (if_neg n).trans ((if_neg m).trans ?_)
  cases wordV w <;> cases st <;> rfl
/-! ### the words of a text, whatever their places -/
def WS (l : List Nat) (ws : List (List Nat)) : Prop := ∀ i, (S l i).map (·.1) = ws
theorem WS.nil : WS [] [] := fun i => rfl
theorem WS.blank {c : Nat} {l : List Nat} {ws : List (List Nat)} (hc : c = 32 ∨ c = 10) (h : WS l ws) : WS (c :: l) ws := fun i => by
  rw [S_blank _ _ hc]; exact h _
theorem WS.open_ {l : List Nat} {ws : List (List Nat)} (h : WS l ws) : WS (40 :: l) ([40] :: ws) := fun i => by
  rw [S_open, List.map_cons, h _]
theorem WS.close_ {l : List Nat} {ws : List (List Nat)} (h : WS l ws) : WS (41 :: l) ([41] :: ws) := fun i => by
  rw [S_close, List.map_cons, h _]
theorem line_span : ∀ (m l : List Nat), (∀ c ∈ m, c ≠ 10) → (m ++ 10 :: l).dropWhile noLine = 10 :: l
  | [], l, _ => rfl
  | c :: m, l, h => by
    have n : noLine c = true := by
      unfold noLine
      rw [decide_eq_false (h c List.mem_cons_self)]; rfl
    rw [List.cons_append, List.dropWhile_cons, n]
    exact line_span m l fun x hx => h x (List.mem_cons_of_mem _ hx)
/-- a remark with its line feed -/
theorem WS.remark {m l : List Nat} {ws : List (List Nat)} (hm : ∀ c ∈ m, c ≠ 10) (h : WS l ws) : WS (59 :: (m ++ 10 :: l)) ws := fun i => by
  rw [S_rem, line_span m l hm, S_blank _ _ (.inr rfl)]
  exact h _
def Parted (r : List Nat) : Prop := r = [] ∨ ∃ c t, r = c :: t ∧ noEnd c = false
theorem span_wd : ∀ {w r : List Nat}, Wd w → Parted r → (w ++ r).takeWhile noEnd = w ∧ (w ++ r).dropWhile noEnd = r
  | [], r, _, hr => by
    rcases hr with e | ⟨c, t, e, h⟩
    · subst e; exact ⟨rfl, rfl⟩
    · subst e
      refine ⟨?_, ?_⟩
      · rw [List.nil_append, List.takeWhile_cons, h]; rfl
      · rw [List.nil_append, List.dropWhile_cons, h]; rfl
  | c :: w, r, hw, hr => by
    have hc := hw c List.mem_cons_self
    obtain ⟨i1, i2⟩ := span_wd (w := w) (r := r) (fun x hx => hw x (List.mem_cons_of_mem _ hx)) hr
    refine ⟨?_, ?_⟩
    · rw [List.cons_append, List.takeWhile_cons, hc, i1]; rfl
    · rw [List.cons_append, List.dropWhile_cons, hc, i2]; rfl
theorem WS.word {w l : List Nat} {ws : List (List Nat)} (ne : w ≠ []) (hw : Wd w) (hl : Parted l) (h : WS l ws) : WS (w ++ l) (w :: ws) := fun i => by
  cases w with
  | nil => exact absurd rfl ne
  | cons c w =>
    have hc := hw c List.mem_cons_self
    obtain ⟨s1, s2⟩ := span_wd (w := w) (r := l) (fun x hx => hw x (List.mem_cons_of_mem _ hx)) hl
    rw [List.cons_append, S_word _ _ hc, s1, s2, List.map_cons, h _]
/-! ### the data out of the words -/
/-- a datum that reads back: its atoms are their words, and it is at most n lists deep -/
def BackD : Nat → Dat → Prop
  | _, .int i => i.natAbs < 10 ^ 40
  | _, .sym s => isSymL (tl s) = true
  | 0, .lst _ => False
  | n + 1, .lst ds => ∀ d ∈ ds, BackD n d
theorem tok_split {ts : List Tk} {a b : List (List Nat)} (h : ts.map (·.1) = a ++ b) : ∃ x y, ts = x ++ y ∧ x.map (·.1) = a ∧ y.map (·.1) = b := by
  obtain ⟨x, y, e, ea, eb⟩ := List.map_eq_append_iff.mp h
  exact ⟨x, y, e, ea, eb⟩
theorem back_atom {len : Nat} {w : List Nat} {v : V} {t : List Dat} {st : List (List Dat)} {x r : List Tk} (hv : wordV w = some v) (n1 : w ≠ [40]) (n2 : w ≠ [41]) (h : x.map (·.1) = [w]) : tRun len (x ++ r) (t :: st) = tRun len r ((t ++ [datOf v]) :: st) := by
  match x, h with
  | [(w', i)], h =>
    have e : w' = w := by simpa using h
    subst e
    show tRun len ((w', i) :: r) (t :: st) = _
    rw [tRw n1 n2, hv]
mutual
theorem back_one (len : Nat) : ∀ (d : Dat) (n : Nat) (x r : List Tk) (t : List Dat) (st : List (List Dat)), BackD n d → x.map (·.1) = wds d → n + (st.length + 1) ≤ 61 → tRun len (x ++ r) (t :: st) = tRun len r ((t ++ [d]) :: st)
  | .int i, n, x, r, t, st, hb, hx, hd => by
    have hb' : i.natAbs < 10 ^ 40 := by cases n <;> exact hb
    have a := int_atom i
    have e : wds (.int i) = [intL i] := by unfold wds; rfl
    rw [e] at hx
    exact back_atom (v := .int i) (int_word hb') (fun z => (a.2 40 (by rw [z]; exact List.mem_cons_self)).2.1 rfl) (fun z => (a.2 41 (by rw [z]; exact List.mem_cons_self)).2.2 rfl) hx
  | .sym s, n, x, r, t, st, hb, hx, hd => by
    have hb' : isSymL (tl s) = true := by cases n <;> exact hb
    have a := sym_atom hb'
    have e : wds (.sym s) = [tl s] := by unfold wds; rfl
    rw [e] at hx
    exact back_atom (v := .str s) (sym_word hb') (fun z => (a.2 40 (by rw [z]; exact List.mem_cons_self)).2.1 rfl) (fun z => (a.2 41 (by rw [z]; exact List.mem_cons_self)).2.2 rfl) hx
  | .lst ds, 0, x, r, t, st, hb, hx, hd => hb.elim
  | .lst ds, n + 1, x, r, t, st, hb, hx, hd => by
    have e : wds (.lst ds) = [[40]] ++ (wdsL ds ++ [[41]]) := by unfold wds; rfl
    rw [e] at hx
    obtain ⟨x1, x2, ex, h1, h2⟩ := tok_split hx
    obtain ⟨x3, x4, ex2, h3, h4⟩ := tok_split h2
    subst ex ex2
    match x1, h1, x4, h4 with
    | [(w1, i1)], h1, [(w4, i4)], h4 =>
      have e1 : w1 = [40] := by simpa using h1
      have e4 : w4 = [41] := by simpa using h4
      subst e1 e4
      have l60 : ¬ 60 < (t :: st).length := by rw [List.length_cons]; omega
      show tRun len (([40], i1) :: ((x3 ++ [([41], i4)]) ++ r)) (t :: st) = _
      rw [tR40 rfl, if_neg l60, List.append_assoc, back_list len ds n x3 _ [] (t :: st) hb h3 (by rw [List.length_cons]; omega)]
      show tRun len (([41], i4) :: r) ((([] : List Dat) ++ ds) :: t :: st) = _
      rw [tR41 (by decide) rfl, List.nil_append]
theorem back_list (len : Nat) : ∀ (ds : List Dat) (n : Nat) (x r : List Tk) (t : List Dat) (st : List (List Dat)), (∀ d ∈ ds, BackD n d) → x.map (·.1) = wdsL ds → n + (st.length + 1) ≤ 61 → tRun len (x ++ r) (t :: st) = tRun len r ((t ++ ds) :: st)
  | [], n, x, r, t, st, hb, hx, hd => by
    have e : wdsL [] = [] := by unfold wdsL; rfl
    rw [e] at hx
    have ex : x = [] := List.map_eq_nil_iff.mp hx
    subst ex
    rw [List.append_nil]; rfl
  | d :: ds, n, x, r, t, st, hb, hx, hd => by
    have e : wdsL (d :: ds) = wds d ++ wdsL ds := by conv => lhs; unfold wdsL
    rw [e] at hx
    obtain ⟨x1, x2, ex, h1, h2⟩ := tok_split hx
    subst ex
    rw [List.append_assoc, back_one len d n x1 _ t st (hb d List.mem_cons_self) h1 hd, back_list len ds n x2 r _ st (fun y hy => hb y (List.mem_cons_of_mem _ hy)) h2 hd, List.append_assoc]
    rfl
end
/-- a text whose words are those of the data -/
theorem run_words {z : Str} {ds : List Dat} (h : WS (tl z) (wdsL ds)) (hb : ∀ d ∈ ds, BackD 60 d) : run (z.length + 1) (tl z) 0 [[]] = .ok ds := by
  have lz := len_tl z
  rw [run_scan (z.length + 1) (tl z) 0 [[]] (by omega)]
  have e : scan (z.length + 1) (tl z) 0 = S (tl z) 0 ++ [] := by rw [lz, List.append_nil]; rfl
  rw [e, back_list _ ds 60 (S (tl z) 0) [] [] [] hb (h 0) (by decide)]
  rfl
end My
namespace My
open PySem PySem.Spec PyProof.Rows L2 TL
/-! ### gaps -/
structure GapOk (b : Bool) (g : List Nat) : Prop where
  ws : ∀ l ws, WS l ws → WS (g ++ l) ws
  hd : Parted g
  ne : b = true → g ≠ []
  len : g.length ≤ 12
def spGap : Sp := fun vs H Q _ => ∃ (S L : Addr) (b : Bool), vs = [.ref S, .bl b] ∧ LS H S L ∧ ∀ z H', GapOk b (tl z) → LS H' S L → Sm (Two S L) H H' → Q (.str z) H'
abbrev sGap : Stmt := top 32
abbrev NG : List Str := ["state", "least", "pick", "signs", "k"]
/-- the signs of a remark drawn so far, at D -/
def RmP (S L D : Addr) (H0 : Hp) (i : Nat) (H' : Hp) : Prop := ∃ ys : List Str, H' D = some (.lst (ys.map V.str)) ∧ ys.length = i ∧ (∀ y ∈ ys, ∃ c, y = ⟨#[c]⟩ ∧ c ≠ 10) ∧ LS H' S L ∧ Sm (Two S L) H0 H'
theorem rm_text (ys : List Str) (h : ∀ y ∈ ys, ∃ c, y = ⟨#[c]⟩ ∧ c ≠ 10) : (tl (Txt.join ("" : Str) ys)).length = ys.length ∧ (∀ c ∈ tl (Txt.join ("" : Str) ys), c ≠ 10) ∧ (ys.map (·.length)).sum = ys.length := by
  rw [tl_join0]
  induction ys with
  | nil => exact ⟨rfl, by simp, rfl⟩
  | cons y r ih =>
    obtain ⟨i1, i2, i3⟩ := ih fun x hx => h x (List.mem_cons_of_mem _ hx)
    obtain ⟨c, ec, hc⟩ := h y List.mem_cons_self
    subst ec
    refine ⟨?_, ?_, ?_⟩
    · rw [List.map_cons, List.flatten_cons, List.length_append, i1, List.length_cons]
      show 1 + r.length = r.length + 1
      omega
    · intro x hx
      rw [List.map_cons, List.flatten_cons] at hx
      rcases List.mem_append.mp hx with m | m
      · have : x = c := by simpa [tl] using m
        rw [this]; exact hc
      · exact i2 x m
    · rw [List.map_cons, List.sum_cons, i3, List.length_cons]
      show 1 + r.length = r.length + 1
      omega
theorem gap_of {b : Bool} {g : List Nat} (h : ∀ c ∈ g, c = 32 ∨ c = 10) (ne : b = true → g ≠ []) (len : g.length ≤ 12) : GapOk b g := by
  refine ⟨fun l ws w => ?_, ?_, ne, len⟩
  · clear ne len
    induction g with
    | nil => exact w
    | cons c r ih => exact .blank (h c List.mem_cons_self) (ih fun x hx => h x (List.mem_cons_of_mem _ hx))
  · cases g with
    | nil => exact .inl rfl
    | cons c r =>
      refine .inr ⟨c, r, rfl, ?_⟩
      rcases h c List.mem_cons_self with e | e <;> rw [e] <;> decide +kernel
section
variable {P : Program} {w : World} {K : PySem.W.Frag} {mg : Str → Option Value} {base : Heap}
theorem scGap : FnScope NG ["state", "least"] (defScope sGap) := ⟨rfl, rfl, rfl, by decide +kernel, rfl, by decide +kernel, by decide +kernel⟩
theorem ok_gap {f fT : Addr} {fd dT : FuncData} (F : Fun K "_law_gap" "_law_gap" sGap f fd) (B : Blt mg) (G : Cal P w K mg base CX0 2 "_law_take" ["state", "limit"] spTake fT dT) : FnOk P w K mg base CX0 3 f fd ["state", "least"] spGap := by
  refine F.ok scGap (fun vs H Q E h => ?_) (fun cdv A outer s H vs Q E hr h => ?_)
  · obtain ⟨S, L, b, rfl, _⟩ := h
    rfl
  obtain ⟨S, L, b, rfl, hl, q⟩ := h
  have nd := scGap.nd
  refine ⟨_, pss_cons (ps_set (i := 2) nd rfl (Or.inl rfl) (pe_call G.ok hr rfl G.g G.k G.b .nil pass0 (pa_cons (pv 0) (pa_cons pe_int pa_nil))))
    (pss_cons (ps_if (pt_cmpR op_eq (pv 2) pe_int (nomark _))
      (pss_cons (ps_set (i := 3) nd rfl (Or.inr rfl) pe_str)
      (pss_one (ps_ret (pe_op op_add_str (pe_op op_add_str pe_str (pe_bm PySem.F.plainAttrs_str PySem.F.slot_str_join PySem.F.type_str_join mt_join pe_str (pa_cons
        (pe_lc (own := [("k", 4)]) (g := gName 4) (tt := tYes) rfl nd (pi_range1 (by rfl) B.range (pa_cons (pe_call G.ok hr rfl G.g G.k G.b .nil pass0 (pa_cons (pv 0) (pa_cons pe_int pa_nil))) pa_nil)) (blkOk_by (N := NG) (sc := defScope sGap) (by decide +kernel)) (fun _ _ _ _ _ => pg_name (i := 4) nd rfl (Or.inl rfl))
          (fun _ _ _ _ _ => pts_nil) (fun _ _ _ _ _ => pe_ix ix_str (pv 3) (pe_call G.ok hr rfl G.g G.k G.b .nil pass0 (pa_cons (pv 0) (pa_cons pe_int pa_nil))) (fun _ _ => rfl))) pa_nil))) pe_str)))) pss_nil)
    (pss_cons (ps_if (pt_cmpR op_eq (pv 2) pe_int (nomark _)) (pss_one (ps_ret (pe_ix (r := rIxL K) ix_list (pe_lst (pa_cons pe_str (pa_cons pe_str (pa_cons pe_str (pa_cons pe_str pa_nil))))) (pe_call G.ok hr rfl G.g G.k G.b .nil pass0 (pa_cons (pv 0) (pa_cons pe_int pa_nil))) (fun _ _ => rfl)))) pss_nil)
    (pss_cons (ps_if (PW.pt (pw_or (pt_cmpR op_lt (pv 2) pe_int (nomark _)) (pw_or1 (pt_val (pv 1))))) (pss_one (ps_ret pe_str)) pss_nil)
    (pss_one (ps_ret pe_str))))), ?_⟩
  refine ⟨_, rfl, S, L, 8, rfl, hl, by decide, nb (by decide), fun pick H1 p0 p1 l1 s1 => ?_⟩
  have e32 : tl (" " : Str) = [32] := by decide +kernel
  have one : ∀ b, GapOk b (tl (" " : Str)) := fun b => by
    rw [e32]
    exact gap_of (fun c hc => .inl (List.mem_singleton.mp hc)) (fun _ => by simp) (by decide)
  refine ⟨_, rfl, rfl, _, rfl, ?_⟩
  refine ite2 (fun c => ?_) (fun c => ?_)
  · refine ⟨rfl, _, rfl, S, L, 9, rfl, l1, by decide, nb (by decide), fun g H2 g0 g1 l2 s2 => ?_⟩
    refine ⟨g, rfl, by omega, by omega, fun D hD => ?_⟩
    have nD := l2.two hD
    have l20 : (tl (" abz019()();;-@#$&'~" : Str)).length = 20 := by decide +kernel
    have free : (tl (" abz019()();;-@#$&'~" : Str)).all (fun c => decide (c ≠ 10)) = true := by decide +kernel
    refine lc_range (lo := 0) (RmP S L D H2) ⟨[], upd_same, rfl, by simp, l2.new hD, Sm.new hD⟩ (fun i H5 hi t => ?_) (fun H5 t => ?_)
    · obtain ⟨ys, t1, t2, t3, t4, t5⟩ := t
      refine ⟨rfl, _, rfl, _, rfl, S, L, 20, rfl, t4, by decide, nb (by decide), fun h H6 h0 h1 l6 s6 => ?_⟩
      obtain ⟨c, ec, mc⟩ := atI_some (xs := tl (" abz019()();;-@#$&'~" : Str)) h0 (by rw [l20]; exact h1)
      have t1' := s6.lst nD t1
      refine ⟨_, h, c, rfl, rfl, by decide +kernel, ec, _, t1', by rw [List.length_map, t2]; exact small1000 (by omega), ys ++ [⟨#[c]⟩], by rw [upd_same, List.map_append]; rfl, by simp [t2], ?_, ?_, (t5.trans s6).mut hD (ntbl_l t1')⟩
      · intro y hy
        rcases List.mem_append.mp hy with m | m
        · exact t3 y m
        · rw [List.mem_singleton.mp m]
          exact ⟨c, rfl, of_decide_eq_true (List.all_eq_true.mp free c mc)⟩
      · obtain ⟨cs, d, a1, a2, a3⟩ := l6
        refine ⟨cs, d, ?_, ?_, a3⟩
        · rw [upd_ne (fun z => nD (.inl z.symm))]; exact a1
        · rw [upd_ne (fun z => nD (.inr z.symm))]; exact a2
    · obtain ⟨ys, t1, t2, t3, t4, t5⟩ := t
      obtain ⟨j1, j2, j3⟩ := rm_text ys t3
      have e0 : ("" : Str).length = 0 := by decide +kernel
      refine ⟨_, D, ys, rfl, rfl, .inl (SqL.of t1), by rw [j3, e0]; omega, ?_⟩
      generalize Txt.join ("" : Str) ys = m at j1 j2
      have lm := len_tl m
      have l1c : (";" : Str).length = 1 := by decide +kernel
      have l2c : ("\n" : Str).length = 1 := by decide +kernel
      refine ⟨_, _, rfl, rfl, by rw [l1c]; exact Nat.le_trans (show 1 + m.length ≤ 100 by omega) (by decide), _, _, rfl, rfl, by rw [app_len, l1c, l2c]; exact Nat.le_trans (show 1 + m.length + 1 ≤ 100 by omega) (by decide), ?_⟩
      refine q _ H5 ?_ t4 (s1.trans (s2.trans t5))
      have e59 : tl (";" : Str) = [59] := by decide +kernel
      have e10 : tl ("\n" : Str) = [10] := by decide +kernel
      have et : tl (";" ++ m ++ "\n") = 59 :: (tl m ++ [10]) := by rw [tl_append, tl_append, e59, e10]; simp
      rw [et]
      refine ⟨fun l ws h => ?_, .inr ⟨59, _, rfl, by decide +kernel⟩, fun _ => by simp, by rw [List.length_cons, List.length_append, List.length_singleton]; omega⟩
      have : 59 :: (tl m ++ [10]) ++ l = 59 :: (tl m ++ 10 :: l) := by simp
      rw [this]
      exact .remark j2 h
  refine ⟨_, rfl, rfl, _, rfl, ?_⟩
  refine ite2 (fun c => ?_) (fun c => ?_)
  · refine ev_pick (K := K) (σ := [some (V.ref S), some (V.bl b), some (V.int pick), none, none]) (ta := tCons (tC (.str "\n")) (tCons (tC (.str "  ")) (tCons (tC (.str " \n ")) (tCons (tC (.str "\n\n")) tNil)))) (ys := ["\n", "  ", " \n ", "\n\n"]) rfl l1 (by decide) (nb (by decide)) rfl (by decide) (fun H Q q => q) fun y H4 hy l4 s4 => ?_
    refine q y H4 ?_ l4 (s1.trans s4)
    have e : (["\n", "  ", " \n ", "\n\n"] : List Str).all (fun y => (tl y).all (fun c => decide (c = 32 ∨ c = 10)) && (!(tl y).isEmpty && decide ((tl y).length ≤ 12))) = true := by decide +kernel
    have k := List.all_eq_true.mp e y hy
    simp only [Bool.and_eq_true, Bool.not_eq_true', decide_eq_true_eq] at k
    exact gap_of (fun c hc => of_decide_eq_true (List.all_eq_true.mp k.1 c hc)) (fun _ z => by rw [z] at k; cases k.2.1) k.2.2
  refine ⟨_, rfl, _, _, rfl, rfl, _, rfl, ?_⟩
  refine ite2 (fun c => q _ H1 (one b) l1 s1) (fun c => ?_)
  refine ⟨_, rfl, b, rfl, ?_⟩
  cases b with
  | true => exact q _ H1 (one true) l1 s1
  | false =>
    refine q _ H1 ?_ l1 s1
    have e0 : tl ("" : Str) = [] := by decide +kernel
    rw [e0]
    exact gap_of (fun c hc => by cases hc) (fun z => nomatch z) (by decide)
end
end My
namespace My
open PySem PySem.Spec PyProof.Rows L2 TL
/-! ### a text is laid out -/
/-- a piece: an atom of signs that part no words, or a bracket -/
def PcOk (w : List Nat) : Prop := (Atom w ∧ Wd w) ∨ w = [40] ∨ w = [41]
/-- not within '()' -/
def inPar (x : Str) : Bool := !(Builtin.Str.occurrences ("()" : Str) x 0 ("()" : Str).length 1).isEmpty
theorem par_atom {x : Str} (h : Atom (tl x)) : inPar x = false := by
  refine Bool.eq_false_iff.mpr fun z => ?_
  obtain ⟨i, hi, hs⟩ := (StrLaws.found_iff ("()" : Str) x).mp z
  rw [StrLaws.subAt_eq] at hs
  have e : ((("()" : Str).cps.toList.drop i).take x.length) = tl x := by simpa [tl] using hs
  have ep : ("()" : Str).cps.toList = [40, 41] := by decide +kernel
  rw [ep] at e
  cases hx : tl x with
  | nil => exact h.1 hx
  | cons c r =>
    have hc := h.2 c (by rw [hx]; exact List.mem_cons_self)
    rw [hx] at e
    have m : c ∈ ([40, 41] : List Nat) := List.mem_of_mem_drop (List.mem_of_mem_take (by rw [e]; exact List.mem_cons_self))
    simp at m
    omega
theorem par_br {x : Str} (h : tl x = [40] ∨ tl x = [41]) : inPar x = true := by
  rcases h with h | h
  · have e : x = "(" := ext_tl (by rw [h]; decide +kernel)
    rw [e]; decide +kernel
  · have e : x = ")" := ext_tl (by rw [h]; decide +kernel)
    rw [e]; decide +kernel
theorem par_at {x : Str} (h : PcOk (tl x)) : (inPar x = false ↔ Atom (tl x)) := by
  rcases h with h | h
  · exact ⟨fun _ => h.1, fun _ => par_atom h.1⟩
  · refine ⟨fun z => ?_, fun a => par_atom a⟩
    rw [par_br h] at z; cases z
/-- what is laid out so far; last: the piece before -/
def Laid (t : List Nat) (done : List (List Nat)) (last : List Nat) : Prop := ∀ l ws, (Atom last → Parted l) → WS l ws → WS (t ++ l) (done ++ ws)
theorem Laid.more {t last p g : List Nat} {done : List (List Nat)} {b : Bool} (h : Laid t done last) (hp : PcOk p) (hg : GapOk b g) (hb : Atom last → Atom p → b = true) : Laid (t ++ g ++ p) (done ++ [p]) p := by
  intro l ws hl w
  have w1 : WS (p ++ l) (p :: ws) := by
    rcases hp with ⟨a, d⟩ | e | e
    · exact .word a.1 d (hl a) w
    · rw [e]; exact .open_ w
    · rw [e]; exact .close_ w
  have w2 := hg.ws _ _ w1
  have w3 := h (g ++ (p ++ l)) (p :: ws) (fun a => ?_) w2
  · have e1 : t ++ g ++ p ++ l = t ++ (g ++ (p ++ l)) := by simp only [List.append_assoc]
    have e2 : done ++ [p] ++ ws = done ++ p :: ws := by simp
    rw [e1, e2]
    exact w3
  · rcases hg.hd with e | ⟨c, s, e, n⟩
    · rw [e, List.nil_append]
      rcases hp with ⟨a2, d⟩ | e2 | e2
      · exact absurd e (hg.ne (hb a a2))
      · rw [e2]; exact .inr ⟨40, l, rfl, by decide +kernel⟩
      · rw [e2]; exact .inr ⟨41, l, rfl, by decide +kernel⟩
    · rw [e]
      exact .inr ⟨c, s ++ (p ++ l), rfl, n⟩
def Lays (t : List Nat) (done : List (List Nat)) : Prop := ∀ l ws, Parted l → WS l ws → WS (t ++ l) (done ++ ws)
theorem Lays.ws {t : List Nat} {done : List (List Nat)} (h : Lays t done) : WS t done := by
  have w := h [] [] (.inl rfl) .nil
  rw [List.append_nil, List.append_nil] at w
  exact w
theorem Laid.end_ {t last g : List Nat} {done : List (List Nat)} {b : Bool} (h : Laid t done last) (hg : GapOk b g) : Lays (t ++ g) done := by
  intro l ws hl hw
  have w := h (g ++ l) ws (fun _ => ?_) (hg.ws l ws hw)
  · rw [← List.append_assoc] at w
    exact w
  · rcases hg.hd with e | ⟨c, s, e, n⟩
    · rw [e, List.nil_append]; exact hl
    · rw [e]; exact .inr ⟨c, s ++ l, rfl, n⟩
def spLay : Sp := fun vs H Q _ => ∃ (S L P : Addr) (ys : List Str), vs = [.ref S, .ref P] ∧ LS H S L ∧ H P = some (.lst (ys.map V.str)) ∧ ¬ Two S L P ∧ (∀ y ∈ ys, PcOk (tl y) ∧ y.length ≤ 50) ∧ ys.length ≤ 12000 ∧
  ∀ z H', Lays (tl z) (ys.map tl) → z.length ≤ 800000 → LS H' S L → Sm (Two S L) H H' → Q (.str z) H'
abbrev sLay : Stmt := top 34
abbrev NY : List Str := ["state", "pieces", "text", "before", "piece"]
section
variable {P : Program} {w : World} {K : PySem.W.Frag} {mg : Str → Option Value} {base : Heap}
theorem scLay : FnScope NY ["state", "pieces"] (defScope sLay) := ⟨rfl, rfl, rfl, by decide +kernel, rfl, by decide +kernel, by decide +kernel⟩
theorem ok_lay {f fG : Addr} {fd dG : FuncData} (F : Fun K "_law_laid_out" "_law_laid_out" sLay f fd) (B : Blt mg) (G : Cal P w K mg base CX0 3 "_law_gap" ["state", "least"] spGap fG dG) : FnOk P w K mg base CX0 4 f fd ["state", "pieces"] spLay := by
  refine F.ok scLay (fun vs H Q E h => ?_) (fun cdv A outer s H vs Q E hr h => ?_)
  · obtain ⟨S, L, P, ys, rfl, _⟩ := h
    rfl
  obtain ⟨S, L, P, ys, rfl, hl, hP, nP, hy, few, q⟩ := h
  have nd := scLay.nd
  refine ⟨_, pss_cons (ps_set (i := 2) nd rfl (Or.inl rfl) (pe_call G.ok hr rfl G.g G.k G.b .nil pass0 (pa_cons (pv 0) (pa_cons pe_bl pa_nil))))
    (pss_cons (ps_set (i := 3) nd rfl (Or.inl rfl) pe_str)
    (pss_cons (ps_for PassesOwn.never rfl (pi_list (pv 1)) (pg_name (i := 4) nd rfl (Or.inl rfl))
      (pss_cons (ps_set (i := 2) nd rfl (Or.inl rfl) (pe_op op_add_str (pe_op op_add_str (pv 2) (pe_call G.ok hr rfl G.g G.k G.b .nil pass0 (pa_cons (pv 0) (pa_cons (pe_and (pe_cmpR op_notin_str (pv 3) pe_str (by rfl)) (pe_one (pe_cmpR op_notin_str (pv 4) pe_str (by rfl)))) pa_nil)))) (pv 4)))
      (pss_one (ps_set (i := 3) nd rfl (Or.inl rfl) (pv 4)))))
    (pss_one (ps_ret (pe_op op_add_str (pv 2) (pe_call G.ok hr rfl G.g G.k G.b .nil pass0 (pa_cons (pv 0) (pa_cons pe_bl pa_nil)))))))), ?_⟩
  refine ⟨_, rfl, S, L, false, rfl, hl, fun g0 H1 k0 l1 s1 => ?_⟩
  have eb : tl ("(" : Str) = [40] := by decide +kernel
  have big' : big = 1000000 := rfl
  have lay0 : Laid (tl g0) [] [40] := fun l ws _ h => k0.ws l ws h
  have lg0 : g0.length ≤ 12 := by rw [len_tl]; exact k0.len
  refine ⟨_, rfl, P, rfl, ⟨_, SqL.of (s1.lst nP hP)⟩, for_list (xs := ys.map V.str) (fun k σ H' => ∃ (t bf : Str) (v4 : Option V), σ = [some (.ref S), some (.ref P), some (.str t), some (.str bf), v4] ∧ Laid (tl t) ((ys.take k).map tl) (tl bf) ∧ PcOk (tl bf) ∧ t.length ≤ 12 + 62 * k ∧ LS H' S L ∧ Sm (Two S L) H H')
    ⟨g0, "(", none, rfl, by rw [eb]; exact lay0, by rw [eb]; exact .inr (.inl rfl), by omega, l1, s1⟩ (fun k σ H' _ ⟨t, bf, v4, _, _, _, _, _, c⟩ => SqL.of (c.lst nP hP)) ?_ ?_⟩
  · rintro k x σ H' hk ⟨t, bf, v4, rfl, hlay, hbf, lt, l5, s5⟩
    rw [List.getElem?_map] at hk
    obtain ⟨y, hy1, ex⟩ : ∃ y, ys[k]? = some y ∧ V.str y = x := by
      cases e : ys[k]? with
      | none => rw [e] at hk; cases hk
      | some y => rw [e] at hk; exact ⟨y, rfl, Option.some.inj hk⟩
    subst ex
    obtain ⟨py, ly⟩ := hy y (List.mem_of_getElem? hy1)
    have kl : k < ys.length := (List.getElem?_eq_some_iff.mp hy1).1
    have step : ∀ (b : Bool), (Atom (tl bf) → Atom (tl y) → b = true) → tCall spGap [] E0 (tCons (tVar 0) (tCons (tC (.bl b)) tNil)) [some (.ref S), some (.ref P), some (.str t), some (.str bf), some (.str y)] H' (fun v H2 => ∃ g : Str, v = .str g ∧ GapOk b (tl g) ∧ LS H2 S L ∧ Sm (Two S L) H' H2) := fun b _ =>
      ⟨_, rfl, S, L, b, rfl, l5, fun g H2 kg l2 s2 => ⟨g, rfl, kg, l2, s2⟩⟩
    have fin : ∀ (b : Bool) (g : Str) (H2 : Hp), (Atom (tl bf) → Atom (tl y) → b = true) → GapOk b (tl g) → LS H2 S L → Sm (Two S L) H' H2 →
        t.length + g.length ≤ sizeLine ∧ ((t ++ g).length + y.length ≤ sizeLine ∧ ∃ (t' bf' : Str) (v4 : Option V), [some (V.ref S), some (.ref P), some (.str (t ++ g ++ y)), some (.str y), some (.str y)] = [some (.ref S), some (.ref P), some (.str t'), some (.str bf'), v4] ∧ Laid (tl t') ((ys.take (k + 1)).map tl) (tl bf') ∧ PcOk (tl bf') ∧ t'.length ≤ 12 + 62 * (k + 1) ∧ LS H2 S L ∧ Sm (Two S L) H H2) := by
      intro b g H2 hb kg l2 s2
      have lg : g.length ≤ 12 := by rw [len_tl]; exact kg.len
      refine ⟨Nat.le_trans (show t.length + g.length ≤ 900000 by omega) (by decide), by rw [app_len]; exact Nat.le_trans (show t.length + g.length + y.length ≤ 900000 by omega) (by decide), _, _, _, rfl, ?_, py, by rw [app_len, app_len]; omega, l2, s5.trans s2⟩
      rw [tl_append, tl_append, take_more hy1, List.map_append]
      exact hlay.more py kg hb
    refine ⟨_, rfl, _, rfl, _, rfl, _, _, rfl, rfl, _, rfl, ?_⟩
    change if (!inPar bf) = true then _ else _
    cases hb : inPar bf with
    | true =>
      refine ⟨S, L, false, rfl, l5, fun g H2 kg l2 s2 => ?_⟩
      obtain ⟨f1, f2, f3⟩ := fin false g H2 (fun a => by rw [par_atom a] at hb; cases hb) kg l2 s2
      exact ⟨_, _, rfl, rfl, f1, _, rfl, _, _, rfl, rfl, f2, _, rfl, f3⟩
    | false =>
      refine ⟨_, rfl, _, _, rfl, rfl, S, L, !inPar y, rfl, l5, fun g H2 kg l2 s2 => ?_⟩
      obtain ⟨f1, f2, f3⟩ := fin (!inPar y) g H2 (fun _ a => by rw [par_atom a]; rfl) kg l2 s2
      exact ⟨_, _, rfl, rfl, f1, _, rfl, _, _, rfl, rfl, f2, _, rfl, f3⟩
  · rintro σ H' ⟨t, bf, v4, rfl, hlay, hbf, lt, l5, s5⟩
    rw [List.length_map] at hlay lt
    refine ⟨_, rfl, _, rfl, S, L, false, rfl, l5, fun g H2 kg l2 s2 => ?_⟩
    have lg : g.length ≤ 12 := by rw [len_tl]; exact kg.len
    refine ⟨_, _, rfl, rfl, Nat.le_trans (show t.length + g.length ≤ 900000 by omega) (by decide), q _ H2 ?_ (by rw [app_len]; omega) l2 (s5.trans s2)⟩
    rw [List.take_length] at hlay
    rw [tl_append]
    exact hlay.end_ kg
end
end My
namespace My
open PySem PySem.Spec PyProof.Rows L2 TL
/-! ### drawn data -/
def Drawn : Nat → Dat → Prop
  | _, .int i => i.natAbs < 10 ^ 40
  | _, .sym s => isSymL (tl s) = true ∧ s.length ≤ 50
  | 0, .lst _ => False
  | n + 1, .lst ds => ds.length ≤ 3 ∧ ∀ d ∈ ds, Drawn n d
/-- not the state's own lists -/
abbrev Off (S L : Addr) : Addr → Prop := fun a => ¬ Two S L a
theorem Rep.off {S L : Addr} {H H' : Hp} {v : V} {d : Dat} (r : Rep (Off S L) H v d) (s : Sm (Two S L) H H') : Rep (Off S L) H' v d := r.keep (fun a vs hc e => s.lst hc e) fun _ z => z
theorem RepL.off {S L : Addr} {H H' : Hp} {v : List V} {d : List Dat} (r : RepL (Off S L) H v d) (s : Sm (Two S L) H H') : RepL (Off S L) H' v d := r.keep (fun a vs hc e => s.lst hc e) fun _ z => z
def spDat (n : Nat) : Sp := fun vs H Q _ => ∃ (S L : Addr) (r : Int), vs = [.ref S, .int r] ∧ LS H S L ∧ 0 ≤ r ∧ r < (n : Int) ∧ n ≤ 1000 ∧ ∀ v d H', Drawn r.toNat d → Rep (fun a => Off S L a ∧ H a = none) H' v d → LS H' S L → Sm (Two S L) H H' → Q v H'
abbrev sDat : Stmt := top 31
abbrev ND : List Str := ["state", "room", "pick", "k"]
section
variable {P : Program} {w : World} {K : PySem.W.Frag} {mg : Str → Option Value} {base : Heap}
theorem scDat : FnScope ND ["state", "room"] (defScope sDat) := ⟨rfl, rfl, rfl, by decide +kernel, rfl, by decide +kernel, by decide +kernel⟩
theorem ok_dat {n : Nat} {f fT fI fS : Addr} {fd dT dI dS : FuncData} (F : Fun K "_law_datum" "_law_datum" sDat f fd) (B : Blt mg) (g : mg "_law_datum" = some (.ref f)) (bn : Binds K fd ["state", "room"] []) (GT : Cal P w K mg base CX0 2 "_law_take" ["state", "limit"] spTake fT dT)
    (GI : Cal P w K mg base CX0 3 "_law_integer" ["state"] spIntD fI dI) (GS : Cal P w K mg base CX0 3 "_law_symbol" ["state"] spSymD fS dS) (G : FnOk P w K mg base CX0 (n + 3) f fd ["state", "room"] (spDat n)) : FnOk P w K mg base CX0 (n + 1 + 3) f fd ["state", "room"] (spDat (n + 1)) := by
  refine F.ok (k := n + 3) scDat (fun vs H Q E h => ?_) (fun cdv A outer s H vs Q E hr h => ?_)
  · obtain ⟨S, L, r, rfl, _⟩ := h
    rfl
  obtain ⟨S, L, r, rfl, hl, r0, rn, nn, q⟩ := h
  have nd := scDat.nd
  have hr2 : Room 2 _ := hr.mono (show 2 ≤ n + 3 by omega)
  have hr3 : Room 3 _ := hr.mono (show 3 ≤ n + 3 by omega)
  refine ⟨_, pss_cons (ps_set (i := 2) nd rfl (Or.inl rfl) (pe_call GT.ok hr2 rfl GT.g GT.k GT.b .nil pass0 (pa_cons (pv 0) (pa_cons pe_int pa_nil))))
    (pss_cons (ps_if (PW.pt (pw_or (pt_cmpR op_lt (pv 1) pe_int (nomark _)) (pw_or1 (pt_cmpR op_lt (pv 2) pe_int (nomark _))))) (pss_one (ps_ret (pe_call GI.ok hr3 rfl GI.g GI.k GI.b .nil pass0 (pa_cons (pv 0) pa_nil)))) pss_nil)
    (pss_cons (ps_if (pt_cmpR op_lt (pv 2) pe_int (nomark _)) (pss_one (ps_ret (pe_call GS.ok hr3 rfl GS.g GS.k GS.b .nil pass0 (pa_cons (pv 0) pa_nil)))) pss_nil)
    (pss_one (ps_ret (pe_lc (own := [("k", 3)]) (g := gName 3) (tt := tYes) rfl nd (pi_range1 (by rfl) B.range (pa_cons (pe_call GT.ok hr2 rfl GT.g GT.k GT.b .nil pass0 (pa_cons (pv 0) (pa_cons pe_int pa_nil))) pa_nil)) (blkOk_by (N := ND) (sc := defScope sDat) (by decide +kernel)) (fun _ _ _ _ _ => pg_name (i := 3) nd rfl (Or.inl rfl))
      (fun _ _ _ _ _ => pts_nil) (fun _ _ _ _ _ => pe_call G hr rfl g F.kp bn .nil pass0 (pa_cons (pv 0) (pa_cons (pe_op op_sub (pv 1) pe_int) pa_nil)))))))), ?_⟩
  refine ⟨_, rfl, S, L, 8, rfl, hl, by decide, nb (by decide), fun pick H1 p0 p1 l1 s1 => ?_⟩
  have isInt : tRet (tCall spIntD [] E0 (tCons (tVar 0) tNil)) { nx := fun _ H' => Q .non H', rt := Q } [some (.ref S), some (.int r), some (.int pick), none] H1 := by
    refine ⟨_, rfl, S, L, rfl, l1, fun i H2 hi l2 s2 => q (.int i) (.int i) H2 ?_ (.int i) l2 (s1.trans s2)⟩
    cases r.toNat <;> exact hi
  refine ⟨_, rfl, _, _, rfl, rfl, _, rfl, ?_⟩
  refine ite2 (fun c => isInt) (fun c => ?_)
  refine ⟨_, rfl, _, _, rfl, rfl, _, rfl, ?_⟩
  refine ite2 (fun c => isInt) (fun c2 => ?_)
  refine ⟨_, rfl, _, _, rfl, rfl, _, rfl, ?_⟩
  refine ite2 (fun c => ⟨_, rfl, S, L, rfl, l1, fun z H2 hz lz l2 s2 => q (.str z) (.sym z) H2 (by cases r.toNat <;> exact ⟨hz, lz⟩) (.sym z) l2 (s1.trans s2)⟩) (fun c3 => ?_)
  have r1 : 1 ≤ r := by
    have : ¬ r < 1 := fun z => c (decide_eq_true z)
    omega
  obtain ⟨m, em⟩ : ∃ m : Nat, r.toNat = m + 1 := ⟨r.toNat - 1, by omega⟩
  have em2 : (r - 1).toNat = m := by omega
  rw [em] at q
  refine ⟨_, rfl, S, L, 4, rfl, l1, by decide, nb (by decide), fun g H2 g0 g1 l2 s2 => ?_⟩
  refine ⟨g, rfl, by omega, by omega, fun D hD => ?_⟩
  have nD := l2.two hD
  refine lc_range (lo := 0) (fun i H' => ∃ vs ds, H' D = some (.lst vs) ∧ RepL (fun a => Off S L a ∧ H2 a = none ∧ a ≠ D) H' vs ds ∧ ds.length = i ∧ (∀ d ∈ ds, Drawn m d) ∧ LS H' S L ∧ Sm (Two S L) H2 H') ⟨[], [], upd_same, .nil, rfl, by simp, l2.new hD, Sm.new hD⟩ (fun i H5 hi t => ?_) (fun H5 t => ?_)
  · obtain ⟨vs, ds, t1, t2, t3, t4, t5, t7⟩ := t
    refine ⟨rfl, _, rfl, _, rfl, _, _, rfl, rfl, S, L, r - 1, rfl, t5, by omega, by omega, by omega, fun v d H6 hd rd l6 s6 => ?_⟩
    have t1' := s6.lst nD t1
    have lvs : vs.length ≤ 3 := by rw [t2.len, t3]; omega
    have kp1 : RepL (fun a => Off S L a ∧ H2 a = none ∧ a ≠ D) (upd H6 D (.lst (vs ++ [v]))) vs ds := t2.keep (fun a xs hc e => by rw [upd_ne hc.2.2]; exact s6.lst hc.1 e) fun _ z => z
    have kp2 : Rep (fun a => Off S L a ∧ H2 a = none ∧ a ≠ D) (upd H6 D (.lst (vs ++ [v]))) v d := rd.keep (fun a xs hc e => by rw [upd_ne (fun z => by rw [z, t1] at hc; exact absurd hc.2 (by simp))]; exact e) fun a hc => ⟨hc.1, t7.dom a hc.2, fun z => by rw [z, t1] at hc; exact absurd hc.2 (by simp)⟩
    refine ⟨_, t1', Nat.lt_of_le_of_lt lvs (by decide), vs ++ [v], ds ++ [d], upd_same, kp1.snoc kp2, by simp [t3], ?_, ?_, (t7.trans s6).mut hD (ntbl_l t1')⟩
    · intro y hy
      rcases List.mem_append.mp hy with h | h
      · exact t4 y h
      · rw [List.mem_singleton.mp h, ← em2]; exact hd
    · obtain ⟨cs, dd, a1, a2, a3⟩ := l6
      refine ⟨cs, dd, ?_, ?_, a3⟩
      · rw [upd_ne (fun z => nD (.inl z.symm))]; exact a1
      · rw [upd_ne (fun z => nD (.inr z.symm))]; exact a2
  · obtain ⟨vs, ds, t1, t2, t3, t4, t5, t7⟩ := t
    have hD0 : H D = none := s1.dom D (s2.dom D hD)
    exact q (.ref D) (.lst ds) H5 ⟨by omega, t4⟩ (.lst ⟨nD, hD0⟩ t1 (t2.keep (fun _ _ _ e => e) fun a hc => ⟨hc.1, s1.dom a (s2.dom a hc.2.1)⟩)) t5 (s1.trans (s2.trans t7))
theorem dat_none {k : Nat} {f : Addr} {fd : FuncData} : FnOk P w K mg base CX0 k f fd ["state", "room"] (spDat 0) := by
  have no : ∀ vs H Q E, ¬ spDat 0 vs H Q E := by
    rintro vs H Q E ⟨S, L, r, _, _, r0, rn, _⟩
    omega
  exact ⟨fun vs H Q E h => absurd h (no vs H Q E), fun A outer s H args us vs Q E _ _ _ _ h => absurd h (no vs H Q E)⟩
theorem ok_datN {f fT fI fS : Addr} {fd dT dI dS : FuncData} (F : Fun K "_law_datum" "_law_datum" sDat f fd) (B : Blt mg) (g : mg "_law_datum" = some (.ref f)) (bn : Binds K fd ["state", "room"] []) (GT : Cal P w K mg base CX0 2 "_law_take" ["state", "limit"] spTake fT dT)
    (GI : Cal P w K mg base CX0 3 "_law_integer" ["state"] spIntD fI dI) (GS : Cal P w K mg base CX0 3 "_law_symbol" ["state"] spSymD fS dS) : ∀ n : Nat, FnOk P w K mg base CX0 (n + 3) f fd ["state", "room"] (spDat n)
  | 0 => dat_none
  | n + 1 => ok_dat F B g bn GT GI GS (ok_datN F B g bn GT GI GS n)
end
end My
namespace My
open PySem PySem.Spec PyProof.Rows L2 TL
/-! ### nested data -/
inductive Nst : Nat → Dat → Prop
  | one : Nst 1 (.lst [])
  | a {n : Nat} {d : Dat} (h : Nst n d) : Nst (n + 1) (.lst [d])
  | b {n : Nat} {d : Dat} (h : Nst n d) : Nst (n + 1) (.lst [.sym "a", d])
  | c {n : Nat} {d : Dat} (h : Nst n d) : Nst (n + 1) (.lst [d, .int 5])
def spNst : Sp := fun vs H Q _ => ∃ (S L : Addr) (m : Nat), vs = [.ref S, .int (m : Nat)] ∧ LS H S L ∧ 1 ≤ m ∧ m ≤ 60 ∧ ∀ v d H', Nst m d → Rep (fun a => Off S L a ∧ H a = none) H' v d → LS H' S L → Sm (Two S L) H H' → Q v H'
abbrev sNst : Stmt := top 36
abbrev NN : List Str := ["state", "many", "datum", "k"]
section
variable {P : Program} {w : World} {K : PySem.W.Frag} {mg : Str → Option Value} {base : Heap}
theorem scNst : FnScope NN ["state", "many"] (defScope sNst) := ⟨rfl, rfl, rfl, by decide +kernel, rfl, by decide +kernel, by decide +kernel⟩
theorem ok_nst {f fT : Addr} {fd dT : FuncData} (F : Fun K "_law_nested" "_law_nested" sNst f fd) (B : Blt mg) (GT : Cal P w K mg base CX0 2 "_law_take" ["state", "limit"] spTake fT dT) : FnOk P w K mg base CX0 3 f fd ["state", "many"] spNst := by
  refine F.ok scNst (fun vs H Q E h => ?_) (fun cdv A outer s H vs Q E hr h => ?_)
  · obtain ⟨S, L, m, rfl, _⟩ := h
    rfl
  obtain ⟨S, L, m, rfl, hl, m1, m60, q⟩ := h
  have nd := scNst.nd
  refine ⟨_, pss_cons (ps_set (i := 2) nd rfl (Or.inl rfl) (pe_lst pa_nil))
    (pss_cons (ps_for PassesOwn.never rfl (pi_range1 (by rfl) B.range (pa_cons (pe_op op_sub (pv 1) pe_int) pa_nil)) (pg_name (i := 3) nd rfl (Or.inl rfl))
      (pss_one (ps_set (i := 2) nd rfl (Or.inl rfl) (pe_ix (r := rIxL K) ix_list (pe_lst (pa_cons (pe_lst (pa_cons (pv 2) pa_nil)) (pa_cons (pe_lst (pa_cons pe_str (pa_cons (pv 2) pa_nil))) (pa_cons (pe_lst (pa_cons (pv 2) (pa_cons pe_int pa_nil))) pa_nil))))
        (pe_call GT.ok hr rfl GT.g GT.k GT.b .nil pass0 (pa_cons (pv 0) (pa_cons pe_int pa_nil))) (fun _ _ => rfl)))))
    (pss_one (ps_ret (pv 2)))), ?_⟩
  refine ⟨by show 0 ≤ sizeLine; decide, fun p0 hp0 => ?_⟩
  have np0 := hl.two hp0
  refine ⟨_, rfl, _, _, rfl, rfl, _, rfl, by omega, by omega, for_range (lo := 0) (fun i σ H' => ∃ (v : V) (d : Dat) (v3 : Option V), σ = [some (.ref S), some (.int (m : Nat)), some v, v3] ∧ Nst (i + 1) d ∧ Rep (fun a => Off S L a ∧ H a = none) H' v d ∧ LS H' S L ∧ Sm (Two S L) H H')
    ⟨_, _, none, rfl, .one, .lst ⟨np0, hp0⟩ upd_same .nil, hl.new hp0, Sm.new hp0⟩ ?_ ?_⟩
  · rintro i σ H' hi ⟨v, d, v3, rfl, ns, rp, l1, s1⟩
    refine ⟨_, rfl, by show 1 ≤ sizeLine; decide, fun a0 h0 => ⟨_, rfl, by show 2 ≤ sizeLine; decide, fun a1 h1 => ⟨_, rfl, by show 2 ≤ sizeLine; decide, fun a2 h2 => ⟨by show 3 ≤ sizeLine; decide, fun p hp => ?_⟩⟩⟩⟩
    have t0 : Sm (Two S L) H' (upd H' a0 (.lst [v])) := Sm.new h0
    have t1 := t0.trans (Sm.new (o := .lst [.str "a", v]) h1)
    have t2 := t1.trans (Sm.new (o := .lst [v, .int 5]) h2)
    have t3 := t2.trans (Sm.new (o := .lst [.ref a0, .ref a1, .ref a2]) hp)
    have l3 := ((l1.new (o := .lst [v]) h0).new (o := .lst [.str "a", v]) h1).new (o := .lst [v, .int 5]) h2
    have n1 : H' a1 = none := t0.dom _ h1
    have n2 : H' a2 = none := t1.dom _ h2
    have np : H' p = none := t2.dom _ hp
    refine ⟨_, rfl, S, L, 3, rfl, l3.new hp, by decide, nb (by decide), fun g H7 g0 g1 l7 s7 => ?_⟩
    have e0 := s7.lst (l1.two h0) (((Sm.new (X := No) h1).trans ((Sm.new (X := No) h2).trans (Sm.new (X := No) hp))).lst0 upd_same)
    have e1 := s7.lst (l1.two n1) (((Sm.new (X := No) h2).trans (Sm.new (X := No) hp)).lst0 upd_same)
    have e2 := s7.lst (l1.two n2) ((Sm.new (X := No) hp).lst0 upd_same)
    have ep := s7.lst (l1.two np) upd_same
    have s17 := s1.trans (t3.trans s7)
    have rp7 : Rep (fun a => Off S L a ∧ H a = none) H7 v d := rp.keep (fun a xs hc e => (t3.trans s7).lst hc.1 e) fun _ z => z
    have new : ∀ {a : Addr}, H' a = none → Off S L a ∧ H a = none := fun {a} h => ⟨l1.two h, s1.dom a h⟩
    have c3 : g = 0 ∨ g = 1 ∨ g = 2 := by omega
    rcases c3 with e | e | e <;> subst e
    · exact ⟨p, _, _, _, rfl, rfl, SqL.of ep, rfl, _, _, _, rfl, .a ns, .lst (new h0) e0 (.cons rp7 .nil), l7, s17⟩
    · exact ⟨p, _, _, _, rfl, rfl, SqL.of ep, rfl, _, _, _, rfl, .b ns, .lst (new n1) e1 (.cons (.sym _) (.cons rp7 .nil)), l7, s17⟩
    · exact ⟨p, _, _, _, rfl, rfl, SqL.of ep, rfl, _, _, _, rfl, .c ns, .lst (new n2) e2 (.cons rp7 (.cons (.int _) .nil)), l7, s17⟩
  · rintro σ H' ⟨v, d, v3, rfl, ns, rp, l1, s1⟩
    have e : ((m : Int) - 1 - 0).toNat + 1 = m := by omega
    exact ⟨_, rfl, q v d H' (by first | (rw [← e]; exact ns) | (have e2 : ((m : Int) - 1).toNat + 1 = m := by omega
                                                                rw [← e2]; exact ns)) rp l1 s1⟩
end
end My
namespace My
open PySem PySem.Spec PyProof.Rows L2 TL
/-! ### what holds of drawn data -/
def WOk (w : List Nat) : Prop := PcOk w ∧ w.length ≤ 50
theorem wds_int (i : Int) : wds (.int i) = [intL i] := by unfold wds; rfl
theorem wds_sym (s : Str) : wds (.sym s) = [tl s] := by unfold wds; rfl
theorem wds_lst (ds : List Dat) : wds (.lst ds) = [40] :: (wdsL ds ++ [[41]]) := by unfold wds; rfl
theorem wOk_int {i : Int} (h : i.natAbs < 10 ^ 40) : ∀ w ∈ wds (.int i), WOk w := fun w hw => by
  rw [wds_int] at hw
  rw [List.mem_singleton.mp hw]
  exact ⟨.inl ⟨int_atom i, int_wd i⟩, Nat.le_trans (int_short h) (by decide)⟩
theorem wOk_sym {s : Str} (h : isSymL (tl s) = true) (l : s.length ≤ 50) : ∀ w ∈ wds (.sym s), WOk w := fun w hw => by
  rw [wds_sym] at hw
  rw [List.mem_singleton.mp hw]
  exact ⟨.inl ⟨sym_atom h, sym_wd h⟩, by rw [← len_tl]; exact l⟩
theorem wOk_lst {ds : List Dat} (h : ∀ d ∈ ds, ∀ w ∈ wds d, WOk w) : ∀ w ∈ wds (.lst ds), WOk w := fun w hw => by
  rw [wds_lst] at hw
  rcases List.mem_cons.mp hw with e | e
  · rw [e]; exact ⟨.inr (.inl rfl), by decide⟩
  · rcases List.mem_append.mp e with e | e
    · rw [wdsL_flat] at e
      obtain ⟨l, hl, hw⟩ := List.mem_flatten.mp e
      obtain ⟨o, ho, el⟩ := List.mem_map.mp hl
      obtain ⟨d, hd, eo⟩ := List.mem_map.mp ho
      subst eo el
      exact h d hd w hw
    · rw [List.mem_singleton.mp e]; exact ⟨.inr (.inr rfl), by decide⟩
theorem wdsL_len {k : Nat} : ∀ {ds : List Dat}, (∀ d ∈ ds, (wds d).length ≤ k) → (wdsL ds).length ≤ ds.length * k
  | [], _ => by unfold wdsL; simp
  | d :: r, h => by
    have e : wdsL (d :: r) = wds d ++ wdsL r := by conv => lhs; unfold wdsL
    have i1 := wdsL_len (k := k) (ds := r) fun x hx => h x (List.mem_cons_of_mem _ hx)
    have i2 := h d List.mem_cons_self
    rw [e, List.length_append, List.length_cons, Nat.succ_mul]
    omega
/-- all that is wanted of one datum: n lists deep at the most -/
structure Good (n : Nat) (d : Dat) : Prop where
  back : BackD n d
  fmt : FmtD d
  dep : DepLe (n + 1) d
  ws : ∀ w ∈ wds d, WOk w
theorem good_int {n : Nat} {i : Int} (h : i.natAbs < 10 ^ 40) : Good n (.int i) :=
  ⟨by cases n <;> exact h, by unfold FmtD; exact ⟨int_atom i, int_log40 h⟩, trivial, wOk_int h⟩
theorem good_sym {n : Nat} {s : Str} (h : isSymL (tl s) = true) (l : s.length ≤ 50) : Good n (.sym s) :=
  ⟨by cases n <;> exact h, by unfold FmtD; exact sym_atom h, trivial, wOk_sym h l⟩
theorem good_lst {n : Nat} {ds : List Dat} (h : ∀ d ∈ ds, Good n d) (l : ds.length ≤ big) : Good (n + 1) (.lst ds) :=
  ⟨fun d hd => (h d hd).back, by unfold FmtD; exact fun d hd => (h d hd).fmt, ⟨l, fun d hd => (h d hd).dep⟩, wOk_lst fun d hd => (h d hd).ws⟩
def cap : Nat → Nat
  | 0 => 1
  | n + 1 => 3 * cap n + 2
theorem cap_pos : ∀ n, 1 ≤ cap n
  | 0 => Nat.le_refl _
  | n + 1 => by unfold cap; omega
theorem drawn_good : ∀ (n : Nat) (d : Dat), Drawn n d → Good n d ∧ (wds d).length ≤ cap n
  | n, .int i, h => by
    have h' : i.natAbs < 10 ^ 40 := by cases n <;> exact h
    refine ⟨good_int h', ?_⟩
    rw [wds_int]
    exact cap_pos n
  | n, .sym s, h => by
    have h' : isSymL (tl s) = true ∧ s.length ≤ 50 := by cases n <;> exact h
    refine ⟨good_sym h'.1 h'.2, ?_⟩
    rw [wds_sym]
    exact cap_pos n
  | 0, .lst ds, h => h.elim
  | n + 1, .lst ds, h => by
    have k := fun d hd => drawn_good n d (h.2 d hd)
    refine ⟨good_lst (fun d hd => (k d hd).1) (Nat.le_trans h.1 (by decide)), ?_⟩
    rw [wds_lst, List.length_cons, List.length_append, List.length_singleton]
    have e := wdsL_len (k := cap n) fun d hd => (k d hd).2
    have e2 : ds.length * cap n ≤ 3 * cap n := Nat.mul_le_mul_right _ h.1
    show _ ≤ 3 * cap n + 2
    omega
theorem good_a {n : Nat} : Good n (.sym "a") := good_sym (by decide +kernel) (by decide +kernel)
theorem good_5 {n : Nat} : Good n (.int 5) := good_int (by decide)
theorem nst_good : ∀ {m : Nat} {d : Dat}, Nst m d → Good m d ∧ (wds d).length ≤ 3 * m ∧ 1 ≤ m
  | _, _, .one => by
    refine ⟨good_lst (fun d hd => by cases hd) (by decide), ?_, Nat.le_refl _⟩
    rw [wds_lst]
    unfold wdsL
    decide
  | _, _, .a (d := d) h => by
    obtain ⟨g, l, m1⟩ := nst_good h
    refine ⟨good_lst (fun x hx => by rw [List.mem_singleton.mp hx]; exact g) (show 1 ≤ big by decide), ?_, by omega⟩
    have e : wdsL [d] = wds d ++ [] := by conv => lhs; unfold wdsL wdsL
    rw [wds_lst, e, List.append_nil, List.length_cons, List.length_append, List.length_singleton]
    omega
  | _, _, .b (d := d) h => by
    obtain ⟨g, l, m1⟩ := nst_good h
    refine ⟨good_lst (fun x hx => ?_) (show 2 ≤ big by decide), ?_, by omega⟩
    · rcases List.mem_cons.mp hx with e | e
      · rw [e]; exact good_a
      · rw [List.mem_singleton.mp e]; exact g
    · have e : wdsL [.sym "a", d] = wds (.sym "a") ++ (wds d ++ []) := by conv => lhs; unfold wdsL wdsL wdsL
      rw [wds_lst, e, wds_sym, List.append_nil, List.length_cons, List.length_append, List.length_append, List.length_singleton, List.length_singleton]
      omega
  | _, _, .c (d := d) h => by
    obtain ⟨g, l, m1⟩ := nst_good h
    refine ⟨good_lst (fun x hx => ?_) (show 2 ≤ big by decide), ?_, by omega⟩
    · rcases List.mem_cons.mp hx with e | e
      · rw [e]; exact g
      · rw [List.mem_singleton.mp e]; exact good_5
    · have e : wdsL [d, .int 5] = wds d ++ (wds (.int 5) ++ []) := by conv => lhs; unfold wdsL wdsL wdsL
      rw [wds_lst, e, wds_int, List.append_nil, List.length_cons, List.length_append, List.length_append, List.length_singleton, List.length_singleton]
      omega
end My
namespace My
open PySem PySem.Spec PyProof.Rows L2 TL
/-! ### a written datum has the datum's words -/
theorem parted_end {c : Nat} {l : List Nat} (h : noEnd c = false) : Parted (c :: l) := .inr ⟨c, l, rfl, h⟩
mutual
theorem ws_wr : ∀ (d : Dat) (n : Nat) (l : List Nat) (ws : List (List Nat)), BackD n d → Parted l → WS l ws → WS (wr d ++ l) (wds d ++ ws)
  | .int i, n, l, ws, _, hl, h => by
    have e : wr (.int i) = intL i := by unfold wr; rfl
    rw [e, wds_int]
    exact .word (int_atom i).1 (int_wd i) hl h
  | .sym s, n, l, ws, hb, hl, h => by
    have hb' : isSymL (tl s) = true := by cases n <;> exact hb
    have e : wr (.sym s) = tl s := by unfold wr; rfl
    rw [e, wds_sym]
    exact .word (sym_atom hb').1 (sym_wd hb') hl h
  | .lst ds, 0, l, ws, hb, _, _ => hb.elim
  | .lst ds, n + 1, l, ws, hb, hl, h => by
    have e : wr (.lst ds) ++ l = 40 :: (wrL ds ++ 41 :: l) := by unfold wr; simp
    have e2 : wds (.lst ds) ++ ws = [40] :: (wdsL ds ++ [41] :: ws) := by rw [wds_lst]; simp
    rw [e, e2]
    exact .open_ (ws_wrL ds n (41 :: l) ([41] :: ws) hb (parted_end (by decide +kernel)) (.close_ h))
theorem ws_wrL : ∀ (ds : List Dat) (n : Nat) (l : List Nat) (ws : List (List Nat)), (∀ d ∈ ds, BackD n d) → Parted l → WS l ws → WS (wrL ds ++ l) (wdsL ds ++ ws)
  | [], n, l, ws, _, _, h => by
    unfold wrL wdsL
    exact h
  | d :: r, n, l, ws, hb, hl, h => by
    have hd := hb d List.mem_cons_self
    have hr := fun x hx => hb x (List.mem_cons_of_mem d hx)
    have e2 : wdsL (d :: r) = wds d ++ wdsL r := by conv => lhs; unfold wdsL
    have ih := ws_wrL r n l ws hr hl h
    rw [e2, List.append_assoc]
    cases r with
    | nil =>
      have e : wrL [d] = wr d := by unfold wrL; rfl
      rw [e]
      have e3 : wdsL [] = [] := by unfold wdsL; rfl
      rw [e3]
      exact ws_wr d n l ws hd hl h
    | cons x s =>
      have e : wrL (d :: x :: s) = wr d ++ 32 :: wrL (x :: s) := by conv => lhs; unfold wrL
      rw [e, List.append_assoc]
      exact ws_wr d n (32 :: (wrL (x :: s) ++ l)) _ hd (parted_end (by decide +kernel)) (.blank (.inl rfl) ih)
end
/-- a written datum reads back alone -/
theorem run_written {z : Str} {d : Dat} (e : tl z = wr d) (h : BackD 60 d) : run (z.length + 1) (tl z) 0 [[]] = .ok [d] := by
  refine run_words ?_ fun x hx => by rw [List.mem_singleton.mp hx]; exact h
  rw [e]
  have w := ws_wr d 60 [] [] h (.inl rfl) .nil
  rw [List.append_nil, List.append_nil] at w
  have e2 : wdsL [d] = wds d := by
    have : wdsL [d] = wds d ++ [] := by conv => lhs; unfold wdsL wdsL
    rw [this, List.append_nil]
  rw [e2]
  exact w
/-! ### too deep -/
theorem nst_deep (len : Nat) : ∀ {m : Nat} {d : Dat}, Nst m d → ∀ (x r : List Tk) (t : List Dat) (st : List (List Dat)), x.map (·.1) = wds d → 61 ≤ m + st.length → tRun len (x ++ r) (t :: st) = .deep := by
  intro m d h
  induction h with
  | one =>
    intro x r t st hx hd
    rw [wds_lst] at hx
    match x, hx with
    | (w1, i1) :: x2, hx =>
      have e1 : w1 = [40] := (List.cons.inj hx).1
      subst e1
      show tRun len (([40], i1) :: (x2 ++ r)) (t :: st) = _
      rw [tR40 rfl, if_pos (by rw [List.length_cons]; omega)]
  | @a n d h ih =>
    intro x r t st hx hd
    have e : wds (.lst [d]) = [40] :: (wds d ++ [[41]]) := by
      rw [wds_lst]
      have : wdsL [d] = wds d ++ [] := by conv => lhs; unfold wdsL wdsL
      rw [this, List.append_nil]
    rw [e] at hx
    match x, hx with
    | (w1, i1) :: x2, hx =>
      have e1 : w1 = [40] := (List.cons.inj hx).1
      have e2 : x2.map (·.1) = wds d ++ [[41]] := (List.cons.inj hx).2
      subst e1
      obtain ⟨x3, x4, ex, h3, _⟩ := tok_split e2
      subst ex
      show tRun len (([40], i1) :: ((x3 ++ x4) ++ r)) (t :: st) = _
      rw [tR40 rfl]
      split
      · rfl
      · rw [List.append_assoc]
        exact ih x3 _ [] (t :: st) h3 (by rw [List.length_cons]; omega)
  | @b n d h ih =>
    intro x r t st hx hd
    have e : wds (.lst [.sym "a", d]) = [40] :: ([tl ("a" : Str)] ++ (wds d ++ [[41]])) := by
      rw [wds_lst]
      have : wdsL [.sym "a", d] = wds (.sym "a") ++ (wds d ++ []) := by conv => lhs; unfold wdsL wdsL wdsL
      rw [this, wds_sym, List.append_nil]
      simp
    rw [e] at hx
    match x, hx with
    | (w1, i1) :: x2, hx =>
      have e1 : w1 = [40] := (List.cons.inj hx).1
      have e2 : x2.map (·.1) = [tl ("a" : Str)] ++ (wds d ++ [[41]]) := (List.cons.inj hx).2
      subst e1
      obtain ⟨y1, y2, ey, g1, g2⟩ := tok_split e2
      obtain ⟨x3, x4, ex, h3, _⟩ := tok_split g2
      subst ey ex
      show tRun len (([40], i1) :: ((y1 ++ (x3 ++ x4)) ++ r)) (t :: st) = _
      rw [tR40 rfl]
      split
      · rfl
      · have n1 : tl ("a" : Str) ≠ [40] := by decide +kernel
        have n2 : tl ("a" : Str) ≠ [41] := by decide +kernel
        rw [List.append_assoc, back_atom (sym_word (z := "a") (by decide +kernel)) n1 n2 g1, List.append_assoc]
        exact ih x3 _ _ (t :: st) h3 (by rw [List.length_cons]; omega)
  | @c n d h ih =>
    intro x r t st hx hd
    have e : wds (.lst [d, .int 5]) = [40] :: (wds d ++ (wds (.int 5) ++ [[41]])) := by
      rw [wds_lst]
      have : wdsL [d, .int 5] = wds d ++ (wds (.int 5) ++ []) := by conv => lhs; unfold wdsL wdsL wdsL
      rw [this, List.append_nil]
      simp
    rw [e] at hx
    match x, hx with
    | (w1, i1) :: x2, hx =>
      have e1 : w1 = [40] := (List.cons.inj hx).1
      have e2 : x2.map (·.1) = wds d ++ (wds (.int 5) ++ [[41]]) := (List.cons.inj hx).2
      subst e1
      obtain ⟨x3, x4, ex, h3, _⟩ := tok_split e2
      subst ex
      show tRun len (([40], i1) :: ((x3 ++ x4) ++ r)) (t :: st) = _
      rw [tR40 rfl]
      split
      · rfl
      · rw [List.append_assoc]
        exact ih x3 _ [] (t :: st) h3 (by rw [List.length_cons]; omega)
/-- many opening brackets -/
theorem open_deep (len : Nat) : ∀ (k : Nat) (x r : List Tk) (st : List (List Dat)), x.map (·.1) = List.replicate k [40] → 61 < k + st.length → st ≠ [] → 1 ≤ k → tRun len (x ++ r) st = .deep
  | 0, _, _, _, _, _, _, h => by omega
  | k + 1, x, r, st, hx, hd, ne, _ => by
    rw [List.replicate_succ] at hx
    match x, hx with
    | (w1, i1) :: x2, hx =>
      have e1 : w1 = [40] := (List.cons.inj hx).1
      have e2 : x2.map (·.1) = List.replicate k [40] := (List.cons.inj hx).2
      subst e1
      show tRun len (([40], i1) :: (x2 ++ r)) st = _
      rw [tR40 rfl]
      split
      · rfl
      · rename_i h60
        exact open_deep len k x2 r ([] :: st) e2 (by rw [List.length_cons]; omega) (by simp) (by omega)
end My
namespace My
open PySem PySem.Spec PyProof.Rows L2 TL
/-! ### _law_too_deep -/
def rIs0 (K : PySem.W.Frag) (C a : Addr) (cls : Value) (d : Option Addr) : List V → Hp → VK → Prop := fun xs H Q => ∃ (c : V) (cv : Value) (b : Bool), xs = [.ref a, c] ∧ (∀ u, RelV c u → u = cv) ∧ cls = .ref C ∧ d = none ∧ PySem.W.kitOne K (.ref C) cv = some b ∧ Q (.bl b) H
theorem call_is0 {X : Cx} {a C : Addr} {cls : Value} {d : Option Addr} {oe : Obj} {pn : List (Addr × Obj)} (T : ExcC X.K C) (hz : Zc cls d oe) (hf : ∃ vs, oe.data = .fields vs) : CallR (X.suite a ((a, oe) :: pn)) (.builtin "isinstance") (rIs0 X.K C a cls d) := by
  intro pins s σ H xs us Q I r h
  obtain ⟨c, cv, b, rfl, hcv, ec, ed, e, q⟩ := h
  obtain ⟨u1, u2, rfl, r1, r2⟩ := vals2 r
  obtain rfl : u1 = Value.ref a := r1
  have e2 := hcv _ r2
  subst e2 ec ed
  obtain ⟨ha, _⟩ := I.pin (a, oe) (List.mem_append_left _ List.mem_cons_self)
  obtain ⟨vs, hv⟩ := hf
  have J : PySem.W.InstAt s.heap a oe C none := ⟨ha, hz.1, by unfold PySem.W.notCls; rw [hv] <;> rfl, by rw [hz.2]; trivial⟩
  obtain ⟨cd, hc, _⟩ := PySem.W.any_some T.hd
  exact PySem.W.kia_one (PySem.W.kitx_exc (by rw [hc]; rfl) T.hg T.hk T.hs T.ha T.hn T.ht T.hm) I.kIn J e (fun z => nomatch z) fun tk => ⟨.bl b, H, I.tok tk, rfl, q⟩
abbrev sToo : Stmt := top 37
def spToo (Ps : List Addr) : Sp := fun vs H Q _ => ∃ z : Str, vs = [.str z] ∧ z.length ≤ big ∧ (∀ p ∈ Ps, GxR.TabG H p) ∧ run (z.length + 1) (tl z) 0 [[]] = .deep ∧ ∀ H', Sm No H H' → Q (.bl true) H'
structure TooC (K : PySem.W.Frag) (mg : Str → Option Value) (X : Errs) (F : Addr) : Prop where
  n : mg "FoldError" = some (.ref F)
  gd : mg "TooDeep" = some (.ref X.d)
  v : mg "ValueError" = none
  ex : PySem.W.exmOne K (.ref X.d) (.ref F) = some true
  c : ExcC K X.d
  k1 : PySem.W.kitOne K (.ref X.d) (.ref X.d) = some true
  k2 : PySem.W.kitOne K (.ref X.d) (.type "ValueError") = some true
section
variable {P : Program} {w : World} {K : PySem.W.Frag} {mg : Str → Option Value} {base : Heap}
theorem scToo : FnScope ["text", "e"] ["text"] (defScope sToo) := ⟨rfl, rfl, rfl, by decide +kernel, rfl, by decide +kernel, by decide +kernel⟩
theorem ok_too {f fP F0 P1 P2 : Addr} {fd dP : FuncData} {X : Errs} (F : Fun K "_law_too_deep" "_law_too_deep" sToo f fd) (B : Blt mg) (T : TooC K mg X F0) (G : Cal P w K mg base (L2N.CX P w) 5 "parse_all" ["text"] (spParse X [P1, P2]) fP dP) : FnOk P w K mg base CX0 6 f fd ["text"] (spToo [P1, P2]) := by
  refine F.ok scToo (fun vs H Q E h => ?_) (fun cdv A outer s H vs Q E hr h => ?_)
  · obtain ⟨z, rfl, _⟩ := h
    rfl
  obtain ⟨z, rfl, hz, ht, hd, q⟩ := h
  have nd := scToo.nd
  have isb : bootBuiltins "isinstance" = some (.builtin "isinstance") := by decide +kernel
  refine ⟨_, pss_cons (L2N.ps_try_as (i := 1) (Wout := fun _ _ _ _ => False) rfl rfl nd rfl rfl (c := .ref F0) ⟨rfl, by decide +kernel, .inl T.n⟩ (fun u s' ⟨a, B, sI, pins, σ, H, cls, d, e, I, nb, up, sky, na, os, ag, w⟩ => w.elim)
      (fun W pn xe tk _ => pss_one (ps_expr (pe_callS G.ok hr rfl G.g G.k G.b (fun σ => L2N.passAt tk σ) (pa_cons (pv 0) pa_nil))))
      (fun a oe cls d pn hzc hf => pss_one (ps_ret (pe_and (pe_callB (call_is0 T.c hzc.zc hf) (by rfl) B.isinstance isb (pa_cons (pv 1) (pa_cons (pe_glob (v := .ref X.d) rfl T.gd rfl) pa_nil)))
        (pe_one (pe_callB (call_is0 T.c hzc.zc hf) (by rfl) B.isinstance isb (pa_cons (pv 1) (pa_cons (pe_bltn (v := .ty "ValueError") (by rfl) T.v (by decide +kernel) rfl) pa_nil))))))))
    (pss_one (ps_ret pe_bl)), ?_⟩
  refine ⟨_, rfl, z, rfl, hz, ht, ?_⟩
  rw [hd]
  intro H' sm
  refine ⟨true, T.ex, fun _ a ha => ?_, fun z => nomatch z⟩
  refine ⟨_, rfl, .ref X.d, .ref X.d, true, rfl, (fun u r => r), rfl, rfl, T.k1, _, rfl, ?_⟩
  refine ⟨_, rfl, .ty "ValueError", .type "ValueError", true, rfl, (fun u r => r), rfl, rfl, T.k2, ?_⟩
  exact q H' sm
end
end My
namespace My
open PySem PySem.Spec PyProof.Rows L2 TL
/-! ### a token is out behind it -/
def PEB (X : Cx) (e : Expr) (t : TE) : Prop := ∀ (pins : List (Addr × Obj)) (s : Shared) (σ : L2.St) (H : Hp) (Q : VK), L2.Inv X pins σ H s → t σ H Q → wpAny (model X.prog X.w) X.A (eval e X.env) (fun v s1 => 1 ≤ s1.toks ∧ EP X pins σ Q v s1) X.xe s
def PAB (X : Cx) (es : List Expr) (t : TA) : Prop := ∀ (pos : Pos) (pins : List (Addr × Obj)) (s : Shared) (σ : L2.St) (H : Hp) (Q : List V → Hp → Prop), L2.Inv X pins σ H s → t σ H Q → wpAny (model X.prog X.w) X.A (spliced (backTo pos (starEach es X.env))) (fun us s1 => 1 ≤ s1.toks ∧ AP X pins σ Q us s1) X.xe s
def PSB (X : Cx) (st : Stmt) (t : TS) : Prop := ∀ (pins : List (Addr × Obj)) (s : Shared) (σ : L2.St) (H : Hp) (D : Ends), L2.Inv X pins σ H s → t D σ H → wpAny (model X.prog X.w) X.A (exec st X.env) (fun f s1 => 1 ≤ s1.toks ∧ SP X pins D f s1) X.xe s
section
variable {X : Cx}
theorem pss_tok {st : Stmt} {rest : List Stmt} {t u : TS} (h1 : PSB X st t) (h2 : PSsT X rest u) : PSs X (st :: rest) (tSeq t u) := by
  refine ⟨fun pins s σ H D I h => ?_⟩
  refine wpAny_execs_cons (wpAny_mono (h1 pins s σ H { D with nx := u D } I h) (fun f s1 q => ?_) fun _ _ x => x)
  obtain ⟨k, q⟩ := q
  cases f with
  | next =>
    obtain ⟨σ', H', I', q⟩ := q
    exact h2 pins s1 σ' H' D k I' q
  | ret v => exact q
  | brk => exact q
  | cont => exact q
theorem peb_int {c : Int} {j : Nat} {cp : Pos} : PEB X (.Constant (.int c) j cp) (tC (.int c)) := fun pins s σ H Q I h =>
  wpAny_Constant_int ⟨by show 1 ≤ s.toks + 1; omega, .int c, H, I.tok _, ⟨_, rfl⟩, h⟩
theorem peb_op {a b : Expr} {op : Operator} {ta tb : TE} {r : R2} {pos : Pos} (ho : OpR X (binaryOp op) r) (ha : PEB X a ta) (hb : PE X b tb) : PEB X (.BinOp a op b pos) (tOp r ta tb) := by
  intro pins s σ H Q I h
  refine wpAny_BinOp (thn (ha pins s σ H _ I h) fun v s1 hh => ?_)
  obtain ⟨k1, x, H1, I1, r1, q1⟩ := hh
  refine wpAny_mono (wpAny_toks_of k1 (hb.run pins s1 σ H1 _ I1 q1)) (fun u s2 hh => ?_) fun _ _ z => z.2
  obtain ⟨k2, y, H2, I2, r2, q2⟩ := hh
  exact wpAny_mono (wpAny_toks_of k2 (ho pins s2 σ H2 x y v u Q I2 r1 r2 q2)) (fun _ _ z => z) fun _ _ z => z.2
theorem pab_cons {e : Expr} {es : List Expr} {te : TE} {ta : TA} (ha : PEB X e te) (hr : PA X es ta) (hs : starEach (e :: es) X.env = (false, eval e X.env) :: starEach es X.env := by rfl) : PAB X (e :: es) (tCons te ta) := by
  intro pos pins s σ H Q I h
  rw [hs]
  show wpAny _ _ (spliced ((false, eval e X.env) :: backTo pos (starEach es X.env))) _ _ _
  refine Calls.spliced_cons (thn (ha pins s σ H _ I h) fun v s1 hh => ?_)
  obtain ⟨k1, x, H1, I1, r1, q1⟩ := hh
  refine wpAny_mono (wpAny_toks_of k1 (hr.run pos pins s1 σ H1 _ I1 q1)) (fun us s2 hh => ?_) fun _ _ z => z.2
  obtain ⟨k2, xs, H2, I2, r2, q2⟩ := hh
  exact ⟨k2, x :: xs, H2, I2, .cons r1 r2, q2⟩
theorem peb_lst {es : List Expr} {ta : TA} {pos : Pos} (h : PAB X es ta) : PEB X (.List es pos) (tLst ta) := by
  intro pins s σ H Q I hq
  refine wpAny_List_spliced (thn (h pos pins s σ H _ I hq) fun us s1 hh => ?_)
  obtain ⟨k1, xs, H1, I1, r, z, q⟩ := hh
  refine ⟨by rw [← r.length]; exact z, k1, ?_⟩
  have hf : H1 s1.heap.objs.size = none := I1.hok.fresh (Nat.le_refl _)
  exact ⟨.ref s1.heap.objs.size, upd H1 s1.heap.objs.size (.lst xs), I1.laid (t' := s1.toks) (fun b u e => Heap.get?_push_of_some _ e) (Nat.le_refl _) ⟨z, us, 0, r, Heap.get?_push_size _ rfl⟩, rfl, q _ hf⟩
theorem psb_set {i : Nat} {x : Str} {e : Expr} {te : TE} {pos pos' : Pos} (hN : X.N.Nodup) (hi : X.N[i]? = some x) (hx : Loc X.env.scope x) (he : PEB X e te) (hs : swapsWith e (some (.Name x pos')) pos.line X.env = pure false := by rfl)
    (hf : X.fn x = true ∨ X.env.scope.names.lookup x = some .local := by first | exact .inl rfl | exact .inr rfl | assumption) : PSB X (.Assign [.Name x pos'] e pos) (tAsg te (gName i)) := by
  intro pins s σ H D I h
  refine wpAny_Assign_Name (thn (he pins s σ H _ I h) fun v s1 hh => ?_) hs
  obtain ⟨k1, y, H1, J, r1, q⟩ := hh
  exact wpAny_mono (wpAny_toks_of k1 (store_ok (Q := fun _ s2 => ∃ σ' H', L2.Inv X pins σ' H' s2 ∧ D.nx σ' H') J hN hi hx r1 (fun s2 I2 => ⟨_, H1, I2, q⟩) hf)) (fun _ s2 z => z) fun _ _ z => z.2
theorem peb_ix {a b : Expr} {ta tb : TE} {r : R2} {pos : Pos} (hr : IxR X r) (ha : PEB X a ta) (hb : PE X b tb) (hs : PlainIx b) : PEB X (.Subscript a b pos) (tOp r ta tb) := by
  intro pins s σ H Q I h
  refine Subscript_ (thn (ha pins s σ H _ I h) fun v s1 hh => ?_)
  obtain ⟨k1, x, H1, I1, r1, q1⟩ := hh
  refine wpAny_mono (wpAny_toks_of k1 (hb.run pins s1 σ H1 _ I1 q1)) (fun u s2 hh => ?_) fun _ _ z => z.2
  obtain ⟨k2, y, H2, I2, r2, q2⟩ := hh
  exact wpAny_mono (wpAny_toks_of k2 (hr a b pins s2 σ H2 x y v u Q I2 r1 r2 q2 (hs _ _))) (fun _ _ z => z) fun _ _ z => z.2
theorem pst_forT {tg iter : Expr} {body : List Stmt} {wi : TI} {g : TG} {tb : TS} {pos : Pos} (hp : PassesOwn (model X.prog X.w) X.A X.env X.xe) (hc : X.calm = true) (hi : PI X tg iter wi) (hg : PG X tg g) (hb : PSsT X body tb)
    (hs : ∀ x, foldedSetIterable iter X.env x = pure x := by intro _; rfl) : PST X (.For tg iter body [] pos) (tFor wi g tb) := by
  intro pins s σ H D k0 I h
  refine wpAny_For (wpAny_mono (wpAny_toks_of k0 (hi.run pins s σ H _ I h)) (fun v s1 h1 => wpAny_mono (wpAny_toks_of h1.1 h1.2) (fun itv s2 hx => ?_) fun _ _ z => z.2) fun _ _ z => z.2) hs
  obtain ⟨k2, it, fp, tn, J, H2, ev, I2, T, st2, f2, W, ⟨m0, w0⟩, turn⟩ := hx
  subst ev
  have still : ∀ {H' : Hp}, (∀ b ∈ fp, H' b = none) → ∀ b ∈ fp, FpOk X pins H' b := fun hn b hb => ⟨hn b hb, (f2 b hb).2⟩
  refine codeAny_forLoop_any (fun n z => 1 ≤ z.toks ∧ ∃ i σ' H', L2.Inv X pins σ' H' z ∧ tn i z.heap ∧ (∀ b ∈ fp, H' b = none) ∧ W i n σ' H') ?_ m0 ⟨k2, 0, σ, H2, I2, st2, fun b hb => (f2 b hb).1, w0⟩
  rintro n s3 ⟨k3, i, σ3, H3, I3, st3, fr3, w3⟩
  rcases turn i n σ3 H3 w3 with ⟨stop, qn⟩ | ⟨go, N, hN, step⟩
  · refine wpAny_passesOwn hp (thn (T.done X rfl rfl rfl hc i pins s3 σ3 H3 X.xe I3 (still fr3) st3 stop) fun r s4 z => ?_)
    obtain ⟨hr, I4⟩ := z
    subst hr
    exact wpAny_execs_nil ⟨σ3, H3, I4, qn⟩
  refine wpAny_passesOwn hp (wpAny_mono (wpAny_toks_of k3 (T.item X rfl rfl rfl hc i pins s3 σ3 H3 X.xe I3 (still fr3) st3 go)) (fun r s4 z => ?_) fun _ _ z => z.2)
  obtain ⟨k4, u, hr, h4⟩ := z
  subst hr
  refine wpAny_passesOwn hp (wpAny_mono (wpAny_toks_of k4 h4) (fun _ s5 z => ?_) fun _ _ z => z.2)
  obtain ⟨k5, x, H5, I5, r5, y5, st5, fr5⟩ := z
  have pinned := I5.pinned (still fr5) (T.obj _ _ st5)
  refine wpAny_passesOwn hp (wpAny_mono (wpAny_toks_of k5 (hg.run _ s5 σ3 H5 x u _ pinned r5 (step x H5 y5))) (fun _ s6 z => ?_) fun _ _ z => z.2)
  obtain ⟨k6, σ6, H6, I6, q6⟩ := z
  refine wpAny_passesOwn hp (wpAny_mono (wpAny_toks_of k6 (hb _ s6 σ6 H6 _ k6 I6 q6)) (fun f s7 z => ?_) fun _ _ z => z.2)
  obtain ⟨k7, q7⟩ := z
  have pin : ∀ b ∈ fp, ∀ o, s5.heap.get? b = some o → (b, o) ∈ X.pn ++ (pins ++ pinsAt fp s5.heap) := fun b hb o e => List.mem_append_right _ (List.mem_append_right _ (mem_pinsAt hb e))
  have again : ∀ (σ7 : L2.St) (H7 : Hp), L2.Inv X (pins ++ pinsAt fp s5.heap) σ7 H7 s7 → N σ7 H7 → ∃ m, m < n ∧ 1 ≤ s7.toks ∧ ∃ i σ' H', L2.Inv X pins σ' H' s7 ∧ tn i s7.heap ∧ (∀ b ∈ fp, H' b = none) ∧ W i m σ' H' := by
    intro σ7 H7 I7 n7
    obtain ⟨m', hm, w7⟩ := hN σ7 H7 n7
    refine ⟨m', hm, k7, i + 1, σ7, H7, I7.unpinned, T.keep _ _ _ st5 fun b hb o e => (I7.pin (b, o) (pin b hb o e)).1, fun b hb => ?_, w7⟩
    obtain ⟨o, e, _⟩ := T.obj _ _ st5 b hb
    exact (I7.pin (b, o) (pin b hb o e)).2.1
  cases f with
  | next =>
    obtain ⟨σ7, H7, I7, n7⟩ := q7
    exact again σ7 H7 I7 n7
  | cont =>
    obtain ⟨σ7, H7, I7, n7⟩ := q7
    exact again σ7 H7 I7 n7
  | brk =>
    obtain ⟨σ7, H7, I7, q8⟩ := q7
    exact ⟨σ7, H7, I7.unpinned, q8⟩
  | ret v =>
    obtain ⟨x7, σ7, H7, I7, r7, q8⟩ := q7
    exact ⟨x7, σ7, H7, I7.unpinned, r7, q8⟩
end
end My
namespace My
open PySem PySem.Spec PyProof.Rows L2 TL
/-! ### what the law needs of its data -/
theorem DepLe.mono : ∀ {n m : Nat} {d : Dat}, DepLe n d → n ≤ m → DepLe m d
  | 0, _, _, h, _ => h.elim
  | n + 1, 0, _, _, h => by cases h
  | n + 1, m + 1, .lst ds, ⟨a, b⟩, h => ⟨a, fun d hd => (b d hd).mono (Nat.le_of_succ_le_succ h)⟩
  | n + 1, m + 1, .int _, _, _ => trivial
  | n + 1, m + 1, .sym _, _, _ => trivial
theorem BackD.mono : ∀ {n m : Nat} {d : Dat}, BackD n d → n ≤ m → BackD m d
  | n, m, .int i, h, _ => by
    have h' : i.natAbs < 10 ^ 40 := by cases n <;> exact h
    cases m <;> exact h'
  | n, m, .sym s, h, _ => by
    have h' : isSymL (tl s) = true := by cases n <;> exact h
    cases m <;> exact h'
  | 0, _, .lst _, h, _ => h.elim
  | n + 1, 0, _, _, h => by cases h
  | n + 1, m + 1, .lst ds, h, l => fun d hd => (h d hd).mono (Nat.le_of_succ_le_succ l)
theorem Good.mono {n m : Nat} {d : Dat} (h : Good n d) (l : n ≤ m) : Good m d := ⟨h.back.mono l, h.fmt, h.dep.mono (Nat.succ_le_succ l), h.ws⟩
structure Fine (d : Dat) : Prop where
  good : Good 60 d
  few : (wds d).length ≤ 1457
theorem fine_drawn {d : Dat} (h : Drawn 6 d) : Fine d := by
  obtain ⟨a, b⟩ := drawn_good 6 d h
  exact ⟨a.mono (by decide), Nat.le_trans b (by decide)⟩
theorem fine_nst {m : Nat} {d : Dat} (h : Nst m d) (l : m ≤ 60) : Fine d := by
  obtain ⟨a, b, _⟩ := nst_good h
  exact ⟨a.mono l, by omega⟩
theorem Fine.small {d : Dat} (h : Fine d) : Small d := ⟨Nat.le_trans h.few (by decide), fun w hw => (h.good.ws w hw).2⟩
theorem wrL_len : ∀ (ds : List Dat), (∀ d ∈ ds, (wr d).length + 1 ≤ 51 * (wds d).length) → (wrL ds).length ≤ 51 * (wdsL ds).length
  | [], _ => by unfold wrL; simp
  | [d], h => by
    have e : wdsL [d] = wds d ++ [] := by conv => lhs; unfold wdsL wdsL
    have := h d List.mem_cons_self
    rw [e, List.append_nil]
    unfold wrL
    omega
  | d :: x :: r, h => by
    have e : wrL (d :: x :: r) = wr d ++ 32 :: wrL (x :: r) := by conv => lhs; unfold wrL
    have e2 : wdsL (d :: x :: r) = wds d ++ wdsL (x :: r) := by conv => lhs; unfold wdsL
    have i1 := h d List.mem_cons_self
    have i2 := wrL_len (x :: r) fun y hy => h y (List.mem_cons_of_mem _ hy)
    rw [e, e2, List.length_append, List.length_append, List.length_cons]
    omega
theorem wr_len : ∀ (n : Nat) (d : Dat), BackD n d → (∀ w ∈ wds d, w.length ≤ 50) → (wr d).length + 1 ≤ 51 * (wds d).length
  | _, .int i, _, h => by
    have e : wr (.int i) = intL i := by unfold wr; rfl
    rw [wds_int] at h ⊢
    have := h _ List.mem_cons_self
    rw [e, List.length_singleton]
    omega
  | _, .sym s, _, h => by
    have e : wr (.sym s) = tl s := by unfold wr; rfl
    rw [wds_sym] at h ⊢
    have := h _ List.mem_cons_self
    rw [e, List.length_singleton]
    omega
  | 0, .lst _, b, _ => b.elim
  | n + 1, .lst ds, b, h => by
    have e : wr (.lst ds) = 40 :: (wrL ds ++ [41]) := by unfold wr; rfl
    rw [wds_lst] at h ⊢
    have sub : ∀ d ∈ ds, ∀ w ∈ wds d, w ∈ wdsL ds := fun d hd w hw => by
      rw [wdsL_flat]
      exact List.mem_flatten.mpr ⟨wds d, List.mem_map.mpr ⟨some d, List.mem_map.mpr ⟨d, hd, rfl⟩, rfl⟩, hw⟩
    have i := wrL_len ds fun d hd => wr_len n d (b d hd) fun w hw => h w (List.mem_cons_of_mem _ (List.mem_append_left _ (sub d hd w hw)))
    rw [e]
    simp only [List.length_cons, List.length_append, List.length_nil]
    omega
theorem Fine.wr {d : Dat} (h : Fine d) : (wr d).length ≤ 80000 := by
  have := wr_len 60 d h.good.back h.small.2
  have := h.few
  omega
theorem fine_dep {ds : List Dat} (h : ∀ d ∈ ds, Fine d) (l : ds.length ≤ big) : DepLe 62 (.lst ds) := ⟨l, fun d hd => (h d hd).good.dep⟩
theorem fine_words {ds : List Dat} (h : ∀ d ∈ ds, Fine d) : ∀ w ∈ wdsL ds, WOk w := fun w hw => by
  rw [wdsL_flat] at hw
  obtain ⟨l, hl, hw⟩ := List.mem_flatten.mp hw
  obtain ⟨o, ho, el⟩ := List.mem_map.mp hl
  obtain ⟨d, hd, eo⟩ := List.mem_map.mp ho
  subst eo el
  exact (h d hd).good.ws w hw
theorem wdsL_take (ds : List Dat) (k : Nat) : (wdsL (ds.take k)).length ≤ (wdsL ds).length := by
  have : wdsL ds = wdsL (ds.take k) ++ wdsL (ds.drop k) := by
    rw [wdsL_flat, wdsL_flat, wdsL_flat, ← List.flatten_append, ← List.map_append, ← List.map_append, List.take_append_drop]
  rw [this, List.length_append]
  omega
theorem RepL.app {C : Addr → Prop} {H : Hp} : ∀ {a b : List V} {x y : List Dat}, RepL C H a x → RepL C H b y → RepL C H (a ++ b) (x ++ y)
  | _, _, _, _, .nil, g => g
  | _, _, _, _, .cons h r, g => .cons h (RepL.app r g)
theorem RepL.take {C : Addr → Prop} {H : Hp} : ∀ {a : List V} {x : List Dat} (n : Nat), RepL C H a x → RepL C H (a.take n) (x.take n)
  | _, _, 0, _ => by simp only [List.take_zero]; exact .nil
  | _, _, n + 1, .nil => .nil
  | _, _, n + 1, .cons h r => .cons h (RepL.take n r)
theorem RepL.drop {C : Addr → Prop} {H : Hp} : ∀ {a : List V} {x : List Dat} (n : Nat), RepL C H a x → RepL C H (a.drop n) (x.drop n)
  | _, _, 0, h => by simp only [List.drop_zero]; exact h
  | _, _, n + 1, .nil => .nil
  | _, _, n + 1, .cons h r => RepL.drop n r
/-- the last text: a list that is begun, and in it one that is 60 deep -/
theorem last_deep {z : Str} {t : List Nat} {ds : List Dat} {d : Dat} (ht : Lays t (wdsL ds)) (hb : ∀ x ∈ ds, Fine x) (hn : Nst 60 d) (e : tl z = t ++ [32, 40, 97, 32] ++ wr d ++ [40]) : run (z.length + 1) (tl z) 0 [[]] = .deep := by
  have lz := len_tl z
  rw [run_scan (z.length + 1) (tl z) 0 [[]] (by omega)]
  have es : scan (z.length + 1) (tl z) 0 = S (tl z) 0 := by rw [lz]; rfl
  rw [es]
  have fd := fine_nst hn (Nat.le_refl _)
  have w5 : WS [40] [[40]] := .open_ .nil
  have w4 := ws_wr d 60 [40] [[40]] fd.good.back (.inr ⟨40, [], rfl, by decide +kernel⟩) w5
  have w3 : WS (97 :: (32 :: (wr d ++ [40]))) ([97] :: (wds d ++ [[40]])) := .word (w := [97]) (by simp) (Wd.of (by decide +kernel)) (.inr ⟨32, _, rfl, by decide +kernel⟩) (.blank (.inl rfl) w4)
  have w1 := ht (32 :: 40 :: 97 :: 32 :: (wr d ++ [40])) _ (.inr ⟨32, _, rfl, by decide +kernel⟩) (.blank (.inl rfl) (.open_ w3))
  have e2 : tl z = t ++ 32 :: 40 :: 97 :: 32 :: (wr d ++ [40]) := by rw [e]; simp
  rw [← e2] at w1
  have w := w1 0
  obtain ⟨x, y, exy, hx, hy⟩ := tok_split w
  rw [exy, back_list _ ds 60 x y [] [] (fun q hq => (hb q hq).good.back) hx (by decide), List.nil_append]
  match y, hy with
  | (w1, i1) :: y1, hy =>
    have e1 : w1 = [40] := (List.cons.inj hy).1
    have h1 : y1.map (·.1) = [[97]] ++ (wds d ++ [[40]]) := (List.cons.inj hy).2
    subst e1
    obtain ⟨y2, y3, ey, h2, h3⟩ := tok_split h1
    obtain ⟨y4, y5, ey2, h4, h5⟩ := tok_split h3
    subst ey ey2
    rw [tR40 rfl, if_neg (by simp), back_atom (w := [97]) (v := .str "a") (by have q := sym_word (z := "a") (by decide +kernel); have e : tl ("a" : Str) = [97] := by decide +kernel
                                                                              rw [e] at q; exact q) (by decide) (by decide) h2]
    exact nst_deep _ hn y4 y5 _ _ h4 (by simp)
theorem many_deep : ∀ z : Str, tl z = List.replicate 61 40 ++ List.replicate 61 41 → run (z.length + 1) (tl z) 0 [[]] = .deep := fun z e => by
  have lz := len_tl z
  rw [lz, e]
  rfl
end My
namespace My
open PySem PySem.Spec PyProof.Rows L2 TL
abbrev sLaw : Stmt := top 38
abbrev NL : List Str := ["script", "state", "data", "many", "pieces", "datum", "text", "written", "k"]
def spLaw (K : PySem.W.Frag) (Ps : List Addr) : Sp := fun vs H Q _ => ∃ (a : Addr) (ns : List Int), vs = [.ref a] ∧ SqL K H a (ns.map V.int) ∧ ns.length ≤ 63 ∧ (∀ p ∈ Ps, GxR.TabG H p) ∧ ∀ H', Q (.bl true) H'
section
variable {P : Program} {w : World} {K : PySem.W.Frag} {mg : Str → Option Value} {base : Heap}
theorem passN {X : Cx} : Passes (L2N.CX X.prog X.w) X E0 := fun _ _ _ _ _ _ _ h => by
  obtain ⟨a, B, H', cls, d, e, fl, hok, ub, na, os, ag, hE⟩ := h
  exact hE.elim
theorem scLaw : FnScope NL ["script"] (defScope sLaw) := ⟨rfl, rfl, rfl, by decide +kernel, rfl, by decide +kernel, by decide +kernel⟩
theorem ok_law {f fS fT fD fN fC fY fP fM fF fW fO P1 P2 : Addr} {fd dS dT dD dN dC dY dP dM dF dW dO : FuncData} {X : Errs} (F : Fun K "law" "law" sLaw f fd) (B : Blt mg) (GS : Cal P w K mg base CX0 1 "_law_state" ["script"] (spState K) fS dS)
    (GT : Cal P w K mg base CX0 2 "_law_take" ["state", "limit"] spTake fT dT) (GD : Cal P w K mg base CX0 10 "_law_datum" ["state", "room"] (spDat 7) fD dD) (GN : Cal P w K mg base CX0 3 "_law_nested" ["state", "many"] spNst fN dN)
    (GC : Cal P w K mg base CX0 61 "_law_pieces" ["datum"] (spPcs 61) fC dC) (GY : Cal P w K mg base CX0 4 "_law_laid_out" ["state", "pieces"] spLay fY dY) (GP : Cal P w K mg base (L2N.CX P w) 5 "parse_all" ["text"] (spParse X [P1, P2]) fP dP)
    (GM : Cal P w K mg base CX0 62 "_law_same" ["one", "two"] (spSame 62) fM dM) (GF : FnT P w K mg base CX0 1 fF dF ["datum"] spFmt) (kF : PySem.W.keepIn K (.ref fF) = true) (gF : mg "format_datum" = some (.ref fF)) (bF : Binds K dF ["datum"] [])
    (GW : Cal P w K mg base CX0 61 "_law_written" ["datum"] (spWrt 61) fW dW) (GO : Cal P w K mg base CX0 6 "_law_too_deep" ["text"] (spToo [P1, P2]) fO dO) : FnOk P w K mg base CX0 64 f fd ["script"] (spLaw K [P1, P2]) := by
  refine F.ok scLaw (fun vs H Q E h => ?_) (fun cdv A outer s H vs Q E hr h => ?_)
  · obtain ⟨a, ns, rfl, _⟩ := h
    rfl
  obtain ⟨a, ns, rfl, hS, hn, ht, q⟩ := h
  have nd := scLaw.nd
  have r1 : Room 1 _ := hr.mono (show 1 ≤ 63 by decide)
  have r2 : Room 2 _ := hr.mono (show 2 ≤ 63 by decide)
  have r3 : Room 3 _ := hr.mono (show 3 ≤ 63 by decide)
  have r4 : Room 4 _ := hr.mono (show 4 ≤ 63 by decide)
  have r5 : Room 5 _ := hr.mono (show 5 ≤ 63 by decide)
  have r6 : Room 6 _ := hr.mono (show 6 ≤ 63 by decide)
  have r10 : Room 10 _ := hr.mono (show 10 ≤ 63 by decide)
  have r61 : Room 61 _ := hr.mono (show 61 ≤ 63 by decide)
  have r62 : Room 62 _ := hr.mono (show 62 ≤ 63 by decide)
  refine ⟨_, pss_cons (ps_set (i := 1) nd rfl (Or.inr rfl) (pe_call GS.ok r1 rfl GS.g GS.k GS.b .nil pass0 (pa_cons (pv 0) pa_nil)))
    (pss_cons (ps_setLc (i := 2) (own := [("k", 8)]) (g := gName 8) (tt := tYes) rfl nd rfl rfl (sw_true rfl rfl rfl (by decide +kernel)) (pi_range1 (by rfl) B.range (pa_cons (pe_call GT.ok r2 rfl GT.g GT.k GT.b .nil pass0 (pa_cons (pv 1) (pa_cons pe_int pa_nil))) pa_nil)) (blkOk_by (N := NL) (sc := defScope sLaw) (by decide +kernel))
        (fun _ _ _ _ _ => pg_name (i := 8) nd rfl (Or.inl rfl)) (fun _ _ _ _ _ => pts_nil) (fun _ _ _ _ _ => pe_call GD.ok r10 rfl GD.g GD.k GD.b .nil pass0 (pa_cons (pv 1) (pa_cons pe_int pa_nil))))
    (pss_tok (psb_set (i := 3) nd rfl (Or.inl rfl) (peb_ix (r := rIxL K) ix_list (peb_lst (pab_cons (peb_op op_add peb_int (pe_call GT.ok r2 rfl GT.g GT.k GT.b .nil pass0 (pa_cons (pv 1) (pa_cons pe_int pa_nil)))) (pa_cons pe_int pa_nil)))
        (pe_call GT.ok r2 rfl GT.g GT.k GT.b .nil pass0 (pa_cons (pv 1) (pa_cons pe_int pa_nil))) (fun _ _ => rfl)))
    (psst_cons (PST.of (ps_expr (pe_bm PySem.F.plainAttrs_list PySem.F.slot_list_insert PySem.F.type_list_insert mt_insert (pv 2)
        (pa_cons (pe_call GT.ok r2 rfl GT.g GT.k GT.b .nil pass0 (pa_cons (pv 1) (pa_cons (pe_op op_add (pe_callB call_len_seq (by rfl) B.len PySem.boot_len (pa_cons (pv 2) pa_nil)) pe_int) pa_nil)))
          (pa_cons (pe_call GN.ok r3 rfl GN.g GN.k GN.b .nil pass0 (pa_cons (pv 1) (pa_cons (pv 3) pa_nil))) pa_nil)))))
    (psst_cons (PST.of (ps_set (i := 4) nd rfl (Or.inl rfl) (pe_lst pa_nil)))
    (psst_cons (PST.of (ps_for PassesOwn.never rfl (pi_list (pv 2)) (pg_name (i := 5) nd rfl (Or.inl rfl))
        (pss_one (ps_set (i := 4) nd rfl (Or.inl rfl) (pe_op op_cat (pv 4) (pe_call GC.ok r61 rfl GC.g GC.k GC.b .nil pass0 (pa_cons (pv 5) pa_nil)))))))
    (psst_cons (PST.of (ps_set (i := 6) nd rfl (Or.inl rfl) (pe_call GY.ok r4 rfl GY.g GY.k GY.b .nil pass0 (pa_cons (pv 1) (pa_cons (pv 4) pa_nil)))))
    (psst_cons (PST.of (ps_if (pt_not (pt_val (pe_call GM.ok r62 rfl GM.g GM.k GM.b .nil pass0 (pa_cons (pe_call GP.ok r5 rfl GP.g GP.k GP.b .nil passN (pa_cons (pv 6) pa_nil)) (pa_cons (pv 2) pa_nil))))) (pss_one (ps_ret pe_bl)) pss_nil))
    (psst_cons (pst_forT PassesOwn.never rfl (pi_list (pv 2)) (pg_name (i := 5) nd rfl (Or.inl rfl))
        (psst_cons (pst_set (i := 7) nd rfl (Or.inl rfl) (pet_call GF r1 rfl gF kF bF pass0 (pa_cons (pv 5) pa_nil)))
        (psst_cons (PST.of (ps_if (PW.pt (pw_or (pt_not (pt_val (pe_callB call_isi (by rfl) B.isinstance (by decide +kernel) (pa_cons (pv 7) (pa_cons (pe_bltn (v := .ty "str") (by rfl) B.str (by decide +kernel) rfl) pa_nil)))))
            (pw_or1 (pt_cmpR op_ne (pv 7) (pe_call GW.ok r61 rfl GW.g GW.k GW.b .nil pass0 (pa_cons (pv 5) pa_nil)) (nomark _))))) (pss_one (ps_ret pe_bl)) pss_nil))
        (CwR.psst_one (PST.of (ps_if (pt_not (pt_val (pe_call GM.ok r62 rfl GM.g GM.k GM.b .nil pass0 (pa_cons (pe_call GP.ok r5 rfl GP.g GP.k GP.b .nil passN (pa_cons (pv 7) pa_nil)) (pa_cons (pe_lst (pa_cons (pv 5) pa_nil)) pa_nil))))) (pss_one (ps_ret pe_bl)) pss_nil))))))
    (CwR.psst_one (PST.of (ps_ret (pe_and (pe_call GO.ok r6 rfl GO.g GO.k GO.b .nil pass0 (pa_cons (pe_op op_add_str (pe_op op_mulS pe_str pe_int) (pe_op op_mulS pe_str pe_int)) pa_nil))
        (pe_one (pe_call GO.ok r6 rfl GO.g GO.k GO.b .nil pass0 (pa_cons (pe_op op_add_str (pe_op op_add_str (pe_op op_add_str (pv 6) pe_str)
          (pe_call GW.ok r61 rfl GW.g GW.k GW.b .nil pass0 (pa_cons (pe_call GN.ok r3 rfl GN.g GN.k GN.b .nil pass0 (pa_cons (pv 1) (pa_cons pe_int pa_nil))) pa_nil))) pe_str) pa_nil))))))))))))))), ?_⟩
  have tabs : ∀ {H1 H2 : Hp} {Y : Addr → Prop}, (∀ p ∈ [P1, P2], GxR.TabG H1 p) → Sm Y H1 H2 → ∀ p ∈ [P1, P2], GxR.TabG H2 p := fun t s p hp => s.tab p (t p hp)
  refine ⟨_, rfl, a, ns, rfl, hS, hn, fun S L H1 hS0 hL0 ls s1 => ?_⟩
  refine ⟨_, rfl, S, L, 6, rfl, ls, by decide, nb (by decide), fun g H2 g0 g1 l2 s2 => ?_⟩
  refine ⟨g, rfl, by omega, by omega, fun D hD => ?_⟩
  have nD := l2.two hD
  refine lc_range (lo := 0) (fun i H' => ∃ vs ds, H' D = some (.lst vs) ∧ RepL (fun a => Off S L a ∧ a ≠ D) H' vs ds ∧ ds.length = i ∧ (∀ d ∈ ds, Fine d) ∧ LS H' S L ∧ Sm (Two S L) H2 H') ⟨[], [], upd_same, .nil, rfl, by simp, l2.new hD, Sm.new hD⟩ (fun i H5 hi t => ?_) (fun H5 t => ?_)
  · obtain ⟨vs, ds, t1, t2, t3, t4, t5, t7⟩ := t
    refine ⟨rfl, _, rfl, S, L, 6, rfl, t5, by decide, by decide, by decide, fun v d H6 hd rd l6 s6 => ?_⟩
    have t1' := s6.lst nD t1
    have lvs : vs.length ≤ 6 := by rw [t2.len, t3]; omega
    have kp1 : RepL (fun a => Off S L a ∧ a ≠ D) (upd H6 D (.lst (vs ++ [v]))) vs ds := t2.keep (fun a xs hc e => by rw [upd_ne hc.2]; exact s6.lst hc.1 e) fun _ z => z
    have kp2 : Rep (fun a => Off S L a ∧ a ≠ D) (upd H6 D (.lst (vs ++ [v]))) v d := rd.keep (fun a xs hc e => by rw [upd_ne (fun z => by rw [z, t1] at hc; exact absurd hc.2 (by simp))]; exact e) fun a hc => ⟨hc.1, fun z => by rw [z, t1] at hc; exact absurd hc.2 (by simp)⟩
    refine ⟨_, t1', Nat.lt_of_le_of_lt lvs (by decide), vs ++ [v], ds ++ [d], upd_same, kp1.snoc kp2, by simp [t3], ?_, ?_, (t7.trans s6).mut hD (ntbl_l t1')⟩
    · intro y hy
      rcases List.mem_append.mp hy with h | h
      · exact t4 y h
      · rw [List.mem_singleton.mp h]; exact fine_drawn hd
    · obtain ⟨cs, dd, a1, a2, a3⟩ := l6
      refine ⟨cs, dd, ?_, ?_, a3⟩
      · rw [upd_ne (fun z => nD (.inl z.symm))]; exact a1
      · rw [upd_ne (fun z => nD (.inr z.symm))]; exact a2
  obtain ⟨vs, ds, t1, t2, t3, t4, t5, t7⟩ := t
  have lds : ds.length ≤ 5 := by omega
  have lvs : vs.length ≤ 5 := by rw [t2.len]; exact lds
  have ht5 := tabs (tabs (tabs ht s1) s2) t7
  clear t3 t7
  -- how deep the nested one is
  refine ⟨_, rfl, S, L, 60, rfl, t5, by decide, nb (by decide), fun g1 H6 g10 g11 l6 s6 => ?_⟩
  refine ⟨_, _, rfl, rfl, by show 2 ≤ sizeLine; decide, fun p6 hp6 => ?_⟩
  refine ⟨_, rfl, S, L, 2, rfl, l6.new hp6, by decide, nb (by decide), fun g2 H7 g20 g21 l7 s7 => ?_⟩
  obtain ⟨m, am, m1, m60⟩ : ∃ m : Nat, atI [V.int (1 + g1), V.int 60] g2 = some (.int (m : Nat)) ∧ 1 ≤ m ∧ m ≤ 60 := by
    have c2 : g2 = 0 ∨ g2 = 1 := by omega
    rcases c2 with e | e <;> subst e
    · exact ⟨(1 + g1).toNat, by rw [at0]; congr 2; omega, by omega, by omega⟩
    · exact ⟨60, by rw [at1]; rfl, by decide, by decide⟩
  refine ⟨p6, _, _, _, rfl, rfl, SqL.of (s7.lst (l6.two hp6) upd_same), am, ?_⟩
  have s57 := (s6.trans (Sm.new (o := .lst [V.int (1 + g1), V.int 60]) hp6)).trans s7
  have nD5 : ¬ Two S L D := nD
  have t17 := s57.lst nD t1
  -- the nested one is put in
  refine ⟨_, rfl, .inl ⟨rfl, _, SqL.of t17⟩, _, rfl, _, rfl, D, _, rfl, .inl (SqL.of t17), _, _, rfl, rfl, S, L, _, rfl, l7, by omega, nb (by omega), fun g3 H8 g30 g31 l8 s8 => ?_⟩
  refine ⟨_, rfl, _, rfl, S, L, m, rfl, l8, m1, m60, fun v d H9 hn9 rd l9 s9 => ?_⟩
  have s59 := (s57.trans s8).trans s9
  have t19 := s59.lst nD t1
  have t18 := (s57.trans s8).lst nD t1
  refine ⟨D, vs, g3, v, rfl, rfl, t19, Nat.lt_of_le_of_lt lvs (by decide), g30, by omega, ?_⟩
  have hDX : upd H9 D (.lst (vs.take g3.toNat ++ [v] ++ vs.drop g3.toNat)) D = some (.lst (vs.take g3.toNat ++ [v] ++ vs.drop g3.toNat)) := upd_same
  have sDX : Sm (fun b => b = D) H9 (upd H9 D (.lst (vs.take g3.toNat ++ [v] ++ vs.drop g3.toNat))) := Sm.set rfl (ntbl_l t19)
  have rX : RepL (fun a => Off S L a ∧ a ≠ D) (upd H9 D (.lst (vs.take g3.toNat ++ [v] ++ vs.drop g3.toNat))) (vs.take g3.toNat ++ [v] ++ vs.drop g3.toNat) (ds.take g3.toNat ++ [d] ++ ds.drop g3.toNat) := by
    have k1 : RepL (fun a => Off S L a ∧ a ≠ D) (upd H9 D (.lst (vs.take g3.toNat ++ [v] ++ vs.drop g3.toNat))) vs ds := t2.keep (fun a xs hc e => by rw [upd_ne hc.2]; exact s59.lst hc.1 e) fun _ z => z
    have k2 : Rep (fun a => Off S L a ∧ a ≠ D) (upd H9 D (.lst (vs.take g3.toNat ++ [v] ++ vs.drop g3.toNat))) v d := rd.keep (fun a xs hc e => by rw [upd_ne (fun z => by rw [z, t18] at hc; exact absurd hc.2 (by simp))]; exact e) fun a hc => ⟨hc.1, fun z => by rw [z, t18] at hc; exact absurd hc.2 (by simp)⟩
    exact ((k1.take _).snoc k2).app (k1.drop _)
  have lX : LS (upd H9 D (.lst (vs.take g3.toNat ++ [v] ++ vs.drop g3.toNat))) S L := by
    obtain ⟨cs, dd, a1, a2, a3⟩ := l9
    refine ⟨cs, dd, ?_, ?_, a3⟩
    · rw [upd_ne (fun z => nD (.inl z.symm))]; exact a1
    · rw [upd_ne (fun z => nD (.inr z.symm))]; exact a2
  have fX : ∀ x ∈ ds.take g3.toNat ++ [d] ++ ds.drop g3.toNat, Fine x := fun x hx => by
    rcases List.mem_append.mp hx with h | h
    · rcases List.mem_append.mp h with h | h
      · exact t4 x (List.mem_of_mem_take h)
      · rw [List.mem_singleton.mp h]; exact fine_nst hn9 m60
    · exact t4 x (List.mem_of_mem_drop h)
  have nX : (ds.take g3.toNat ++ [d] ++ ds.drop g3.toNat).length ≤ 6 := by
    simp only [List.length_append, List.length_take, List.length_drop, List.length_cons, List.length_nil]
    omega
  have htX := tabs (tabs ht5 s59) sDX
  generalize upd H9 D (.lst (vs.take g3.toNat ++ [v] ++ vs.drop g3.toNat)) = HX at hDX rX lX htX ⊢
  generalize vs.take g3.toNat ++ [v] ++ vs.drop g3.toNat = us at hDX rX ⊢
  generalize ds.take g3.toNat ++ [d] ++ ds.drop g3.toNat = xs at rX fX nX ⊢
  clear t1 t2 t4 t5 t17 t18 t19 sDX s59 s57 am rd s9 s8 s7 s6 l9 l8 l7 l6 ht5 hp6 lds lvs
  have lus : us.length = xs.length := rX.len
  have wX : (wdsL xs).length ≤ 8742 := Nat.le_trans (wdsL_len fun x hx => (fX x hx).few) (Nat.le_trans (Nat.mul_le_mul_right _ nX) (by decide))
  -- the pieces
  refine ⟨by show 0 ≤ sizeLine; decide, fun p0 hp0 => ?_⟩
  have big' : big = 1000000 := rfl
  refine ⟨_, rfl, D, rfl, ⟨us, SqL.of ((Sm.new (X := No) hp0).lst0 hDX)⟩, for_list (xs := us) (fun k σ H' => ∃ (p : Addr) (ys : List Str) (v5 : Option V), σ = [some (.ref a), some (.ref S), some (.ref D), some (.int (m : Nat)), some (.ref p), v5, none, none, none] ∧ H' p = some (.lst (ys.map V.str)) ∧ HX p = none ∧ ys.map tl = wdsL (xs.take k) ∧ Sm No HX H')
      ⟨p0, [], none, rfl, upd_same, hp0, by rw [List.take_zero]; unfold wdsL; rfl, Sm.new hp0⟩ (fun k σ H' _ ⟨p, ys, v5, _, _, _, _, c⟩ => SqL.of (c.lst0 hDX)) ?_ ?_⟩
  · rintro k x σ H' hk ⟨p, ys, v5, rfl, h1, h2, h3, h4⟩
    have lk : k < xs.length := by rw [← lus]; exact (List.getElem?_eq_some_iff.mp hk).1
    obtain ⟨x', d', e1, e2, e3⟩ := rX.get lk
    rw [hk] at e1
    cases e1
    have md := List.mem_of_getElem? e2
    have fd' := fX d' md
    have ly : ys.length = (wdsL (xs.take k)).length := by
      have := congrArg List.length h3
      rw [List.length_map] at this
      exact this
    have fk := wdsL_take xs k
    refine ⟨_, rfl, _, rfl, x, d', rfl, fd'.good.dep, e3.all.sm h4, fd'.good.fmt, Nat.le_trans fd'.few (by decide), fun L' zs H5 s5 hL' hL5 ez => ?_⟩
    have lz : zs.length ≤ 1457 := by
      have := congrArg List.length ez
      rw [List.length_map] at this
      rw [this]
      exact fd'.few
    refine ⟨p, L', _, _, rfl, rfl, s5.lst0 h1, hL5, ?_, fun p5 hp5 => ⟨p5, ys ++ zs, _, rfl, by rw [upd_same, List.map_append], (h4.trans s5).dom _ hp5, ?_, (h4.trans s5).trans (Sm.new hp5)⟩⟩
    · rw [List.length_map, List.length_map]
      exact Nat.le_trans (show ys.length + zs.length ≤ 3000000 by omega) (by decide)
    · rw [List.map_append, h3, ez, take_more e2, wdsL_snoc]
  · rintro σ H' ⟨p, ys, v5, rfl, h1, h2, h3, h4⟩
    rw [lus, List.take_length] at h3
    have ly : ys.length = (wdsL xs).length := by
      have := congrArg List.length h3
      rw [List.length_map] at this
      exact this
    have wy : ∀ y ∈ ys, PcOk (tl y) ∧ y.length ≤ 50 := fun y hy => by
      have w1 := fine_words fX (tl y) (by rw [← h3]; exact List.mem_map_of_mem hy)
      exact ⟨w1.1, by rw [len_tl]; exact w1.2⟩
    refine ⟨_, rfl, _, rfl, S, L, p, ys, rfl, lX.sm h4, h1, lX.two h2, wy, by omega, fun z H5 hz lz l5 s5 => ?_⟩
    rw [h3] at hz
    have s6 : Sm (Two S L) HX H5 := h4.no.trans s5
    have tX := tabs htX s6
    -- read
    refine ⟨_, rfl, z, rfl, Nat.le_trans lz (by decide), tX, ?_⟩
    rw [run_words hz.ws fun d hd => (fX d hd).good.back]
    intro D7 vs7 C7 H7 s7 _ _ _ h7 r7
    have hD7 := s7.lst0 (s6.lst nD hDX)
    have rX6 : RepL (fun a => Off S L a ∧ a ≠ D) H5 us xs := rX.keep (fun a xs hc e => s6.lst hc.1 e) fun _ z => z
    refine ⟨_, rfl, .ref D7, .ref D, .lst xs, rfl, fine_dep fX (Nat.le_trans nX (by decide)), .lst trivial h7 r7.all, .lst trivial hD7 (rX6.sm s7).all, fun H8 s8 => ⟨_, rfl, ?_⟩⟩
    have hD8 := s8.lst0 hD7
    have rX8 := (rX6.sm s7).sm s8
    have t8 := tabs (tabs tX s7) s8
    have l8 := (l5.sm s7).sm s8
    clear r7 h7 s7 rX6 hD7 tX s6 l5 s5 wy ly h1 h2 h3 h4
    -- each datum
    refine ⟨_, rfl, D, rfl, ⟨us, SqL.of hD8⟩, for_list (xs := us) (fun k σ H' => ∃ (v4 : Option V) (v5 v7 : Option V), σ = [some (.ref a), some (.ref S), some (.ref D), some (.int (m : Nat)), v4, v5, some (.str z), v7, none] ∧ Sm No H8 H')
        ⟨_, _, none, rfl, Sm.refl _ _⟩ (fun k σ H' _ ⟨v4, v5, v7, _, c⟩ => SqL.of (c.lst0 hD8)) ?_ ?_⟩
    · rintro k x σ H9 hk ⟨v4, v5, v7, rfl, s9⟩
      have lk : k < xs.length := by rw [← lus]; exact (List.getElem?_eq_some_iff.mp hk).1
      obtain ⟨x', d', e1, e2, e3⟩ := rX8.get lk
      rw [hk] at e1
      cases e1
      have fd' := fX d' (List.mem_of_getElem? e2)
      have r9 := e3.all.sm s9
      refine ⟨_, rfl, x, d', rfl, r9, fd'.good.fmt, fd'.small, fun zt HA sA ez => ?_⟩
      refine ⟨_, rfl, _, _, .type "str", .type "str", true, rfl, .ty "str", .base (.str _), kit_ty (by decide +kernel), _, rfl, ?_⟩
      refine ⟨_, rfl, _, rfl, x, d', rfl, fd'.good.dep, r9.sm sA, fd'.good.fmt, Nat.le_trans fd'.wr (by decide), fun zw HB sB ew => ?_⟩
      have eq : zt = zw := ext_tl (by rw [ez, ew])
      subst eq
      refine ⟨rfl, _, rfl, ?_⟩
      rw [decide_eq_true (show V.str zt = V.str zt from rfl)]
      have sAB := sA.trans sB
      have lzt : zt.length ≤ big := by rw [len_tl, ez]; exact Nat.le_trans fd'.wr (by decide)
      have tB := tabs (tabs t8 s9) sAB
      refine ⟨_, rfl, zt, rfl, lzt, tB, ?_⟩
      rw [run_written ez fd'.good.back]
      intro DC vsC CC HC sC _ _ _ hC rC
      refine ⟨_, rfl, by show 1 ≤ sizeLine; decide, fun p hp => ?_⟩
      have sN : Sm No HC (upd HC p (.lst [x])) := Sm.new hp
      refine ⟨.ref DC, .ref p, .lst [d'], rfl, fine_dep (fun y hy => by rw [List.mem_singleton.mp hy]; exact fd') (show 1 ≤ big by decide), .lst trivial (sN.lst0 hC) (rC.all.sm sN), .lst trivial upd_same (.cons (((r9.sm sAB).sm sC).sm sN) .nil), fun HE sE => ⟨_, rfl, ?_⟩⟩
      exact ⟨_, _, _, rfl, s9.trans (sAB.trans (sC.trans (sN.trans sE)))⟩
    · rintro σ H9 ⟨v4, v5, v7, rfl, s9⟩
      have t9 := tabs t8 s9
      have l9 := l8.sm s9
      have eo : tl ("(" : Str) = [40] := by decide +kernel
      have ec : tl (")" : Str) = [41] := by decide +kernel
      have ea : tl (" (a " : Str) = [32, 40, 97, 32] := by decide +kernel
      have lo : ("(" : Str).length = 1 := by decide +kernel
      have lc : (")" : Str).length = 1 := by decide +kernel
      have la : (" (a " : Str).length = 4 := by decide +kernel
      refine ⟨_, 61, rfl, rfl, by decide, by decide, by rw [lo]; decide, fun zo eo' => ?_⟩
      refine ⟨_, 61, rfl, rfl, by decide, by decide, by rw [lc]; decide, fun zc ec' => ?_⟩
      rw [eo] at eo'
      rw [ec] at ec'
      have eo2 : tl zo = List.replicate 61 40 := by rw [eo']; decide +kernel
      have ec2 : tl zc = List.replicate 61 41 := by rw [ec']; decide +kernel
      have lzo : zo.length = 61 := by rw [len_tl, eo2, List.length_replicate]
      have lzc : zc.length = 61 := by rw [len_tl, ec2, List.length_replicate]
      refine ⟨_, _, rfl, rfl, by rw [lzo, lzc]; decide, ?_⟩
      refine ⟨zo ++ zc, rfl, by rw [app_len, lzo, lzc]; decide, t9, many_deep _ (by rw [tl_append, eo2, ec2]), fun HA sA => ⟨_, rfl, ?_⟩⟩
      refine ⟨_, rfl, _, _, rfl, rfl, by rw [la]; exact Nat.le_trans (show z.length + 4 ≤ 1000004 by omega) (by decide), ?_⟩
      refine ⟨_, rfl, S, L, 60, rfl, l9.sm sA, by decide, by decide, fun v d HB nB rB lB sB => ?_⟩
      have fB := fine_nst nB (Nat.le_refl _)
      refine ⟨v, d, rfl, fB.good.dep, rB.all, fB.good.fmt, Nat.le_trans fB.wr (by decide), fun zw HC sC ew => ?_⟩
      have lzw : zw.length ≤ 80000 := by rw [len_tl, ew]; exact fB.wr
      refine ⟨_, _, rfl, rfl, by rw [app_len, la]; exact Nat.le_trans (show z.length + 4 + zw.length ≤ 1080004 by omega) (by decide), ?_⟩
      refine ⟨_, _, rfl, rfl, by rw [app_len, app_len, la, lo]; exact Nat.le_trans (show z.length + 4 + zw.length + 1 ≤ 1080005 by omega) (by decide), ?_⟩
      refine ⟨z ++ " (a " ++ zw ++ "(", rfl, ?_, tabs (tabs (tabs t9 sA) sB) sC, ?_, fun HD sD => q HD⟩
      · rw [app_len, app_len, app_len, la, lo, big']
        omega
      · exact last_deep hz fX nB (by rw [tl_append, tl_append, tl_append, ea, eo, ew])
end
end My
namespace My
open PySem PySem.Spec PyProof.Rows L2 He
abbrev dd (i : Nat) (x : Str) : DefD := ⟨(x, none), x, x, defArgs (top i), defBody (top i), defScope (top i), [], []⟩
abbrev dc (i j : Nat) (x m q : Str) : DefD := ⟨(x, some m), m, q, defArgs (inClass (top i) j), defBody (inClass (top i) j), defScope (inClass (top i) j), [], []⟩
def fnK : List DefD := [dc 2 0 "UnexpectedEnd" "__init__" "UnexpectedEnd.__init__", dc 3 0 "UnexpectedClose" "__init__" "UnexpectedClose.__init__", dc 4 0 "InvalidWord" "__init__" "InvalidWord.__init__", dd 12 "is_made_as_number", dd 13 "is_symbol", dd 14 "is_integer",
  dd 15 "read_word", dd 16 "word_end", dd 17 "remark_end", dd 18 "begin_list", dd 19 "end_list", dd 20 "read_data", dd 21 "parse_all",
  dd 22 "format_datum", dd 24 "_law_mixed", dd 25 "_law_take", dd 26 "_law_state", dd 27 "_law_same", dd 28 "_law_symbol",
  dd 29 "_law_is_numeral", dd 30 "_law_integer", dd 31 "_law_datum", dd 32 "_law_gap", dd 33 "_law_pieces", dd 34 "_law_laid_out",
  dd 35 "_law_written", dd 36 "_law_nested", dd 37 "_law_too_deep", dd 38 "law"]
def faK : List Fa := [.glo "FoldError", .glo "UnexpectedEnd", .glo "UnexpectedClose", .glo "InvalidWord", .glo "TooDeep", .glo "is_made_as_number",
  .glo "is_symbol", .glo "is_integer", .glo "read_word", .glo "word_end", .glo "remark_end", .glo "begin_list",
  .glo "end_list", .glo "read_data", .glo "parse_all", .glo "format_datum", .glo "_law_mixed", .glo "_law_take", .glo "_law_state",
  .glo "_law_same", .glo "_law_symbol", .glo "_law_is_numeral", .glo "_law_integer", .glo "_law_datum", .glo "_law_gap",
  .glo "_law_pieces", .glo "_law_laid_out", .glo "_law_written", .glo "_law_nested", .glo "_law_too_deep", .glo "law",
  .exc "TooDeep", .str "DIGITS" "0123456789", .str "SYMBOL_SIGNS" "abcdefghijklmnopqrstuvwxyzABCDEFGHIJKLMNOPQRSTUVWXYZ0123456789-+*<=?!.", .str "WORD_ENDS" " \n();", .int "MOST_DIGITS" 40, .int "DEEPEST_LIST" 60,
  .free "int", .free "abs", .free "len", .free "range", .free "str", .free "isinstance",
  .free "all", .free "list", .free "tuple", .free "bool", .free "ValueError"]
def tfK : List Defn := [("is_made_as_number", none), ("is_symbol", none)]
/-- an exception's class over own ones and ValueError -/
def excB (K : PySem.W.Frag) (C : Addr) : Bool := match K.lookup C with
  | some ⟨.type "type", _, .cls cd, sl⟩ => (match cd.mro, sl.toList with
    | .ref C' :: bm, [_, _, _, _, some (.builtin n), _] => C' == C && (n == "ValueError.__new__" && (!cd.hasDel && (cd.hasDict && PySem.HandSPX.refsVE bm)))
    | _, _ => false)
  | _ => false
/-- all that is asked of one exception class with fields at -/
def excAll (K : PySem.W.Frag) (x : Str) : Bool :=
  excB K (ga K x) && (eqO (PySem.W.findIn K (.ref (ga K x)) "__setattr__") (some (some (.builtin "object.__setattr__"))) &&
  (decide (PySem.W.subIn K (.ref (ga K x)) (.type "BaseException") = some true) && (decide (PySem.W.typeIn K (.ref (ga K x)) = some (.type "type")) && (PySem.W.keepIn K (.ref (ga K x)) &&
  (eqO (PySem.W.findIn K (.ref (ga K x)) "__getattribute__") (some (some (.builtin "BaseException.__getattribute__"))) && (eqO (PySem.W.findIn K (.ref (ga K x)) "__getattr__") (some none) &&
  (PySem.W.hasDictIn K (ga K x) && (eqO (PySem.W.findIn K (.ref (ga K x)) "__class__") (some (some (.builtin "object.__class__"))) && (decide (PySem.W.mroIn K (ga K x) (.type "object") = some true) &&
  (eqO (PySem.W.findIn K (.ref (ga K x)) "at") (some none) && decide (PySem.W.exmOne K (.ref (ga K x)) (.ref (ga K "FoldError")) = some true)))))))))))
def iniB (K : PySem.W.Frag) (x : Str) : Bool := eqO (PySem.W.findIn K (.ref (ga K x)) "__init__") (some (some (.ref (ma K (ga K x) "__init__")))) && decide (PySem.W.typeIn K (.ref (ma K (ga K x) "__init__")) = some (.type "function"))
def kitB (K : PySem.W.Frag) (x y : Str) (b : Bool) : Bool := decide (PySem.W.kitOne K (.ref (ga K x)) (.ref (ga K y)) = some b)
def kitAll (K : PySem.W.Frag) : Bool := kitB K "TooDeep" "TooDeep" true && decide (PySem.W.kitOne K (.ref (ga K "TooDeep")) (.type "ValueError") = some true)
def valB (r : Option PySem.W.CFound) (n : String) : Bool := match r with
  | some (.val (.builtin m)) => m == n
  | _ => false
theorem valB_ok {r : Option PySem.W.CFound} {n : String} (h : valB r n = true) : r = some (.val (.builtin n)) := by
  unfold valB at h
  split at h
  · rw [eq_of_beq h]
  · cases h
def exK (K : PySem.W.Frag) : Bool :=
  (excAll K "UnexpectedEnd" && (excAll K "UnexpectedClose" && (excAll K "InvalidWord" && excAll K "TooDeep"))) && ((iniB K "UnexpectedEnd" && (iniB K "UnexpectedClose" && iniB K "InvalidWord")) &&
  (((kitAll K) &&
  (eqO (PySem.W.specialIn K (.builtin "object.__class__") "__get__") (some (some (.builtin "getset_descriptor.__get__"))) && decide (PySem.W.takesIn K (.builtin "object.__class__") = some true))) &&
  (PySem.W.readsIn K (ga K "FoldError") (.type "type") && (eqO (PySem.W.specialIn K (.ref (ga K "FoldError")) "__getattribute__") (some (some (.builtin "type.__getattribute__"))) && valB (PySem.W.findCls K (.ref (ga K "FoldError")) (.type "type") "__init__") "ValueError.__init__"))))
/-! ### the hook: what the module's names reach, and the statics -/
def reach (g : Addr → Option Obj) : List Addr := He.asD g 5 ++ [cStatics]
theorem says_of {fa : List Fa} {fn : List DefD} {ts : List Tab} {tf : List Defn} {ex : PySem.W.Frag → Bool} {w : World} {h : Heap} {as : List Addr} (e1 : obsT fa fn ts (frT h.get? as) = valT fn ts w)
    (e2 : (ex (frT h.get? as) && tabsB h.get? tf (frT h.get? as)) = true) : SaysX fa fn ts tf ex w h (frT h.get? as) := by
  obtain ⟨x1, x2⟩ := ba e2
  have key : ∀ p ∈ tf, PySem.W.codeHdIn (frT h.get? as) (cT (frT h.get? as) p).1 (cT (frT h.get? as) p).2 = true ∧ ∃ o, h.get? (cT (frT h.get? as) p).2 = some o ∧ emptyTab o = true := by
    intro p hp
    obtain ⟨y1, y2⟩ := ba (List.all_eq_true.mp x2 p hp)
    cases q : h.get? (cT (frT h.get? as) p).2 with
    | none => rw [q] at y2; cases y2
    | some o => rw [q] at y2; exact ⟨y1, o, rfl, y2⟩
  refine ⟨e1, x1, fun p hp => (key p hp).1, fun p hp => ?_, fun p hp => ?_⟩
  · obtain ⟨_, o, q, z⟩ := key p hp
    exact frT_none q z
  · obtain ⟨_, o, q, z⟩ := key p hp
    rw [q, emptyTab_eq z]
abbrev AlY : Type := AlT × Bool
def obsY (fa : List Fa) (fn : List DefD) (tf : List Defn) (ex : PySem.W.Frag → Bool) (g : Addr → Option Obj) : AlY := (obsT fa fn [] (frT g (reach g)), ex (frT g (reach g)) && tabsB g tf (frT g (reach g)))
def hookY (fa : List Fa) (fn : List DefD) (tf : List Defn) (ex : PySem.W.Frag → Bool) : PySem.W.Hook where
  α := AlY
  obs := fun s => obsY fa fn tf ex s.heap.get?
  val := fun w => (valT fn [] w, true)
  says := fun w h => ∃ K : PySem.W.Frag, K.In h ∧ SaysX fa fn [] tf ex w h K
  of := fun _ _ e => ⟨_, frT_in, says_of (congrArg (fun z : AlY => z.1) e) (congrArg (fun z : AlY => z.2) e)⟩
  keeps := fun _ _ _ ⟨K, hK, c⟩ k => ⟨K, PySem.W.Frag.In.keeps hK k, ⟨c.t, c.more, c.hd, c.out, fun p hp => k _ _ (c.empty p hp)⟩⟩
abbrev R : PySem.W.OpenRow := PySem.W.OpenLaw.row PySem.Challenge.rw_aliasfold_k11_texts_read
abbrev hk : PySem.W.Hook := hookY faK fnK tfK exK
def ob (s : PySem.W.SharedT) : AlY := obsY faK fnK tfK exK (HandSHeadRun.getT s)
theorem ob_eq (s : PySem.W.SharedT) : ob s = hk.obs s.abs := by
  have e : HandSHeadRun.getT s = s.abs.heap.get? := funext (HandSHeadRun.getT_eq s)
  unfold ob
  rw [e] <;> rfl
def loose : List Str := [("FoldError" : Str), ("UnexpectedEnd" : Str), ("UnexpectedClose" : Str), ("InvalidWord" : Str), ("TooDeep" : Str), ("DIGITS" : Str),
  ("SYMBOL_SIGNS" : Str), ("WORD_ENDS" : Str), ("MOST_DIGITS" : Str), ("DEEPEST_LIST" : Str), ("is_made_as_number" : Str), ("is_symbol" : Str),
  ("is_integer" : Str), ("read_word" : Str), ("word_end" : Str), ("remark_end" : Str), ("begin_list" : Str), ("end_list" : Str),
  ("read_data" : Str), ("parse_all" : Str), ("format_datum" : Str), ("_law_mixed" : Str), ("_law_take" : Str), ("_law_state" : Str), ("_law_same" : Str),
  ("_law_symbol" : Str), ("_law_is_numeral" : Str), ("_law_integer" : Str), ("_law_datum" : Str), ("_law_gap" : Str), ("_law_pieces" : Str),
  ("_law_laid_out" : Str), ("_law_written" : Str), ("_law_nested" : Str), ("_law_too_deep" : Str)]
theorem headRun (w : World) : HandSHeadRun.RunEq R (PySem.W.view R.prog [38]) hk ob 4000 loose w := by
  intro os
  kernel_rfl
end My
namespace My
open PySem PySem.Spec PyProof.Rows L2 TL
section
variable {P : Program} {w : World} {K : PySem.W.Frag} {mg : Str → Option Value} {base : Heap}
theorem scIniE : FnScope ["self", "at"] ["self", "at"] (defScope sIniE) := ⟨rfl, rfl, rfl, by decide +kernel, rfl, by decide +kernel, by decide +kernel⟩
theorem ok_iniE {f F C : Addr} {fd : FuncData} (Fn : Fun K "__init__" "UnexpectedEnd.__init__" sIniE f fd) (B : BaseC K mg F) (T : OexC K C) (hno : PySem.W.findIn K (.ref C) "at" = some none) :
    FnOk P w K mg base CX0 1 f fd ["self", "at"] (spIni K C) := by
  refine Fn.ok scIniE (fun vs H Q E h => ?_) (fun cdv A outer s H vs Q E hr h => ?_)
  · obtain ⟨a, i, rfl, _⟩ := h
    rfl
  obtain ⟨a, i, rfl, ea, hi, q⟩ := h
  refine ⟨_, pss_cons (ps_expr (pe_baseInit B rfl (pa_cons (pv 0) (pa_cons (pe_joined (PJ.cons pe_str (PJ.cons (pe_fmt (pv 1)) PJ.nil))) pa_nil))))
    (pss_one (ps_ost (pv 0) (pv 1))), ?_⟩
  have l1 := int_len hi
  refine ⟨_, rfl, _, rfl, by decide +kernel, _, rfl, .inr ⟨i, rfl, int_log hi, _, rfl, ?_, ?_⟩⟩
  · rw [app_len]
    exact Nat.le_trans (Nat.add_le_add (show _ ≤ 100 by decide +kernel) l1) (by decide)
  refine ⟨a, C, _, rfl, by show 1 ≤ 1000; decide, T, ea, ?_⟩
  refine ⟨_, rfl, _, rfl, a, C, rfl, T, hno, .inl ⟨ea, fun d hd hda => q d hd hda⟩⟩
theorem scIniC : FnScope ["self", "at"] ["self", "at"] (defScope sIniC) := ⟨rfl, rfl, rfl, by decide +kernel, rfl, by decide +kernel, by decide +kernel⟩
theorem ok_iniC {f F C : Addr} {fd : FuncData} (Fn : Fun K "__init__" "UnexpectedClose.__init__" sIniC f fd) (B : BaseC K mg F) (T : OexC K C) (hno : PySem.W.findIn K (.ref C) "at" = some none) :
    FnOk P w K mg base CX0 1 f fd ["self", "at"] (spIni K C) := by
  refine Fn.ok scIniC (fun vs H Q E h => ?_) (fun cdv A outer s H vs Q E hr h => ?_)
  · obtain ⟨a, i, rfl, _⟩ := h
    rfl
  obtain ⟨a, i, rfl, ea, hi, q⟩ := h
  refine ⟨_, pss_cons (ps_expr (pe_baseInit B rfl (pa_cons (pv 0) (pa_cons (pe_joined (PJ.cons pe_str (PJ.cons (pe_fmt (pv 1)) PJ.nil))) pa_nil))))
    (pss_one (ps_ost (pv 0) (pv 1))), ?_⟩
  have l1 := int_len hi
  refine ⟨_, rfl, _, rfl, by decide +kernel, _, rfl, .inr ⟨i, rfl, int_log hi, _, rfl, ?_, ?_⟩⟩
  · rw [app_len]
    exact Nat.le_trans (Nat.add_le_add (show _ ≤ 100 by decide +kernel) l1) (by decide)
  refine ⟨a, C, _, rfl, by show 1 ≤ 1000; decide, T, ea, ?_⟩
  refine ⟨_, rfl, _, rfl, a, C, rfl, T, hno, .inl ⟨ea, fun d hd hda => q d hd hda⟩⟩
end
/-! ### from the head's facts -/
section
open He
variable {K : PySem.W.Frag} {h : Heap} {mg : Str → Option Value} {w : World}
theorem fun_of {x q : Str} {st : Stmt} {f : Addr} {fd : FuncData} (F : FunD K x q (defArgs st) (defBody st) (defScope st) [] [] f fd) : Fun K x q st f fd := by
  obtain ⟨oc, od, dV, kV, doc, pm, an, cdv, ct, osl, e, lk, hcd, hD, hK⟩ := F.ex
  rcases hD with ⟨_, rfl⟩ | ⟨e, _⟩
  · exact ⟨⟨oc, od, kV, doc, pm, an, cdv, ct, osl, e, lk, hcd⟩, F.kp⟩
  · exact absurd rfl e
theorem func_of {x : Str} {st : Stmt} {fd : FuncData} (F : Fun K x x st (ga K x) fd) : FunC K x st (ga K x) fd (codeOf K (x, none)) := by
  obtain ⟨oc, od, kV, doc, pm, an, cdv, ct, osl, e, lk, hcd⟩ := F.ex
  obtain ⟨c, ec⟩ := codeIn_ref hcd
  subst ec
  subst e
  have e2 : codeOf K (x, none) = c := codeOf_eq (p := (x, none)) lk rfl
  rw [e2]
  exact ⟨⟨oc, od, kV, doc, pm, an, ct, osl, rfl, lk, hcd⟩, F.kp⟩
theorem excB_ok {C : Addr} (q : excB K C = true) : ∃ nm q N bs bm sn sub ab col dd k0 k1 k2 k3 k5, K.lookup C = some (excClassObj nm q C N bs bm true sn sub ab col dd k0 k1 k2 k3 k5 "ValueError.__new__") ∧ PySem.HandSPX.refsVE bm = true := by
  unfold excB at q
  split at q
  · rename_i dd cd sl ho
    split at q
    · rename_i C' bm k0 k1 k2 k3 n k5 hm hs
      simp only [Bool.and_eq_true, beq_iff_eq, Bool.not_eq_true'] at q
      obtain ⟨e1, e2, hdel, hd, hr⟩ := q
      obtain ⟨nm, bs, mro, ns, qn, hdct, sn, sub, ab, col, del⟩ := cd
      dsimp only at hm hdel hd
      subst hm hdel hd e1 e2
      have hsl : sl = #[k0, k1, k2, k3, some (.builtin "ValueError.__new__"), k5] := by
        obtain ⟨l⟩ := sl
        simp only at hs
        rw [hs]
      subst hsl
      exact ⟨nm, qn, ns, bs, bm, sn, sub, ab, col, dd, k0, k1, k2, k3, k5, ho, hr⟩
    · cases q
  · cases q
structure ExAll (K : PySem.W.Frag) (C F : Addr) : Prop where
  o : OexC K C
  ga : PySem.W.findIn K (.ref C) "__getattribute__" = some (some (.builtin "BaseException.__getattribute__"))
  gg : PySem.W.findIn K (.ref C) "__getattr__" = some none
  hd : PySem.W.hasDictIn K C = true
  cl : PySem.W.findIn K (.ref C) "__class__" = some (some (.builtin "object.__class__"))
  mro : PySem.W.mroIn K C (.type "object") = some true
  no : PySem.W.findIn K (.ref C) "at" = some none
  exm : PySem.W.exmOne K (.ref C) (.ref F) = some true
theorem excAll_ok {x : Str} (q : excAll K x = true) : ExAll K (ga K x) (ga K "FoldError") := by
  obtain ⟨c1, q⟩ := ba q
  obtain ⟨c2, q⟩ := ba q
  obtain ⟨c3, q⟩ := ba q
  obtain ⟨c4, q⟩ := ba q
  obtain ⟨c5, q⟩ := ba q
  obtain ⟨c6, q⟩ := ba q
  obtain ⟨c7, q⟩ := ba q
  obtain ⟨c8, q⟩ := ba q
  obtain ⟨c9, q⟩ := ba q
  obtain ⟨c10, q⟩ := ba q
  obtain ⟨c11, c12⟩ := ba q
  exact ⟨⟨excB_ok c1, eqO_ok c2, of_decide_eq_true c3, of_decide_eq_true c4, c5⟩, eqO_ok c6, eqO_ok c7, c8, eqO_ok c9, of_decide_eq_true c10, eqO_ok c11, of_decide_eq_true c12⟩
theorem iniB_ok {x : Str} (q : iniB K x = true) : PySem.W.findIn K (.ref (ga K x)) "__init__" = some (some (.ref (ma K (ga K x) "__init__"))) ∧ PySem.W.typeIn K (.ref (ma K (ga K x) "__init__")) = some (.type "function") := by
  obtain ⟨a, b⟩ := ba q
  exact ⟨eqO_ok a, of_decide_eq_true b⟩
structure ExK (K : PySem.W.Frag) : Prop where
  e : ExAll K (ga K "UnexpectedEnd") (ga K "FoldError")
  c : ExAll K (ga K "UnexpectedClose") (ga K "FoldError")
  w : ExAll K (ga K "InvalidWord") (ga K "FoldError")
  ie : PySem.W.findIn K (.ref (ga K "UnexpectedEnd")) "__init__" = some (some (.ref (ma K (ga K "UnexpectedEnd") "__init__"))) ∧ PySem.W.typeIn K (.ref (ma K (ga K "UnexpectedEnd") "__init__")) = some (.type "function")
  ic : PySem.W.findIn K (.ref (ga K "UnexpectedClose")) "__init__" = some (some (.ref (ma K (ga K "UnexpectedClose") "__init__"))) ∧ PySem.W.typeIn K (.ref (ma K (ga K "UnexpectedClose") "__init__")) = some (.type "function")
  iw : PySem.W.findIn K (.ref (ga K "InvalidWord")) "__init__" = some (some (.ref (ma K (ga K "InvalidWord") "__init__"))) ∧ PySem.W.typeIn K (.ref (ma K (ga K "InvalidWord") "__init__")) = some (.type "function")
  d : ExAll K (ga K "TooDeep") (ga K "FoldError")
  k1 : PySem.W.kitOne K (.ref (ga K "TooDeep")) (.ref (ga K "TooDeep")) = some true
  k2 : PySem.W.kitOne K (.ref (ga K "TooDeep")) (.type "ValueError") = some true
  hn : PySem.W.specialIn K (.builtin "object.__class__") "__get__" = some (some (.builtin "getset_descriptor.__get__"))
  ht : PySem.W.takesIn K (.builtin "object.__class__") = some true
  rd : PySem.W.readsIn K (ga K "FoldError") (.type "type") = true
  sp : PySem.W.specialIn K (.ref (ga K "FoldError")) "__getattribute__" = some (some (.builtin "type.__getattribute__"))
  ini : PySem.W.findCls K (.ref (ga K "FoldError")) (.type "type") "__init__" = some (.val (.builtin "ValueError.__init__"))
theorem exK_ok (q : exK K = true) : ExK K := by
  obtain ⟨a, q⟩ := ba q
  obtain ⟨a1, a⟩ := ba a
  obtain ⟨a2, a⟩ := ba a
  obtain ⟨a3, a4⟩ := ba a
  obtain ⟨b, q⟩ := ba q
  obtain ⟨b1, b⟩ := ba b
  obtain ⟨b2, b3⟩ := ba b
  obtain ⟨k, q⟩ := ba q
  obtain ⟨k, n⟩ := ba k
  obtain ⟨kk1, kk2⟩ := ba k
  obtain ⟨n1, n2⟩ := ba n
  obtain ⟨r1, q⟩ := ba q
  obtain ⟨r2, r3⟩ := ba q
  exact ⟨excAll_ok a1, excAll_ok a2, excAll_ok a3, iniB_ok b1, iniB_ok b2, iniB_ok b3, excAll_ok a4, of_decide_eq_true kk1, of_decide_eq_true kk2, eqO_ok n1, of_decide_eq_true n2, r1, eqO_ok r2, valB_ok r3⟩
end
end My
namespace My
open PySem PySem.Spec PyProof.Rows L2 TL He
abbrev row11 : PySem.W.OpenLaw := PySem.Challenge.rw_aliasfold_k11_texts_read
theorem facts {K : PySem.W.Frag} {h : Heap} {mg : Str → Option Value} {w : World} {fa : Addr} (c : SaysX faK fnK [] tfK exK w h K) (X : K.In h) (G : h.Ns mainGlobals mg) (hfa : mg ("law" : Str) = some (.ref fa)) :
    LamX.LawAtS row11 w K CX0 64 63 "script" mg fa h := by
  have d := c.t.d
  have e := exK_ok c.more
  have glo : ∀ x : Str, Fa.glo x ∈ faK → mg x = some (.ref (ga K x)) := fun x m => glo_ok X G (d.facts m)
  have fre : ∀ x : Str, Fa.free x ∈ faK → mg x = none := fun x m => free_ok X G (d.facts m)
  have B : Blt mg := ⟨fre _ (by simp [faK]), fre _ (by simp [faK]), fre _ (by simp [faK]), fre _ (by simp [faK]), fre _ (by simp [faK]), fre _ (by simp [faK]), fre _ (by simp [faK]), fre _ (by simp [faK]), fre _ (by simp [faK]), fre _ (by simp [faK])⟩
  have T : Txs mg := ⟨str_ok X G (d.facts (f := .str "DIGITS" "0123456789") (by simp [faK])), str_ok X G (d.facts (f := .str "SYMBOL_SIGNS" "abcdefghijklmnopqrstuvwxyzABCDEFGHIJKLMNOPQRSTUVWXYZ0123456789-+*<=?!.") (by simp [faK])), str_ok X G (d.facts (f := .str "WORD_ENDS" " \n();") (by simp [faK])),
    int_ok X G (d.facts (f := .int "MOST_DIGITS" 40) (by simp [faK])), int_ok X G (d.facts (f := .int "DEEPEST_LIST" 60) (by simp [faK]))⟩
  obtain ⟨dUnexpectedend_Init, DUnexpectedend_Init⟩ := d.def_ 0 (d := dc 2 0 "UnexpectedEnd" "__init__" "UnexpectedEnd.__init__") rfl
  have FUnexpectedend_Init : Fun K "__init__" "UnexpectedEnd.__init__" (inClass (top 2) 0) (ma K (ga K "UnexpectedEnd") "__init__") dUnexpectedend_Init := fun_of DUnexpectedend_Init
  have bUnexpectedend_Init : Binds K dUnexpectedend_Init ["self", "at"] [] := FUnexpectedend_Init.binds fun _ _ _ _ _ _ us hl => match us, hl with | [_, _], _ => rfl
  obtain ⟨dUnexpectedclose_Init, DUnexpectedclose_Init⟩ := d.def_ 1 (d := dc 3 0 "UnexpectedClose" "__init__" "UnexpectedClose.__init__") rfl
  have FUnexpectedclose_Init : Fun K "__init__" "UnexpectedClose.__init__" (inClass (top 3) 0) (ma K (ga K "UnexpectedClose") "__init__") dUnexpectedclose_Init := fun_of DUnexpectedclose_Init
  have bUnexpectedclose_Init : Binds K dUnexpectedclose_Init ["self", "at"] [] := FUnexpectedclose_Init.binds fun _ _ _ _ _ _ us hl => match us, hl with | [_, _], _ => rfl
  obtain ⟨dInvalidword_Init, DInvalidword_Init⟩ := d.def_ 2 (d := dc 4 0 "InvalidWord" "__init__" "InvalidWord.__init__") rfl
  have FInvalidword_Init : Fun K "__init__" "InvalidWord.__init__" (inClass (top 4) 0) (ma K (ga K "InvalidWord") "__init__") dInvalidword_Init := fun_of DInvalidword_Init
  have bInvalidword_Init : Binds K dInvalidword_Init ["self", "at"] [] := FInvalidword_Init.binds fun _ _ _ _ _ _ us hl => match us, hl with | [_, _], _ => rfl
  obtain ⟨dIsMadeAsNumber, DIsMadeAsNumber⟩ := d.def_ 3 (d := dd 12 "is_made_as_number") rfl
  have FIsMadeAsNumber : Fun K "is_made_as_number" "is_made_as_number" (top 12) (ga K "is_made_as_number") dIsMadeAsNumber := fun_of DIsMadeAsNumber
  have bIsMadeAsNumber : Binds K dIsMadeAsNumber ["word"] [] := FIsMadeAsNumber.binds fun _ _ _ _ _ _ us hl => match us, hl with | [_], _ => rfl
  obtain ⟨dIsSymbol, DIsSymbol⟩ := d.def_ 4 (d := dd 13 "is_symbol") rfl
  have FIsSymbol : Fun K "is_symbol" "is_symbol" (top 13) (ga K "is_symbol") dIsSymbol := fun_of DIsSymbol
  have bIsSymbol : Binds K dIsSymbol ["text"] [] := FIsSymbol.binds fun _ _ _ _ _ _ us hl => match us, hl with | [_], _ => rfl
  obtain ⟨dIsInteger, DIsInteger⟩ := d.def_ 5 (d := dd 14 "is_integer") rfl
  have FIsInteger : Fun K "is_integer" "is_integer" (top 14) (ga K "is_integer") dIsInteger := fun_of DIsInteger
  have bIsInteger : Binds K dIsInteger ["word"] [] := FIsInteger.binds fun _ _ _ _ _ _ us hl => match us, hl with | [_], _ => rfl
  obtain ⟨dReadWord, DReadWord⟩ := d.def_ 6 (d := dd 15 "read_word") rfl
  have FReadWord : Fun K "read_word" "read_word" (top 15) (ga K "read_word") dReadWord := fun_of DReadWord
  have bReadWord : Binds K dReadWord ["word", "at"] [] := FReadWord.binds fun _ _ _ _ _ _ us hl => match us, hl with | [_, _], _ => rfl
  obtain ⟨dWordEnd, DWordEnd⟩ := d.def_ 7 (d := dd 16 "word_end") rfl
  have FWordEnd : Fun K "word_end" "word_end" (top 16) (ga K "word_end") dWordEnd := fun_of DWordEnd
  have bWordEnd : Binds K dWordEnd ["text", "at"] [] := FWordEnd.binds fun _ _ _ _ _ _ us hl => match us, hl with | [_, _], _ => rfl
  obtain ⟨dRemarkEnd, DRemarkEnd⟩ := d.def_ 8 (d := dd 17 "remark_end") rfl
  have FRemarkEnd : Fun K "remark_end" "remark_end" (top 17) (ga K "remark_end") dRemarkEnd := fun_of DRemarkEnd
  have bRemarkEnd : Binds K dRemarkEnd ["text", "at"] [] := FRemarkEnd.binds fun _ _ _ _ _ _ us hl => match us, hl with | [_, _], _ => rfl
  obtain ⟨dBeginList, DBeginList⟩ := d.def_ 9 (d := dd 18 "begin_list") rfl
  have FBeginList : Fun K "begin_list" "begin_list" (top 18) (ga K "begin_list") dBeginList := fun_of DBeginList
  have bBeginList : Binds K dBeginList ["rows", "deepest"] [] := FBeginList.binds fun _ _ _ _ _ _ us hl => match us, hl with | [_, _], _ => rfl
  obtain ⟨dEndList, DEndList⟩ := d.def_ 10 (d := dd 19 "end_list") rfl
  have FEndList : Fun K "end_list" "end_list" (top 19) (ga K "end_list") dEndList := fun_of DEndList
  have bEndList : Binds K dEndList ["rows", "at"] [] := FEndList.binds fun _ _ _ _ _ _ us hl => match us, hl with | [_, _], _ => rfl
  obtain ⟨dReadData, DReadData⟩ := d.def_ 11 (d := dd 20 "read_data") rfl
  have FReadData : Fun K "read_data" "read_data" sData (ga K "read_data") dReadData := fun_of DReadData
  have bReadData : Binds K dReadData ["text", "deepest"] [] := FReadData.binds fun _ _ _ _ _ _ us hl => match us, hl with | [_, _], _ => rfl
  obtain ⟨dParseAll, DParseAll⟩ := d.def_ 12 (d := dd 21 "parse_all") rfl
  have FParseAll : Fun K "parse_all" "parse_all" (top 21) (ga K "parse_all") dParseAll := fun_of DParseAll
  have bParseAll : Binds K dParseAll ["text"] [] := FParseAll.binds fun _ _ _ _ _ _ us hl => match us, hl with | [_], _ => rfl
  obtain ⟨dFormatDatum, DFormatDatum⟩ := d.def_ 13 (d := dd 22 "format_datum") rfl
  have FFormatDatum : Fun K "format_datum" "format_datum" (top 22) (ga K "format_datum") dFormatDatum := fun_of DFormatDatum
  have bFormatDatum : Binds K dFormatDatum ["datum"] [] := FFormatDatum.binds fun _ _ _ _ _ _ us hl => match us, hl with | [_], _ => rfl
  obtain ⟨dLMixed, DLMixed⟩ := d.def_ 14 (d := dd 24 "_law_mixed") rfl
  have FLMixed : Fun K "_law_mixed" "_law_mixed" (top 24) (ga K "_law_mixed") dLMixed := fun_of DLMixed
  have bLMixed : Binds K dLMixed ["cell"] [] := FLMixed.binds fun _ _ _ _ _ _ us hl => match us, hl with | [_], _ => rfl
  obtain ⟨dLTake, DLTake⟩ := d.def_ 15 (d := dd 25 "_law_take") rfl
  have FLTake : Fun K "_law_take" "_law_take" (top 25) (ga K "_law_take") dLTake := fun_of DLTake
  have bLTake : Binds K dLTake ["state", "limit"] [] := FLTake.binds fun _ _ _ _ _ _ us hl => match us, hl with | [_, _], _ => rfl
  obtain ⟨dLState, DLState⟩ := d.def_ 16 (d := dd 26 "_law_state") rfl
  have FLState : Fun K "_law_state" "_law_state" (top 26) (ga K "_law_state") dLState := fun_of DLState
  have bLState : Binds K dLState ["script"] [] := FLState.binds fun _ _ _ _ _ _ us hl => match us, hl with | [_], _ => rfl
  obtain ⟨dLSame, DLSame⟩ := d.def_ 17 (d := dd 27 "_law_same") rfl
  have FLSame : Fun K "_law_same" "_law_same" (top 27) (ga K "_law_same") dLSame := fun_of DLSame
  have bLSame : Binds K dLSame ["one", "two"] [] := FLSame.binds fun _ _ _ _ _ _ us hl => match us, hl with | [_, _], _ => rfl
  obtain ⟨dLSymbol, DLSymbol⟩ := d.def_ 18 (d := dd 28 "_law_symbol") rfl
  have FLSymbol : Fun K "_law_symbol" "_law_symbol" (top 28) (ga K "_law_symbol") dLSymbol := fun_of DLSymbol
  have bLSymbol : Binds K dLSymbol ["state"] [] := FLSymbol.binds fun _ _ _ _ _ _ us hl => match us, hl with | [_], _ => rfl
  obtain ⟨dLIsNumeral, DLIsNumeral⟩ := d.def_ 19 (d := dd 29 "_law_is_numeral") rfl
  have FLIsNumeral : Fun K "_law_is_numeral" "_law_is_numeral" (top 29) (ga K "_law_is_numeral") dLIsNumeral := fun_of DLIsNumeral
  have bLIsNumeral : Binds K dLIsNumeral ["word"] [] := FLIsNumeral.binds fun _ _ _ _ _ _ us hl => match us, hl with | [_], _ => rfl
  obtain ⟨dLInteger, DLInteger⟩ := d.def_ 20 (d := dd 30 "_law_integer") rfl
  have FLInteger : Fun K "_law_integer" "_law_integer" (top 30) (ga K "_law_integer") dLInteger := fun_of DLInteger
  have bLInteger : Binds K dLInteger ["state"] [] := FLInteger.binds fun _ _ _ _ _ _ us hl => match us, hl with | [_], _ => rfl
  obtain ⟨dLDatum, DLDatum⟩ := d.def_ 21 (d := dd 31 "_law_datum") rfl
  have FLDatum : Fun K "_law_datum" "_law_datum" (top 31) (ga K "_law_datum") dLDatum := fun_of DLDatum
  have bLDatum : Binds K dLDatum ["state", "room"] [] := FLDatum.binds fun _ _ _ _ _ _ us hl => match us, hl with | [_, _], _ => rfl
  obtain ⟨dLGap, DLGap⟩ := d.def_ 22 (d := dd 32 "_law_gap") rfl
  have FLGap : Fun K "_law_gap" "_law_gap" (top 32) (ga K "_law_gap") dLGap := fun_of DLGap
  have bLGap : Binds K dLGap ["state", "least"] [] := FLGap.binds fun _ _ _ _ _ _ us hl => match us, hl with | [_, _], _ => rfl
  obtain ⟨dLPieces, DLPieces⟩ := d.def_ 23 (d := dd 33 "_law_pieces") rfl
  have FLPieces : Fun K "_law_pieces" "_law_pieces" (top 33) (ga K "_law_pieces") dLPieces := fun_of DLPieces
  have bLPieces : Binds K dLPieces ["datum"] [] := FLPieces.binds fun _ _ _ _ _ _ us hl => match us, hl with | [_], _ => rfl
  obtain ⟨dLLaidOut, DLLaidOut⟩ := d.def_ 24 (d := dd 34 "_law_laid_out") rfl
  have FLLaidOut : Fun K "_law_laid_out" "_law_laid_out" (top 34) (ga K "_law_laid_out") dLLaidOut := fun_of DLLaidOut
  have bLLaidOut : Binds K dLLaidOut ["state", "pieces"] [] := FLLaidOut.binds fun _ _ _ _ _ _ us hl => match us, hl with | [_, _], _ => rfl
  obtain ⟨dLWritten, DLWritten⟩ := d.def_ 25 (d := dd 35 "_law_written") rfl
  have FLWritten : Fun K "_law_written" "_law_written" (top 35) (ga K "_law_written") dLWritten := fun_of DLWritten
  have bLWritten : Binds K dLWritten ["datum"] [] := FLWritten.binds fun _ _ _ _ _ _ us hl => match us, hl with | [_], _ => rfl
  obtain ⟨dLNested, DLNested⟩ := d.def_ 26 (d := dd 36 "_law_nested") rfl
  have FLNested : Fun K "_law_nested" "_law_nested" (top 36) (ga K "_law_nested") dLNested := fun_of DLNested
  have bLNested : Binds K dLNested ["state", "many"] [] := FLNested.binds fun _ _ _ _ _ _ us hl => match us, hl with | [_, _], _ => rfl
  obtain ⟨dLTooDeep, DLTooDeep⟩ := d.def_ 27 (d := dd 37 "_law_too_deep") rfl
  have FLTooDeep : Fun K "_law_too_deep" "_law_too_deep" (top 37) (ga K "_law_too_deep") dLTooDeep := fun_of DLTooDeep
  have bLTooDeep : Binds K dLTooDeep ["text"] [] := FLTooDeep.binds fun _ _ _ _ _ _ us hl => match us, hl with | [_], _ => rfl
  obtain ⟨dLaw, DLaw⟩ := d.def_ 28 (d := dd 38 "law") rfl
  have FLaw : Fun K "law" "law" (top 38) (ga K "law") dLaw := fun_of DLaw
  have bLaw : Binds K dLaw ["script"] [] := FLaw.binds fun _ _ _ _ _ _ us hl => match us, hl with | [_], _ => rfl
  have gIsMadeAsNumber := glo "is_made_as_number" (by simp [faK])
  have gIsSymbol := glo "is_symbol" (by simp [faK])
  have gIsInteger := glo "is_integer" (by simp [faK])
  have gReadWord := glo "read_word" (by simp [faK])
  have gWordEnd := glo "word_end" (by simp [faK])
  have gRemarkEnd := glo "remark_end" (by simp [faK])
  have gBeginList := glo "begin_list" (by simp [faK])
  have gEndList := glo "end_list" (by simp [faK])
  have gReadData := glo "read_data" (by simp [faK])
  have gParseAll := glo "parse_all" (by simp [faK])
  have gFormatDatum := glo "format_datum" (by simp [faK])
  have gLMixed := glo "_law_mixed" (by simp [faK])
  have gLTake := glo "_law_take" (by simp [faK])
  have gLState := glo "_law_state" (by simp [faK])
  have gLSame := glo "_law_same" (by simp [faK])
  have gLSymbol := glo "_law_symbol" (by simp [faK])
  have gLIsNumeral := glo "_law_is_numeral" (by simp [faK])
  have gLInteger := glo "_law_integer" (by simp [faK])
  have gLDatum := glo "_law_datum" (by simp [faK])
  have gLGap := glo "_law_gap" (by simp [faK])
  have gLPieces := glo "_law_pieces" (by simp [faK])
  have gLLaidOut := glo "_law_laid_out" (by simp [faK])
  have gLWritten := glo "_law_written" (by simp [faK])
  have gLNested := glo "_law_nested" (by simp [faK])
  have gLTooDeep := glo "_law_too_deep" (by simp [faK])
  have gLaw := glo "law" (by simp [faK])
  have gFo := glo "FoldError" (by simp [faK])
  have gxE := glo "UnexpectedEnd" (by simp [faK])
  have gxC := glo "UnexpectedClose" (by simp [faK])
  have gxW := glo "InvalidWord" (by simp [faK])
  have gxD := glo "TooDeep" (by simp [faK])
  cases hfa.symm.trans gLaw
  have BC : BaseC K mg (ga K "FoldError") := ⟨gFo, e.rd, e.sp, e.ini⟩
  obtain ⟨q1, q2, q3, q4⟩ := exc_ok (d.facts (f := .exc "TooDeep") (by simp [faK]))
  have DC : DeepC K mg (ga K "TooDeep") := ⟨q1, gxD, q2, q3, q4⟩
  have TC : TooC K mg ⟨ga K "InvalidWord", ga K "UnexpectedClose", ga K "UnexpectedEnd", ga K "TooDeep"⟩ (ga K "FoldError") := ⟨gFo, gxD, fre _ (by simp [faK]), e.d.exm, ⟨e.d.ga, e.d.gg, e.d.o.exC, e.d.hd, e.d.cl, e.hn, e.ht, e.d.mro⟩, e.k1, e.k2⟩
  refine ⟨dLaw, tfK.map (cT K), spLaw K [(cT K ("is_made_as_number", none)).2, (cT K ("is_symbol", none)).2], ?_, ?_, ?_, fun s u => FunD.bindsA (ps := ["script"]) DLaw (fun _ _ _ _ _ _ us hl => match us, hl with | [_], _ => rfl) s [u] rfl, ?_, fun base KX GX hT => ?_⟩
  · intro p hp
    obtain ⟨t, ht, rfl⟩ := List.mem_map.mp hp
    exact c.empty t ht
  · intro p hp
    obtain ⟨t, ht, rfl⟩ := List.mem_map.mp hp
    exact c.out t ht
  · intro p hp
    obtain ⟨t, ht, rfl⟩ := List.mem_map.mp hp
    exact PySem.W.codeHd_of_K X (c.hd t ht)
  · intro H a ns hl _ hH hS
    refine ⟨a, ns, rfl, hS, hl, fun p hp => ?_, fun _ => rfl⟩
    have hm : ∃ q ∈ tfK.map (cT K), p = q.2 := by
      rcases List.mem_cons.mp hp with z | z
      · exact ⟨_, List.mem_map.mpr ⟨("is_made_as_number", none), by simp [tfK], rfl⟩, z⟩
      · exact ⟨_, List.mem_map.mpr ⟨("is_symbol", none), by simp [tfK], rfl⟩, List.mem_singleton.mp z⟩
    obtain ⟨q, hq, eq⟩ := hm
    rw [eq]
    exact ⟨#[], hH q hq, trivial⟩
  have tb : ∀ t ∈ tfK, GxR.TabB base mg (cT K t).1 (cT K t).2 := fun t ht => by
    have z := hT (cT K t) (List.mem_map.mpr ⟨t, ht, rfl⟩)
    exact ⟨z.code, z.bm, z.gP⟩
  have TB1 : GxR.TabB base mg (codeOf K ("is_made_as_number", none)) (cT K ("is_made_as_number", none)).2 := tb _ (by simp [tfK])
  have TB2 : GxR.TabB base mg (codeOf K ("is_symbol", none)) (cT K ("is_symbol", none)).2 := tb _ (by simp [tfK])
  generalize (cT K ("is_made_as_number", none)).2 = P1 at TB1
  generalize (cT K ("is_symbol", none)).2 = P2 at TB2
  have kNu := ok_num (P := row11.prog) (w := w) (func_of FIsMadeAsNumber) B T.sgn TB1
  have kSy := ok_symb (P := row11.prog) (w := w) (func_of FIsSymbol) B T TB2 kNu FIsMadeAsNumber.kp gIsMadeAsNumber bIsMadeAsNumber
  have kIn := ok_int FIsInteger B T kNu FIsMadeAsNumber.kp gIsMadeAsNumber bIsMadeAsNumber
  have xE : ErrC row11.prog w K mg base "UnexpectedEnd" (ga K "UnexpectedEnd") _ dUnexpectedend_Init := ⟨e.e.o, gxE, e.ie.1, e.ie.2, ok_iniE FUnexpectedend_Init BC e.e.o e.e.no, bUnexpectedend_Init⟩
  have xC : ErrC row11.prog w K mg base "UnexpectedClose" (ga K "UnexpectedClose") _ dUnexpectedclose_Init := ⟨e.c.o, gxC, e.ic.1, e.ic.2, ok_iniC FUnexpectedclose_Init BC e.c.o e.c.no, bUnexpectedclose_Init⟩
  have xW : ErrC row11.prog w K mg base "InvalidWord" (ga K "InvalidWord") _ dInvalidword_Init := ⟨e.w.o, gxW, e.iw.1, e.iw.2, ok_iniW FInvalidword_Init BC e.w.o e.w.no, bInvalidword_Init⟩
  have kRd := ok_read FReadWord B xW kIn FIsInteger.kp gIsInteger bIsInteger kSy FIsSymbol.kp gIsSymbol bIsSymbol
  have kDa := ok_data (CE := ga K "TooDeep") (X := ⟨ga K "InvalidWord", ga K "UnexpectedClose", ga K "UnexpectedEnd", ga K "TooDeep"⟩) FReadData B ⟨ok_rend FRemarkEnd B, FRemarkEnd.kp, gRemarkEnd, bRemarkEnd⟩ ⟨ok_wend FWordEnd B T, FWordEnd.kp, gWordEnd, bWordEnd⟩ ⟨ok_beg FBeginList B DC, FBeginList.kp, gBeginList, bBeginList⟩ ⟨ok_endl FEndList B xC, FEndList.kp, gEndList, bEndList⟩ ⟨kRd, FReadWord.kp, gReadWord, bReadWord⟩ xE
  have kPa := ok_parse FParseAll T ⟨kDa, FReadData.kp, gReadData, bReadData⟩
  have kTa := ok_take (P := row11.prog) (w := w) (base := base) FLTake B FLMixed gLMixed bLMixed
  have cTa : Cal row11.prog w K mg base CX0 2 "_law_take" ["state", "limit"] spTake _ _ := ⟨kTa, FLTake.kp, gLTake, bLTake⟩
  have kNum := ok_numeral (P := row11.prog) (w := w) (base := base) FLIsNumeral B
  have cPa : Cal row11.prog w K mg base (L2N.CX row11.prog w) 5 "parse_all" ["text"] (spParse ⟨ga K "InvalidWord", ga K "UnexpectedClose", ga K "UnexpectedEnd", ga K "TooDeep"⟩ [P1, P2]) _ _ := ⟨kPa, FParseAll.kp, gParseAll, bParseAll⟩
  exact ok_law FLaw B ⟨ok_state FLState B, FLState.kp, gLState, bLState⟩ cTa
    ⟨ok_datN FLDatum B gLDatum bLDatum cTa ⟨ok_intD FLInteger B cTa, FLInteger.kp, gLInteger, bLInteger⟩ ⟨ok_symD FLSymbol B cTa ⟨kNum, FLIsNumeral.kp, gLIsNumeral, bLIsNumeral⟩, FLSymbol.kp, gLSymbol, bLSymbol⟩ 7, FLDatum.kp, gLDatum, bLDatum⟩
    ⟨ok_nst FLNested B cTa, FLNested.kp, gLNested, bLNested⟩ ⟨ok_pcsN FLPieces B gLPieces bLPieces 61, FLPieces.kp, gLPieces, bLPieces⟩ ⟨ok_lay FLLaidOut B ⟨ok_gap FLGap B cTa, FLGap.kp, gLGap, bLGap⟩, FLLaidOut.kp, gLLaidOut, bLLaidOut⟩ cPa
    ⟨ok_sameN FLSame B gLSame bLSame 62, FLSame.kp, gLSame, bLSame⟩ (ok_fmt FFormatDatum B) FFormatDatum.kp gFormatDatum bFormatDatum ⟨ok_wrtN FLWritten B gLWritten bLWritten 61, FLWritten.kp, gLWritten, bLWritten⟩ ⟨ok_too FLTooDeep B TC cPa, FLTooDeep.kp, gLTooDeep, bLTooDeep⟩
end My
open PySem PySem.W PySem.Calls PyProof.Rows
theorem PySem.Challenge.cw_aliasfold_k11_texts_read_holds : PySem.Challenge.rw_aliasfold_k11_texts_read.Holds := by
  w_on; o_law
  refine HandSHeadRun.head_any (r := OpenLaw.row PySem.Challenge.rw_aliasfold_k11_texts_read) (q := view (OpenLaw.row PySem.Challenge.rw_aliasfold_k11_texts_read).prog [38]) (H := My.hk) (ob := My.ob) (M := 4000) (loose := My.loose) (d := HandSHeadRun.topDef (OpenLaw.row PySem.Challenge.rw_aliasfold_k11_texts_read).prog 38) (kwd := []) My.ob_eq
    (by kernel_rfl) (fun s => by kernel_rfl) My.headRun (by kernel_rfl) (by kernel_rfl) (by kernel_rfl) (by rfl) (by first | assumption | decide +kernel) (by decide +kernel) ⟨rfl, rfl, rfl, rfl, rfl, by decide +kernel⟩ ?hw ?hc
  case hw => w_witness2
  case hc =>
    refine LamX.walk_ofTsE (l := PySem.Challenge.rw_aliasfold_k11_texts_read) (n := 63) (k := 64) (x := "script") (CX := fun _ => L2.CX0) rfl (by decide) (by kernel_rfl) ⟨rfl, by decide, by decide⟩ ?F (fun _ _ _ _ _ z => z)
    intro w mg fa h Y G hmg0
    obtain ⟨K, KX, c⟩ := Y
    have hmg : mg ("law" : PySem.Str) = some (.ref fa) := by
      have e : (HandSHeadRun.topDef (OpenLaw.row PySem.Challenge.rw_aliasfold_k11_texts_read).prog 38).name = ("law" : PySem.Str) := by kernel_rfl
      rw [← e]
      exact hmg0
    exact ⟨K, KX, My.facts c KX G hmg⟩
