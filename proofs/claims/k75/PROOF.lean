import PyProof.Rows.All
import Wide.All
import OpenK.AllK
import Wide.FinOn
import HandS.ForMost
import HandS.ForExc
import HandS.Wide
import HandS.Codes
import HandS.AnyAll
import HandS.StrMore
import HandS.FStr
import HandS.IsInst
import HandS.ExcInit
import HandS.ExcIs
import HandS.ExcField
import HandS.Replace
import HandS.ReplaceLit
import HandS.Flow
import HandS.NoneIn
import HandS.Style
import HandS.ExcCtx
import HandS.Comp
import PyProof.RulesMatchSeq
import PyProof.Rows.MatchSeqLen
import PyProof.CollectIter
import PyProof.IsiHeapPairs
import PyProof.EqKinds
import KE.KUnpack
import HandS.Call
import HandS.Star
import HandS.List
import HandS.Gcd
import PyProof.MeetsSeq
import PyProof.SeqWrite
import PyProof.Meets
import HandS.Rev
import HandS.RevTup
import KE.KDictList
import HandS.Walk
import HandS.Iter
import HandS.DictComp
import HandS.Exc
import PyProof.P3Eq
import HandS.TryMany
import PySem.Challenge.RW_aliasfold_k75_forms_of_a_module
import HandS.WordsDict
import HandS.Deep
import HandS.Zip
import HandS.Hot
import HandS.HotCalls
import HandS.WordsExc
import HandS.ExcInitHot
import HandS.Conv
import HandS.CallLocal
import KE.KExcIs
import Wide.Once
import HandS.Head0
import HandS.Head1
import HandS.Head2
import HandS.HeadEnd
import HandS.HeadHook1
import HandS.HeadHook2
import HandS.HeadHook3
import HandS.HeadHook4
import HandS.HeadNt
import HandS.HeadWalk
set_option Elab.async false
set_option linter.all false
set_option maxRecDepth 100000
set_option maxHeartbeats 0
namespace My
open PySem L2

/-! ### heaps -/
def isTbl : HO → Bool
  | .tbl _ => true
  | _ => false
/-- what was tracked stays, but for what X names; tables stay tables; nothing is forgotten -/
structure Sm (X : Addr → Prop) (H H' : Hp) : Prop where
  keep : ∀ b o, ¬ X b → isTbl o = false → H b = some o → H' b = some o
  tab : ∀ P, GxR.TabG H P → GxR.TabG H' P
  dom : ∀ b, H' b = none → H b = none
abbrev No : Addr → Prop := fun _ => False
abbrev Two (S L : Addr) : Addr → Prop := fun b => b = S ∨ b = L
theorem Sm.refl (X : Addr → Prop) (H : Hp) : Sm X H H := ⟨fun _ _ _ _ h => h, fun _ h => h, fun _ h => h⟩
theorem Sm.trans {X : Addr → Prop} {H H1 H2 : Hp} (a : Sm X H H1) (b : Sm X H1 H2) : Sm X H H2 :=
  ⟨fun c o n t h => b.keep c o n t (a.keep c o n t h), fun P h => b.tab P (a.tab P h), fun c h => a.dom c (b.dom c h)⟩
theorem Sm.wide {X Y : Addr → Prop} {H H' : Hp} (a : Sm X H H') (h : ∀ b, X b → Y b) : Sm Y H H' :=
  ⟨fun c o n t q => a.keep c o (fun z => n (h c z)) t q, a.tab, a.dom⟩
theorem Sm.no {Y : Addr → Prop} {H H' : Hp} (a : Sm No H H') : Sm Y H H' := a.wide fun _ z => z.elim
theorem tab_upd {H : Hp} {p : Addr} {o : HO} (h : ∀ ps, H p ≠ some (.tbl ps)) : ∀ P, GxR.TabG H P → GxR.TabG (upd H p o) P := fun P ⟨ps, h1, h2⟩ =>
  ⟨ps, by rw [upd_ne (fun z => h ps (by rw [← z]; exact h1))]; exact h1, h2⟩
theorem upd_dom {H : Hp} {p : Addr} {o : HO} : ∀ b, upd H p o b = none → H b = none := fun b h => by
  by_cases hb : b = p
  · rw [hb, upd_same] at h; cases h
  · rw [upd_ne hb] at h; exact h
theorem Sm.new {X : Addr → Prop} {H : Hp} {p : Addr} {o : HO} (h : H p = none) : Sm X H (upd H p o) :=
  ⟨fun b u _ _ e => by rw [upd_ne (ne_of_none e h)]; exact e, tab_upd (fun ps z => by rw [h] at z; cases z), upd_dom⟩
theorem Sm.set {X : Addr → Prop} {H : Hp} {p : Addr} {o : HO} (h : X p) (ht : ∀ ps, H p ≠ some (.tbl ps)) : Sm X H (upd H p o) :=
  ⟨fun b u n _ e => by rw [upd_ne (fun z => n (by rw [z]; exact h))]; exact e, tab_upd ht, upd_dom⟩
theorem Sm.tabbed {X : Addr → Prop} {H H' : Hp} {P : Addr} (h0 : GxR.TabG H P) (h : GxR.Tabbed P H H') : Sm X H H' := by
  obtain ⟨ht, hk⟩ := h
  refine ⟨fun b o _ n e => ?_, fun Z hz => ?_, fun b h => ?_⟩
  · by_cases hb : b = P
    · obtain ⟨ps, h1, _⟩ := h0
      rw [hb, h1] at e
      cases e
      cases n
    · rw [hk b hb]; exact e
  · by_cases hb : Z = P
    · rw [hb]; exact ht
    · obtain ⟨ps, h1, h2⟩ := hz
      exact ⟨ps, by rw [hk Z hb]; exact h1, h2⟩
  · by_cases hb : b = P
    · obtain ⟨ps, h1, _⟩ := ht
      rw [hb, h1] at h
      cases h
    · rw [← hk b hb]; exact h
theorem Sm.seq {X : Addr → Prop} {K : PySem.W.Frag} {H H' : Hp} {a : Addr} {xs : List V} (e : Sm X H H') (n : ¬ X a) (h : SqL K H a xs) : SqL K H' a xs := by
  rcases h with (h | ⟨o, h⟩) | h
  · exact .inl (.inl (e.keep _ _ n rfl h))
  · exact .inl (.inr ⟨o, e.keep _ _ n rfl h⟩)
  · exact .inr h
theorem Sm.lst {X : Addr → Prop} {H H' : Hp} {a : Addr} {xs : List V} (e : Sm X H H') (n : ¬ X a) (h : H a = some (.lst xs)) : H' a = some (.lst xs) := e.keep _ _ n rfl h
theorem Sm.lst0 {H H' : Hp} {a : Addr} {xs : List V} (e : Sm No H H') (h : H a = some (.lst xs)) : H' a = some (.lst xs) := e.keep _ _ (fun z => z) rfl h
/-- what H did not know may change -/
theorem Sm.mut {X : Addr → Prop} {H H' : Hp} {p : Addr} {o : HO} (e : Sm X H H') (h : H p = none) (ht : ∀ ps, H' p ≠ some (.tbl ps)) : Sm X H (upd H' p o) :=
  ⟨fun b u n t q => by rw [upd_ne (ne_of_none q h)]; exact e.keep b u n t q, fun P h => tab_upd ht P (e.tab P h), fun b q => e.dom b (upd_dom b q)⟩
theorem ntbl_l {H : Hp} {a : Addr} {xs : List V} (h : H a = some (.lst xs)) : ∀ ps, H a ≠ some (.tbl ps) := fun ps z => by rw [h] at z; cases z

/-! ### the state of the draws -/
/-- at S: the rest of the script, at L, and what is left of the cell -/
def LS (H : Hp) (S L : Addr) : Prop := ∃ (cs : List Int) (d : Int), H S = some (.lst [.ref L, .int d]) ∧ H L = some (.lst (cs.map V.int)) ∧ 0 ≤ d ∧ cs.length ≤ 63
theorem LS.ne {H : Hp} {S L : Addr} (h : LS H S L) : S ≠ L := by
  obtain ⟨cs, d, h1, h2, _⟩ := h
  refine ne_of h1 h2 fun z => ?_
  cases cs with
  | nil => cases z
  | cons c r => cases z
theorem LS.sm {H H' : Hp} {S L : Addr} (h : LS H S L) (e : Sm No H H') : LS H' S L := by
  obtain ⟨cs, d, h1, h2, h3⟩ := h
  exact ⟨cs, d, e.lst0 h1, e.lst0 h2, h3⟩
theorem LS.some {H : Hp} {S L : Addr} (h : LS H S L) : H S ≠ none ∧ H L ≠ none := by
  obtain ⟨cs, d, h1, h2, h3⟩ := h
  exact ⟨by rw [h1]; simp, by rw [h2]; simp⟩
/-! ### the draws, as functions -/
def spMixed : Sp := fun vs H Q _ => ∃ c : Int, vs = [.int c] ∧ ∀ n : Int, 0 ≤ n → Q (.int n) H
def spTake : Sp := fun vs H Q _ => ∃ (S L : Addr) (n : Int), vs = [.ref S, .int n] ∧ LS H S L ∧ 0 < n ∧ n.natAbs < 2 ^ 8000 ∧
  ∀ (g : Int) (H' : Hp), 0 ≤ g → g < n → LS H' S L → Sm (Two S L) H H' → Q (.int g) H'
def spState (K : PySem.W.Frag) : Sp := fun vs H Q _ => ∃ (a : Addr) (ns : List Int), vs = [.ref a] ∧ SqL K H a (ns.map V.int) ∧ ns.length ≤ 63 ∧
  ∀ (S L : Addr) (H' : Hp), H S = none → H L = none → LS H' S L → Sm No H H' → Q (.ref S) H'
end My
namespace My
open PySem PySem.Spec PyProof.Rows L2 GxR
theorem ad_lt {b N m : Nat} (e : b = N) (h : N + 1 ≤ m) : b < m := by omega
theorem ad_ltlt {b N m : Nat} (e : b < N) (h : N + 1 ≤ m) : b < m := by omega
theorem ad_no {b N : Nat} (e : b = N) (h : b < N) : False := by omega
theorem ad_no2 {b N m : Nat} (e : b = m) (h : b < N) (h2 : N + 1 ≤ m) : False := by omega
/-- the element of a generator expression over signs, where it may read the module's names -/
def EltG (prog : Program) (w : World) (mg : Str → Option Value) (sc : Scope) (x : Str) (e : Expr) (pb : Nat → Bool) : Prop :=
  ∀ (ce : Env) (A' : Around) (E' : Value → Shared → Prop) (c : Nat) (t : Tok) (z : Shared) (m : Str → Option Value),
    ce.scope = sc → ce.globals = mainGlobals → z.heap.Ns mainGlobals mg → z.heap.Ns ce.locals m → m x = some (.str ⟨#[c]⟩ t) →
    wpAny (model prog w) A' (eval e ce) (fun y z' => y = .bool (pb c) ∧ Keeps z z') E' z
/-- x in NAME, NAME a text of the module -/
theorem elt_inG {prog : Program} {w : World} {mg : Str → Option Value} {sc : Scope} {x g : Str} {k : Str} {tk : Tok} {p1 p2 p3 : Pos} (hk : sc.kind = .function)
    (hl : sc.names.lookup x = some .local) (hgl : sc.names.lookup g = some .globalImplicit) (hm : mg g = some (.str k tk))
    (hd : (x == ("__debug__" : Str)) = false := by decide) (hd2 : (g == ("__debug__" : Str)) = false := by decide) :
    EltG prog w mg sc x (.Compare (.Name x p1) [.In] [.Name g p2] p3) (fun c => decide (c ∈ k.cps.toList)) := by
  intro ce A' E' c t z m hs hg hG hn hx
  refine wpAny_Compare1 ?_
  refine wpAny_Name (wpAny_loadName_local (by rw [hs]; exact hk) (show ce.scope.names.lookup x = some .local by rw [hs]; exact hl) hn hx ?_) hd
  refine Calls.Name_function_global (by rw [hs]; exact hk) (show ce.scope.names.lookup g = some .globalImplicit by rw [hs]; exact hgl) (Calls.loadGlobal_global (by rw [hg]; exact hG) hm ?_) hd2
  exact PyProof.Rows.in_str ⟨congrArg Value.bool (PySem.StrLaws.found_one k c), keeps_refl _⟩
section
variable {X : Cx} {pins : List (Addr × Obj)} {σ : L2.St} {H : Hp} {s : Shared}
theorem genG {c P : Addr} {elt iter : Expr} {x : Str} {px gpos : Pos} {scope : Scope} {pb : Nat → Bool} {te : TE} {k : Nat} {Q' : Value → Shared → Prop} {R : Str → Hp → Prop}
    (hr : Room k X.A) (TB : TabB X.base X.mg c P) (hcode : X.env.code = .ref c) (S : GenS X.env scope x) (hi : PE X iter te)
    (hel : EltG X.prog X.w X.mg scope x elt pb) (hs : ∀ v, genFold iter X.env v = pure v) (I : Inv X pins σ H s)
    (h : te σ H fun v H1 => ∃ a : Str, v = .str a ∧ TabG H1 P ∧ R a H1)
    (hQ : ∀ a H1 g s5, R a H1 → Ready X pins σ H1 P a pb g s5 → Q' (.ref g) s5) :
    wpAny (model X.prog X.w) X.A (eval (.GeneratorExp elt [⟨.Name x px, iter, [], 0⟩] scope gpos) X.env) Q' X.xe s := by
  refine wpAny_GeneratorExp_walksQ hr.hd S.co (closure_ok S.free) S.cell S.dot S.loc S.kind hr.depth ?_ hs
  refine thn (hi.run pins s σ H _ I h) fun xv s1 hx => ?_
  obtain ⟨v, H1, J, rv, a, ev, ⟨ps, tP, tOk⟩, hR⟩ := hx
  subst ev
  obtain ⟨t, et⟩ := (show ∃ t, xv = Value.str a t from rv)
  subst et
  refine wpAny_pyIter_str fun o St W st0 => ?_
  generalize hN : s1.heap.objs.size = N at W st0 ⊢
  have gP : s1.heap.get? P = some { cls := .none, data := .fields ps } := J.hok P _ tP
  have ltP : P < N := by rw [← hN]; exact Heap.lt_size gP
  have szO : (s1.heap.push o).objs.size = N + 1 := by rw [Heap.size_push, hN]
  have kO : ∀ b u, s1.heap.get? b = some u → (s1.heap.push o).get? b = some u := fun b u e => Heap.get?_push_of_some _ e
  have codeO : PySem.W.CodeHd (s1.heap.push o) c P := TB.code.keeps fun b u e => kO b u (J.bk b u e)
  have limO : (s1.heap.push o).NoLimit := J.nolimit.push o
  have statics : cStatics < N := by
    obtain ⟨_, hn, _⟩ := J.nolimit
    rw [← hN]
    exact hn.lt
  have staticsP : cStatics ≠ P := fun e => by
    obtain ⟨_, hn, _⟩ := J.nolimit
    obtain ⟨q, _, _, hq, hqd, _⟩ := hn
    rw [e, gP] at hq
    cases hq
    cases hqd
  refine ⟨limO, ?_⟩
  have main : ∀ (code : Value) (h3 : Heap) (tk : Nat) (ps' : Array Value), Heap.ExtBut P (s1.heap.push o) h3 → N + 1 ≤ h3.objs.size →
      h3.get? P = some { cls := .none, data := .fields ps' } → (∃ more, ps' = ps ++ more) → TriplesOk ps'.toList →
      wpAny (model X.prog X.w) X.A (builtinsFor X.env.globals X.env.builtins) (fun bi s₄ =>
        ∃ Ia fp wr n₀ Pf St₀ pz F, Value.ref N = .ref Ia ∧ (∀ A' : Around, A'.handled = none → Walks X.prog X.w A' Ia fp wr n₀ Pf St₀) ∧ St₀ 0 s₄.heap ∧
          (∀ b ∈ fp, b < s₄.heap.objs.size) ∧ s₄.heap.NoLimit ∧ cStatics ∉ wr ∧
          (∀ href : Heap, (∀ b o, s₄.heap.get? b = some o → href.get? b = some o) →
            QuietGen X.prog X.w (genEnv scope (cloFrom X.env.cells scope.names []) s₄.heap.objs.size code bi X.env) x [] elt (List.range s₄.heap.objs.size) wr Pf pz F href) ∧
          (∀ a h₅ tk gs, gs.bare = true → s₄.heap.objs.size < a → h₅.objs.size = a + 1 → (∀ b o, s₄.heap.get? b = some o → h₅.get? b = some o) →
            WalksS X.prog X.w X.A.in4 a (a :: s₄.heap.objs.size :: List.range s₄.heap.objs.size) (s₄.heap.objs.size :: wr) (GenOnlyQ s₄.gens.size) (passing pz n₀ 0).length
              (fun j y => ∃ i, (passing pz n₀ 0)[j]? = some i ∧ F i y) (GenAt X.prog X.w X.A.in4 a s₄.gens.size s₄.heap.objs.size (List.range s₄.heap.objs.size) wr pz n₀ F) →
            GenAt X.prog X.w X.A.in4 a s₄.gens.size s₄.heap.objs.size (List.range s₄.heap.objs.size) wr pz n₀ F 0 { s₄ with gens := s₄.gens.push gs, toks := tk, heap := h₅ } →
            Q' (.ref a) { s₄ with gens := s₄.gens.push gs, toks := tk, heap := h₅ })) X.xe { s1 with heap := h3, toks := tk } := by
    intro code h3 tk ps' hx hsz hP3 hmore ht3
    have k3 : ∀ b u, b ≠ P → s1.heap.get? b = some u → h3.get? b = some u := fun b u hb e => hx b u hb (kO b u e)
    have glob3 : h3.Ns mainGlobals X.mg := ((J.mod.glob.keeps J.bk).push o).extBut hx TB.gP
    obtain ⟨bm, ob, b1, b2, b3, b4, b5, b6, b7, b8⟩ := TB.bm
    refine wpAny_builtinsFor (m := X.mg) (by rw [J.ok.glob]; exact glob3) b1 b2 (k3 _ _ b4 (J.bk _ _ b5)) b6 b7 b8 ?_
    refine ⟨N, [N], [N], a.cps.size, SignAt a, St, (fun _ => true), (fun i y => ∃ q, a.cps[i]? = some q ∧ y = .bool (pb q)), rfl, W, ?_, ?_, limO.extBut hx staticsP, ?_, ?_, ?_⟩
    · refine (W X.A hr.hd).frame _ _ _ st0 fun b hb u e => hx b u (fun z => ?_) e
      have eb : b = N := by simpa using hb
      exact ad_no (z.symm.trans eb) ltP
    · intro b hb
      have eb : b = N := by simpa using hb
      exact ad_lt eb hsz
    · intro z
      have eb : cStatics = N := by simpa using z
      rw [eb] at statics
      exact Nat.lt_irrefl _ statics
    · intro href keepH
      have ltG : mainGlobals < N := by
        obtain ⟨q, _, _, hq, _⟩ := J.mod.glob.keeps J.bk
        rw [← hN]
        exact Heap.lt_size hq
      refine ⟨fun A' E' i v z m hA hv hn hm hk => ?_, fun A' E' i v z m hA hv hp hn hm hk => ?_⟩
      · simp only [List.forIn_nil]
        exact wpAny_pure ⟨rfl, keeps_refl _⟩
      · obtain ⟨q, u, hq, ev⟩ := hv
        subst ev
        have globZ : z.heap.Ns mainGlobals X.mg := by
          obtain ⟨og, es, ep, ho, hrest⟩ := glob3
          refine ⟨og, es, ep, hk mainGlobals (List.mem_range.mpr ?_) (fun hw => ?_) og (keepH _ _ ho), hrest⟩
          · exact ad_ltlt ltG hsz
          · have eb : mainGlobals = N := by simpa using hw
            exact ad_no eb ltG
        exact wpAny_mono (hel _ A' E' q u z m rfl J.ok.glob globZ hn hm) (fun y z' r => ⟨⟨q, hq, r.1⟩, r.2⟩) fun _ _ e => e
    · intro g h5 tk5 gs hgb hag hsz5 hk5 W5 at0
      simp only [GxR.passing_true, List.length_range] at W5
      refine hQ a H1 g _ hR ⟨_, _, _, _, _, W5.in4_1, at0, ?_, fun s' mv => ?_⟩
      · rintro j y sj Qj Ej ⟨i, hij, q, hq, rfl⟩ hQj
        obtain ⟨hj, ej⟩ := List.getElem?_eq_some_iff.mp hij
        rw [List.getElem_range] at ej
        subst ej
        have e9 : a.cps.toList[j]? = some q := by rw [Array.getElem?_toList]; exact hq
        have hQ2 : Qj (trF pb a.cps.toList j) sj := hQj
        rw [trF_some e9] at hQ2
        exact wpAny_truthy_bool hQ2
      · obtain ⟨more, em⟩ := hmore
        have nwr : ∀ b u, s1.heap.get? b = some u → b ∉ h3.objs.size :: [N] := fun b u e hb => by
          have hl : b < N := by rw [← hN]; exact Heap.lt_size e
          rcases List.mem_cons.mp hb with z | z
          · exact ad_no2 z hl hsz
          · have eb : b = N := by simpa using z
            exact ad_no eb hl
        have K2 := inv_tab (more := more) (h' := s'.heap) (g' := s'.gens) (d' := s'.drawn) (t' := s'.toks) J tP
          (fun b u hb e => mv.heap b u (nwr b u e) (hk5 b u (k3 b u hb e))) (by rw [← em]; exact mv.heap P _ (nwr P _ gP) (hk5 P _ hP3)) (AllBare.movedS (J.bare.push hgb) mv)
        rw [sh_eta s1 s' mv.os] at K2
        exact ⟨upd H1 P (.tbl (ps ++ more)), ⟨⟨ps ++ more, upd_same, by rw [← em]; exact ht3⟩, fun b hb => upd_ne hb⟩, K2⟩
  cases hf : codeAmong gpos ps.toList with
  | none =>
    refine wpAny_genexprCodeX hcode (codeO.code (kO _ _ gP) tOk) (codeO.tab (kO _ _ gP)) hf fun c' h' tk hx hge hlt hco' _ htab' _ => ?_
    obtain ⟨o1, vs, f1, tf, fl, tg, inF, tx, tt, op, _, _, _, _, _, _, _, _, _, htr, _⟩ := hco'
    refine main _ h' tk _ hx ?_ htab'.2 ⟨_, rfl⟩ htr
    rw [szO] at hge
    exact Nat.le_trans hge (Nat.le_of_lt hlt)
  | some cv =>
    refine wpAny_genexprCode_hit hcode (codeO.code (kO _ _ gP) tOk) hf ?_
    exact main cv (s1.heap.push o) s1.toks ps (Heap.ExtBut.refl _ _) (Nat.le_of_eq szO.symm) (kO _ _ gP) ⟨#[], by simp⟩ tOk
/-- all(test for x in e), e a text -/
theorem pe_allG {c P : Addr} {elt iter : Expr} {x : Str} {px p pos gpos : Pos} {scope : Scope} {pb : Nat → Bool} {te : TE} {k : Nat}
    (hr : Room k X.A) (hg : Gl X "all") (hm : X.mg "all" = none) (hb : bootBuiltins "all" = some (.builtin "all")) (TB : TabB X.base X.mg c P) (hcode : X.env.code = .ref c) (S : GenS X.env scope x)
    (hi : PE X iter te) (hel : EltG X.prog X.w X.mg scope x elt pb) (hs : ∀ v, genFold iter X.env v = pure v)
    (he : starEach [.GeneratorExp elt [⟨.Name x px, iter, [], 0⟩] scope gpos] X.env = (false, eval (.GeneratorExp elt [⟨.Name x px, iter, [], 0⟩] scope gpos) X.env) :: starEach [] X.env := by rfl) :
    PE X (.Call (.Name "all" p) [.GeneratorExp elt [⟨.Name x px, iter, [], 0⟩] scope gpos] [] pos) (tAllS P pb te) := by
  refine ⟨fun pins s σ H Q I h => wpAny_Call_Name_kw (ld_blt I hg hm hb (PyProof.Rows.callWith_builtin1 ?_ he (by rfl)))⟩
  rw [he]
  show wpAny _ _ (spliced ((false, eval (.GeneratorExp elt [⟨.Name x px, iter, [], 0⟩] scope gpos) X.env) :: backTo pos (starEach [] X.env))) _ _ s
  refine Calls.spliced_cons (genG (R := fun a H1 => ∀ H2, Tabbed P H1 H2 → Q (.bl (a.cps.toList.all pb)) H2) hr TB hcode S hi hel hs I h fun a H1 g z hR rdy => Calls.spliced_nil ?_)
  obtain ⟨fp, wr, G, F, St, W, st0, tru, back⟩ := rdy
  refine call_all_walkS (W.self 0 _ _ _ st0 ⟨g, fp, wr, G, _, F, St, _, rfl, W, st0, tru, fun z' mv => ?_⟩)
  obtain ⟨H2, tb, K2⟩ := back z' mv
  have q := hR H2 tb
  rw [← all_signs a pb] at q
  exact ⟨.bl _, H2, K2, rfl, q⟩
end
end My
namespace My
open PySem PySem.Spec PyProof.Rows L2
/-! ### a list comprehension whose element may raise (out of a call) -/
/-- an exception that flies here, not noted by this frame -/
def XF (X : Cx) (E : XK) (u : Value) (s' : Shared) : Prop :=
  ∃ (a : Addr) (B : Heap) (sI : Shared) (pins : List (Addr × Obj)) (σ : L2.St) (H : Hp) (cls : Value) (d : Option Addr),
    u = .ref a ∧ Inv X pins σ H sI ∧ (∀ b o, sI.heap.get? b = some o → b ∉ frs X.stack → B.get? b = some o) ∧ sI.heap.UpToSlots s'.heap ∧
      HandSPX.FlyingZ B X.stack a (L2N.Zn cls d) s'.heap ∧ H a = none ∧ s'.os = sI.os ∧ AllBare s'.gens ∧ E cls d H
def TakesF (X : Cx) (E : XK) : Prop := ∀ u s', XF X E u s' → X.xe u s'
theorem XF.of_call {X : Cx} {pins : List (Addr × Obj)} {σ : L2.St} {H : Hp} {s s' : Shared} {E : XK} (I : Inv X pins σ H s) {u : Value} (c : L2N.CX X.prog X.w X.stack H s E u s') : XF X E u s' := by
  obtain ⟨a, B, H', cls, d, rfl, fl, hok, ub, na, os, ag, hE⟩ := c
  obtain ⟨G, g1, g2⟩ := restrict s'.heap fun b => (B.get? b).isSome || decide (b ∈ frs X.stack)
  have st : B.StaysIn s'.heap := fl.1
  have gB : ∀ b o, B.get? b = some o → G.get? b = some o := fun b o e => by
    rw [g1 b (by simp [e])]
    exact st b o e
  have gF : ∀ b, b ∈ frs X.stack → G.get? b = s'.heap.get? b := fun b hb => g1 b (by simp [hb])
  have og : ∀ b o, G.get? b = some o → s'.heap.get? b = some o ∧ ((B.get? b).isSome = true ∨ b ∈ frs X.stack) := fun b o e => by
    cases q : ((B.get? b).isSome || decide (b ∈ frs X.stack)) with
    | false => rw [g2 b q] at e; cases e
    | true =>
      rw [g1 b q] at e
      exact ⟨e, by simpa [Bool.or_eq_true] using q⟩
  refine ⟨a, B, { s with heap := G, gens := s'.gens, drawn := s'.drawn, toks := s'.toks }, pins, σ, H', cls, d, rfl, ?_, fun b o e hb => ?_, Heap.UpToSlots.of_keeps fun b o e => (og b o e).1, fl, na, os, ag, hE⟩
  · refine I.call (ch := []) ⟨fun b o e n hb _ => gB b o (ub.keep b o e n hb), fun b o e n hb _ => ?_, fun b o e n _ => ub.free b o e n, fun b o e _ => ?_, ub.tups, ub.frzs, ub.tbls⟩ (hok.kept gB) ag (fun _ z => nomatch z)
    · obtain ⟨sl, q⟩ := ub.slot b o e hb
      exact ⟨sl, by rw [gF b hb]; exact q⟩
    · by_cases hb : b ∈ frs X.stack
      · obtain ⟨sl, q⟩ := ub.slot b o e hb
        exact ⟨_, by rw [gF b hb]; exact q⟩
      · obtain ⟨o', q⟩ := ub.there b o e hb
        exact ⟨o', gB b o' q⟩
  · obtain ⟨e', h⟩ := og b o e
    rcases h with h | h
    · obtain ⟨o', q⟩ := Option.isSome_iff_exists.mp h
      have z := st b o' q
      rw [e'] at z; cases z
      exact q
    · exact absurd h hb
theorem passF {X : Cx} {E : XK} (tk : TakesF X E) : Passes (L2N.CX X.prog X.w) X E := fun _ _ _ _ e s' I c => tk e s' (XF.of_call I c)
theorem funFrames_but {h h' B B' : Heap} (sub : ∀ b, B.get? b = none → B'.get? b = none) : ∀ {l : List Env}, (∀ b, b ∈ l.filterMap (·.frame) → h'.get? b = h.get? b) → h.FunFrames B l → h'.FunFrames B' l
  | [], _, _ => trivial
  | env :: rest, k, ⟨hk, ⟨L, o, hf, hn, ho, hd⟩, hr⟩ => by
    refine ⟨hk, ⟨L, o, hf, sub L hn, ?_, hd⟩, funFrames_but sub (fun b hb => k b ?_) hr⟩
    · rw [k L (by rw [List.filterMap_cons, hf]; exact List.mem_cons_self)]
      exact ho
    · rw [List.filterMap_cons, hf]
      exact List.mem_cons_of_mem _ hb
/-- behind a comprehension's block -/
def postX (M : Model) (A : Around) (E : Value → Shared → Prop) (Q : Value → Shared → Prop) (acc : Value) (C : Addr) (fr : Option Addr) (r : Result) (s' : Shared) : Prop :=
  match r with
  | .ok _ => ∃ m, s'.heap.Ns C m ∧ ∀ h', Heap.SameBut C s'.heap h' → Q acc { s' with heap := h' }
  | .error x => ∃ m, s'.heap.Ns C m ∧ ∀ h', Heap.SameBut C s'.heap h' → ∀ cenv : Env, cenv.locals = C → cenv.frame = fr → wpAny M A (passOn "comprehension.variables-let-go" x cenv : Sem Value) (fun _ _ => False) E { s' with heap := h' }
section
variable {M : Model} {A : Around} {E : Value → Shared → Prop} {s : Shared} {env : Env}
theorem wpAny_comprehensionX {e : Expr} {scope : Scope} {pos : Pos} {newAcc first : Sem Value} {g : Comprehension} {gs : List Comprehension} {cl : List (Str × Addr)} {Q : Value → Shared → Prop}
    (hcl : clausesOf e = g :: gs) (hs : ∀ x, foldedSetIterable g.iter env x = pure x) (hclos : closureFor scope env = pure cl)
    (hkind : scope.kind = .function) (hnames : ∀ x ∈ scope.names, x.2 = .local → scope.names.lookup x.1 = some .local)
    (h : wpAny M A first (fun x s₁ => wpAny M A (pyIter x) (fun it s₂ => wpAny M A newAcc (fun acc s₃ =>
      wpAny M A (newFunctionEnv scope env.globals cl [] env.qual none .none (some env)) (fun cenv s₄ =>
        codeAny M A (.compStart e 0 it acc { cenv with scope := relabel scope env }) (postX M A E Q acc cenv.locals cenv.frame) s₄) E s₃) E s₂) E s₁) E s) :
    wpAny M A (comprehension e scope env pos newAcc false first none) Q E s := by
  unfold comprehension
  rw [hclos, hcl]
  refine wpAny_bind (wpAny_mono h (fun x s₁ h₁ => wpAny_bind (wpAny_standAt (wpAny_bind (wpAny_of_eq (hs x) (wpAny_bind (wpAny_holding (wpAny_mono h₁ (fun it s₂ h₂ =>
    wpAny_standIf (wpAny_bind (wpAny_mono h₂ (fun acc s₃ h₃ => wpAny_bind (wpAny_pure (wpAny_bind (wpAny_mono h₃ (fun cenv s₄ h₄ => ?_) fun _ _ h' => h')))) fun _ _ h' => h')))
      fun _ _ h' => h'))))))) fun _ _ h' => h')
  dsimp only
  have hv : ∀ x ∈ (scope.names.filter fun x => (x.2 == .local || x.2 == .cell) && x.1 != (".0" : Str)).reverse, x.2 = .local →
      Env.kindOf { cenv with scope := relabel scope env } x.1 = some .local := fun x hx hl => lookup_relabel_local (hnames x (List.mem_filter.mp (List.mem_reverse.mp hx)).1 hl)
  refine wpAny_holding (wpAny_bind (wpAny_attempt (wpAny_holding (wpAny_run (codeAny_mono h₄ fun r s' hr => ?_)))))
  cases r with
  | ok f =>
    obtain ⟨m, hn, hr⟩ := hr
    exact wpAny_bind (wpAny_holding (wpAny_comp_letGo (cenv := { cenv with scope := relabel scope env }) hkind _ s' m hv hn fun h' m' _ hs' => wpAny_pure (hr h' hs')))
  | error x =>
    obtain ⟨m, hn, hr⟩ := hr
    exact wpAny_bind (wpAny_holding (wpAny_comp_letGo (cenv := { cenv with scope := relabel scope env }) hkind _ s' m hv hn fun h' m' _ hs' => wpAny_mono (hr h' hs' _ rfl rfl) (fun _ _ f => f.elim) fun _ _ y => y))
end
/-- a block's context, with a wish about exceptions -/
abbrev blkX (X : Cx) (s : Shared) (H : Hp) (scope : Scope) (cenv : Env) (fp : List Addr) (xe : Value → Shared → Prop) : Cx := { X.blk s H scope cenv fp with xe := xe }
section
variable {X : Cx}
theorem ns_slots {h h' : Heap} {C : Addr} {m : Str → Option Value} (hn : h.Ns C m) (up : h.UpToSlots h') : h'.Ns C m := by
  obtain ⟨o, es, ep, ho, hd, r⟩ := hn
  obtain ⟨sl, e⟩ := up C o ho (fun vs z => by rw [hd] at z; cases z)
  exact ⟨_, es, ep, e, hd, r⟩
/-- the exception leaves the block, and is in the def's air -/
theorem block_out {pins : List (Addr × Obj)} {σ : L2.St} {s3 s' : Shared} {H3 : Hp} {scope : Scope} {ce : Env} {fp : List Addr} {xe : Value → Shared → Prop} {E : XK} {Q : Value → Shared → Prop} {D u : Value}
    (hs : X.stack = X.env :: X.outer) (hf : X.env.frame = some X.env.locals) (tk : L2N.Takes X (fun cls d _ H => E cls d H))
    (I3 : Inv X pins σ H3 s3) (f3 : ∀ b ∈ fp, FpOk X pins H3 b ∧ b < s3.heap.objs.size) (cL : ce.locals = s3.heap.objs.size) (cF : ce.frame = X.env.frame)
    (x : XF (blkX X s3 H3 scope ce fp xe) E u s') :
    notedBy (model X.prog X.w) X.A ce (fun e s'' => postX (model X.prog X.w) X.A X.xe Q D s3.heap.objs.size X.env.frame (.error e) s'') u s' := by
  obtain ⟨a, B, sI, pins', σ', H, cls, d, rfl, IB, nb, up, fl, na, os, ag, hE⟩ := x
  have fl : HandSPX.FlyingZ B (X.env :: X.outer) a (L2N.Zn cls d) s'.heap := by rw [← hs]; exact fl
  have nb : ∀ b o, sI.heap.get? b = some o → b ∉ frs X.stack → B.get? b = some o := nb
  have I : Inv X pins σ H sI := I3.call' (ch := fp) IB.os IB.base IB.hok IB.bare fun b hb => ⟨(f3 b hb).1.2.2.2.1, (f3 b hb).1.2.1, (f3 b hb).1.2.2.2.2.1, (f3 b hb).1.2.2.2.2.2⟩
  generalize hC : s3.heap.objs.size = C at cL
  have nC : H C = none := by
    have z : H ce.locals = none := IB.free
    rw [cL] at z
    exact z
  obtain ⟨m, hn, _⟩ := IB.loc
  have hn : sI.heap.Ns ce.locals m := hn
  rw [cL] at hn
  obtain ⟨g0, g1, g2, g3, g4, g5⟩ := I3.fpOk (Nat.le_of_eq hC) nC
  have hfr : X.A.frames = some (X.env :: X.outer) := by rw [I.ok.frames, hs]
  show wpAny (model X.prog X.w) X.A (noteFrame (.ref a) ce) _ _ s'
  have en : noteFrame (.ref a) ce = noteFrame (.ref a) X.env := by
    unfold noteFrame PySem.frameOf
    rw [cF]
  rw [en]
  refine PXN.looks_onZ L2N.Zn.steady hfr hf fl fun h1 hh up1 => ?_
  have upA : sI.heap.UpToSlots h1 := up.trans up1
  refine ⟨m, ns_slots hn upA, fun h2 sb cenv e1 e2 => ?_⟩
  obtain ⟨st, ba, ff, oe, vs, T, oT, ts, he, hz, hd, h1', hnT, hTe, hT, hdT, h3'⟩ := hh
  have hnC : h1.Ns C m := ns_slots hn upA
  obtain ⟨oC, es, ep, hoC, hdC, _⟩ := hnC
  have aC : a ≠ C := fun z => by
    rw [z, hoC] at he; cases he
    rw [hdC] at hd; cases hd
  have TC : T ≠ C := fun z => by
    rw [z, hoC] at hT; cases hT
    rw [hdC] at hdT; cases hdT
  have sb2 : ∀ b, b ≠ C → h2.get? b = h1.get? b := sb.2
  have hidN : ∀ {h : Heap} {b : Addr} {o : Obj}, (PySem.W.hideAll h [C]).get? b = some o → b ≠ C ∧ h.get? b = some o := by
    intro h b o e
    refine ⟨fun z => ?_, PySem.W.of_hideAll _ e⟩
    have q := PySem.W.hideAll_none (h := h) [C] (b := b) (by rw [z]; exact List.mem_cons_self)
    rw [e] at q
    cases q
  have nCf : C ∉ (X.env :: X.outer).filterMap (·.frame) := fun hm => by
    rw [List.filterMap_cons, hf] at hm
    rcases List.mem_cons.mp hm with z | z
    · exact g1 z
    · exact g2 z
  have hideN : ∀ b, B.get? b = none → (PySem.W.hideAll B [C]).get? b = none := fun b hb => by
    cases q : (PySem.W.hideAll B [C]).get? b with
    | none => rfl
    | some o => rw [(hidN q).2] at hb; cases hb
  have ff2 : h2.FunFrames (PySem.W.hideAll B [C]) (X.env :: X.outer) := funFrames_but hideN (fun b hb => sb2 b fun z => nCf (z ▸ hb)) ff
  have st2 : (PySem.W.hideAll B [C]).StaysIn h2 := fun b o e => by
    obtain ⟨z1, z2⟩ := hidN e
    rw [sb2 b z1]
    exact st b o z2
  have tr2 : HandSPX.TracedZ h2 (PySem.W.hideAll B [C]) a (L2N.Zn cls d) (rawInt X.env.locals) := ⟨oe, vs, T, oT, ts, by rw [sb2 a aC]; exact he, hz, hd, h1', hideN T hnT, hTe, by rw [sb2 T TC]; exact hT, hdT, h3'⟩
  unfold PySem.passOn
  refine wpAny_bind (wpAny_field (s := { s' with heap := h2 }) (show h2.get? a = some oe by rw [sb2 a aC]; exact he) hd h1' ?_)
  rw [if_neg (show ¬ ((Value.ref T == Value.none) = true) from by simp)]
  have fin : wpAny (model X.prog X.w) X.A (setFlight (.ref a) cenv.frame) (fun _ s4 => wpAny (model X.prog X.w) X.A (throw (.ref a) : Sem Value) (fun _ _ => False) X.xe s4) X.xe { s' with heap := h2 } := by
    refine HandSPX.setFlight_anyZ st2 ff2 tr2 fun h4 k1 k2 k3 k4 => wpAny_throw (tk _ _ ?_)
    rw [e2, hf] at k3
    refine ⟨a, PySem.W.hideAll B [C], { sI with heap := PySem.W.hideAll sI.heap [C] }, pins, σ, H, cls, d, rfl, I.turned (t' := sI.toks) (fun b o hb e => PySem.W.hideAll_get _ e (by simpa using hb)) g0 g1 g3 g4 g5, fun b o e hb => ?_, ?_,
      .inr (.inr ⟨k1, hideN a ba, by rw [hs]; exact k2, k3⟩), na, os, ag, hE⟩
    · obtain ⟨z1, z2⟩ := hidN e
      exact PySem.W.hideAll_get _ (nb b o z2 hb) (by simpa using z1)
    · refine Heap.UpToSlots.trans (h₂ := h2) (fun b o e nf => ?_) k4
      obtain ⟨z1, z2⟩ := hidN e
      obtain ⟨sl, q⟩ := upA b o z2 nf
      exact ⟨sl, by rw [sb2 b z1]; exact q⟩
  first
    | exact wpAny_bind (wpAny_pure (wpAny_bind fin))
    | exact wpAny_bind fin
/-- [elt for target in iter if ..] as a value; elt may raise out of a call -/
theorem pe_lcX {E : XK} {elt tg iter : Expr} {ifs : List Expr} {scope : Scope} {own : List (Str × Nat)} {pos : Pos} {wi : TI} {g : TG} {tt : TT} {te : TE} (hs0 : X.stack = X.env :: X.outer) (hf0 : X.env.frame = some X.env.locals) (tk0 : L2N.Takes X (fun cls d _ H => E cls d H))
    (hc : X.calm = true) (hN : X.N.Nodup) (hi : PI X tg iter wi) (ok : BlkOk X.N X.env.scope scope own)
    (hg : ∀ (s : Shared) (H : Hp) (C : Addr) (cl : List (Str × Addr)) (fp : List Addr) (xe : Value → Shared → Prop), PG (blkX X s H scope (compEnvC scope cl C X.env) fp xe) tg g) (ht : ∀ (s : Shared) (H : Hp) (C : Addr) (cl : List (Str × Addr)) (fp : List Addr) (xe : Value → Shared → Prop), PTs (blkX X s H scope (compEnvC scope cl C X.env) fp xe) ifs tt)
    (he : ∀ (s : Shared) (H : Hp) (C : Addr) (cl : List (Str × Addr)) (fp : List Addr) (xe : Value → Shared → Prop), TakesF (blkX X s H scope (compEnvC scope cl C X.env) fp xe) E → PE (blkX X s H scope (compEnvC scope cl C X.env) fp xe) elt te) (hs : ∀ x, foldedSetIterable iter X.env x = pure x := by intro _; rfl) :
    PE X (.ListComp elt [⟨tg, iter, ifs, 0⟩] scope pos) (tLc wi g tt te (own.map (·.2))) := by
  refine ⟨fun pins s σ H Q I h => ?_⟩
  rw [eval_ListComp]
  have hfree : ∀ y ∈ scope.names, y.2 = .free → ∃ c, X.env.cells.lookup y.1 = some c := fun y hy e => by
    rcases ok.free y hy e with k | k
    · exact I.ok.has _ (.inl k)
    · exact I.ok.has _ (.inr k)
  refine wpAny_comprehensionX rfl hs (closure_ok hfree) ok.kind (fun y hy e => by rw [ok.uniq y hy, e])
    (thn (hi.run pins s σ H _ I h) fun xv s1 hx => thn hx fun itv s2 h2 => ?_)
  obtain ⟨it, fp, tn, J, H2, e, I2, T, st2, f2, q⟩ := h2
  subst e
  refine wpAny_newObj_type (newEnv_comp ?_) (by show 0 ≤ sizeLine; decide)
  generalize hD : s2.heap.objs.size = D
  have hDn : H2 D = none := I2.hok.fresh (Nat.le_of_eq hD)
  obtain ⟨W, ⟨m0, w0⟩, turn⟩ := q D hDn
  generalize hs3 : ({ s2 with heap := s2.heap.push { cls := .type "list", data := .seq ([] : List Value).toArray } } : Shared) = s3
  have I3 : Inv X pins σ (upd H2 D (.lst [])) s3 := by
    rw [← hs3]
    refine I2.laid (t' := s2.toks) (fun b o e => Heap.get?_push_of_some _ e) (Nat.le_of_eq hD) ⟨Nat.zero_le _, [], 0, .nil, ?_⟩
    rw [← hD]
    exact Heap.get?_push_size _ rfl
  have h3 : s3.heap = s2.heap.push { cls := .type "list", data := .seq ([] : List Value).toArray } := by rw [← hs3]
  have sz : ∀ b ∈ fp, b < s2.heap.objs.size := fun b hb => by
    obtain ⟨o, e, _⟩ := T.obj _ _ st2 b hb
    exact Heap.lt_size e
  have f3 : ∀ b ∈ fp, FpOk X pins (upd H2 D (.lst [])) b ∧ b < s3.heap.objs.size := fun b hb => by
    have hlt := sz b hb
    refine ⟨⟨?_, (f2 b hb).2⟩, by rw [h3, Heap.size_push]; exact Nat.lt_succ_of_lt hlt⟩
    rw [upd_ne (by rw [← hD]; exact Nat.ne_of_lt hlt)]
    exact (f2 b hb).1
  have st3 : tn 0 s3.heap := T.keep _ _ _ st2 fun b _ o e => by rw [h3]; exact Heap.get?_push_of_some _ e
  have I4 := block_start I3 ok hN f3
  have pg := hg s3 (upd H2 D (.lst [])) s3.heap.objs.size (cellsFrom (s3.heap.objs.size + 1) scope.names (cloFrom X.env.cells scope.names [])) fp
  have pt := ht s3 (upd H2 D (.lst [])) s3.heap.objs.size (cellsFrom (s3.heap.objs.size + 1) scope.names (cloFrom X.env.cells scope.names [])) fp
  have pe := he s3 (upd H2 D (.lst [])) s3.heap.objs.size (cellsFrom (s3.heap.objs.size + 1) scope.names (cloFrom X.env.cells scope.names [])) fp
  show codeAny _ _ (.compStart (.ListComp elt [⟨tg, iter, ifs, 0⟩] scope pos) 0 (.ref it) (.ref D) (compEnvC scope (cellsFrom (s3.heap.objs.size + 1) scope.names (cloFrom X.env.cells scope.names [])) s3.heap.objs.size X.env)) (postX (model X.prog X.w) X.A X.xe (EP X pins σ Q) (.ref D) s3.heap.objs.size X.env.frame) { s3 with heap := pushCells (s3.heap.push { cls := .type "dict", data := .dict #[] }) scope.names }
  have nfp : ∀ b ∈ fp, (upd H2 D (.lst [])) b = none := fun b hb => (f3 b hb).1.1
  have cF : (compEnvC scope (cellsFrom (s3.heap.objs.size + 1) scope.names (cloFrom X.env.cells scope.names [])) s3.heap.objs.size X.env).frame = X.env.frame := rfl
  generalize hce : compEnvC scope (cellsFrom (s3.heap.objs.size + 1) scope.names (cloFrom X.env.cells scope.names [])) s3.heap.objs.size X.env = ce at I4 pg pt pe cF ⊢
  have cL : ce.locals = s3.heap.objs.size := by subst hce; rfl
  generalize hH3 : upd H2 D (.lst []) = H3 at I3 I4 pg pt pe w0 nfp f3
  generalize hs4 : ({ s3 with heap := pushCells (s3.heap.push { cls := .type "dict", data := .dict #[] }) scope.names } : Shared) = s4 at I4 ⊢
  have st4 : tn 0 s4.heap := T.keep _ _ _ st3 fun b _ o e => by rw [← hs4]; exact pushCells_keeps _ _ _ _ (Heap.get?_push_of_some _ e)
  generalize hR : postX (model X.prog X.w) X.A X.xe (EP X pins σ Q) (.ref D) s3.heap.objs.size X.env.frame = R
  have hxe : ∃ xe : Value → Shared → Prop, xe = notedBy (model X.prog X.w) X.A ce fun e s' => R (.error e) s' := ⟨_, rfl⟩
  obtain ⟨xe, hxe⟩ := hxe
  have tkF : TakesF (blkX X s3 H3 scope ce fp xe) E := fun u s' x => by
    show xe u s'
    rw [hxe, ← hR]
    exact block_out hs0 hf0 tk0 I3 f3 cL cF x
  have I4 : Inv (blkX X s3 H3 scope ce fp xe) [] (wipe σ (own.map (·.2))) H3 s4 := I4.wish xe
  have pg := pg xe
  have pt := pt xe
  have pe := pe xe tkF
  have stat : ∀ {σ' : L2.St} {H' : Hp} {s' : Shared}, Inv (blkX X s3 H3 scope ce fp xe) [] σ' H' s' → (∀ b ∈ fp, H' b = none) → ∀ b ∈ fp, FpOk (blkX X s3 H3 scope ce fp xe) [] H' b := fun {σ' H' s'} I' hn b hb =>
    ⟨hn b hb, (I'.ok.exf b hb).1, I'.ok.exfs b hb, .inl hb, fun x c e => (I'.ok.exf b hb).2 x c e, fun p hp => absurd (show p ∈ ([] : List (Addr × Obj)) ++ [] from hp) (by simp)⟩
  have loop : codeAny (model X.prog X.w) X.A (.compLoop (.ListComp elt [⟨tg, iter, ifs, 0⟩] scope pos) 0 (.ref it) (.ref D) ce) R s4 := by
    refine compLoop_any (fun n s' => ∃ i H', Inv (blkX X s3 H3 scope ce fp xe) [] (wipe σ (own.map (·.2))) H' s' ∧ tn i s'.heap ∧ (∀ b ∈ fp, H' b = none) ∧ W i n H') ?_ m0 ⟨0, H3, I4, st4, nfp, w0⟩
    rw [← hxe]
    rintro n s5 ⟨i, H5, I5, st5, n5, w5⟩
    rcases turn i n H5 w5 with ⟨stop, qq⟩ | ⟨go, Nx, hNx, step⟩
    · have td := T.done (blkX X s3 H3 scope ce fp xe) rfl rfl rfl hc i [] s5 _ H5 (fun _ _ => False) I5 (stat I5 n5) st5 stop
      refine thnF td fun r s6 ⟨hr, I6⟩ => ?_
      subst hr
      have I7 : Inv X pins σ H5 s6 := I3.call' (ch := fp) I6.os I6.base I6.hok I6.bare fun b hb => ⟨(f3 b hb).1.2.2.2.1, (f3 b hb).1.2.1, (f3 b hb).1.2.2.2.2.1, (f3 b hb).1.2.2.2.2.2⟩
      have nC : H5 s3.heap.objs.size = none := by
        have z : H5 ce.locals = none := I6.free
        rw [cL] at z
        exact z
      obtain ⟨m, hn, _⟩ := I6.loc
      have hn : s6.heap.Ns ce.locals m := hn
      rw [cL] at hn
      show R (.ok .next) s6
      rw [← hR]
      refine ⟨m, hn, fun h'' sb => ?_⟩
      obtain ⟨f0, f1, f2, f3, f4, f5⟩ := I3.fpOk (Nat.le_refl _) nC
      exact ⟨.ref D, H5, I7.turned (t' := s6.toks) (fun b o hb e => (sb.2 b hb).trans e) f0 f1 f3 f4 f5, rfl, qq⟩
    · have ti := T.item (blkX X s3 H3 scope ce fp xe) rfl rfl rfl hc i [] s5 _ H5 (fun _ _ => False) I5 (stat I5 n5) st5 go
      refine thnF ti fun r s6 ⟨u, hr, h6⟩ => ?_
      subst hr
      refine thnF h6 fun _ s7 ⟨x, H7, I7, r7, y7, st7, n7⟩ => ?_
      have I7' := I7.pinned (stat I7 n7) (T.obj _ _ st7)
      refine thn (pg.run _ s7 _ H7 x u _ I7' r7 (step x H7 y7)) fun _ s8 ⟨σ8, H8, I8, hw8, q8⟩ => ?_
      refine thn (pt.run _ s8 σ8 H8 _ I8 q8) fun b s9 ⟨H9, I9, q9⟩ => ?_
      have fin : ∀ {s' : Shared} {H' : Hp}, Inv (blkX X s3 H3 scope ce fp xe) ([] ++ pinsAt fp s7.heap) σ8 H' s' → Nx H' → ∃ m, m < n ∧ ∃ i H', Inv (blkX X s3 H3 scope ce fp xe) [] (wipe σ (own.map (·.2))) H' s' ∧ tn i s'.heap ∧ (∀ b ∈ fp, H' b = none) ∧ W i m H' := fun {s' H'} I' nx => by
        obtain ⟨m', hm, w'⟩ := hNx H' nx
        have pin' : ∀ b ∈ fp, ∀ o, s7.heap.get? b = some o → s'.heap.get? b = some o ∧ H' b = none := fun b hb o e =>
          let z := I'.pin (b, o) (List.mem_append_right _ (List.mem_append_right _ (mem_pinsAt hb e)))
          ⟨z.1, z.2.1⟩
        have hl : (wipe σ (own.map (·.2))).length = σ8.length := by rw [← hw8, wipe_length]
        refine ⟨m', hm, i + 1, H', (I'.unpinned (pins := [])).weak hl (fun j v e => ?_), T.keep _ _ _ st7 fun b hb o e => (pin' b hb o e).1, fun b hb => ?_, w'⟩
        · rw [← hw8] at e
          exact (wipe_some e).1
        · obtain ⟨o, e, _⟩ := T.obj _ _ st7 b hb
          exact (pin' b hb o e).2
      cases b with
      | false =>
        simp only [Bool.false_eq_true, if_false] at q9 ⊢
        exact fin I9 q9
      | true =>
        simp only [if_true] at q9 ⊢
        refine thn (pe.run _ s9 σ8 H9 _ I9 q9) fun z s10 ⟨yv, H10, I10, r10, acc, hD10, hz10, nx⟩ => ?_
        exact app_ok (X := blkX X s3 H3 scope ce fp xe) I10 hD10 hz10 r10 fun s11 I11 => fin I11 nx
  exact codeAny_compStart_list loop (T.self X.A 0 _ _ _ st4 loop)
end
end My
namespace My
open PySem PySem.Spec PyProof.Rows L2
/-! ### the match statement -/
abbrev TPt := V → Hp → (Option (List (Nat × V)) → Hp → Prop) → Prop
inductive BindR (X : Cx) : List (Str × Value) → List (Nat × V) → Prop
  | nil : BindR X [] []
  | cons {b : Str × Value} {q : Nat × V} {bs : List (Str × Value)} {l : List (Nat × V)} (h : X.N[q.1]? = some b.1 ∧ X.env.scope.names.lookup b.1 = some .local ∧ RelV q.2 b.2) (r : BindR X bs l) : BindR X (b :: bs) (q :: l)
def PtOut (X : Cx) (pins : List (Addr × Obj)) (σ : L2.St) (Q : Option (List (Nat × V)) → Hp → Prop) (r : Option (List (Str × Value))) (s' : Shared) : Prop :=
  ∃ rv H', Inv X pins σ H' s' ∧ Q rv H' ∧ match r, rv with
    | none, none => True
    | some bs, some l => BindR X bs l
    | _, _ => False
structure PPt (X : Cx) (p : Pattern) (t : TPt) : Prop where
  run : ∀ (pins : List (Addr × Obj)) (s : Shared) (σ : L2.St) (H : Hp) (v : V) (u : Value) (Q : Option (List (Nat × V)) → Hp → Prop), Inv X pins σ H s → RelV v u → t v H Q → wpAny (model X.prog X.w) X.A (matchPattern p X.env u) (PtOut X pins σ Q) X.xe s
def setL (σ : L2.St) (l : List (Nat × V)) : L2.St := l.foldl (fun σ q => σ.set q.1 (some q.2)) σ
section
variable {X : Cx} {pins : List (Addr × Obj)}
theorem bind_all (hN : X.N.Nodup) {Q : Unit → Shared → Prop} {H : Hp} {bs : List (Str × Value)} {l : List (Nat × V)} (hb : BindR X bs l) : ∀ {σ : L2.St} {s : Shared}, Inv X pins σ H s → (∀ s', Inv X pins (setL σ l) H s' → Q () s') →
    wpAny (model X.prog X.w) X.A (assignInOrder (bs.map fun (n, _) => bindName X.env n) (bs.map (·.2))) Q X.xe s := by
  induction hb with
  | nil =>
    intro σ s I h
    exact wpAny_pure (h s I)
  | cons h0 r ih =>
    intro σ s I h
    obtain ⟨h1, h2, h3⟩ := h0
    exact wpAny_assignInOrder_more (wpAny_bindName (store_ok I hN h1 (.inl h2) h3 (fun s' I' => ih I' h) (.inr h2)))
abbrev TCs := V → Ends → L2.St → Hp → Prop
structure PCs (X : Cx) (cs : List MatchCase) (t : TCs) : Prop where
  run : ∀ (first : Bool) (pins : List (Addr × Obj)) (s : Shared) (σ : L2.St) (H : Hp) (v : V) (u : Value) (D : Ends), Inv X pins σ H s → RelV v u → t v D σ H → wpAny (model X.prog X.w) X.A (matchCases cs X.env u first) (SP X pins D) X.xe s
def tCsNil : TCs := fun _ D σ H => D.nx σ H
def tCsCons (tp : TPt) (tb : TS) (tr : TCs) : TCs := fun v D σ H => tp v H fun r H1 => match r with
  | none => tr v D σ H1
  | some l => tb D (setL σ l) H1
theorem pcs_nil : PCs X [] tCsNil := ⟨fun _ _ _ σ H _ _ _ I _ h => wpAny_matchCases_nil ⟨σ, H, I, h⟩⟩
theorem pcs_cons {p : Pattern} {body : List Stmt} {cs : List MatchCase} {tp : TPt} {tb : TS} {tr : TCs} (hN : X.N.Nodup) (hp : PPt X p tp) (hb : PSs X body tb) (hr : PCs X cs tr) : PCs X (⟨p, none, body⟩ :: cs) (tCsCons tp tb tr) := by
  refine ⟨fun first pins s σ H v u D I r h => ?_⟩
  refine wpAny_matchCases_cons (thn (hp.run pins s σ H v u _ I r h) fun r1 s1 ⟨rv, H1, I1, q, m⟩ => ?_)
  cases r1 with
  | none =>
    cases rv with
    | none => exact hr.run false pins s1 σ H1 v u D I1 r q
    | some l => exact m.elim
  | some bs =>
    cases rv with
    | none => exact m.elim
    | some l => exact bind_all hN m I1 fun s2 I2 => hb.run pins s2 _ H1 D I2 q
def tMatch (te : TE) (tc : TCs) : TS := fun D σ H => te σ H fun v H1 => tc v D σ H1
theorem ps_match {e : Expr} {cs : List MatchCase} {pos : Pos} {te : TE} {tc : TCs} (he : PE X e te) (hc : PCs X cs tc) : PS X (.Match e cs pos) (tMatch te tc) := by
  refine ⟨fun pins s σ H D I h => ?_⟩
  exact wpAny_Match (thn (he.run pins s σ H _ I h) fun u s1 ⟨v, H1, I1, r1, q1⟩ => hc.run true pins s1 σ H1 v u D I1 r1 q1)
/-! int() -/
def tPInt : TPt := fun v H Q => (∃ i, v = .int i ∧ Q (some []) H) ∨ (∃ z, v = .str z ∧ Q none H) ∨ ∃ a xs, v = .ref a ∧ H a = some (.lst xs) ∧ Q none H
theorem run_isi {prog : Program} {w : World} {A : Around} {E : Value → Shared → Prop} {s : Shared} {x c : Value} {S : PySem.Spec} {Q : Value → Shared → Prop} (g : Meets (Builtin.«isinstance» ⟨[x, c], []⟩) S) (h : S A (wants Q E) s) :
    wpAny (model prog w) A (runValue (.builtin "isinstance" ⟨[x, c], []⟩)) Q E s := by
  refine wpAny_runValue (codeAny_builtin F.entry_isinstance ?_)
  rw [Around.under_plainId F.plain_isinstance _]
  exact g prog w A (wants Q E) s h
theorem mc_int (x : Value) : matchClass x (.type "int") 0 [] = (runValue (.builtin "isinstance" ⟨[x, .type "int"], []⟩) >>= fun v => if (v != Value.bool true) = true then pure none else pure (some [])) := by
  kernel_rfl
theorem ppt_int {p pos : Pos} (hg : Gl X "int") (hm : X.mg "int" = none) : PPt X (.MatchClass (.Name "int" p) [] [] [] pos) tPInt := by
  refine ⟨fun pins s σ H v u Q I r h => ?_⟩
  rw [arm_matchPattern_MatchClass]
  refine wpAny_bind (ld_blt (u := .type "int") I hg hm (by decide +kernel) ?_)
  refine wpAny_bind (wpAny_standAt ?_)
  refine wpAny_bind (wpAny_holding ?_)
  rw [show ([] : List Pattern).length = 0 from rfl, mc_int]
  rcases h with ⟨i, rfl, q⟩ | ⟨z, rfl, q⟩ | ⟨a, xs, rfl, ha, q⟩
  · obtain ⟨t, rfl⟩ := r
    refine wpAny_bind (run_isi (isinstance_true (Tx := "int") F.isi_meta_int F.sub_int_int) ⟨typeIs_int _ _ _, ?_⟩)
    show wpAny _ _ (if (Value.bool true != Value.bool true) = true then pure none else pure (some [])) _ _ s
    rw [if_neg (by decide)]
    exact wpAny_pure (wpAny_bind (wpAny_holding (wpAny_matchEach_nil (wpAny_bind (wpAny_holding (wpAny_matchEach_nil (wpAny_pure ⟨some [], H, I, q, .nil⟩)))))))
  · obtain ⟨t, rfl⟩ := r
    refine wpAny_bind (run_isi (isinstance_false_str (by decide +kernel) F.isi_meta_int F.sub_str_int) ?_)
    show wpAny _ _ (if (Value.bool false != Value.bool true) = true then pure none else pure (some [])) _ _ _
    rw [if_pos (by decide)]
    exact wpAny_pure (wpAny_pure ⟨none, H, I.tok _, q, trivial⟩)
  · obtain rfl : u = Value.ref a := r
    obtain ⟨its, rits, pl, _⟩ := I.list (SqL.of ha)
    obtain ⟨o, ho, hc, _⟩ := pl.isList
    refine wpAny_bind (run_isi (isinstance_false_list (by decide +kernel) F.isi_meta_int F.sub_list_int) ⟨⟨o, ho, hc⟩, ?_⟩)
    show wpAny _ _ (if (Value.bool false != Value.bool true) = true then pure none else pure (some [])) _ _ _
    rw [if_pos (by decide)]
    exact wpAny_pure (wpAny_pure ⟨none, H, I.tok _, q, trivial⟩)
/-! [word, names..] -/
/-- is this value the word w? -/
def wordIs (w : Str) (H : Hp) (x : V) (b : Bool) : Prop := (∃ z, x = .str z ∧ b = decide (z = w)) ∨ (∃ i, x = .int i ∧ b = false) ∨ ∃ a xs, x = .ref a ∧ H a = some (.lst xs) ∧ b = false
theorem eq_word {w : Str} {σ : L2.St} {H : Hp} {s : Shared} {x : V} {u : Value} {t : Tok} {b : Bool} {Q : Value → Shared → Prop} {E : Value → Shared → Prop} (hu : X.A.units < cLine) (I : Inv X pins σ H s) (r : RelV x u) (h : wordIs w H x b) (q : Q (.bool b) s) : wpAny (model X.prog X.w) X.A (compareOp .Eq u (.str w t)) Q E s := by
  show wpAny _ _ (richCompare .Eq u (.str w t)) _ _ s
  rcases h with ⟨z, rfl, rfl⟩ | ⟨i, rfl, rfl⟩ | ⟨a, xs, rfl, ha, rfl⟩
  · obtain ⟨t', rfl⟩ := r
    refine SeqAt.RcAt.str_str z t' w t X.prog X.w E Q ?_
    have e : decide (z = w) = (z == w) := by rw [Bool.eq_iff_iff]; simp
    rw [← e]
    exact q
  · obtain ⟨t', rfl⟩ := r
    exact SeqAt.RcAt.int_str i t' w t X.prog X.w E Q q
  · obtain rfl : u = Value.ref a := r
    obtain ⟨its, rits, pl, _⟩ := I.list (SqL.of ha)
    exact SeqAt.RcAt.list_str w t pl.isList hu X.prog X.w E Q q
inductive CapsR (X : Cx) : List Pattern → List Nat → Prop
  | nil : CapsR X [] []
  | cons {n : Str} {pos : Pos} {i : Nat} {ps : List Pattern} {is : List Nat} (h : X.N[i]? = some n) (hl : X.env.scope.names.lookup n = some .local) (r : CapsR X ps is) : CapsR X (.MatchAs none (some n) pos :: ps) (i :: is)
theorem CapsR.len : ∀ {ps : List Pattern} {is : List Nat}, CapsR X ps is → ps.length = is.length
  | _, _, .nil => rfl
  | _, _, .cons _ _ r => congrArg (· + 1) r.len
theorem caps_each {E : Value → Shared → Prop} {ps : List Pattern} {is : List Nat} (hp : CapsR X ps is) : ∀ {xs : List V} {us : List Value} {s : Shared} {Q : Option (List (Str × Value)) → Shared → Prop}, Vals xs us → xs.length = is.length → 
    (∀ bs, BindR X bs (is.zip xs) → Q (some bs) s) → wpAny (model X.prog X.w) X.A (matchEach ps X.env us) Q E s := by
  induction hp with
  | nil =>
    intro xs us s Q r e h
    cases r with
    | nil => exact wpAny_matchEach_nil (h [] .nil)
    | cons _ _ => cases e
  | cons hi hl r ih =>
    intro xs us s Q rr e h
    cases rr with
    | nil => cases e
    | cons rx rxs => exact wpAny_matchEach_cons (wpAny_matchPattern_Capture (ih rxs (by simpa using e) fun bs hb => h _ (.cons ⟨hi, hl, rx⟩ hb)))
def tPWord (w : Str) (sl : List Nat) : TPt := fun v H Q => (∃ i, v = .int i ∧ Q none H) ∨ (∃ z, v = .str z ∧ Q none H) ∨ ∃ a xs, v = .ref a ∧ H a = some (.lst xs) ∧ (xs.length ≠ sl.length + 1 → Q none H) ∧
  ∀ x r, xs = x :: r → r.length = sl.length → ∃ b, wordIs w H x b ∧ Q (if b = true then some (sl.zip r) else none) H
theorem pt_miss {σ : L2.St} {H : Hp} {s : Shared} {Q : Option (List (Nat × V)) → Hp → Prop} {ps : List Pattern} {pos : Pos} {v : V} {u : Value} (I : Inv X pins σ H s) (r : RelV v u) (h : (∃ i, v = .int i) ∨ ∃ z, v = .str z) (q : Q none H) : 
    wpAny (model X.prog X.w) X.A (matchPattern (.MatchSequence ps pos) X.env u) (PtOut X pins σ Q) X.xe s := by
  rw [arm_matchPattern_MatchSequence]
  refine wpAny_bind (wpAny_standAt ?_)
  rcases h with ⟨i, rfl⟩ | ⟨z, rfl⟩
  · obtain ⟨t, rfl⟩ := r
    refine wpAny_bind (wpAny_collectionFlag (typeIs_int s i t) flag_seq_int ?_)
    simp only [Bool.not_false, if_true]
    exact wpAny_pure ⟨none, H, I, q, trivial⟩
  · obtain ⟨t, rfl⟩ := r
    refine wpAny_bind (wpAny_collectionFlag (typeIs_str s z t) flag_seq_str ?_)
    simp only [Bool.not_false, if_true]
    exact wpAny_pure ⟨none, H, I, q, trivial⟩
theorem ppt_word {w : Str} {e : Expr} {p0 pos : Pos} {caps : List Pattern} {sl : List Nat} (hc : X.calm = true) (hu : X.A.units < cLine) (he : PE X e (tC (.str w))) (hcap : CapsR X caps sl)
    (hstar : (Pattern.MatchValue e p0 :: caps).findIdx? (·.isStar) = none := by rfl) (hwild : ((Pattern.MatchValue e p0 :: caps).all fun p => p.isWildcard || (p.isStar && p.names.isEmpty)) = false := by rfl) :
    PPt X (.MatchSequence (.MatchValue e p0 :: caps) pos) (tPWord w sl) := by
  refine ⟨fun pins s σ H v u Q I r h => ?_⟩
  rcases h with ⟨i, e1, q⟩ | ⟨z, e1, q⟩ | ⟨a, xs, rfl, ha, q1, q2⟩
  · exact pt_miss I r (.inl ⟨i, e1⟩) q
  · exact pt_miss I r (.inr ⟨z, e1⟩) q
  · obtain rfl : u = Value.ref a := r
    obtain ⟨its, rits, pl, hz⟩ := I.list (SqL.of ha)
    have hsz : its.toArray.size = xs.length := by rw [List.size_toArray, ← rits.length]
    have fit : (its.toArray.size : Int) < 2 ^ 63 := by
      rw [hsz]
      exact Int.lt_of_le_of_lt (Int.ofNat_le.mpr hz) (by decide)
    have pl1 : (Pattern.MatchValue e p0 :: caps).length = sl.length + 1 := by rw [List.length_cons, hcap.len]
    by_cases hl : xs.length = sl.length + 1
    · have hn : its.toArray.size = (Pattern.MatchValue e p0 :: caps).length := by rw [hsz, hl, pl1]
      refine matchSeq_list_hit pl.isList fit hn ?_ hstar hwild
      rw [← hn]
      refine PySem.W.kun_itemsOf (I.ok.hd hc) pl.isList fun h' hx => ?_
      have I1 : Inv X pins σ H { s with heap := h', toks := s.toks + 1 + 1 } := I.kept (t' := s.toks + 1 + 1) fun b o e => hx b o (Nat.ne_of_lt (Heap.lt_size e)) e
      cases xs with
      | nil => cases hl
      | cons x rest =>
        obtain ⟨b, hw, q⟩ := q2 x rest rfl (by simpa using hl)
        cases rits with
        | @cons _ u0 _ us rx rr =>
          show wpAny _ _ (matchEach (Pattern.MatchValue e p0 :: caps) X.env (u0 :: us)) _ _ _
          refine wpAny_matchEach_cons (wpAny_matchPattern_Value (thn (he.run pins _ σ H (fun v' H' => v' = .str w ∧ H' = H) I1 ⟨rfl, rfl⟩) fun c s2 hcc => ?_))
          obtain ⟨cv, H2, I2, rc, ec, eh⟩ := hcc
          subst ec eh
          obtain ⟨t, rfl⟩ := rc
          refine eq_word hu I2 rx hw (wpAny_truthy_bool ?_)
          cases b with
          | false => exact ⟨none, H2, I2, q, trivial⟩
          | true =>
            exact caps_each hcap rr (by simpa using hl) fun bs hb => ⟨some _, H2, I2, q, hb⟩
    · have hn : its.toArray.size ≠ (Pattern.MatchValue e p0 :: caps).length := by rw [hsz, pl1]; exact hl
      exact matchSeq_list_miss pl.isList fit hn ⟨none, H, I.tok _, q1 hl, trivial⟩ hstar hwild
end
end My
namespace My
open PySem PySem.Spec PyProof.Rows L2
/-! ### [word, name, *names] -/
theorem walk_from {prog : Program} {w : World} {A : Around} (hh : A.handled = none) (I ax : Addr) (hne : ax ≠ I) (items : Array Value) (i0 : Nat) (hi0 : i0 ≤ items.size) :
    WalksS prog w A I [I, ax] [I] (fun a b => b = a) (items.size - i0) (fun j v => items[i0 + j]? = some v) (fun j s => s.heap.IsListIter I ax (i0 + j) ∧ s.heap.IsList ax items) where
  sub := fun b hb => by simp at hb; simp [hb]
  grefl := fun _ => rfl
  gtrans := fun _ _ _ x y => y.trans x
  frame := fun _ _ _ _ st _ hk => ⟨st.1.at fun o e => hk I (by simp) o e, st.2.at fun o e => hk ax (by simp) o e⟩
  item := fun i s Q E hi st hQ => by
    refine wpAny_pyNext_list_item st.1 st.2 (x := items[i0 + i]) (by simp) fun h' hit' hs' => ?_
    exact hQ _ _ (by simp) ⟨hit', st.2.extBut hs'.extBut hne⟩ ⟨fun b o hb e => hs'.extBut b o (fun h => hb (by simp [h])) e, rfl, rfl, rfl, Nat.le_refl _⟩
  done := fun s Q E st hQ => wpAny_pyNext_list_end hh st.1 st.2 (by simp; omega) fun h' he' => hQ _ ⟨fun b o hb e => he' b o (fun h => hb (by simp [h])) e, rfl, rfl, rfl, Nat.le_refl _⟩
  self := fun _ _ _ _ st hQ => wpAny_pyIter_listiter st.1 hQ
theorem items_drop {items : Array Value} {acc : Array Value} {i0 : Nat} (h : ItemsOf (fun j v => items[i0 + j]? = some v) acc (items.size - i0)) : acc.toList = items.toList.drop i0 := by
  apply List.ext_getElem?
  intro j
  rw [List.getElem?_drop, Array.getElem?_toList, Array.getElem?_toList]
  cases e : acc[j]? with
  | some v => exact (h.2 j v e).symm
  | none =>
    have : acc.size ≤ j := Array.getElem?_eq_none_iff.mp e
    rw [h.1] at this
    exact (Array.getElem?_eq_none_iff.mpr (by omega)).symm
theorem unpack_star {prog : Program} {w : World} {A : Around} {E : Value → Shared → Prop} {s : Shared} {l : Addr} {items : Array Value} {i : Nat} {Q : List Value → Shared → Prop} (hh : A.handled = none) (hl : s.heap.IsList l items) (hi : i ≤ items.size) (hz : items.size ≤ sizeLine)
    (hQ : ∀ (h' : Heap) (tk : Nat), (∀ b o, s.heap.get? b = some o → h'.get? b = some o) → Q (items.toList.take i ++ [.ref h'.objs.size]) { s with heap := h'.push { cls := .type "list", data := .seq (items.toList.drop i).toArray }, toks := tk }) :
    wpAny (model prog w) A (unpackItems (.ref l) (i + 1) (some i)) Q E s := by
  have hlt : l ≠ s.heap.objs.size := by obtain ⟨o, ho, _⟩ := hl; exact Nat.ne_of_lt (Heap.lt_size ho)
  have hlt2 : l < s.heap.objs.size := by obtain ⟨o, ho, _⟩ := hl; exact Heap.lt_size ho
  unfold unpackItems
  refine wpAny_bind ?_
  unfold notIterableAtAll
  refine wpAny_bind (wpAny_specialOf hl.typeIs slot_list_iter.lookup ?_)
  refine wpAny_pure ?_
  simp only [Bool.false_eq_true, if_false]
  refine wpAny_bind (wpAny_holding (wpAny_pyIter_list hl ?_))
  refine wpAny_bind (wpAny_holding (PySem.W.kun_draw hlt i 0 _ _ ⟨_, Heap.get?_push_size _ rfl, rfl, rfl⟩ (hl.push _) (by omega) fun h₁ hit₁ hs₁ => ?_))
  have hl₁ : h₁.IsList l items := (hl.push _).extBut hs₁.extBut hlt
  rw [List.drop_zero, if_neg (by rw [List.length_take, Array.length_toList, Nat.min_eq_left hi]; exact Nat.lt_irrefl _)]
  have W := walk_from (prog := prog) (w := w) (A := A.in1) hh s.heap.objs.size l hlt items i hi
  have hsz1 : s.heap.objs.size < h₁.objs.size := by
    obtain ⟨o, ho, _⟩ := hit₁
    exact Heap.lt_size ho
  refine wpAny_bind (wpAny_holding (wpAny_collect_iter (T := "list_iterator") (.inr (.inr (.inl rfl))) W (fun j s st => st.1.typeIs) ⟨by simpa using hit₁, hl₁⟩ (fun b hb => ?_) (by simp) (fun s' acc mv ac => ?_) (by omega)))
  · rcases List.mem_cons.mp hb with e | hb
    · rw [e]; exact hsz1
    · rw [List.mem_singleton.mp hb]; exact Nat.lt_trans hlt2 hsz1
  · have ea := items_drop ac
    have eaf : i + 1 - 1 - i = 0 := by omega
    rw [ea, eaf, if_neg (Nat.not_lt_zero _), Nat.sub_zero, List.take_length, List.drop_length]
    obtain ⟨m1, m2, m3, m4, m5⟩ := mv
    obtain ⟨h', g', d', t', o'⟩ := s'
    have m2 : g' = s.gens := m2
    have m3 : d' = s.drawn := m3
    have m4 : o' = s.os := m4
    subst m2 m3 m4
    have kp : ∀ b o, s.heap.get? b = some o → h'.get? b = some o := fun b o e => by
      have nb : b ≠ s.heap.objs.size := Nat.ne_of_lt (Heap.lt_size e)
      exact m1 b o (by simpa using nb) (hs₁.extBut b o nb (Heap.get?_push_of_some _ e))
    refine wpAny_bind (wpAny_newObj_type (wpAny_pure ?_) (by show _ ≤ sizeLine; rw [List.size_toArray, List.length_drop, Array.length_toList]; omega))
    rw [List.append_nil]
    exact hQ h' t' kp
theorem wpAny_seqStar {M : Model} {A : Around} {E : Value → Shared → Prop} {s : Shared} {env : Env} {ps : List Pattern} {pos : Pos} {v : Value} {i : Nat} {Q : Option (List (Str × Value)) → Shared → Prop}
    (h : wpAny M A (collectionFlag true v) (fun b s₁ => if b = true then
            wpAny M A (pyLen v) (fun m s₂ => if m < (ps.length : Int) - 1 then Q none s₂ else
              wpAny M A (unpackItems v ps.length (some i)) (fun vs s₃ => wpAny M A (matchEach ps env vs) Q E s₃) E s₂) E s₁
          else Q none s₁) E s)
    (hstar : ps.findIdx? (·.isStar) = some i) (hn : ps.length > 1) (hnm : (ps[i]?.elim [] (·.names)).isEmpty = false)
    (hwild : (ps.all fun p => p.isWildcard || (p.isStar && p.names.isEmpty)) = false) :
    wpAny M A (matchPattern (.MatchSequence ps pos) env v) Q E s := by
  rw [arm_matchPattern_MatchSequence]
  refine wpAny_bind (wpAny_standAt ?_)
  refine wpAny_bind (wpAny_mono h (fun b s₁ h₁ => ?_) (fun _ _ he => he))
  cases b with
  | false => exact wpAny_pure h₁
  | true =>
    simp only [hstar, hwild, hnm, hn, Bool.not_true, Bool.false_eq_true, if_false, if_true] at h₁ ⊢
    refine wpAny_bind (wpAny_mono h₁ (fun m s₂ h₂ => ?_) (fun _ _ he => he))
    by_cases hm : m < (ps.length : Int) - 1
    · simp only [hm, if_true] at h₂ ⊢
      exact wpAny_pure h₂
    · simp only [hm, if_false] at h₂ ⊢
      exact wpAny_bind h₂
section
variable {X : Cx}
def tPStar (w : Str) (i j : Nat) : TPt := fun v H Q => (∃ k, v = .int k ∧ Q none H) ∨ (∃ z, v = .str z ∧ Q none H) ∨ ∃ a xs, v = .ref a ∧ H a = some (.lst xs) ∧ (xs.length < 2 → Q none H) ∧
  ∀ x y r, xs = x :: y :: r → ∃ b, wordIs w H x b ∧ ∀ D, H D = none → Q (if b = true then some [(i, y), (j, .ref D)] else none) (upd H D (.lst r))
theorem wordIs.upd {w : Str} {H : Hp} {x : V} {b : Bool} {D : Addr} {o : HO} (h : wordIs w H x b) (hD : H D = none) : wordIs w (upd H D o) x b := by
  rcases h with h | h | ⟨a, xs, e, ha, eb⟩
  · exact .inl h
  · exact .inr (.inl h)
  · exact .inr (.inr ⟨a, xs, e, by rw [upd_ne (ne_of_none ha hD)]; exact ha, eb⟩)
theorem ppt_star {w : Str} {e : Expr} {p0 k1 k2 pos : Pos} {n1 n2 : Str} {i j : Nat} (hc : X.calm = true) (hu : X.A.units < cLine) (he : PE X e (tC (.str w))) (hi : X.N[i]? = some n1) (hil : X.env.scope.names.lookup n1 = some .local)
    (hj : X.N[j]? = some n2) (hjl : X.env.scope.names.lookup n2 = some .local) :
    PPt X (.MatchSequence [.MatchValue e p0, .MatchAs none (some n1) k1, .MatchStar (some n2) k2] pos) (tPStar w i j) := by
  refine ⟨fun pins s σ H v u Q I r h => ?_⟩
  rcases h with ⟨i, e1, q⟩ | ⟨z, e1, q⟩ | ⟨a, xs, rfl, ha, q1, q2⟩
  · exact pt_miss I r (.inl ⟨i, e1⟩) q
  · exact pt_miss I r (.inr ⟨z, e1⟩) q
  · obtain rfl : u = Value.ref a := r
    obtain ⟨its, rits, pl, hz⟩ := I.list (SqL.of ha)
    have hsz : its.toArray.size = xs.length := by rw [List.size_toArray, ← rits.length]
    have fit : (its.toArray.size : Int) < 2 ^ 63 := by
      rw [hsz]
      exact Int.lt_of_le_of_lt (Int.ofNat_le.mpr hz) (by decide)
    refine wpAny_seqStar (i := 2) (wpAny_collectionFlag pl.isList.typeIs flag_seq_list ?_) rfl (by show 3 > 1; decide) rfl rfl
    rw [if_pos rfl]
    refine pyLen_list pl.isList fit ?_
    rw [show (([.MatchValue e p0, .MatchAs none (some n1) k1, .MatchStar (some n2) k2] : List Pattern).length : Int) - 1 = 2 from rfl]
    by_cases hl : xs.length < 2
    · rw [if_pos (by rw [hsz]; omega)]
      exact ⟨none, H, I.tok _, q1 hl, trivial⟩
    · rw [if_neg (by rw [hsz]; omega)]
      show wpAny _ _ (unpackItems (.ref a) (2 + 1) (some 2)) _ _ _
      refine unpack_star (I.ok.hd hc) (s := { s with toks := s.toks + 1 + 1 }) pl.isList (by rw [hsz]; omega) (by rw [hsz]; exact hz) fun h' tk kp => ?_
      have I1 : Inv X pins σ H { s with heap := h', toks := tk } := I.kept (t' := tk) kp
      have hD : H h'.objs.size = none := I1.hok.fresh (Nat.le_refl _)
      cases rits with
      | nil => exact absurd (show 0 < 2 by decide) hl
      | cons r0 rits =>
        cases rits with
        | nil => exact absurd (show 1 < 2 by decide) hl
        | @cons y u1 rest us r1 rr =>
          rename_i x u0
          obtain ⟨b, hw, q⟩ := q2 x y rest rfl
          have I2 : Inv X pins σ (upd H h'.objs.size (.lst rest)) { s with heap := h'.push { cls := .type "list", data := .seq us.toArray }, toks := tk } :=
            I1.laid (t' := tk) (fun b o e => Heap.get?_push_of_some _ e) (Nat.le_refl _) ⟨Nat.le_trans (by simp; omega) hz, us, 0, rr, Heap.get?_push_size _ rfl⟩
          show wpAny _ _ (matchEach [.MatchValue e p0, .MatchAs none (some n1) k1, .MatchStar (some n2) k2] X.env [u0, u1, .ref h'.objs.size]) _ _ { s with heap := h'.push { cls := .type "list", data := .seq us.toArray }, toks := tk }
          refine wpAny_matchEach_cons (wpAny_matchPattern_Value (thn (he.run pins _ σ _ (fun v' H' => v' = .str w ∧ H' = upd H h'.objs.size (.lst rest)) I2 ⟨rfl, rfl⟩) fun c s2 hcc => ?_))
          obtain ⟨cv, H2, I3, rc, ec, eh⟩ := hcc
          subst ec eh
          obtain ⟨t, rfl⟩ := rc
          refine eq_word hu I3 r0 (hw.upd hD) (wpAny_truthy_bool ?_)
          cases b with
          | false => exact ⟨none, _, I3, q _ hD, trivial⟩
          | true =>
            refine wpAny_matchEach_cons (wpAny_matchPattern_Capture ?_)
            show wpAny _ _ (matchEach (.MatchStar (some n2) _ :: []) X.env [.ref h'.objs.size]) _ _ _
            rw [arm_matchEach_MatchStar]
            refine wpAny_bind (wpAny_holding (wpAny_matchEach_nil (wpAny_pure ?_)))
            exact ⟨some _, _, I3, q _ hD, .cons ⟨hi, hil, r1⟩ (.cons ⟨hj, hjl, rfl⟩ .nil)⟩
end
end My
namespace My
open PySem L2
/-! ### heaps in lists -/
section
variable {α : Type} (lt : α → α → Bool)
structure Ord : Prop where
  asym : ∀ {a b}, lt a b = true → lt b a = false
  trans : ∀ {a b c}, lt a b = true → lt b c = true → lt a c = true
  ntr : ∀ {a b c}, lt a b = false → lt b c = false → lt a c = false
/-- no element is smaller than its parent -/
def IsHp (l : List α) : Prop := ∀ i x p, 0 < i → l[i]? = some x → l[(i - 1) / 2]? = some p → lt x p = false
/-- but for the one at pos, whose children are not smaller than its parent -/
def HUp (l : List α) (pos : Nat) : Prop := (∀ i x p, 0 < i → i ≠ pos → l[i]? = some x → l[(i - 1) / 2]? = some p → lt x p = false) ∧
  ∀ c x p, 0 < pos → 0 < c → (c - 1) / 2 = pos → l[c]? = some x → l[(pos - 1) / 2]? = some p → lt x p = false
/-- but for the one at pos and its children -/
def HDn (l : List α) (pos : Nat) : Prop := (∀ i x p, 0 < i → i ≠ pos → (i - 1) / 2 ≠ pos → l[i]? = some x → l[(i - 1) / 2]? = some p → lt x p = false) ∧
  ∀ c x p, 0 < pos → 0 < c → (c - 1) / 2 = pos → l[c]? = some x → l[(pos - 1) / 2]? = some p → lt x p = false
def swp (l : List α) (i j : Nat) (a b : α) : List α := (l.set i b).set j a
variable {lt}
theorem swp_len {l : List α} {i j : Nat} {a b : α} : (swp l i j a b).length = l.length := by unfold swp; rw [List.length_set, List.length_set]
theorem swp_get {l : List α} {i j : Nat} {a b : α} (hi : l[i]? = some a) (hj : l[j]? = some b) (k : Nat) : (swp l i j a b)[k]? = if k = j then some a else if k = i then some b else l[k]? := by
  have li := (List.getElem?_eq_some_iff.mp hi).1
  have lj := (List.getElem?_eq_some_iff.mp hj).1
  unfold swp
  rw [List.getElem?_set, List.length_set]
  by_cases h : j = k
  · subst h
    rw [if_pos rfl, if_pos rfl, if_pos lj]
  · rw [if_neg h, if_neg (fun z => h z.symm), List.getElem?_set]
    by_cases h2 : i = k
    · subst h2
      rw [if_pos rfl, if_pos rfl, if_pos li]
    · rw [if_neg h2, if_neg (fun z => h2 z.symm)]
theorem perm_set {a x : α} : ∀ {r : List α} {i : Nat}, r[i]? = some x → (a :: r).Perm (x :: r.set i a)
  | [], i, h => by simp at h
  | y :: r, 0, h => by
    cases h
    exact List.Perm.swap _ _ _
  | y :: r, i + 1, h => by
    have ih := perm_set (a := a) (r := r) (i := i) (by simpa using h)
    show (a :: y :: r).Perm (x :: y :: r.set i a)
    exact (List.Perm.swap y a r).trans ((ih.cons y).trans (List.Perm.swap x y _))
theorem swp_perm {a b : α} : ∀ {l : List α} {i j : Nat}, l[i]? = some a → l[j]? = some b → (swp l i j a b).Perm l
  | [], i, j, h, _ => by simp at h
  | y :: r, 0, 0, h1, h2 => by
    cases h1
    cases h2
    exact List.Perm.refl _
  | y :: r, 0, j + 1, h1, h2 => by
    obtain rfl : y = a := by simpa using h1
    exact (perm_set (r := r) (i := j) (by simpa using h2)).symm
  | y :: r, i + 1, 0, h1, h2 => by
    obtain rfl : y = b := by simpa using h2
    exact (perm_set (r := r) (i := i) (by simpa using h1)).symm
  | y :: r, i + 1, j + 1, h1, h2 => (swp_perm (l := r) (i := i) (j := j) (by simpa using h1) (by simpa using h2)).cons y
theorem HUp.zero {l : List α} (h : HUp lt l 0) : IsHp lt l := fun i x p i0 hx hp => h.1 i x p i0 (by omega) hx hp
theorem HUp.stop {l : List α} {pos : Nat} {z p : α} (h : HUp lt l pos) (hz : l[pos]? = some z) (hp : l[(pos - 1) / 2]? = some p) (n : lt z p = false) : IsHp lt l := fun i x q i0 hx hq => by
  by_cases e : i = pos
  · subst e
    rw [hz] at hx
    rw [hp] at hq
    cases hx
    cases hq
    exact n
  · exact h.1 i x q i0 e hx hq
theorem HUp.step {l : List α} {pos : Nat} {z p : α} (O : Ord lt) (h : HUp lt l pos) (p0 : 0 < pos) (hz : l[pos]? = some z) (hp : l[(pos - 1) / 2]? = some p) (n : lt z p = true) : HUp lt (swp l ((pos - 1) / 2) pos p z) ((pos - 1) / 2) := by
  have ne : (pos - 1) / 2 ≠ pos := by omega
  have g := swp_get hp hz
  have pz := O.asym n
  refine ⟨fun i x q i0 hi hx hq => ?_, fun c x q q0 c0 ec hx hq => ?_⟩
  · rw [g] at hx hq
    by_cases e : i = pos
    · subst e
      rw [if_pos rfl] at hx
      rw [if_neg ne, if_pos rfl] at hq
      cases hx
      cases hq
      exact pz
    · rw [if_neg e, if_neg hi] at hx
      by_cases e2 : (i - 1) / 2 = pos
      · rw [if_pos e2] at hq
        cases hq
        exact h.2 i x _ p0 i0 e2 hx hp
      · rw [if_neg e2] at hq
        by_cases e3 : (i - 1) / 2 = (pos - 1) / 2
        · rw [if_pos e3] at hq
          cases hq
          have xp := h.1 i x p i0 e hx (by rw [e3]; exact hp)
          cases hxz : lt x z with
          | false => rfl
          | true => rw [O.trans hxz n] at xp; cases xp
        · rw [if_neg e3] at hq
          exact h.1 i x q i0 e hx hq
  · rw [g] at hx hq
    have n1 : ((pos - 1) / 2 - 1) / 2 ≠ pos := by omega
    have n2 : ((pos - 1) / 2 - 1) / 2 ≠ (pos - 1) / 2 := by omega
    rw [if_neg n1, if_neg n2] at hq
    have pq := h.1 _ p q q0 ne hp hq
    by_cases e : c = pos
    · rw [if_pos e] at hx
      cases hx
      exact pq
    · rw [if_neg e] at hx
      by_cases e2 : c = (pos - 1) / 2
      · omega
      · rw [if_neg e2] at hx
        exact O.ntr (h.1 c x p c0 e hx (by rw [ec]; exact hp)) pq
theorem HDn.leaf {l : List α} {pos : Nat} (h : HDn lt l pos) (n : l.length ≤ 2 * pos + 1) : HUp lt l pos := by
  refine ⟨fun i x p i0 hi hx hp => ?_, h.2⟩
  have li := (List.getElem?_eq_some_iff.mp hx).1
  exact h.1 i x p i0 hi (by omega) hx hp
theorem HDn.step {l : List α} {pos c : Nat} {z x : α} (h : HDn lt l pos) (c0 : 0 < c) (ec : (c - 1) / 2 = pos) (hz : l[pos]? = some z) (hx : l[c]? = some x) (least : ∀ c' y, 0 < c' → (c' - 1) / 2 = pos → l[c']? = some y → c' ≠ c → lt y x = false) : HDn lt (swp l c pos x z) c := by
  have ne : c ≠ pos := by omega
  have g := swp_get hx hz
  refine ⟨fun i y q i0 hi hp hy hq => ?_, fun d y q _ d0 ed hy hq => ?_⟩
  · rw [g] at hy hq
    rw [if_neg hp] at hq
    by_cases e : i = pos
    · rw [if_pos e] at hy
      cases hy
      subst e
      have n1 : (i - 1) / 2 ≠ i := by omega
      rw [if_neg n1] at hq
      exact h.2 c x q i0 c0 ec hx hq
    · rw [if_neg e, if_neg hi] at hy
      by_cases e2 : (i - 1) / 2 = pos
      · rw [if_pos e2] at hq
        cases hq
        exact least i y i0 e2 hy hi
      · rw [if_neg e2] at hq
        exact h.1 i y q i0 e e2 hy hq
  · rw [g] at hy hq
    rw [ec, if_pos rfl] at hq
    cases hq
    have n1 : d ≠ pos := by omega
    have n2 : d ≠ c := by omega
    rw [if_neg n1, if_neg n2] at hy
    exact h.1 d y x d0 n1 (by rw [ed]; exact ne) hy (by rw [ed]; exact hx)
theorem IsHp.push {l : List α} {x : α} (h : IsHp lt l) : HUp lt (l ++ [x]) l.length := by
  have g : ∀ i, i < l.length → (l ++ [x])[i]? = l[i]? := fun i hi => List.getElem?_append_left hi
  have len : ∀ i y, (l ++ [x])[i]? = some y → i < l.length + 1 := fun i y e => by
    have := (List.getElem?_eq_some_iff.mp e).1
    simpa using this
  refine ⟨fun i y p i0 hi hy hp => ?_, fun c y p _ c0 ec hy _ => ?_⟩
  · have := len i y hy
    rw [g i (by omega)] at hy
    rw [g _ (by omega)] at hp
    exact h i y p i0 hy hp
  · have := len c y hy
    omega
theorem IsHp.pop {l : List α} {x z : α} (h : IsHp lt (x :: l)) : HDn lt ((x :: l).dropLast.set 0 z) 0 := by
  have g : ∀ i y, 0 < i → ((x :: l).dropLast.set 0 z)[i]? = some y → (x :: l)[i]? = some y := fun i y i0 e => by
    rw [List.getElem?_set_ne (by omega)] at e
    have li := (List.getElem?_eq_some_iff.mp e).1
    rw [List.getElem?_dropLast] at e
    split at e
    · exact e
    · cases e
  refine ⟨fun i y p i0 _ hp hy hq => ?_, fun c y p p0 => absurd p0 (by omega)⟩
  exact h i y p i0 (g i y i0 hy) (g _ p (by omega) hq)
theorem IsHp.least {l : List α} {x : α} (O : Ord lt) (irr : lt x x = false) (h : IsHp lt (x :: l)) : ∀ (n i : Nat) (y : α), i ≤ n → (x :: l)[i]? = some y → lt y x = false := by
  intro n
  induction n with
  | zero =>
    intro i y hi hy
    have e : i = 0 := by omega
    subst e
    cases hy
    exact irr
  | succ n ih =>
    intro i y hi hy
    by_cases e : i = 0
    · subst e
      cases hy
      exact irr
    · have li := (List.getElem?_eq_some_iff.mp hy).1
      have hp : (x :: l)[(i - 1) / 2]? = some (x :: l)[(i - 1) / 2] := List.getElem?_eq_getElem (by omega)
      exact O.ntr (h i y _ (by omega) hy hp) (ih _ _ (by omega) hp)
end
/-! texts -/
def ltS (a b : Str) : Bool := decide (a.cps.toList < b.cps.toList)
theorem ltS_ord : Ord ltS where
  asym := fun {a b} h => decide_eq_false fun z => absurd (of_decide_eq_true h) (List.lt_asymm z)
  trans := fun {a b c} h g => decide_eq_true (List.lt_trans (of_decide_eq_true h) (of_decide_eq_true g))
  ntr := fun {a b c} h g => decide_eq_false fun z => by
    have h := of_decide_eq_false h
    have g := of_decide_eq_false g
    have h' : b.cps.toList ≤ a.cps.toList := h
    have g' : c.cps.toList ≤ b.cps.toList := g
    exact absurd z (List.le_trans g' h')
theorem ltS_irr (a : Str) : ltS a a = false := decide_eq_false (List.lt_irrefl _)
end My
namespace My
open PySem PySem.Spec PyProof.Rows L2
open PySem.AutoSeq1 (wpAny_loadPart')
theorem plain_sift : plainId "_heapq.heapify.sift" = true := by decide +kernel
theorem entry_sift : entryFor table "_heapq.heapify.sift" = some Builtin.«_heapq.heapify.sift» := entryFor_of_fast (by kernel_rfl)
theorem plain_push : plainId "_heapq.heappush" = true := by decide +kernel
theorem entry_push : entryFor table "_heapq.heappush" = some Builtin.«_heapq.heappush» := entryFor_of_fast (by kernel_rfl)
theorem plain_popq : plainId "_heapq.heappop" = true := by decide +kernel
theorem entry_popq : entryFor table "_heapq.heappop" = some Builtin.«_heapq.heappop» := entryFor_of_fast (by kernel_rfl)
/-- values that are these texts -/
def Txt (its : List Value) (xs : List Str) : Prop := its.length = xs.length ∧ ∀ (i : Nat) (x : Str), xs[i]? = some x → ∃ t : Tok, its[i]? = some (Value.str x t)
abbrev lo (its : List Value) (n : Nat) : Obj := { cls := .type "list", dict := none, data := .seq its.toArray n, slots := #[] }
section
variable {prog : Program} {w : World}
theorem rich_lt {A : Around} {E : Value → Shared → Prop} {s : Shared} {x y : Str} {t u : Tok} {Q : Value → Shared → Prop} (h : Q (.bool (ltS x y)) s) : wpAny (model prog w) A (richCompare .Lt (.str x t) (.str y u)) Q E s :=
  wpAny_richCompare_same (op := .Lt) (T := "str") (typeIs_str s x t) (typeIs_str s y u) slot_str_lt
    (wpAny_call_entry slot_str_lt (typeIs_str s x t) entry_str_lt (show wpAny _ _ (ret (.bool (x.cps.toList < y.cps.toList))) _ _ s from wpAny_pure ⟨_, rfl, by simp, h⟩) (args_str_lt _ _))
theorem Txt.at {its : List Value} {xs : List Str} (h : Txt its xs) {i : Nat} {x : Str} (e : xs[i]? = some x) : ∃ t : Tok, its.toArray[i]? = some (Value.str x t) := by
  obtain ⟨t, q⟩ := h.2 i x e
  exact ⟨t, by rw [List.getElem?_toArray]; exact q⟩
theorem Txt.swp {its : List Value} {xs : List Str} (h : Txt its xs) {i j : Nat} {a b : Str} {t u : Tok} (ha : xs[i]? = some a) (hb : xs[j]? = some b) (ia : its[i]? = some (.str a t)) (ib : its[j]? = some (.str b u)) : Txt (My.swp its i j (.str a t) (.str b u)) (My.swp xs i j a b) := by
  refine ⟨by rw [swp_len, swp_len]; exact h.1, fun k x e => ?_⟩
  rw [swp_get ha hb] at e
  rw [swp_get ia ib]
  by_cases h1 : k = j
  · rw [if_pos h1] at e ⊢
    cases e
    exact ⟨t, rfl⟩
  · rw [if_neg h1] at e ⊢
    by_cases h2 : k = i
    · rw [if_pos h2] at e ⊢
      cases e
      exact ⟨u, rfl⟩
    · rw [if_neg h2] at e ⊢
      exact h.2 k x e
/-- an object's list is changed -/
theorem upd_list {hp : Heap} {l : Addr} {its its' : List Value} {n : Nat} {f : Array Value → Array Value} (h : hp.get? l = some (lo its n)) (e : f its.toArray = its'.toArray) : ∃ n', (hp.update l (Obj.mapSeq f)).get? l = some (lo its' n') := by
  rw [Heap.get?_update_self _ h rfl]
  refine ⟨if ((f its.toArray).size == its.toArray.size) = true then n else n + 1, ?_⟩
  show some ({ cls := .type "list", dict := none, data := .seq (f its.toArray) (if ((f its.toArray).size == its.toArray.size) = true then n else n + 1), slots := #[] } : Obj) = some (lo its' _)
  rw [e]
theorem sift_up {A : Around} {R : Result → Shared → Prop} {l : Addr} {res : Value} : ∀ (k pos : Nat) (xs : List Str) (its : List Value) (n : Nat) (s : Shared), pos ≤ k → Txt its xs → pos < xs.length → xs.length ≤ 1000 → HUp ltS xs pos → s.heap.get? l = some (lo its n) →
    (∀ (h' : Heap) its' n' ys, (∀ b u, b ≠ l → s.heap.get? b = some u → h'.get? b = some u) → h'.get? l = some (lo its' n') → Txt its' ys → ys.Perm xs → IsHp ltS ys → R (.ok (.ret res)) { s with heap := h' }) →
    codeAny (model prog w) A (.builtin "_heapq.heapify.sift" ⟨[.ref l, .bool false, .bool false, rawInt pos, rawInt 0, res, rawInt (-1)], []⟩) R s := by
  intro k
  induction k with
  | zero =>
    intro pos xs its n s hk tx lp lx hu h q
    have e : pos = 0 := by omega
    subst e
    refine codeAny_builtin entry_sift ?_
    rw [Around.under_plainId plain_sift _]
    obtain ⟨hp, g, d, tk, os⟩ := s
    wp_walk using wpAny_seqItems h rfl
    exact q hp its n xs (fun b u _ e => e) h tx (List.Perm.refl _) hu.zero
  | succ k ih =>
    intro pos xs its n s hk tx lp lx hu h q
    by_cases p0 : pos = 0
    · subst p0
      refine codeAny_builtin entry_sift ?_
      rw [Around.under_plainId plain_sift _]
      obtain ⟨hp, g, d, tk, os⟩ := s
      wp_walk using wpAny_seqItems h rfl
      exact q hp its n xs (fun b u _ e => e) h tx (List.Perm.refl _) hu.zero
    refine codeAny_builtin entry_sift ?_
    rw [Around.under_plainId plain_sift _]
    obtain ⟨hp, g, d, tk, os⟩ := s
    wp_walk using wpAny_seqItems h rfl
    rw [if_pos (show (pos : Int).toNat > (0 : Int).toNat by simp; omega)]
    have ez : xs[pos]? = some xs[pos] := List.getElem?_eq_getElem lp
    have ep : xs[(pos - 1) / 2]? = some xs[(pos - 1) / 2] := List.getElem?_eq_getElem (by omega)
    generalize xs[pos] = z at ez
    generalize xs[(pos - 1) / 2] = p at ep
    obtain ⟨t, iz⟩ := tx.at ez
    obtain ⟨u, ip⟩ := tx.at ep
    rw [Int.toNat_natCast]
    wp_walk
    rw [iz]
    wp_walk
    rw [ip]
    wp_walk using wpAny_seqItems h rfl, rich_lt
    cases hlt : ltS z p with
    | false =>
      rw [if_neg Bool.false_ne_true]
      wp_walk
      exact q hp its n xs (fun b u _ e => e) h tx (List.Perm.refl _) (hu.stop ez ep hlt)
    | true =>
      rw [if_pos rfl]
      wp_walk using wpAny_seqItems h rfl
      rw [ip]
      wp_walk
      rw [iz]
      have lits : its.length ≤ 1000 := by rw [tx.1]; exact lx
      wp_walk using wpAny_updateSeq h rfl
      have li : ∀ {i : Nat} {v : Value}, its.toArray[i]? = some v → its[i]? = some v := fun e => by rw [List.getElem?_toArray] at e; exact e
      obtain ⟨n', e'⟩ := upd_list (f := fun xs => (xs.setIfInBounds ((pos - 1) / 2) (Value.str z t)).setIfInBounds pos (Value.str p u)) (its' := My.swp its ((pos - 1) / 2) pos (.str p u) (.str z t)) h (by unfold My.swp; simp)
      have pm := swp_perm ep ez
      refine ⟨plainId_quiet plain_sift _, ih ((pos - 1) / 2) (My.swp xs ((pos - 1) / 2) pos p z) _ n' _ (by omega) (tx.swp ep ez (li ip) (li iz)) (by rw [swp_len]; omega) (by rw [swp_len]; exact lx) (hu.step ltS_ord (by omega) ez ep hlt) e' ?_⟩
      intro h' its2 n2 ys k1 k2 k3 k4 k5
      exact q h' its2 n2 ys (fun b v hb e => k1 b v hb ((Heap.get?_update_other _ _ (Ne.symm hb)).trans e)) k2 k3 (k4.trans pm) k5
theorem sift_down {A : Around} {R : Result → Shared → Prop} {l : Addr} {res : Value} : ∀ (k pos : Nat) (xs : List Str) (its : List Value) (n : Nat) (s : Shared), xs.length ≤ pos + k → Txt its xs → pos < xs.length → xs.length ≤ 1000 → HDn ltS xs pos → s.heap.get? l = some (lo its n) →
    (∀ (h' : Heap) its' n' ys, (∀ b u, b ≠ l → s.heap.get? b = some u → h'.get? b = some u) → h'.get? l = some (lo its' n') → Txt its' ys → ys.Perm xs → IsHp ltS ys → R (.ok (.ret res)) { s with heap := h' }) →
    codeAny (model prog w) A (.builtin "_heapq.heapify.sift" ⟨[.ref l, .bool false, .bool true, rawInt pos, rawInt 0, res, rawInt (-1)], []⟩) R s := by
  intro k
  induction k with
  | zero =>
    intro pos xs its n s hk tx lp
    omega
  | succ k ih =>
    intro pos xs its n s hk tx lp lx hd h q
    have its_len : its.toArray.size = xs.length := by rw [List.size_toArray]; exact tx.1
    refine codeAny_builtin entry_sift ?_
    rw [Around.under_plainId plain_sift _]
    obtain ⟨hp, g, d, tk, os⟩ := s
    have lits : its.length ≤ 1000 := by rw [tx.1]; exact lx
    wp_walk using wpAny_seqItems h rfl
    rw [its_len, Int.toNat_natCast]
    by_cases c : pos < xs.length / 2
    · rw [if_pos c]
      have ez : xs[pos]? = some xs[pos] := List.getElem?_eq_getElem lp
      generalize xs[pos] = z at ez
      obtain ⟨t, iz⟩ := tx.at ez
      have li : ∀ {i : Nat} {v : Value}, its.toArray[i]? = some v → its[i]? = some v := fun e => by rw [List.getElem?_toArray] at e; exact e
      -- what is done with a child
      have go : ∀ (ch : Nat) (x : Str) (u : Tok), 0 < ch → (ch - 1) / 2 = pos → xs[ch]? = some x → its.toArray[ch]? = some (Value.str x u) → (∀ c' y, 0 < c' → (c' - 1) / 2 = pos → xs[c']? = some y → c' ≠ ch → ltS y x = false) →
          codeAny (model prog w) A (.builtin "_heapq.heapify.sift" ⟨[.ref l, .bool false, .bool true, rawInt ch, rawInt 0, res, rawInt (-1)], []⟩) R { heap := hp.update l (Obj.mapSeq fun xs => (xs.setIfInBounds ch (Value.str z t)).setIfInBounds pos (Value.str x u)), gens := g, drawn := d, toks := tk, os := os } := by
        intro ch x u c0 ec ex ix least
        have lch := (List.getElem?_eq_some_iff.mp ex).1
        obtain ⟨n', e'⟩ := upd_list (f := fun xs => (xs.setIfInBounds ch (Value.str z t)).setIfInBounds pos (Value.str x u)) (its' := My.swp its ch pos (.str x u) (.str z t)) h (by unfold My.swp; simp)
        have pm := swp_perm ex ez
        refine ih ch (My.swp xs ch pos x z) _ n' _ (by rw [swp_len]; omega) (tx.swp ex ez (li ix) (li iz)) (by rw [swp_len]; exact lch) (by rw [swp_len]; exact lx) (hd.step c0 ec ez ex least) e' ?_
        intro h' its2 n2 ys k1 k2 k3 k4 k5
        exact q h' its2 n2 ys (fun b v hb e => k1 b v hb ((Heap.get?_update_other _ _ (Ne.symm hb)).trans e)) k2 k3 (k4.trans pm) k5
      have el : xs[2 * pos + 1]? = some xs[2 * pos + 1] := List.getElem?_eq_getElem (by omega)
      generalize xs[2 * pos + 1] = x1 at el
      obtain ⟨u1, i1⟩ := tx.at el
      by_cases c2 : 2 * pos + 1 + 1 < xs.length
      · have er : xs[2 * pos + 1 + 1]? = some xs[2 * pos + 1 + 1] := List.getElem?_eq_getElem c2
        generalize xs[2 * pos + 1 + 1] = x2 at er
        obtain ⟨u2, i2⟩ := tx.at er
        wp_walk
        rw [i1]
        wp_walk
        rw [i2]
        wp_walk using wpAny_seqItems h rfl, rich_lt
        cases hlt : ltS x1 x2 with
        | true =>
          rw [Bool.not_true, if_neg Bool.false_ne_true]
          wp_walk using wpAny_seqItems h rfl
          rw [i1]
          wp_walk
          rw [iz]
          wp_walk using wpAny_updateSeq h rfl
          refine ⟨plainId_quiet plain_sift _, go (2 * pos + 1) x1 u1 (by omega) (by omega) el i1 fun c' y c0 ec ey ne => ?_⟩
          have e : c' = 2 * pos + 1 + 1 := by omega
          rw [e, er] at ey
          cases ey
          exact ltS_ord.asym hlt
        | false =>
          rw [Bool.not_false, if_pos rfl]
          wp_walk using wpAny_seqItems h rfl
          rw [i2]
          wp_walk
          rw [iz]
          wp_walk using wpAny_updateSeq h rfl
          refine ⟨plainId_quiet plain_sift _, go (2 * pos + 1 + 1) x2 u2 (by omega) (by omega) er i2 fun c' y c0 ec ey ne => ?_⟩
          have e : c' = 2 * pos + 1 := by omega
          rw [e, el] at ey
          cases ey
          exact hlt
      · wp_walk using wpAny_seqItems h rfl
        rw [i1]
        wp_walk
        rw [iz]
        wp_walk using wpAny_updateSeq h rfl
        refine ⟨plainId_quiet plain_sift _, go (2 * pos + 1) x1 u1 (by omega) (by omega) el i1 fun c' y c0 ec ey ne => ?_⟩
        have := (List.getElem?_eq_some_iff.mp ey).1
        omega
    · rw [if_neg c]
      wp_walk
      exact ⟨plainId_quiet plain_sift _, sift_up pos pos xs its n _ (Nat.le_refl _) tx lp lx (hd.leaf (by omega)) h q⟩
end
end My
namespace My
open PySem PySem.Spec PyProof.Rows L2
theorem kind_push : builtinKind "_heapq.heappush" = none := by kernel_rfl
theorem args_push (a b : Value) : argsOk "_heapq.heappush" ⟨[a, b], []⟩ := by unfold argsOk; kernel_rfl
theorem kind_pop : builtinKind "_heapq.heappop" = none := by kernel_rfl
theorem args_pop (a : Value) : argsOk "_heapq.heappop" ⟨[a], []⟩ := by unfold argsOk; kernel_rfl
theorem sub_ll : isSubtype (.type "list") (.type "list") = pure true := by
  first
  | rfl
  | kernel_rfl
section
variable {prog : Program} {w : World}
/-- what a heap's change leaves -/
def HpTo (l : Addr) (s : Shared) (ys : List Str) (s' : Shared) : Prop := ∃ (h' : Heap) (its' : List Value) (n' : Nat), s' = { s with heap := h' } ∧ (∀ b u, b ≠ l → s.heap.get? b = some u → h'.get? b = some u) ∧ h'.get? l = some (lo its' n') ∧ Txt its' ys
theorem push_meets (l : Addr) (xs : List Str) (its : List Value) (n : Nat) (x : Str) (t : Tok) : Meets (Builtin.«_heapq.heappush» ⟨[.ref l, .str x t], []⟩)
    (fun A R s => Txt its xs ∧ xs.length < 1000 ∧ IsHp ltS xs ∧ s.heap.get? l = some (lo its n) ∧ ∀ ys s', HpTo l s ys s' → ys.Perm (x :: xs) → IsHp ltS ys → R (.ok (.ret .none)) s') := by
  intro prog w A R s ⟨tx, lx, hh, h, q⟩
  obtain ⟨hp, g, d, tk, os⟩ := s
  have lits : its.length ≤ 1000 := by rw [tx.1]; omega
  have isl : Shared.TypeIs { heap := hp, gens := g, drawn := d, toks := tk, os := os } (.ref l) "list" := ⟨_, h, rfl⟩
  wp_walk using wpAny_seqItems h rfl
  refine wpAny_of_eq sub_ll ?_
  wp_walk using wpAny_updateSeq h rfl
  obtain ⟨n', e'⟩ := upd_list (f := fun xs => xs.push (Value.str x t)) (its' := its ++ [.str x t]) h (by simp)
  have tx' : Txt (its ++ [.str x t]) (xs ++ [x]) := by
    refine ⟨by rw [List.length_append, List.length_append, tx.1]; rfl, fun i y e => ?_⟩
    by_cases hi : i < xs.length
    · rw [List.getElem?_append_left hi] at e
      obtain ⟨u, hu⟩ := tx.2 i y e
      exact ⟨u, by rw [List.getElem?_append_left (by rw [tx.1]; exact hi)]; exact hu⟩
    · have li := (List.getElem?_eq_some_iff.mp e).1
      have ei : i = xs.length := by simp at li; omega
      subst ei
      rw [List.getElem?_append_right (Nat.le_refl _)] at e
      simp at e
      subst e
      exact ⟨t, by rw [List.getElem?_append_right (by rw [tx.1]; exact Nat.le_refl _)]; simp [tx.1]⟩
  wp_walk using wpAny_seqItems e' rfl
  have ez : ((fun x_1 : Array Value => x_1.push (Value.str x t)) its.toArray).size - 1 = xs.length := by simp [tx.1]
  rw [ez]
  refine ⟨plainId_quiet plain_sift _, sift_up xs.length xs.length (xs ++ [x]) _ n' _ (Nat.le_refl _) tx' (by simp) (by simp; omega) hh.push e' ?_⟩
  intro h' its2 n2 ys k1 k2 k3 k4 k5
  exact q ys _ ⟨h', its2, n2, rfl, fun b v hb e => k1 b v hb ((Heap.get?_update_other _ _ (Ne.symm hb)).trans e), k2, k3⟩ (k4.trans (by simpa using List.perm_append_singleton x xs)) k5
theorem sub_it : isSubtype (.type "list") (.type "list") = pure true := sub_ll
theorem pop_meets (l : Addr) (y : Str) (r : List Str) (its : List Value) (n : Nat) : Meets (Builtin.«_heapq.heappop» ⟨[.ref l], []⟩)
    (fun A R s => Txt its (y :: r) ∧ r.length < 1000 ∧ IsHp ltS (y :: r) ∧ s.heap.get? l = some (lo its n) ∧ ∀ ys s' t, HpTo l s ys s' → ys.Perm r → IsHp ltS ys → R (.ok (.ret (.str y t))) s') := by
  intro prog w A R s ⟨tx, lx, hh, h, q⟩
  obtain ⟨hp, g, d, tk, os⟩ := s
  have len := tx.1
  rw [List.length_cons] at len
  have lits : its.length ≤ 1000 := by omega
  have isl : Shared.TypeIs { heap := hp, gens := g, drawn := d, toks := tk, os := os } (.ref l) "list" := ⟨_, h, rfl⟩
  obtain ⟨t0, i0⟩ := tx.at (i := 0) (x := y) rfl
  wp_walk using wpAny_seqItems h rfl
  refine wpAny_of_eq sub_ll ?_
  wp_walk using wpAny_seqItems h rfl
  rcases List.eq_nil_or_concat its with rfl | ⟨its0, vz, rfl⟩
  · simp at len
  rw [List.concat_eq_append] at *
  have eb : (its0 ++ [vz]).toArray.back? = some vz := by simp
  rw [eb]
  obtain ⟨n1, e1⟩ := upd_list (f := fun xs => xs.pop) (its' := its0) h (by simp)
  wp_walk using wpAny_updateSeq h rfl
  rcases List.eq_nil_or_concat r with rfl | ⟨xs1, z, rfl⟩
  · have l0 : its0 = [] := by
      simp at len
      exact len
    subst l0
    rw [if_pos (by simp)]
    wp_walk
    have ev : vz = .str y t0 := by simpa using i0
    rw [ev]
    exact q [] _ t0 ⟨_, [], n1, rfl, fun b v hb e => (Heap.get?_update_other _ _ (Ne.symm hb)).trans e, e1, ⟨rfl, fun i x e => by simp at e⟩⟩ (List.Perm.refl _) (fun i x p _ e => by simp at e)
  rw [List.concat_eq_append] at *
  have l0 : its0.length = xs1.length + 1 := by simpa using len
  have lx1 : xs1.length + 1 < 1000 := by simpa using lx
  rw [if_neg (show ¬ (((its0 ++ [vz]).toArray.size == 1) = true) by rw [List.size_toArray, List.length_append, l0]; simp)]
  wp_walk
  rw [i0]
  obtain ⟨n2, e2⟩ := upd_list (f := fun xs => xs.setIfInBounds 0 vz) (its' := its0.set 0 vz) e1 (by simp)
  have lits2 : its0.length ≤ 1000 := by omega
  obtain ⟨tz, iz⟩ := tx.2 (xs1.length + 1) z (by simp)
  have ez : vz = .str z tz := by
    rw [List.getElem?_append_right (by omega)] at iz
    simpa [l0] using iz
  wp_walk using wpAny_updateSeq e1 rfl
  have hd := hh.pop (z := z)
  have edl : (y :: (xs1 ++ [z])).dropLast.set 0 z = z :: xs1 := by
    have : (y :: (xs1 ++ [z])).dropLast = y :: xs1 := by
      rw [show y :: (xs1 ++ [z]) = (y :: xs1) ++ [z] from rfl, List.dropLast_concat]
    rw [this]; rfl
  rw [edl] at hd
  have tx2 : Txt (its0.set 0 vz) (z :: xs1) := by
    refine ⟨by rw [List.length_set, l0]; rfl, fun i x e => ?_⟩
    cases i with
    | zero =>
      cases e
      exact ⟨tz, by rw [List.getElem?_set_self (by omega), ez]⟩
    | succ i =>
      have e' : xs1[i]? = some x := by simpa using e
      have li := (List.getElem?_eq_some_iff.mp e').1
      obtain ⟨u, hu⟩ := tx.2 (i + 1) x (by
        show (xs1 ++ [z])[i]? = some x
        rw [List.getElem?_append_left li]; exact e')
      exact ⟨u, by rw [List.getElem?_set_ne (by omega)]; rw [List.getElem?_append_left (by omega)] at hu; exact hu⟩
  refine ⟨plainId_quiet plain_sift _, sift_down (xs1.length + 1) 0 (z :: xs1) _ n2 _ (by simp) tx2 (by simp) (by simp at lx ⊢; omega) hd e2 ?_⟩
  intro h' its2 n3 ys k1 k2 k3 k4 k5
  exact q ys _ t0 ⟨h', its2, n3, rfl, fun b v hb e => k1 b v hb ((Heap.get?_update_other _ _ (Ne.symm hb)).trans ((Heap.get?_update_other _ _ (Ne.symm hb)).trans e)), k2, k3⟩ (k4.trans (by simpa using (List.perm_append_singleton z xs1).symm)) k5
end
end My
namespace My
open PySem PySem.Spec PyProof.Rows L2 TL
/-! list(reversed(a list)) -/
section
variable {prog : Program} {w : World} {A : Around} {E : Value → Shared → Prop} {s : Shared}
theorem ext_rev {R : Result → Shared → Prop} {it l : Addr} {items : Array Value} (hh : A.handled = none) (hit : s.heap.IsRevIter it l ((items.size : Int) - 1)) (hl : s.heap.IsList l items) (hne : l ≠ it) (hn : items.size ≤ sizeLine)
    (S : Addr) (hSi : S ≠ it) (hSl : S ≠ l) (res : Value) (c₀ : Nat) (hS : s.heap.get? S = some { cls := .type "list", data := .seq #[] c₀ })
    (hR : ∀ h' tk acc' c', (∀ b o, b ≠ S → b ≠ it → s.heap.get? b = some o → h'.get? b = some o) → h'.get? S = some { cls := .type "list", dict := none, data := .seq acc' c', slots := #[] } → ItemsOf (fun i v => items[items.size - 1 - i]? = some v) acc' items.size → R (.ok (.ret res)) { s with heap := h', toks := tk }) :
    wpAny (model prog w) A.in1 (Builtin.List.listExtendWith (.ref S) (.ref it) res)
      (fun fin s' => match fin with | .done f => R (.ok f) s' | .again c' => c'.quiet = true ∧ codeAny (model prog w) A c' R s') (fun e s' => R (.error e) s') s := by
  have W := (Walks.listRev (prog := prog) (w := w) (A := A.in1) hh it l hne items).toS
  have hSf : S ∉ [it, l] := by simp only [List.mem_cons, List.not_mem_nil, or_false, not_or]; exact ⟨hSi, hSl⟩
  have hT : s.TypeIs (.ref it) "list_reverseiterator" := hit.typeIs
  have h1 : Builtin.List.listSameRef (.ref S) (.ref it) = false := by simp [Builtin.List.listSameRef, hSi]
  unfold Builtin.List.listExtendWith
  refine wpAny_bind (wpAny_typeOf hT ?_)
  rw [if_neg (by rw [h1]; decide)]
  refine wpAny_bind (wpAny_pyIter_revIter hit ?_)
  refine wpAny_bind (wpAny_holding ?_)
  unfold Builtin.List.listLengthHint
  refine wpAny_bind (wpAny_specialOf hT RT.nolen_lri ?_)
  show wpAny _ A.in1 (specialOf (Value.ref it) (Str.ofString "__length_hint__") >>= _) _ _ _
  refine wpAny_bind (wpAny_specialOf hT RT.hint_lri ?_)
  generalize hid : ("list_reverseiterator.__length_hint__" : String) = id0
  wp_delta
  rw [show splitId id0 = some ("list_reverseiterator", "__length_hint__") from by subst hid; decide +kernel]
  subst hid
  refine wpAny_bind (wpAny_isInstance (b := true) hT (by rw [isSubtype_type]; kernel_rfl) ?_)
  refine wpAny_pure ?_
  rw [if_neg (by decide)]
  have e0 : ((items.size : Nat) : Int) - 1 - ((0 : Nat) : Int) = (items.size : Int) - 1 := by omega
  refine wpAny_pure ⟨plainId_quiet F.plain_extend_loop _, codeAny_extend_loopS W hn _ hSf _ items.size 0 _ _ _ rfl (Nat.zero_le _) ⟨Nat.zero_le _, by rw [e0]; exact hit, hl⟩ hS (ItemsOf.nil _) fun s' acc' c' hm hS' hacc => ?_⟩
  rw [Moved.eq_with hm]
  refine hR s'.heap s'.toks acc' c' (fun b o hb hi e => hm.heap b o (fun hmem => ?_) e) hS' hacc
  rcases List.mem_cons.mp hmem with e' | hmem
  · exact hb e'
  · exact hi (List.mem_singleton.mp hmem)
theorem call_list_revI {Q : Value → Shared → Prop} {it l : Addr} {items : Array Value} (hh : A.handled = none) (hit : s.heap.IsRevIter it l ((items.size : Int) - 1)) (hl : s.heap.IsList l items) (hne : l ≠ it) (hn : items.size ≤ sizeLine)
    (hQ : ∀ h' tk acc' c', (∀ b o, b ≠ it → s.heap.get? b = some o → h'.get? b = some o) → h'.get? s.heap.objs.size = some { cls := .type "list", dict := none, data := .seq acc' c', slots := #[] } → ItemsOf (fun i v => items[items.size - 1 - i]? = some v) acc' items.size → Q (.ref s.heap.objs.size) { s with heap := h', toks := tk }) :
    wpAny (model prog w) A (call (.type "list") [.ref it]) Q E s := by
  refine callType_codes (Q₁ := fun obj s₁ => obj = .ref s.heap.objs.size ∧ s₁ = { s with heap := s.heap.push { cls := .type "list", data := .seq #[] } }) PySem.F.called_list (PySem.F.typeCall_list_1 _) PySem.F.entry_list_init
    (code_list_new _ ⟨rfl, rfl⟩) fun obj s₁ h₁ => ?_
  obtain ⟨rfl, rfl⟩ := h₁
  have hS : (s.heap.push { cls := .type "list", data := .seq #[] }).get? s.heap.objs.size = some { cls := .type "list", data := .seq #[] } := Heap.get?_push_size _ rfl
  obtain ⟨oi, hoi, _⟩ := id hit
  obtain ⟨ol, hol, _⟩ := id hl
  have hSi : s.heap.objs.size ≠ it := Nat.ne_of_gt (Heap.lt_size hoi)
  have hSl : s.heap.objs.size ≠ l := Nat.ne_of_gt (Heap.lt_size hol)
  refine ⟨⟨_, hS, rfl⟩, PySem.F.args_list_init_2 _ _, ?_⟩
  show wpAny _ _ (do let old ← Builtin.List.listItems (.ref s.heap.objs.size); Builtin.List.listUpdate (.ref s.heap.objs.size) (fun _ => #[]); letGo old.toList.reverse; Builtin.List.listExtendWith (.ref s.heap.objs.size) (.ref it) .none) _ _ _
  refine wpAny_bind ?_
  unfold Builtin.List.listItems
  refine wpAny_bind (wpAny_seqItems hS rfl (wpAny_pure ?_))
  show wpAny _ _ (updateSeq s.heap.objs.size (fun _ => #[]) >>= fun _ => letGo (#[] : Array Value).toList.reverse >>= fun _ => Builtin.List.listExtendWith (.ref s.heap.objs.size) (.ref it) .none) _ _ _
  refine wpAny_bind (wpAny_updateSeq hS rfl ?_)
  have hS₂ := Heap.get?_update_self (Obj.mapSeq (fun _ => (#[] : Array Value))) hS rfl
  have oth : ∀ b o, b ≠ s.heap.objs.size → s.heap.get? b = some o → ((s.heap.push { cls := .type "list", data := .seq #[] }).update s.heap.objs.size (Obj.mapSeq (fun _ => (#[] : Array Value)))).get? b = some o :=
    fun b o hb e => (Heap.get?_update_other _ _ (Ne.symm hb)).trans (Heap.get?_push_of_some _ e)
  refine wpAny_bind (wpAny_letGo ?_)
  refine ext_rev (A := A.in1) (it := it) (l := l) (items := items) hh (hit.at fun o e => oth _ _ hSi.symm e) ?_ hne hn _ hSi hSl .none _ hS₂ fun h' tk acc' c' hk hS' hacc => ?_
  · obtain ⟨ol, hol, c, n, d⟩ := id hl
    exact ⟨ol, oth _ _ hSl.symm hol, c, n, d⟩
  exact ⟨rfl, hQ h' tk acc' c' (fun b o hb e => hk b o (Nat.ne_of_lt (Heap.lt_size e)) hb (oth b o (Nat.ne_of_lt (Heap.lt_size e)) e)) hS' hacc⟩
end
/-- list(reversed(x)), x a list: a new list -/
def tListRev (K : PySem.W.Frag) (te : TE) : TE := fun σ H Q => te σ H fun v H1 => ∃ (a : Addr) (xs : List V), v = .ref a ∧ SqL K H1 a xs ∧ ∀ q, H1 q = none → Q (.ref q) (upd H1 q (.lst xs.reverse))
section
variable {X : Cx}
theorem pe_listRev {e : Expr} {te : TE} {p p2 pos pos2 : Pos} (hc : X.calm = true) (hg : Gl X "list") (hm : X.mg "list" = none) (hg2 : Gl X "reversed") (hm2 : X.mg "reversed" = none) (he : PE X e te)
    (hs : starEach [e] X.env = (false, eval e X.env) :: starEach [] X.env := by rfl)
    (hs2 : starEach [.Call (.Name "reversed" p2) [e] [] pos2] X.env = (false, eval (.Call (.Name "reversed" p2) [e] [] pos2) X.env) :: starEach [] X.env := by rfl) :
    PE X (.Call (.Name "list" p) [.Call (.Name "reversed" p2) [e] [] pos2] [] pos) (tListRev X.K te) := by
  refine ⟨fun pins s σ H Q I h => ?_⟩
  refine Call_ (ld_blt I hg hm boot_list (PyProof.Rows.callWith_type1 (args_cons (Call_ (ld_blt I hg2 hm2 PyProof.Rows.boot_reversed (PyProof.Rows.callWith_type1 (args_cons (thn (he.run pins s σ H _ I h) fun u s1 ⟨v, H1, I1, r1, q1⟩ => args_nil ?_) hs) hs rfl))) hs2) hs2 rfl))
  obtain ⟨a, xs, ev, hq, q⟩ := q1
  subst ev
  obtain rfl : u = Value.ref a := r1
  obtain ⟨its, rv, p', hz⟩ := I1.list hq
  refine call_reversed_list p'.isList (args_nil ?_)
  have k0 : ∀ b o, s1.heap.get? b = some o → (s1.heap.push (revObj a ((its.toArray.size : Int) - 1))).get? b = some o := fun b o e => Heap.get?_push_of_some _ e
  have I2 : Inv X pins σ H1 { s1 with heap := s1.heap.push (revObj a ((its.toArray.size : Int) - 1)) } := I1.kept (t' := s1.toks) k0
  obtain ⟨f0, f1, f2, f3, f4, f5⟩ := I1.fpOk (H' := H1) (b := s1.heap.objs.size) (Nat.le_refl _) (I1.hok.fresh (Nat.le_refl _))
  have hl := p'.isList
  obtain ⟨ol, hol, _⟩ := id hl
  have hne : a ≠ s1.heap.objs.size := Nat.ne_of_lt (Heap.lt_size hol)
  have hn : its.toArray.size ≤ sizeLine := by rw [List.size_toArray, ← rv.length]; exact hz
  have hsz : (s1.heap.push (revObj a ((its.toArray.size : Int) - 1))).objs.size = s1.heap.objs.size + 1 := Heap.size_push _ _
  refine call_list_revI (s := { s1 with heap := s1.heap.push (revObj a ((its.toArray.size : Int) - 1)) }) (I1.ok.hd hc) ⟨_, Heap.get?_push_size _ rfl, rfl, rfl⟩ (hl.push _) hne hn fun h' tk acc c' hk e hi => ?_
  have new : ObjOk X.prog X.w (upd H1 (s1.heap.objs.size + 1) (.lst xs.reverse)) h' (s1.heap.objs.size + 1) (.lst xs.reverse) :=
    ⟨by rw [List.length_reverse]; exact hz, acc.toList, c', RT.vals_rev rv hi, by rw [Array.toArray_toList, ← hsz]; exact e⟩
  have I3 : Inv X pins σ (upd H1 (s1.heap.objs.size + 1) (.lst xs.reverse)) { s1 with heap := h', toks := tk } :=
    I2.turnedNew (t' := tk) (ch := [s1.heap.objs.size]) (fun b o hb e => hk b o (by simpa using hb) e) (fun b hb => by
      have e : b = s1.heap.objs.size := by simpa using hb
      rw [e]; exact ⟨f0, f1, f2, f3, f4, f5⟩) (by show (s1.heap.push _).objs.size ≤ _; rw [hsz]; exact Nat.le_refl _) new
  refine ⟨.ref (s1.heap.objs.size + 1), _, I3, by rw [hsz]; rfl, q _ (I1.hok.fresh (Nat.le_succ _))⟩
end
end My
namespace My
open PySem PySem.Spec PyProof.Rows L2
/-! texts in order -/
abbrev Le (a b : Str) : Prop := ltS b a = false
theorem Le.anti {a b : Str} (h : Le a b) (g : Le b a) : a = b := by
  have h' : a.cps.toList ≤ b.cps.toList := of_decide_eq_false h
  have g' : b.cps.toList ≤ a.cps.toList := of_decide_eq_false g
  have e : a.cps.toList = b.cps.toList := List.le_antisymm h' g'
  cases a; cases b
  simp only at e
  rw [Array.toList_inj] at e
  rw [e]
theorem Le.trans {a b c : Str} (h : Le a b) (g : Le b c) : Le a c := ltS_ord.ntr g h
theorem Le.total {a b : Str} (h : ¬ Le a b) : Le b a := by
  cases e : ltS b a with
  | false => exact absurd e h
  | true => exact ltS_ord.asym e
theorem rising_pw : ∀ (ys : List Str) (p : Str), risingS p ys = true → (p :: ys).Pairwise Le
  | [], p, _ => List.pairwise_singleton _ _
  | y :: r, p, h => by
    unfold risingS at h
    rw [Bool.and_eq_true] at h
    have ih := rising_pw r y h.2
    have py : Le p y := by
      have z := h.1
      rw [ltCps_eq] at z
      unfold Le ltS
      cases q : decide (y.cps.toList < p.cps.toList) with
      | false => rfl
      | true => rw [q] at z; cases z
    refine List.pairwise_cons.mpr ⟨fun z hz => ?_, ih⟩
    rcases List.mem_cons.mp hz with rfl | hz
    · exact py
    · exact py.trans ((List.pairwise_cons.mp ih).1 z hz)
theorem sorted_pw {ys : List Str} (h : sortedS ys = true) : ys.Pairwise Le := by
  cases ys with
  | nil => exact List.Pairwise.nil
  | cons y r => exact rising_pw r y h
theorem pw_same : ∀ {xs ys : List Str}, xs.Perm ys → xs.Pairwise Le → ys.Pairwise Le → xs = ys
  | [], ys, p, _, _ => (List.nil_perm.mp p).symm
  | x :: xs, [], p, _, _ => absurd p.length_eq (by simp)
  | x :: xs, y :: ys, p, hx, hy => by
    have e : x = y := by
      have mx : x ∈ y :: ys := p.subset List.mem_cons_self
      have my : y ∈ x :: xs := p.symm.subset List.mem_cons_self
      rcases List.mem_cons.mp mx with e | mx
      · exact e
      rcases List.mem_cons.mp my with e | my
      · exact e.symm
      exact Le.anti ((List.pairwise_cons.mp hx).1 y my) ((List.pairwise_cons.mp hy).1 x mx)
    subst e
    rw [pw_same (List.Perm.cons_inv p) (List.pairwise_cons.mp hx).2 (List.pairwise_cons.mp hy).2]
def insS (x : Str) : List Str → List Str
  | [] => [x]
  | y :: r => if ltS y x = true then y :: insS x r else x :: y :: r
def srt (xs : List Str) : List Str := xs.foldr insS []
theorem insS_perm (x : Str) : ∀ l, (insS x l).Perm (x :: l)
  | [] => List.Perm.refl _
  | y :: r => by
    unfold insS
    by_cases h : ltS y x = true
    · rw [if_pos h]; exact ((insS_perm x r).cons y).trans (List.Perm.swap x y r)
    · rw [if_neg h]
theorem insS_pw (x : Str) : ∀ l : List Str, l.Pairwise Le → (insS x l).Pairwise Le
  | [], _ => List.pairwise_singleton _ _
  | y :: r, h => by
    unfold insS
    by_cases q : ltS y x = true
    · rw [if_pos q]
      refine List.pairwise_cons.mpr ⟨fun z hz => ?_, insS_pw x r (List.pairwise_cons.mp h).2⟩
      rcases List.mem_cons.mp ((insS_perm x r).subset hz) with rfl | hz
      · exact ltS_ord.asym q
      · exact (List.pairwise_cons.mp h).1 z hz
    · rw [if_neg q]
      have xy : Le x y := by
        cases e : ltS y x with
        | false => exact e
        | true => exact absurd e q
      refine List.pairwise_cons.mpr ⟨fun z hz => ?_, h⟩
      rcases List.mem_cons.mp hz with rfl | hz
      · exact xy
      · exact xy.trans ((List.pairwise_cons.mp h).1 z hz)
theorem srt_perm : ∀ xs, (srt xs).Perm xs
  | [] => List.Perm.refl _
  | x :: r => (insS_perm x (srt r)).trans ((srt_perm r).cons x)
theorem srt_pw : ∀ xs, (srt xs).Pairwise Le
  | [] => List.Pairwise.nil
  | x :: r => insS_pw x (srt r) (srt_pw r)
theorem srt_of {xs ys : List Str} (p : ys.Perm xs) (h : sortedS ys = true) : ys = srt xs := pw_same (p.trans (srt_perm xs).symm) (sorted_pw h) (srt_pw xs)
theorem srt_congr {xs ys : List Str} (p : xs.Perm ys) : srt xs = srt ys := pw_same ((srt_perm xs).trans (p.trans (srt_perm ys).symm)) (srt_pw xs) (srt_pw ys)
theorem srt_mem {xs : List Str} {x : Str} : x ∈ srt xs ↔ x ∈ xs := ⟨fun h => (srt_perm xs).subset h, fun h => (srt_perm xs).symm.subset h⟩
theorem srt_len {xs : List Str} : (srt xs).length = xs.length := (srt_perm xs).length_eq
theorem find_pw {p : Str → Bool} {y : Str} : ∀ {l : List Str}, l.Pairwise Le → y ∈ l → p y = true → (∀ z ∈ l, p z = true → Le y z) → l.find? p = some y
  | [], _, h, _, _ => by cases h
  | x :: r, hp, h, py, hz => by
    by_cases q : p x = true
    · rw [List.find?_cons_of_pos q]
      have yx := hz x List.mem_cons_self q
      rcases List.mem_cons.mp h with rfl | h
      · rfl
      · rw [Le.anti ((List.pairwise_cons.mp hp).1 y h) yx]
    · rw [List.find?_cons_of_neg q]
      rcases List.mem_cons.mp h with rfl | h
      · exact absurd py q
      · exact find_pw (List.pairwise_cons.mp hp).2 h py fun z m => hz z (List.mem_cons_of_mem _ m)
theorem IsHp.head_le {y : Str} {l : List Str} (h : IsHp ltS (y :: l)) {z : Str} (m : z ∈ y :: l) : Le y z := by
  obtain ⟨i, hi⟩ := List.mem_iff_getElem?.mp m
  exact h.least ltS_ord (ltS_irr y) i i z (Nat.le_refl _) hi
theorem IsHp.of_pw {l : List Str} (h : l.Pairwise Le) : IsHp ltS l := fun i x p i0 hx hp => by
  have li := (List.getElem?_eq_some_iff.mp hx).1
  have lp := (List.getElem?_eq_some_iff.mp hp).1
  have e1 := (List.getElem?_eq_some_iff.mp hx).2
  have e2 := (List.getElem?_eq_some_iff.mp hp).2
  rw [← e1, ← e2]
  exact List.pairwise_iff_getElem.mp h _ _ lp li (by omega)
/-! the law of linking, as a function -/
structure Rw where
  n : Str
  im : List Str
  df : List (Str × Int)
def rdyB (im : Str → List Str) (done : List Str) (n : Str) : Bool := !(done.contains n) && (im n).all fun i => done.contains i
def nxt (nm : List Str) (im : Str → List Str) (done : List Str) : Option Str := (srt nm).find? (rdyB im done)
def ordF (nm : List Str) (im : Str → List Str) : Nat → List Str → Option (List Str)
  | 0, done => some done
  | k + 1, done => match nxt nm im done with
    | none => none
    | some n => ordF nm im k (done ++ [n])
def unkF (nm : List Str) (im : Str → List Str) : Option Str := ((srt nm).flatMap im).find? fun m => !(nm.contains m)
def dupF : List Str → List Rw → Option Str
  | _, [] => none
  | seen, r :: rs => if seen.contains r.n = true then some r.n else dupF (seen ++ [r.n]) rs
def rowF (rows : List Rw) (n : Str) : Option Rw := rows.find? fun r => r.n == n
def imF (rows : List Rw) (n : Str) : List Str := match rowF rows n with | some r => r.im | none => []
def dfF (rows : List Rw) (n : Str) : List (Str × Int) := match rowF rows n with | some r => r.df | none => []
inductive Rs where
  | dup (n : Str) | unk (n : Str) | ring | linked (l : List (Str × Str × Int))
def outF (df : Str → List (Str × Int)) (o : List Str) : List (Str × Str × Int) := o.flatMap fun n => (df n).map fun d => (n, d.1, d.2)
def linkF (rows : List Rw) : Rs := match dupF [] rows with
  | some n => .dup n
  | none => match unkF (rows.map (·.n)) (imF rows) with
    | some m => .unk m
    | none => match ordF (rows.map (·.n)) (imF rows) rows.length [] with
      | none => .ring
      | some o => .linked (outF (dfF rows) o)
theorem dup_none : ∀ (rows : List Rw) (seen : List Str), dupF seen rows = none ↔ ((rows.map (·.n)).Nodup ∧ ∀ r ∈ rows, r.n ∉ seen)
  | [], seen => by simp [dupF]
  | r :: rs, seen => by
    unfold dupF
    by_cases h : seen.contains r.n = true
    · rw [if_pos h]
      refine ⟨fun z => (nomatch z), fun z => absurd (List.contains_iff_mem.mp h) (z.2 r List.mem_cons_self)⟩
    · rw [if_neg h, dup_none rs]
      have hn : r.n ∉ seen := fun z => h (List.contains_iff_mem.mpr z)
      rw [List.map_cons, List.nodup_cons]
      constructor
      · rintro ⟨a, b⟩
        refine ⟨⟨fun m => ?_, a⟩, fun q hq => ?_⟩
        · obtain ⟨q, hq, e⟩ := List.mem_map.mp m
          exact b q hq (by rw [e]; simp)
        · rcases List.mem_cons.mp hq with rfl | hq
          · exact hn
          · exact fun z => b q hq (List.mem_append_left _ z)
      · rintro ⟨⟨a, b⟩, c⟩
        refine ⟨b, fun q hq z => ?_⟩
        rcases List.mem_append.mp z with z | z
        · exact c q (List.mem_cons_of_mem _ hq) z
        · exact a (List.mem_map.mpr ⟨q, hq, by simpa using z⟩)
theorem rowF_of {rows : List Rw} (h : (rows.map (·.n)).Nodup) {r : Rw} (m : r ∈ rows) : rowF rows r.n = some r := by
  unfold rowF
  induction rows with
  | nil => cases m
  | cons q rs ih =>
    rw [List.map_cons, List.nodup_cons] at h
    rcases List.mem_cons.mp m with rfl | m
    · rw [List.find?_cons_of_pos (by simp)]
    · rw [List.find?_cons_of_neg (by simp; intro e; exact h.1 (by rw [e]; exact List.mem_map.mpr ⟨r, m, rfl⟩))]
      exact ih h.2 m
theorem rowF_none {rows : List Rw} {n : Str} (h : n ∉ rows.map (·.n)) : rowF rows n = none := by
  unfold rowF
  refine List.find?_eq_none.mpr fun r m e => h (List.mem_map.mpr ⟨r, m, by simpa using e⟩)
theorem rowF_congr {rows rows' : List Rw} (p : rows.Perm rows') (h : (rows.map (·.n)).Nodup) (n : Str) : rowF rows n = rowF rows' n := by
  have h' : (rows'.map (·.n)).Nodup := (p.map _).nodup_iff.mp h
  by_cases m : n ∈ rows.map (·.n)
  · obtain ⟨r, hr, rfl⟩ := List.mem_map.mp m
    rw [rowF_of h hr, rowF_of h' (p.subset hr)]
  · rw [rowF_none m, rowF_none fun z => m ((p.map _).symm.subset z)]
theorem contains_congr {xs ys : List Str} (p : xs.Perm ys) (x : Str) : xs.contains x = ys.contains x := by
  rw [Bool.eq_iff_iff, List.contains_iff_mem, List.contains_iff_mem]
  exact p.mem_iff
theorem ordF_congr {nm nm' : List Str} {im : Str → List Str} (p : nm.Perm nm') : ∀ k done, ordF nm im k done = ordF nm' im k done
  | 0, _ => rfl
  | k + 1, done => by
    unfold ordF
    rw [show nxt nm im done = nxt nm' im done by unfold nxt; rw [srt_congr p]]
    cases nxt nm' im done with
    | none => rfl
    | some n => exact ordF_congr p k _
theorem link_perm {rows rows' : List Rw} (p : rows.Perm rows') {l : List (Str × Str × Int)} (h : linkF rows = .linked l) : linkF rows' = .linked l := by
  have hd : dupF [] rows = none := by
    cases e : dupF [] rows with
    | none => rfl
    | some n => rw [show linkF rows = .dup n by unfold linkF; rw [e]] at h; cases h
  have nd := ((dup_none rows []).mp hd).1
  have nd' : (rows'.map (·.n)).Nodup := (p.map _).nodup_iff.mp nd
  have hd' : dupF [] rows' = none := (dup_none rows' []).mpr ⟨nd', fun _ _ z => by cases z⟩
  have er : rowF rows' = rowF rows := funext fun n => (rowF_congr p nd n).symm
  have ei : imF rows' = imF rows := by unfold imF; rw [er]
  have ed : dfF rows' = dfF rows := by unfold dfF; rw [er]
  have pn : (rows.map (·.n)).Perm (rows'.map (·.n)) := p.map _
  have eu : unkF (rows'.map (·.n)) (imF rows') = unkF (rows.map (·.n)) (imF rows) := by
    unfold unkF
    rw [ei, srt_congr pn]
    congr 1
    funext m
    rw [contains_congr pn]
  have eo : ordF (rows'.map (·.n)) (imF rows') rows'.length [] = ordF (rows.map (·.n)) (imF rows) rows.length [] := by
    rw [ei, ← p.length_eq]
    exact (ordF_congr pn _ _).symm
  rw [← h]
  unfold linkF
  rw [hd, hd', eu, eo, ed]
end My
namespace My
open PySem PySem.Spec PyProof.Rows L2
/-- the names that want y, as often as they name it -/
def oneI (y n : Str) (os : List Str) : List Str := os.flatMap fun o => if o = y then [n] else []
def impF (im : Str → List Str) (y : Str) (nm : List Str) : List Str := nm.flatMap fun n => oneI y n (im n)
theorem oneI_rep (y n : Str) : ∀ os, oneI y n os = List.replicate (os.count y) n
  | [] => rfl
  | o :: r => by
    have ih := oneI_rep y n r
    unfold oneI at ih ⊢
    rw [List.flatMap_cons, ih]
    by_cases h : o = y
    · rw [if_pos h, h, List.count_cons_self]; rfl
    · rw [if_neg h, List.count_cons_of_ne h]; rfl
theorem impF_mem {im : Str → List Str} {y n : Str} {nm : List Str} (h : n ∈ impF im y nm) : n ∈ nm ∧ y ∈ im n := by
  obtain ⟨m, hm, h⟩ := List.mem_flatMap.mp h
  rw [oneI_rep] at h
  obtain ⟨h0, e⟩ := List.mem_replicate.mp h
  subst e
  exact ⟨hm, List.count_pos_iff.mp (Nat.pos_of_ne_zero h0)⟩
theorem impF_count {im : Str → List Str} {y n : Str} : ∀ {nm : List Str}, nm.Nodup → n ∈ nm → (impF im y nm).count n = (im n).count y
  | [], _, h => by cases h
  | m :: r, nd, h => by
    have nd := List.nodup_cons.mp nd
    unfold impF
    rw [List.flatMap_cons, List.count_append, oneI_rep]
    by_cases e : m = n
    · subst e
      rw [List.count_replicate_self]
      have z : (impF im y r).count m = 0 := List.count_eq_zero.mpr fun q => nd.1 (impF_mem q).1
      unfold impF at z
      omega
    · have hn : n ∈ r := (List.mem_cons.mp h).resolve_left (Ne.symm e)
      have ih := impF_count (y := y) (im := im) nd.2 hn
      unfold impF at ih
      rw [List.count_replicate, if_neg (by simpa using e), ih]
      omega
def cnt (im : Str → List Str) (done : List Str) (n : Str) : Nat := (im n).countP fun i => !(done.contains i)
theorem cnt_zero {im : Str → List Str} {done : List Str} {n : Str} : cnt im done n = 0 ↔ ((im n).all fun i => done.contains i) = true := by
  unfold cnt
  rw [List.countP_eq_zero, List.all_eq_true]
  simp
theorem cnt_nil {im : Str → List Str} {n : Str} : cnt im [] n = (im n).length := by
  unfold cnt
  rw [List.countP_eq_length]
  intro a _; rfl
theorem countP_snoc {done : List Str} {y : Str} (hy : y ∉ done) : ∀ l : List Str, (l.countP fun i => !((done ++ [y]).contains i)) + l.count y = l.countP fun i => !(done.contains i)
  | [] => rfl
  | x :: r => by
    have ih := countP_snoc hy r
    rw [List.countP_cons, List.countP_cons, List.count_cons]
    by_cases e : x = y
    · subst e
      have e1 : (!((done ++ [x]).contains x)) = false := by simp
      have e2 : (!(done.contains x)) = true := by simpa using hy
      rw [e1, e2]
      simp only [Bool.false_eq_true, if_false, if_true, beq_self_eq_true]
      omega
    · have e1 : (!((done ++ [y]).contains x)) = (!(done.contains x)) := by
        congr 1
        rw [Bool.eq_iff_iff, List.contains_iff_mem, List.contains_iff_mem]
        simp [e]
      rw [e1]
      have e2 : (x == y) = false := by simpa using e
      rw [e2]
      simp only [Bool.false_eq_true, if_false]
      omega
theorem cnt_snoc {im : Str → List Str} {done : List Str} {y : Str} (hy : y ∉ done) (n : Str) : cnt im (done ++ [y]) n + (im n).count y = cnt im done n := countP_snoc hy (im n)
theorem cnt_ge {im : Str → List Str} {done : List Str} {y : Str} (hy : y ∉ done) (n : Str) : (im n).count y ≤ cnt im done n := by
  have := cnt_snoc (im := im) hy n; omega
theorem nodup_len : ∀ {l1 l2 : List Str}, l1.Nodup → (∀ d ∈ l1, d ∈ l2) → l1.length ≤ l2.length
  | [], _, _, _ => Nat.zero_le _
  | x :: r, l2, nd, h => by
    have nd := List.nodup_cons.mp nd
    have hx := h x List.mem_cons_self
    have ih := nodup_len (l2 := l2.erase x) nd.2 fun d m => (List.mem_erase_of_ne (fun e : d = x => nd.1 (by rw [← e]; exact m))).mpr (h d (List.mem_cons_of_mem _ m))
    rw [List.length_erase_of_mem hx] at ih
    have := List.length_pos_of_mem hx
    rw [List.length_cons]
    omega
/-- what the loop keeps: done, the free ones -/
structure Ow (nm : List Str) (im : Str → List Str) (done fr : List Str) : Prop where
  dn : done.Nodup
  ds : ∀ d ∈ done, d ∈ nm ∧ ∀ i ∈ im d, i ∈ done
  fn : fr.Nodup
  fi : ∀ n, n ∈ fr ↔ (n ∈ nm ∧ n ∉ done ∧ cnt im done n = 0)
  o : ordF nm im (nm.length - done.length) done = ordF nm im nm.length []
theorem rdy_iff {im : Str → List Str} {done : List Str} {n : Str} : rdyB im done n = true ↔ (n ∉ done ∧ cnt im done n = 0) := by
  unfold rdyB
  rw [Bool.and_eq_true, cnt_zero]
  simp
theorem Ow.len {nm : List Str} {im : Str → List Str} {done fr : List Str} (h : Ow nm im done fr) : done.length ≤ nm.length := by
  exact nodup_len h.dn fun d m => (h.ds d m).1
theorem Ow.stop {nm : List Str} {im : Str → List Str} {done : List Str} (h : Ow nm im done []) : (done.length < nm.length ∧ ordF nm im nm.length [] = none) ∨ (¬ done.length < nm.length ∧ ordF nm im nm.length [] = some done) := by
  have l := h.len
  rw [← h.o]
  by_cases q : done.length < nm.length
  · refine .inl ⟨q, ?_⟩
    obtain ⟨k, hk⟩ : ∃ k, nm.length - done.length = k + 1 := ⟨nm.length - done.length - 1, by omega⟩
    rw [hk]
    unfold ordF
    have e : nxt nm im done = none := by
      unfold nxt
      refine List.find?_eq_none.mpr fun x m r => ?_
      have := (h.fi x).mpr ⟨srt_mem.mp m, rdy_iff.mp r⟩
      cases this
    rw [e]
  · refine .inr ⟨q, ?_⟩
    rw [show nm.length - done.length = 0 by omega]
    rfl
theorem Ow.next {nm : List Str} {im : Str → List Str} {done : List Str} {y : Str} {r : List Str} (h : Ow nm im done (y :: r)) (hp : IsHp ltS (y :: r)) : y ∈ nm ∧ y ∉ done ∧ cnt im done y = 0 ∧ done.length < nm.length ∧
    ordF nm im (nm.length - (done ++ [y]).length) (done ++ [y]) = ordF nm im nm.length [] := by
  obtain ⟨a, b, c⟩ := (h.fi y).mp List.mem_cons_self
  have ll : done.length < nm.length := by
    have nd : (y :: done).Nodup := List.nodup_cons.mpr ⟨b, h.dn⟩
    have := nodup_len nd (l2 := nm) fun d m => by
      rcases List.mem_cons.mp m with rfl | m
      · exact a
      · exact (h.ds d m).1
    rw [List.length_cons] at this
    omega
  refine ⟨a, b, c, ll, ?_⟩
  rw [← h.o]
  obtain ⟨k, hk⟩ : ∃ k, nm.length - done.length = k + 1 := ⟨nm.length - done.length - 1, by omega⟩
  rw [hk, List.length_append, show nm.length - (done.length + [y].length) = k by simp; omega]
  have e : nxt nm im done = some y := by
    unfold nxt
    refine find_pw (srt_pw nm) (srt_mem.mpr a) (rdy_iff.mpr ⟨b, c⟩) fun z m q => ?_
    exact hp.head_le ((h.fi z).mpr ⟨srt_mem.mp m, rdy_iff.mp q⟩)
  conv => rhs; unfold ordF
  rw [e]
/-- the inner loop: j of those that want y are told -/
def wtF (im : Str → List Str) (done L : List Str) (j : Nat) (n : Str) : Int := (cnt im done n : Int) - ((L.take j).count n : Nat)
structure Iw (nm : List Str) (im : Str → List Str) (done : List Str) (y : Str) (j : Nat) (fr : List Str) : Prop where
  fn : fr.Nodup
  fi : ∀ n, n ∈ fr ↔ (n ∈ nm ∧ n ∉ done ++ [y] ∧ wtF im done (impF im y nm) j n = 0)
section
variable {nm : List Str} {im : Str → List Str} {done : List Str} {y : Str}
theorem Ow.inner {r : List Str} (h : Ow nm im done (y :: r)) {ys : List Str} (p : ys.Perm r) : Iw nm im done y 0 ys := by
  have nd := List.nodup_cons.mp h.fn
  refine ⟨p.nodup_iff.mpr nd.2, fun n => ?_⟩
  have e : wtF im done (impF im y nm) 0 n = (cnt im done n : Int) := by
    unfold wtF
    rw [List.take_zero]
    simp
  rw [e, p.mem_iff]
  have q := h.fi n
  rw [List.mem_cons] at q
  constructor
  · intro m
    obtain ⟨a, b, c⟩ := q.mp (.inr m)
    refine ⟨a, fun z => ?_, by omega⟩
    rcases List.mem_append.mp z with z | z
    · exact b z
    · have : n = y := by simpa using z
      rw [this] at m
      exact nd.1 m
  · rintro ⟨a, b, c⟩
    refine (q.mpr ⟨a, fun z => b (List.mem_append_left _ z), by omega⟩).resolve_left fun z => b ?_
    rw [z]; simp
theorem wt_step {L : List Str} {j : Nat} {o : Str} (hj : L[j]? = some o) (n : Str) : wtF im done L (j + 1) n = wtF im done L j n - (if o = n then 1 else 0) := by
  unfold wtF
  rw [List.take_add_one, hj]
  rw [List.count_append]
  by_cases e : o = n
  · subst e
    rw [if_pos rfl]
    simp
    omega
  · rw [if_neg e]
    have : ([o] : List Str).count n = 0 := List.count_eq_zero.mpr (by simpa using Ne.symm e)
    simp only [Option.toList]
    rw [this]
    simp
theorem Iw.at (nd : nm.Nodup) (ds : ∀ d ∈ done, ∀ i ∈ im d, i ∈ done) (hy : y ∉ done) (cy : cnt im done y = 0) {j : Nat} {o : Str} (hj : (impF im y nm)[j]? = some o) : o ∈ nm ∧ o ∉ done ++ [y] ∧ 1 ≤ wtF im done (impF im y nm) j o := by
  obtain ⟨a, b⟩ := impF_mem (List.mem_of_getElem? hj)
  refine ⟨a, fun z => ?_, ?_⟩
  · rcases List.mem_append.mp z with z | z
    · exact hy (ds o z y b)
    · have : o = y := by simpa using z
      subst this
      have q := List.all_eq_true.mp (cnt_zero.mp cy) o b
      exact hy (by simpa using q)
  · have e1 : ((impF im y nm).take (j + 1)).count o ≤ (impF im y nm).count o := List.Sublist.count_le o (List.take_sublist _ _)
    rw [List.take_add_one, hj, List.count_append] at e1
    have e2 : (Option.toList (some o)).count o = 1 := by simp
    rw [e2, impF_count nd a] at e1
    have e3 := cnt_ge (im := im) hy o
    unfold wtF
    omega
theorem Iw.skip {j : Nat} {o : Str} {fr : List Str} (h : Iw nm im done y j fr) (hj : (impF im y nm)[j]? = some o) (w : 2 ≤ wtF im done (impF im y nm) j o) : Iw nm im done y (j + 1) fr := by
  refine ⟨h.fn, fun n => ?_⟩
  rw [h.fi n, wt_step hj]
  by_cases e : o = n
  · subst e
    rw [if_pos rfl]
    constructor
    · rintro ⟨a, b, c⟩; omega
    · rintro ⟨a, b, c⟩; omega
  · rw [if_neg e]; simp
theorem Iw.push {j : Nat} {o : Str} {fr fr' : List Str} (h : Iw nm im done y j fr) (hj : (impF im y nm)[j]? = some o) (ho : o ∈ nm ∧ o ∉ done ++ [y]) (w : wtF im done (impF im y nm) j o = 1) (p : fr'.Perm (o :: fr)) : Iw nm im done y (j + 1) fr' := by
  have no : o ∉ fr := fun z => by
    have := ((h.fi o).mp z).2.2
    omega
  refine ⟨p.nodup_iff.mpr (List.nodup_cons.mpr ⟨no, h.fn⟩), fun n => ?_⟩
  rw [p.mem_iff, List.mem_cons, h.fi n, wt_step hj]
  by_cases e : o = n
  · subst e
    rw [if_pos rfl]
    exact ⟨fun _ => ⟨ho.1, ho.2, by omega⟩, fun _ => .inl rfl⟩
  · rw [if_neg e]
    have e' : n ≠ o := fun z => e z.symm
    simp [e']
theorem wt_end (nd : nm.Nodup) (hy : y ∉ done) {n : Str} (hn : n ∈ nm) : wtF im done (impF im y nm) (impF im y nm).length n = (cnt im (done ++ [y]) n : Int) := by
  unfold wtF
  rw [List.take_length, impF_count nd hn]
  have := cnt_snoc (im := im) hy n
  omega
theorem Iw.fin {r fr : List Str} (H : Ow nm im done (y :: r)) (hp : IsHp ltS (y :: r)) (nd : nm.Nodup) (h : Iw nm im done y (impF im y nm).length fr) : Ow nm im (done ++ [y]) fr := by
  obtain ⟨a, b, c, l, e⟩ := H.next hp
  refine ⟨?_, fun d m => ?_, h.fn, fun n => ?_, e⟩
  · rw [List.nodup_append]
    exact ⟨H.dn, by simp, fun x hx z hz => by
      have : z = y := by simpa using hz
      subst this
      exact fun q => b (q ▸ hx)⟩
  · rcases List.mem_append.mp m with m | m
    · exact ⟨(H.ds d m).1, fun i hi => List.mem_append_left _ ((H.ds d m).2 i hi)⟩
    · have : d = y := by simpa using m
      subst this
      refine ⟨a, fun i hi => List.mem_append_left _ ?_⟩
      have q := List.all_eq_true.mp (cnt_zero.mp c) i hi
      simpa using q
  · rw [h.fi n]
    constructor
    · rintro ⟨q1, q2, q3⟩
      rw [wt_end nd b q1] at q3
      exact ⟨q1, q2, by omega⟩
    · rintro ⟨q1, q2, q3⟩
      refine ⟨q1, q2, ?_⟩
      rw [wt_end nd b q1]
      omega
theorem Ow.start (nd : nm.Nodup) {fr : List Str} (p : fr.Perm (nm.filter fun n => decide ((im n).length = 0))) : Ow nm im [] fr := by
  refine ⟨List.nodup_nil, fun d m => (nomatch m), p.nodup_iff.mpr (nd.sublist List.filter_sublist), fun n => ?_, rfl⟩
  rw [p.mem_iff, List.mem_filter, cnt_nil]
  simp
end
end My
namespace My
open PySem PySem.Spec PyProof.Rows L2
theorem units1 {a b : Nat} (h : a + 64 < b) : a + 1 < b := by omega
/-! dicts by name -/
def dkm (nm : List Str) (f : Str → V) : List (Key × V) := nm.map fun n => (Sum.inr n, f n)
theorem dkm_len {nm : List Str} {f : Str → V} : (dkm nm f).length = nm.length := List.length_map _
theorem dkm_keys {nm : List Str} {f : Str → V} : (dkm nm f).map (·.1) = nm.map Sum.inr := by unfold dkm; rw [List.map_map]; rfl
theorem dkm_get {nm : List Str} {f : Str → V} {i : Nat} {k : Key} {v : V} (h : (dkm nm f)[i]? = some (k, v)) : ∃ n, nm[i]? = some n ∧ k = .inr n ∧ v = f n := by
  unfold dkm at h
  rw [List.getElem?_map] at h
  cases e : nm[i]? with
  | none => rw [e] at h; cases h
  | some n => rw [e] at h; cases h; exact ⟨n, rfl, rfl, rfl⟩
theorem valV_dkm {f : Str → V} {m : Str} : ∀ {nm : List Str}, m ∈ nm → valV (dkm nm f) (.inr m) = some (f m)
  | [], h => by cases h
  | n :: r, h => by
    unfold dkm
    rw [List.map_cons]
    by_cases e : n = m
    · subst e; exact valV_pos (p := (Sum.inr n, f n)) rfl
    · rw [valV_neg (p := (Sum.inr n, f n)) fun z => e (Sum.inr.inj z)]
      exact valV_dkm ((List.mem_cons.mp h).resolve_left (Ne.symm e))
theorem valV_dkm0 {f : Str → V} {m : Str} : ∀ {nm : List Str}, m ∉ nm → valV (dkm nm f) (.inr m) = none
  | [], _ => rfl
  | n :: r, h => by
    unfold dkm
    rw [List.map_cons, valV_neg (p := (Sum.inr n, f n)) fun z => h (by rw [Sum.inr.inj z]; exact List.mem_cons_self)]
    exact valV_dkm0 fun z => h (List.mem_cons_of_mem _ z)
theorem valV_some {f : Str → V} {nm : List Str} {m : Str} : (valV (dkm nm f) (.inr m)).isSome = nm.contains m := by
  by_cases h : m ∈ nm
  · rw [valV_dkm h, List.contains_iff_mem.mpr h]; rfl
  · rw [valV_dkm0 h]
    cases e : nm.contains m with
    | false => rfl
    | true => exact absurd (List.contains_iff_mem.mp e) h
theorem put_dkm {f : Str → V} {nm : List Str} {m : Str} {v : V} (h : m ∈ nm) : putK (dkm nm f) (.inr m) v = dkm nm fun n => if n = m then v else f n := by
  unfold putK
  rw [if_pos (by rw [valV_any, valV_dkm h]; rfl)]
  unfold dkm
  rw [List.map_map]
  refine List.map_congr_left fun n _ => ?_
  show (if (Sum.inr n : Key) = .inr m then (Sum.inr n, v) else (Sum.inr n, f n)) = (Sum.inr n, if n = m then v else f n)
  by_cases e : n = m
  · rw [if_pos (by rw [e]), if_pos e]
  · rw [if_neg (fun z => e (Sum.inr.inj z)), if_neg e]
theorem put_new {f : Str → V} {nm : List Str} {m : Str} {v : V} (h : m ∉ nm) : putK (dkm nm f) (.inr m) v = dkm (nm ++ [m]) fun n => if n = m then v else f n := by
  rw [putK_new v (valV_dkm0 h)]
  unfold dkm
  rw [List.map_append]
  congr 1
  · refine List.map_congr_left fun n hn => ?_
    show (Sum.inr n, f n) = (Sum.inr n, if n = m then v else f n)
    rw [if_neg fun z : n = m => h (by rw [← z]; exact hn)]
  · show [(Sum.inr m, v)] = [(Sum.inr m, if m = m then v else f m)]
    rw [if_pos rfl]
theorem dget {H : Hp} {d : Addr} {nm : List Str} {f : Str → V} {n : Str} (h : Rd H d (.dK (dkm nm f))) (m : n ∈ nm) : DGet H d (.str n) (some (f n)) :=
  .inl ⟨_, .inr n, h, rfl, (valV_dkm m).symm⟩
theorem dget0 {H : Hp} {d : Addr} {nm : List Str} {f : Str → V} {n : Str} (h : Rd H d (.dK (dkm nm f))) : ∃ o, DGet H d (.str n) o ∧ o.isSome = nm.contains n :=
  ⟨_, .inl ⟨_, .inr n, h, rfl, rfl⟩, valV_some⟩
/-- len of a list or a tuple, where the reading must be told -/
def rLenS (K : PySem.W.Frag) : List V → Hp → VK → Prop := fun xs H Q => ∃ p ys, xs = [.ref p] ∧ (SqL K H p ys ∨ SqT K H p ys) ∧ Q (.int ys.length) H
/-! a thing locked -/
theorem Sm.rd {X : Addr → Prop} {H H' : Hp} {a : Addr} {u : HO} (e : Sm X H H') (n : ¬ X a) (hu : isTbl u = false) (h : Rd H a u) : Rd H' a u := by
  rcases h with h | ⟨o, h⟩
  · exact .inl (e.keep _ _ n hu h)
  · exact .inr ⟨o, e.keep _ _ n rfl h⟩
theorem sm_unlock {H H' : Hp} {d : Addr} {u : HO} {od : Obj} (h : H d = some u) (hu : isTbl u = false) (e : Sm No (upd H d (.frz od u)) H') : Sm No H (upd H' d u) := by
  refine ⟨fun b o n t q => ?_, fun P ⟨ps, h1, h2⟩ => ?_, fun b z => ?_⟩
  · by_cases hb : b = d
    · rw [hb, upd_same, ← q, hb, h]
    · rw [upd_ne hb]
      exact e.keep b o n t (by rw [upd_ne hb]; exact q)
  · have hp : P ≠ d := fun z => by
      rw [z, h] at h1
      cases h1
      cases hu
    obtain ⟨ps', q1, q2⟩ := e.tab P ⟨ps, by rw [upd_ne hp]; exact h1, h2⟩
    exact ⟨ps', by rw [upd_ne hp]; exact q1, q2⟩
  · by_cases hb : b = d
    · rw [hb, upd_same] at z; cases z
    · rw [upd_ne hb] at z
      have := e.dom b z
      rw [upd_ne hb] at this
      exact this
theorem sm_frz {H H' : Hp} {d : Addr} {u : HO} {od : Obj} (e : Sm No (upd H d (.frz od u)) H') : H' d = some (.frz od u) := e.keep d _ (fun z => z) rfl upd_same
/-- the names and what each imports -/
structure Gr (H : Hp) (d : Addr) (nm : List Str) (im : Str → List Str) (ad : Str → Addr) : Prop where
  d : Rd H d (.dK (dkm nm fun n => .ref (ad n)))
  l : ∀ n ∈ nm, H (ad n) = some (.lst ((im n).map V.str))
structure GrOk (nm : List Str) (im : Str → List Str) : Prop where
  nd : nm.Nodup
  ln : nm.length ≤ 8
  li : ∀ n ∈ nm, (im n).length ≤ 20
  zn : ∀ n ∈ nm, n.length ≤ 1000
  zi : ∀ n ∈ nm, ∀ m ∈ im n, m.length ≤ 1000
theorem Gr.sm {H H' : Hp} {d : Addr} {nm : List Str} {im : Str → List Str} {ad : Str → Addr} (g : Gr H d nm im ad) (e : Sm No H H') : Gr H' d nm im ad :=
  ⟨e.rd (fun z => z) rfl g.d, fun n m => e.lst0 (g.l n m)⟩
theorem Gr.lock {H : Hp} {d : Addr} {nm : List Str} {im : Str → List Str} {ad : Str → Addr} (g : Gr H d nm im ad) (h : H d = some (.dK (dkm nm fun n => .ref (ad n)))) (od : Obj) : Gr (upd H d (.frz od (.dK (dkm nm fun n => .ref (ad n))))) d nm im ad :=
  ⟨.inr ⟨od, upd_same⟩, fun n m => by
    have ne : ad n ≠ d := fun z => by
      have := g.l n m
      rw [z, h] at this
      cases this
    rw [upd_ne ne]
    exact g.l n m⟩
theorem find_at {α : Type} {p : α → Bool} {x : α} {l1 l2 : List α} (h1 : ∀ a ∈ l1, p a = false) (hx : p x = true) : (l1 ++ x :: l2).find? p = some x := by
  rw [List.find?_append, List.find?_eq_none.mpr (fun a m z => by rw [h1 a m] at z; cases z), List.find?_cons_of_pos hx]
  rfl
theorem cut_at {α : Type} {l : List α} {i : Nat} {x : α} (h : l[i]? = some x) : l = l.take i ++ x :: l.drop (i + 1) := by
  have li := (List.getElem?_eq_some_iff.mp h).1
  have e := (List.getElem?_eq_some_iff.mp h).2
  rw [← e, ← List.drop_eq_getElem_cons li, List.take_append_drop]
theorem unk_at {nm : List Str} {im : Str → List Str} {i j : Nat} {n m : Str} (hi : (srt nm)[i]? = some n) (hj : (im n)[j]? = some m) (h1 : ∀ a ∈ (srt nm).take i, ∀ b ∈ im a, b ∈ nm) (h2 : ∀ b ∈ (im n).take j, b ∈ nm) (hm : m ∉ nm) : unkF nm im = some m := by
  unfold unkF
  have e : (srt nm).flatMap im = (((srt nm).take i).flatMap im ++ (im n).take j) ++ m :: ((im n).drop (j + 1) ++ ((srt nm).drop (i + 1)).flatMap im) := by
    conv => lhs; rw [cut_at hi]
    rw [List.flatMap_append, List.flatMap_cons]
    conv => lhs; rw [cut_at hj]
    simp
  rw [e]
  refine find_at (fun a ma => ?_) ?_
  · have : a ∈ nm := by
      rcases List.mem_append.mp ma with q | q
      · obtain ⟨c, hc, q⟩ := List.mem_flatMap.mp q
        exact h1 c hc a q
      · exact h2 a q
    rw [List.contains_iff_mem.mpr this]; rfl
  · cases q : nm.contains m with
    | false => rfl
    | true => exact absurd (List.contains_iff_mem.mp q) hm
theorem unk_none {nm : List Str} {im : Str → List Str} (h : ∀ a ∈ srt nm, ∀ b ∈ im a, b ∈ nm) : unkF nm im = none := by
  unfold unkF
  refine List.find?_eq_none.mpr fun a ma z => ?_
  obtain ⟨c, hc, q⟩ := List.mem_flatMap.mp ma
  rw [List.contains_iff_mem.mpr (h c hc a q)] at z
  cases z
theorem unk_all {nm : List Str} {im : Str → List Str} (h : unkF nm im = none) : ∀ a ∈ nm, ∀ b ∈ im a, b ∈ nm := fun a ha b hb => by
  unfold unkF at h
  have := List.find?_eq_none.mp h b (List.mem_flatMap.mpr ⟨a, srt_mem.mpr ha, hb⟩)
  cases q : nm.contains b with
  | false => rw [q] at this; exact absurd rfl this
  | true => exact List.contains_iff_mem.mp q
theorem map_get {α β : Type} {f : α → β} {l : List α} {i : Nat} {y : β} (h : (l.map f)[i]? = some y) : ∃ x, l[i]? = some x ∧ y = f x := by
  rw [List.getElem?_map] at h
  cases e : l[i]? with
  | none => rw [e] at h; cases h
  | some x => rw [e] at h; cases h; exact ⟨x, rfl, rfl⟩
theorem take_mem {α : Type} {l : List α} {i : Nat} {x : α} (h : l[i]? = some x) {P : α → Prop} (h1 : ∀ a ∈ l.take i, P a) (hx : P x) : ∀ a ∈ l.take (i + 1), P a := fun a m => by
  rw [List.take_add_one, h] at m
  rcases List.mem_append.mp m with m | m
  · exact h1 a m
  · have : a = x := by simpa using m
    rw [this]; exact hx
end My
namespace My
open PySem PySem.Spec PyProof.Rows L2
/-! walks of a locked dict by its names -/
section
variable {nm : List Str} {f : Str → V} {d : Addr} {o : Obj}
theorem nm_y {i : Nat} {H H' : Hp} {x : V} (y : H' = H ∧ ∃ k v, (dkm nm f)[i]? = some (k, v) ∧ x = kV k) : H' = H ∧ ∃ n, nm[i]? = some n ∧ x = .str n := by
  obtain ⟨e, k, v, h, ex⟩ := y
  obtain ⟨n, hn, rfl, _⟩ := dkm_get h
  exact ⟨e, n, hn, ex⟩
theorem for_nm {g : TG} {tb : TS} {D : Ends} {σ : L2.St} {H : Hp} (Pv : Nat → L2.St → Hp → Prop) (h0 : Pv 0 σ H) (hG : ∀ i σ H, Pv i σ H → H d = some (.frz o (.dK (dkm nm f))))
    (hs : ∀ i n σ H, nm[i]? = some n → Pv i σ H → g (.str n) σ H fun σ2 H2 => tb { D with nx := Pv (i + 1), ct := Pv (i + 1), bk := D.nx } σ2 H2) (hd : ∀ σ H, Pv nm.length σ H → D.nx σ H) :
    ∃ W : Nat → Nat → L2.St → Hp → Prop, (∃ m, W 0 m σ H) ∧ ∀ i m σ H, W i m σ H →
      ((Itk d o (dkm nm f)).stop i H ∧ D.nx σ H) ∨ ((Itk d o (dkm nm f)).go i H ∧ ∃ N : L2.St → Hp → Prop, (∀ σ' H', N σ' H' → ∃ m', m' < m ∧ W (i + 1) m' σ' H') ∧ ∀ x H', (Itk d o (dkm nm f)).yld i H x H' → g x σ H' fun σ2 H2 => tb { D with nx := N, ct := N, bk := D.nx } σ2 H2) :=
  for_it walk_keys Pv h0 (fun i σ H _ p => hG i σ H p) (fun i x σ H H' _ p y => by
    obtain ⟨rfl, n, hn, rfl⟩ := nm_y y
    exact hs i n σ _ hn p) fun σ H p => hd σ H (by rw [dkm_len] at p; exact p)
theorem lc_nm {g : TG} {tt : TT} {te : TE} {vs : List Nat} {σ : L2.St} {H1 : Hp} {D : Addr} {Qd : Hp → Prop} (Pv : Nat → Hp → Prop) (h0 : Pv 0 (upd H1 D (.lst []))) (hG : ∀ i H, Pv i H → H d = some (.frz o (.dK (dkm nm f))))
    (hs : ∀ i n H, nm[i]? = some n → Pv i H → g (.str n) (wipe σ vs) H fun σ2 H2 => wipe σ2 vs = wipe σ vs ∧ tt σ2 H2 fun b H3 =>
      if b = true then te σ2 H3 fun y H4 => ∃ acc, H4 D = some (.lst acc) ∧ acc.length < sizeLine ∧ Pv (i + 1) (upd H4 D (.lst (acc ++ [y]))) else Pv (i + 1) H3) (hd : ∀ H, Pv nm.length H → Qd H) :
    ∃ W : Nat → Nat → Hp → Prop, (∃ m, W 0 m (upd H1 D (.lst []))) ∧ ∀ i m H, W i m H →
      ((Itk d o (dkm nm f)).stop i H ∧ Qd H) ∨ ((Itk d o (dkm nm f)).go i H ∧ ∃ Nx : Hp → Prop, (∀ H', Nx H' → ∃ m', m' < m ∧ W (i + 1) m' H') ∧ ∀ x H', (Itk d o (dkm nm f)).yld i H x H' → g x (wipe σ vs) H' fun σ2 H2 => wipe σ2 vs = wipe σ vs ∧ tt σ2 H2 fun b H3 =>
        if b = true then te σ2 H3 fun y H4 => ∃ acc, H4 D = some (.lst acc) ∧ acc.length < sizeLine ∧ Nx (upd H4 D (.lst (acc ++ [y]))) else Nx H3) :=
  lc_it walk_keys Pv h0 (fun i H _ p => hG i H p) (fun i x H H' _ p y => by
    obtain ⟨rfl, n, hn, rfl⟩ := nm_y y
    exact hs i n _ hn p) fun H p => hd H (by rw [dkm_len] at p; exact p)
theorem dc_nm {g : TG} {tt : TT} {tk tv : TE} {vs : List Nat} {σ : L2.St} {H1 : Hp} {D : Addr} {Qd : Hp → Prop} (Pv : Nat → Hp → Prop) (h0 : Pv 0 (upd H1 D (.dK []))) (hG : ∀ i H, Pv i H → H d = some (.frz o (.dK (dkm nm f))))
    (hs : ∀ i n H, nm[i]? = some n → Pv i H → g (.str n) (wipe σ vs) H fun σ2 H2 => wipe σ2 vs = wipe σ vs ∧ tt σ2 H2 fun b H3 =>
      if b = true then tk σ2 H3 fun y H4 => tv σ2 H4 fun z H5 => ∃ kvs k, y = kV k ∧ H5 D = some (.dK kvs) ∧ kvs.length < sizeLine ∧ Pv (i + 1) (upd H5 D (.dK (putK kvs k z))) else Pv (i + 1) H3) (hd : ∀ H, Pv nm.length H → Qd H) :
    ∃ W : Nat → Nat → Hp → Prop, (∃ m, W 0 m (upd H1 D (.dK []))) ∧ ∀ i m H, W i m H →
      ((Itk d o (dkm nm f)).stop i H ∧ Qd H) ∨ ((Itk d o (dkm nm f)).go i H ∧ ∃ Nx : Hp → Prop, (∀ H', Nx H' → ∃ m', m' < m ∧ W (i + 1) m' H') ∧ ∀ x H', (Itk d o (dkm nm f)).yld i H x H' → g x (wipe σ vs) H' fun σ2 H2 => wipe σ2 vs = wipe σ vs ∧ tt σ2 H2 fun b H3 =>
        if b = true then tk σ2 H3 fun y H4 => tv σ2 H4 fun z H5 => ∃ kvs k, y = kV k ∧ H5 D = some (.dK kvs) ∧ kvs.length < sizeLine ∧ Nx (upd H5 D (.dK (putK kvs k z))) else Nx H3) := by
  refine ⟨fun i m H => m = nm.length - i ∧ i ≤ nm.length ∧ Pv i H, ⟨nm.length, by simp, Nat.zero_le _, h0⟩, ?_⟩
  rintro i m H ⟨rfl, hi, p⟩
  have q := hG i H p
  by_cases hlt : i < nm.length
  · refine .inr ⟨⟨q, by rw [dkm_len]; exact hlt⟩, Pv (i + 1), fun H' p' => ⟨nm.length - (i + 1), by omega, rfl, hlt, p'⟩, fun x H' y => ?_⟩
    obtain ⟨rfl, n, hn, rfl⟩ := nm_y y
    exact hs i n _ hn p
  · have e : i = nm.length := by omega
    subst e
    exact .inl ⟨⟨q, by rw [dkm_len]; exact Nat.le_refl _⟩, hd H p⟩
theorem nodup_at {nm : List Str} {i : Nat} {n : Str} (nd : nm.Nodup) (h : nm[i]? = some n) : n ∉ nm.take i := fun m => by
  obtain ⟨j, hj⟩ := List.mem_iff_getElem?.mp m
  rw [List.getElem?_take] at hj
  by_cases q : j < i
  · rw [if_pos q] at hj
    have l1 := (List.getElem?_eq_some_iff.mp h).1
    have l2 := (List.getElem?_eq_some_iff.mp hj).1
    have e1 := (List.getElem?_eq_some_iff.mp h).2
    have e2 := (List.getElem?_eq_some_iff.mp hj).2
    have := (List.pairwise_iff_getElem.mp nd) j i l2 l1 q
    exact this (e2.trans e1.symm)
  · rw [if_neg q] at hj; cases hj
theorem take_nx {α : Type} {l : List α} {i : Nat} {x : α} (h : l[i]? = some x) : l.take (i + 1) = l.take i ++ [x] := by
  rw [List.take_add_one, h]; rfl
end
/-! a name bound to a dict comprehension -/
section
variable {X : Cx}
theorem ps_setDc {i : Nat} {y : Str} {py : Pos} {kx vx tg iter : Expr} {ifs : List Expr} {scope : Scope} {own : List (Str × Nat)} {pos spos : Pos} {wi : TI} {g : TG} {tt : TT} {tk tv : TE} (hc : X.calm = true) (hN : X.N.Nodup) (hy : X.N[i]? = some y) (hyl : X.env.scope.names.lookup y = some .local)
    (hsw : swapsWith (.DictComp kx vx [⟨tg, iter, ifs, 0⟩] scope pos) (some (.Name y py)) spos.line X.env = pure true) (hi : PI X tg iter wi) (ok : BlkOk X.N X.env.scope scope own)
    (hg : ∀ (s : Shared) (H : Hp) (C : Addr) (cl : List (Str × Addr)) (fp : List Addr), PG (X.blk s H scope (compEnvC scope cl C X.env) fp) tg g) (ht : ∀ (s : Shared) (H : Hp) (C : Addr) (cl : List (Str × Addr)) (fp : List Addr), PTs (X.blk s H scope (compEnvC scope cl C X.env) fp) ifs tt)
    (hk : ∀ (s : Shared) (H : Hp) (C : Addr) (cl : List (Str × Addr)) (fp : List Addr), PE (X.blk s H scope (compEnvC scope cl C X.env) fp) kx tk)
    (he : ∀ (s : Shared) (H : Hp) (C : Addr) (cl : List (Str × Addr)) (fp : List Addr), PE (X.blk s H scope (compEnvC scope cl C X.env) fp) vx tv) (hs : ∀ x, foldedSetIterable iter X.env x = pure x := by intro _; rfl) :
    PS X (.Assign [.Name y py] (.DictComp kx vx [⟨tg, iter, ifs, 0⟩] scope pos) spos) (tAsg (tDc wi g tt tk tv (own.map (·.2))) (gName i)) := by
  refine ⟨fun pins s σ H D I h => ?_⟩
  rw [exec_Assign_Name_used _ _ _ _ hsw]
  refine wpAny_bind (wpAny_standAt (wpAny_bind ?_))
  show wpAny _ X.A (do let _ ← comprehension (.DictComp kx vx [⟨tg, iter, ifs, 0⟩] scope pos) scope X.env (firstIterPos [⟨tg, iter, ifs, 0⟩] pos) newDict false (eval iter X.env) (some (assign (.Name y py) X.env))) _ _ s
  have h : tDc wi g tt tk tv (own.map (·.2)) σ H (fun x H1 => gName i x σ H1 D.nx) := h
  refine wpAny_bind (thn (dc_core (Qf := fun _ s' => SP X pins D .next s') hc hN I hi ok hg ht hk he hs h fun L C s' m H' I' q hn f => ?_) fun _ s' hq => wpAny_pure (wpAny_pure hq))
  show wpAny _ _ (assign (.Name y py) X.env (.ref L)) _ _ _
  refine wpAny_assign_Name (store_ok2 (v := V.ref L) I' hN hy (.inl hyl) rfl (fun s2 I2 ⟨a, sb, ha⟩ => ?_) (.inr hyl))
  obtain ⟨f0, f1, f2, f3, f4, f5⟩ := f
  have haC : C ≠ a := by
    rcases ha with z | z
    · rw [z]; exact f1
    · exact fun e => f4 y a z e.symm
  refine ⟨m, hn.sameBut sb haC, fun h3 sb3 => ?_⟩
  exact ⟨_, H', I2.turned (t' := s2.toks) (fun b o hb e => (sb3.2 b hb).trans e) f0 f1 f3 f4 f5, q⟩
theorem sw_trueD {kx vx : Expr} {gs : List Comprehension} {scope : Scope} {pos py : Pos} {y : Str} {l : Nat} {env : Env} (hk : env.scope.kind = .function) (hy : env.scope.names.lookup y = some .local) (hl : (py.line == pos.line) = true)
    (ha : (scope.names.any fun (n, k) => n == y && (k == .local || k == .cell)) = false) : swapsWith (.DictComp kx vx gs scope pos) (some (.Name y py)) l env = pure true := by
  have ky : env.kindOf y = some .local := hy
  have hb : env.blockKind = .function := by unfold Env.blockKind; rw [hk]; rfl
  unfold swapsWith
  simp only [hb, ky, ha, Expr.pos, hl]
  rfl
end
/-- a new dict of new lists of texts -/
structure Tb (H0 H : Hp) (t : Addr) (nm : List Str) (fl : Str → List Str) (ta : Str → Addr) : Prop where
  d : H t = some (.dK (dkm nm fun n => .ref (ta n)))
  l : ∀ n ∈ nm, H (ta n) = some (.lst ((fl n).map V.str))
  inj : ∀ a ∈ nm, ∀ b ∈ nm, ta a = ta b → a = b
  new : ∀ n ∈ nm, H0 (ta n) = none
  nt : H0 t = none
  sm : Sm No H0 H
theorem Tb.nil {H0 : Hp} {t : Addr} (h : H0 t = none) {fl : Str → List Str} {ta : Str → Addr} : Tb H0 (upd H0 t (.dK [])) t [] fl ta :=
  ⟨upd_same, fun _ m => (nomatch m), fun _ m => (nomatch m), fun _ m => (nomatch m), h, Sm.new h⟩
section
variable {H0 H : Hp} {t : Addr} {nm : List Str} {fl : Str → List Str} {ta : Str → Addr}
theorem Tb.ne (T : Tb H0 H t nm fl ta) {n : Str} (m : n ∈ nm) : ta n ≠ t := fun z => by
  have := T.l n m
  rw [z, T.d] at this
  cases this
/-- one more name, with an empty list -/
theorem Tb.add (T : Tb H0 H t nm fl ta) {n : Str} (hn : n ∉ nm) {q : Addr} (hq : H q = none) (he : fl n = []) : Tb H0 (upd (upd H q (.lst [])) t (.dK (putK (dkm nm fun n => .ref (ta n)) (.inr n) (.ref q)))) t (nm ++ [n]) fl (fun m => if m = n then q else ta m) := by
  have tq : q ≠ t := fun z => by rw [z, T.d] at hq; cases hq
  refine ⟨?_, fun a ha => ?_, fun a ha b hb e => ?_, fun a ha => ?_, T.nt, ?_⟩
  · rw [upd_same, put_new hn]
    congr 2
    unfold dkm
    refine List.map_congr_left fun a _ => ?_
    show (Sum.inr a, if a = n then V.ref q else V.ref (ta a)) = (Sum.inr a, V.ref (if a = n then q else ta a))
    by_cases e : a = n
    · rw [if_pos e, if_pos e]
    · rw [if_neg e, if_neg e]
  · show upd _ _ _ (if a = n then q else ta a) = _
    by_cases e : a = n
    · rw [if_pos e, upd_ne tq, upd_same, e, he]; rfl
    · rw [if_neg e]
      have ma : a ∈ nm := (List.mem_append.mp ha).resolve_right (by simpa using e)
      rw [upd_ne (T.ne ma), upd_ne (fun z => by have := T.l a ma; rw [z, hq] at this; cases this)]
      exact T.l a ma
  · have e : (if a = n then q else ta a) = (if b = n then q else ta b) := e
    have other : ∀ {c : Str}, c ∈ nm ++ [n] → ¬ c = n → c ∈ nm := fun {c} h h' => (List.mem_append.mp h).resolve_right (by simpa using h')
    have nq : ∀ {c : Str}, c ∈ nm → ta c ≠ q := fun {c} m z => by have := T.l c m; rw [z, hq] at this; cases this
    by_cases ea : a = n
    · by_cases eb : b = n
      · rw [ea, eb]
      · rw [if_pos ea, if_neg eb] at e
        exact absurd e.symm (nq (other hb eb))
    · by_cases eb : b = n
      · rw [if_neg ea, if_pos eb] at e
        exact absurd e (nq (other ha ea))
      · rw [if_neg ea, if_neg eb] at e
        exact T.inj a (other ha ea) b (other hb eb) e
  · show H0 (if a = n then q else ta a) = none
    by_cases e : a = n
    · rw [if_pos e]; exact T.sm.dom q hq
    · rw [if_neg e]; exact T.new a ((List.mem_append.mp ha).resolve_right (by simpa using e))
  · refine (T.sm.trans (Sm.new hq)).mut T.nt fun ps z => ?_
    rw [upd_ne (Ne.symm tq), T.d] at z
    cases z
/-- one text more in one list -/
theorem Tb.push (T : Tb H0 H t nm fl ta) {n x : Str} (hn : n ∈ nm) : Tb H0 (upd H (ta n) (.lst ((fl n).map V.str ++ [.str x]))) t nm (fun m => if m = n then fl n ++ [x] else fl m) ta := by
  refine ⟨?_, fun a ha => ?_, T.inj, T.new, T.nt, T.sm.mut (T.new n hn) (ntbl_l (T.l n hn))⟩
  · rw [upd_ne (Ne.symm (T.ne hn))]; exact T.d
  · show _ = some (HO.lst ((if a = n then fl n ++ [x] else fl a).map V.str))
    by_cases e : a = n
    · subst e
      rw [upd_same, if_pos rfl, List.map_append]; rfl
    · rw [upd_ne (fun z => e (T.inj a ha n hn z)), if_neg e]
      exact T.l a ha
theorem sm_lock {X : Addr → Prop} {H H' : Hp} {d : Addr} {u : HO} {od : Obj} (hd : H d = some u) (hd' : H' d = some u) (hu : isTbl u = false) (e : Sm X H H') : Sm X (upd H d (.frz od u)) (upd H' d (.frz od u)) := by
  refine ⟨fun b o n t q => ?_, fun P ⟨ps, h1, h2⟩ => ?_, fun b z => ?_⟩
  · by_cases hb : b = d
    · rw [hb, upd_same] at q ⊢; exact q
    · rw [upd_ne hb] at q ⊢; exact e.keep b o n t q
  · have hp : P ≠ d := fun z => by rw [z, upd_same] at h1; cases h1
    rw [upd_ne hp] at h1
    obtain ⟨ps', q1, q2⟩ := e.tab P ⟨ps, h1, h2⟩
    exact ⟨ps', by rw [upd_ne hp]; exact q1, q2⟩
  · by_cases hb : b = d
    · rw [hb, upd_same] at z; cases z
    · rw [upd_ne hb] at z ⊢; exact e.dom b z
theorem Tb.lock (T : Tb H0 H t nm fl ta) {d : Addr} {u : HO} (od : Obj) (h : H0 d = some u) (hu : isTbl u = false) : Tb (upd H0 d (.frz od u)) (upd H d (.frz od u)) t nm fl ta := by
  have h' := T.sm.keep d u (fun z => z) hu h
  have td : t ≠ d := fun z => by have := T.nt; rw [z, h] at this; cases this
  have ad : ∀ n ∈ nm, ta n ≠ d := fun n m z => by have := T.new n m; rw [z, h] at this; cases this
  exact ⟨by rw [upd_ne td]; exact T.d, fun n m => by rw [upd_ne (ad n m)]; exact T.l n m, T.inj, fun n m => by rw [upd_ne (ad n m)]; exact T.new n m, by rw [upd_ne td]; exact T.nt, sm_lock h h' hu T.sm⟩
theorem Tb.unlock {d : Addr} {u : HO} {od : Obj} (T : Tb (upd H0 d (.frz od u)) H t nm fl ta) (h : H0 d = some u) (hu : isTbl u = false) : Tb H0 (upd H d u) t nm fl ta := by
  have td : t ≠ d := fun z => by have := T.nt; rw [z, upd_same] at this; cases this
  have ad : ∀ n ∈ nm, ta n ≠ d := fun n m z => by have := T.new n m; rw [z, upd_same] at this; cases this
  exact ⟨by rw [upd_ne td]; exact T.d, fun n m => by rw [upd_ne (ad n m)]; exact T.l n m, T.inj, fun n m => by have := T.new n m; rw [upd_ne (ad n m)] at this; exact this, by have := T.nt; rw [upd_ne td] at this; exact this, sm_unlock h hu T.sm⟩
theorem Tb.gr (T : Tb H0 H t nm fl ta) : Gr H t nm fl ta := ⟨.inl T.d, T.l⟩
theorem Tb.congr (T : Tb H0 H t nm fl ta) {fl' : Str → List Str} (h : ∀ n ∈ nm, fl n = fl' n) : Tb H0 H t nm fl' ta :=
  ⟨T.d, fun n m => by rw [T.l n m, h n m], T.inj, T.new, T.nt, T.sm⟩
end
end My
namespace My
open PySem PySem.Spec PyProof.Rows L2
/-- two lists, item by item -/
def Al {α : Type} (R : V → α → Prop) (vs : List V) (xs : List α) : Prop := vs.length = xs.length ∧ ∀ (i : Nat) (v : V), vs[i]? = some v → ∃ x, xs[i]? = some x ∧ R v x
section
variable {α : Type} {R : V → α → Prop} {vs : List V} {xs : List α}
theorem Al.nil : Al R [] [] := ⟨rfl, fun i v h => by simp at h⟩
theorem Al.len (h : Al R vs xs) : vs.length = xs.length := h.1
theorem Al.mono {R' : V → α → Prop} (h : Al R vs xs) (f : ∀ v x, R v x → R' v x) : Al R' vs xs := ⟨h.1, fun i v e => let ⟨x, hx, r⟩ := h.2 i v e; ⟨x, hx, f v x r⟩⟩
theorem Al.app {vs' : List V} {xs' : List α} (h : Al R vs xs) (g : Al R vs' xs') : Al R (vs ++ vs') (xs ++ xs') := by
  refine ⟨by rw [List.length_append, List.length_append, h.1, g.1], fun i v e => ?_⟩
  by_cases hi : i < vs.length
  · rw [List.getElem?_append_left hi] at e
    obtain ⟨x, hx, r⟩ := h.2 i v e
    exact ⟨x, by rw [List.getElem?_append_left (by rw [← h.1]; exact hi)]; exact hx, r⟩
  · rw [List.getElem?_append_right (by omega)] at e
    obtain ⟨x, hx, r⟩ := g.2 _ v e
    exact ⟨x, by rw [List.getElem?_append_right (by have := h.1; omega), ← h.1]; exact hx, r⟩
theorem Al.one {v : V} {x : α} (r : R v x) : Al R [v] [x] := ⟨rfl, fun i u e => by
  cases i with
  | zero => cases e; exact ⟨x, rfl, r⟩
  | succ i => simp at e⟩
theorem Al.snoc {v : V} {x : α} (h : Al R vs xs) (r : R v x) : Al R (vs ++ [v]) (xs ++ [x]) := h.app (Al.one r)
theorem Al.drop (h : Al R vs xs) (n : Nat) : Al R (vs.drop n) (xs.drop n) := by
  refine ⟨by rw [List.length_drop, List.length_drop, h.1], fun i v e => ?_⟩
  rw [List.getElem?_drop] at e
  obtain ⟨x, hx, r⟩ := h.2 _ v e
  exact ⟨x, by rw [List.getElem?_drop]; exact hx, r⟩
theorem Al.take (h : Al R vs xs) (n : Nat) : Al R (vs.take n) (xs.take n) := by
  refine ⟨by rw [List.length_take, List.length_take, h.1], fun i v e => ?_⟩
  rw [List.getElem?_take] at e
  by_cases hi : i < n
  · rw [if_pos hi] at e
    obtain ⟨x, hx, r⟩ := h.2 _ v e
    exact ⟨x, by rw [List.getElem?_take, if_pos hi]; exact hx, r⟩
  · rw [if_neg hi] at e; cases e
theorem Al.rev (h : Al R vs xs) : Al R vs.reverse xs.reverse := by
  refine ⟨by rw [List.length_reverse, List.length_reverse, h.1], fun i v e => ?_⟩
  have hi := (List.getElem?_eq_some_iff.mp e).1
  rw [List.length_reverse] at hi
  rw [List.getElem?_reverse hi] at e
  obtain ⟨x, hx, r⟩ := h.2 _ v e
  exact ⟨x, by rw [List.getElem?_reverse (by rw [← h.1]; exact hi), ← h.1]; exact hx, r⟩
end
section
variable {X : Cx} {K : PySem.W.Frag}
theorem pe_fldK {e : Expr} {ta : TE} {f : Str} {pos : Pos} (hK : X.K = K) (he : PE X e ta) (hb : attributeBase e f X.env (eval e X.env) = eval e X.env) : PE X (.Attribute e f pos) (tFld K ta f) := by
  subst hK; exact pe_fld he hb
theorem pi_listK {tg e : Expr} {ta : TE} (hK : X.K = K) (he : PE X e ta) : PI X tg e (iList K ta) := by
  subst hK; exact pi_list he
end
theorem len_putF (f : Str) (v : V) : ∀ fs : List (Str × V), (putF f v fs).length ≤ fs.length + 1
  | [] => Nat.le_refl _
  | (g, x) :: r => by
    unfold putF
    by_cases h : g = f
    · rw [if_pos h]; simp
    · rw [if_neg h]
      have := len_putF f v r
      rw [List.length_cons, List.length_cons]; omega
/-- over a list that stays: what is done with each is Bd -/
theorem walk_lc {K : PySem.W.Frag} {a : Addr} {xs : List V} {Bd : V → Hp → (Hp → Prop) → Prop} {H0 : Hp} {Qd : Hp → Prop} (Pv : Nat → Hp → Prop) (h0 : Pv 0 H0) (hl : ∀ i H, Pv i H → SqL K H a xs)
    (hs : ∀ i x H, xs[i]? = some x → Pv i H → Bd x H (Pv (i + 1))) (hd : ∀ H, Pv xs.length H → Qd H) :
    ∃ W : Nat → Nat → Hp → Prop, (∃ m, W 0 m H0) ∧ ∀ i m H, W i m H →
      ((Itl K a).stop i H ∧ Qd H) ∨ ((Itl K a).go i H ∧ ∃ Nx : Hp → Prop, (∀ H', Nx H' → ∃ m', m' < m ∧ W (i + 1) m' H') ∧ ∀ x H', (Itl K a).yld i H x H' → Bd x H' Nx) := by
  refine ⟨fun i m H => m = xs.length - i ∧ i ≤ xs.length ∧ Pv i H, ⟨xs.length, by simp, Nat.zero_le _, h0⟩, ?_⟩
  rintro i m H ⟨rfl, hi, p⟩
  have q := hl i H p
  by_cases hlt : i < xs.length
  · refine .inr ⟨⟨xs, xs[i], q, by simp [hlt]⟩, Pv (i + 1), fun H' p' => ⟨xs.length - (i + 1), by omega, rfl, hlt, p'⟩, fun x H' y => ?_⟩
    obtain ⟨e, y⟩ := y
    subst e
    exact hs i x _ (y xs q) p
  · have e : i = xs.length := by omega
    subst e
    exact .inl ⟨⟨xs, q, Nat.le_refl _⟩, hd H p⟩
/-- (word, ('int', k)) -/
def DfR (H : Hp) (v : V) (x : Str × Int) : Prop := ∃ p c, v = .ref p ∧ H p = some (.tup [.str x.1, .ref c]) ∧ H c = some (.tup [.str "int", .int x.2])
/-- (name, word, ('int', k)) -/
def OuR (H : Hp) (v : V) (x : Str × Str × Int) : Prop := ∃ p c, v = .ref p ∧ H p = some (.tup [.str x.1, .str x.2.1, .ref c]) ∧ H c = some (.tup [.str "int", .int x.2.2])
theorem Sm.tup {X : Addr → Prop} {H H' : Hp} {a : Addr} {xs : List V} (e : Sm X H H') (n : ¬ X a) (h : H a = some (.tup xs)) : H' a = some (.tup xs) := e.keep _ _ n rfl h
theorem DfR.sm {H H' : Hp} {v : V} {x : Str × Int} (h : DfR H v x) (e : Sm No H H') : DfR H' v x := let ⟨p, c, h1, h2, h3⟩ := h; ⟨p, c, h1, e.tup (fun z => z) h2, e.tup (fun z => z) h3⟩
theorem OuR.sm {H H' : Hp} {v : V} {x : Str × Str × Int} (h : OuR H v x) (e : Sm No H H') : OuR H' v x := let ⟨p, c, h1, h2, h3⟩ := h; ⟨p, c, h1, e.tup (fun z => z) h2, e.tup (fun z => z) h3⟩
/-- for what names a thing that is not that kind -/
theorem OuR.put {H : Hp} {v : V} {x : Str × Str × Int} {a : Addr} {ys : List V} {o : HO} (h : OuR H v x) (ha : H a = some (.lst ys)) : OuR (upd H a o) v x := by
  obtain ⟨p, c, h1, h2, h3⟩ := h
  refine ⟨p, c, h1, ?_, ?_⟩
  · rw [upd_ne (fun z => by rw [z, ha] at h2; cases h2)]; exact h2
  · rw [upd_ne (fun z => by rw [z, ha] at h3; cases h3)]; exact h3
def okS (z : Str) : Prop := z.length ≤ 1000 ∧ PyData.strOk z = true
structure RwOk (r : Rw) : Prop where
  n : okS r.n
  li : r.im.length ≤ 20
  zi : ∀ m ∈ r.im, okS m
  ld : r.df.length ≤ 3
  zd : ∀ d ∈ r.df, okS d.1
def RwsOk (rows : List Rw) : Prop := rows.length ≤ 8 ∧ ∀ r ∈ rows, RwOk r
theorem dup_at : ∀ {rows : List Rw} {seen : List Str} {i : Nat} {r : Rw}, rows[i]? = some r → ((rows.take i).map (·.n)).Nodup → (∀ q ∈ rows.take i, q.n ∉ seen) → (r.n ∈ seen ∨ r.n ∈ (rows.take i).map (·.n)) → dupF seen rows = some r.n
  | [], _, i, r, h, _, _, _ => by simp at h
  | q :: rs, seen, 0, r, h, _, _, m => by
    have e : q = r := by simpa using h
    subst e
    unfold dupF
    rcases m with m | m
    · rw [if_pos (List.contains_iff_mem.mpr m)]
    · simp at m
  | q :: rs, seen, i + 1, r, h, nd, ns, m => by
    have h' : rs[i]? = some r := by simpa using h
    rw [List.take_succ_cons] at nd ns m
    rw [List.map_cons] at nd m
    have nd := List.nodup_cons.mp nd
    have hq : q.n ∉ seen := ns q List.mem_cons_self
    unfold dupF
    rw [if_neg fun z => hq (List.contains_iff_mem.mp z)]
    refine dup_at h' nd.2 (fun p hp z => ?_) ?_
    · rcases List.mem_append.mp z with z | z
      · exact ns p (List.mem_cons_of_mem _ hp) z
      · exact nd.1 (List.mem_map.mpr ⟨p, hp, by simpa using z⟩)
    · rcases m with m | m
      · exact .inl (List.mem_append_left _ m)
      · rcases List.mem_cons.mp m with e | m
        · exact .inl (List.mem_append_right _ (by simp [e]))
        · exact .inr m
theorem link_dup {rows : List Rw} {n : Str} (h : dupF [] rows = some n) : linkF rows = .dup n := by unfold linkF; rw [h]
theorem link_unk {rows : List Rw} {m : Str} (h : dupF [] rows = none) (u : unkF (rows.map (·.n)) (imF rows) = some m) : linkF rows = .unk m := by unfold linkF; rw [h, u]
theorem link_ring {rows : List Rw} (h : dupF [] rows = none) (u : unkF (rows.map (·.n)) (imF rows) = none) (e : ordF (rows.map (·.n)) (imF rows) rows.length [] = none) : linkF rows = .ring := by unfold linkF; rw [h, u, e]
theorem link_ok {rows : List Rw} {o : List Str} (h : dupF [] rows = none) (u : unkF (rows.map (·.n)) (imF rows) = none) (e : ordF (rows.map (·.n)) (imF rows) rows.length [] = some o) : linkF rows = .linked (outF (dfF rows) o) := by unfold linkF; rw [h, u, e]
theorem imF_of {rows : List Rw} (h : (rows.map (·.n)).Nodup) {r : Rw} (m : r ∈ rows) : imF rows r.n = r.im := by unfold imF; rw [rowF_of h m]
theorem dfF_of {rows : List Rw} (h : (rows.map (·.n)).Nodup) {r : Rw} (m : r ∈ rows) : dfF rows r.n = r.df := by unfold dfF; rw [rowF_of h m]
theorem grok_of {rows : List Rw} (h : RwsOk rows) (nd : (rows.map (·.n)).Nodup) : GrOk (rows.map (·.n)) (imF rows) := by
  have at' : ∀ n ∈ rows.map (·.n), ∃ r ∈ rows, r.n = n := fun n m => let ⟨r, hr, e⟩ := List.mem_map.mp m; ⟨r, hr, e⟩
  refine ⟨nd, by rw [List.length_map]; exact h.1, fun n m => ?_, fun n m => ?_, fun n m q hq => ?_⟩
  · obtain ⟨r, hr, rfl⟩ := at' n m
    rw [imF_of nd hr]; exact (h.2 r hr).li
  · obtain ⟨r, hr, rfl⟩ := at' n m
    exact (h.2 r hr).n.1
  · obtain ⟨r, hr, rfl⟩ := at' n m
    rw [imF_of nd hr] at hq; exact ((h.2 r hr).zi q hq).1
end My
namespace My
open PySem PySem.Spec PyProof.Rows L2
/-! results as data -/
def outD (x : Str × Str × Int) : PyData := .tuple [.str x.1, .str x.2.1, .tuple [.str "int", .int x.2.2]]
def datR : Rs → PyData
  | .dup n => .tuple [.str "duplicate", .str n]
  | .unk n => .tuple [.str "unknown", .str n]
  | .ring => .tuple [.str "ring", .str ""]
  | .linked l => .tuple [.str "linked", .list (l.map outD)]
def ResR (H : Hp) (v : V) : Rs → Prop
  | .dup n => ∃ p, v = .ref p ∧ H p = some (.tup [.str "duplicate", .str n])
  | .unk n => ∃ p, v = .ref p ∧ H p = some (.tup [.str "unknown", .str n])
  | .ring => ∃ p, v = .ref p ∧ H p = some (.tup [.str "ring", .str ""])
  | .linked l => ∃ p L vs, v = .ref p ∧ H p = some (.tup [.str "linked", .ref L]) ∧ H L = some (.lst vs) ∧ Al (OuR H) vs l
theorem ResR.sm {H H' : Hp} {v : V} {r : Rs} (h : ResR H v r) (e : Sm No H H') : ResR H' v r := by
  cases r with
  | dup n => exact let ⟨p, a, b⟩ := h; ⟨p, a, e.tup (fun z => z) b⟩
  | unk n => exact let ⟨p, a, b⟩ := h; ⟨p, a, e.tup (fun z => z) b⟩
  | ring => exact let ⟨p, a, b⟩ := h; ⟨p, a, e.tup (fun z => z) b⟩
  | linked l => exact let ⟨p, L, vs, a, b, c, d⟩ := h; ⟨p, L, vs, a, e.tup (fun z => z) b, e.lst0 c, d.mono fun _ _ q => q.sm e⟩
section
variable {K : PySem.W.Frag}
theorem dpAll_of {α : Type} {H : Hp} {R : V → α → Prop} {f : α → PyData} (hR : ∀ v x, R v x → Dp K H v (f x)) : ∀ {vs : List V} {xs : List α}, Al R vs xs → DpAll K H vs (xs.map f)
  | [], [], _ => .nil
  | [], _ :: _, h => by have := h.1; simp at this
  | _ :: _, [], h => by have := h.1; simp at this
  | v :: vs, x :: xs, h => by
    obtain ⟨y, hy, r⟩ := h.2 0 v rfl
    have e : x = y := by simpa using hy
    subst e
    exact .cons (hR v x r) (dpAll_of hR ⟨by have := h.1; simpa using this, fun i u q => by
      obtain ⟨z, hz, rz⟩ := h.2 (i + 1) u (by simpa using q)
      exact ⟨z, by simpa using hz, rz⟩⟩)
theorem OuR.dp {H : Hp} {v : V} {x : Str × Str × Int} (h : OuR H v x) : Dp K H v (outD x) := by
  obtain ⟨p, c, rfl, h2, h3⟩ := h
  exact .tup (SqT.of h2) (.cons (.str _) (.cons (.str _) (.cons (.tup (SqT.of h3) (.cons (.str _) (.cons (.int _) .nil))) .nil)))
theorem ResR.dp {H : Hp} {v : V} {r : Rs} (h : ResR H v r) : Dp K H v (datR r) := by
  cases r with
  | dup n => obtain ⟨p, rfl, b⟩ := h; exact .tup (SqT.of b) (.cons (.str _) (.cons (.str _) .nil))
  | unk n => obtain ⟨p, rfl, b⟩ := h; exact .tup (SqT.of b) (.cons (.str _) (.cons (.str _) .nil))
  | ring => obtain ⟨p, rfl, b⟩ := h; exact .tup (SqT.of b) (.cons (.str _) (.cons (.str _) .nil))
  | linked l =>
    obtain ⟨p, L, vs, rfl, b, c, d⟩ := h
    exact .tup (SqT.of b) (.cons (.str _) (.cons (.lst (SqL.of c) (dpAll_of (fun _ _ r => r.dp) d)) .nil))
theorem dpAll_str {H : Hp} : ∀ {xs : List Str}, DpAll K H (xs.map V.str) (xs.map PyData.str)
  | [] => .nil
  | _ :: _ => .cons (.str _) dpAll_str
end
def RsOk : Rs → Prop
  | .dup n => PyData.strOk n = true
  | .unk n => PyData.strOk n = true
  | .ring => True
  | .linked l => ∀ x ∈ l, PyData.strOk x.1 = true ∧ PyData.strOk x.2.1 = true
theorem lay_str : ∀ {xs : List Str}, (∀ x ∈ xs, PyData.strOk x = true) → PyData.canLayAll0 (xs.map PyData.str) = true
  | [], _ => by unfold PyData.canLayAll0; rfl
  | x :: r, h => by
    rw [List.map_cons]
    unfold PyData.canLayAll0
    rw [lay_str fun y m => h y (List.mem_cons_of_mem _ m)]
    unfold PyData.canLay0
    rw [h x List.mem_cons_self]
    rfl
theorem dep_str : ∀ {xs : List Str}, PyData.depthAll (xs.map PyData.str) ≤ 1
  | [] => by unfold List.map PyData.depthAll; omega
  | x :: r => by
    have := dep_str (xs := r)
    rw [List.map_cons]
    unfold PyData.depthAll
    unfold PyData.depth
    omega
theorem shaped_strs {xs : List Str} (h : ∀ x ∈ xs, PyData.strOk x = true) : SeqAt.shaped (.list (xs.map PyData.str)) = true := by
  unfold SeqAt.shaped
  rw [show PyData.canLay0 (.list (xs.map PyData.str)) = true by unfold PyData.canLay0; exact lay_str h]
  have := dep_str (xs := xs)
  rw [decide_eq_true (by unfold PyData.depth; omega)]
  rfl
theorem shaped_no : SeqAt.shaped (.list []) = true := by decide +kernel
theorem eqv_no {xs : List Str} : PyData.eqv (.list (xs.map PyData.str)) (.list []) = xs.isEmpty := by
  cases xs with
  | nil => unfold List.map PyData.eqv PyData.eqvAll; rfl
  | cons x r => unfold List.map PyData.eqv PyData.eqvAll; rfl
theorem outD_lay {x : Str × Str × Int} (h1 : PyData.strOk x.1 = true) (h2 : PyData.strOk x.2.1 = true) : PyData.canLay0 (outD x) = true := by
  have h3 : PyData.strOk "int" = true := by decide +kernel
  simp only [outD, PyData.canLay0, PyData.canLayAll0, h1, h2, h3, Bool.and_true]
theorem outD_dep {x : Str × Str × Int} : PyData.depth (outD x) ≤ 10 := by
  simp only [outD, PyData.depth, PyData.depthAll]
  omega
theorem outs_lay : ∀ {l : List (Str × Str × Int)}, (∀ x ∈ l, PyData.strOk x.1 = true ∧ PyData.strOk x.2.1 = true) → PyData.canLayAll0 (l.map outD) = true
  | [], _ => by unfold List.map PyData.canLayAll0; rfl
  | x :: r, h => by
    rw [List.map_cons]
    unfold PyData.canLayAll0
    rw [outs_lay fun y m => h y (List.mem_cons_of_mem _ m), outD_lay (h x List.mem_cons_self).1 (h x List.mem_cons_self).2]
    rfl
theorem outs_dep : ∀ {l : List (Str × Str × Int)}, PyData.depthAll (l.map outD) ≤ 10
  | [] => by unfold List.map PyData.depthAll; omega
  | x :: r => by
    have h1 := outs_dep (l := r)
    have h2 := outD_dep (x := x)
    rw [List.map_cons]
    unfold PyData.depthAll
    omega
theorem datR_lay {r : Rs} (h : RsOk r) : PyData.canLay0 (datR r) = true := by
  have h1 : PyData.strOk "duplicate" = true := by decide +kernel
  have h2 : PyData.strOk "unknown" = true := by decide +kernel
  have h3 : PyData.strOk "ring" = true := by decide +kernel
  have h4 : PyData.strOk "linked" = true := by decide +kernel
  have h5 : PyData.strOk "" = true := by decide +kernel
  cases r with
  | dup n => have h : PyData.strOk n = true := h; simp only [datR, PyData.canLay0, PyData.canLayAll0, h1, h, Bool.and_true]
  | unk n => have h : PyData.strOk n = true := h; simp only [datR, PyData.canLay0, PyData.canLayAll0, h2, h, Bool.and_true]
  | ring => simp only [datR, PyData.canLay0, PyData.canLayAll0, h3, h5, Bool.and_true]
  | linked l => simp only [datR, PyData.canLay0, PyData.canLayAll0, h4, outs_lay h, Bool.and_true]
theorem datR_shaped {r : Rs} (h : RsOk r) : SeqAt.shaped (datR r) = true := by
  unfold SeqAt.shaped
  rw [datR_lay h]
  have : PyData.depth (datR r) ≤ 60 := by
    cases r with
    | dup n => simp only [datR, PyData.depth, PyData.depthAll]; omega
    | unk n => simp only [datR, PyData.depth, PyData.depthAll]; omega
    | ring => simp only [datR, PyData.depth, PyData.depthAll]; omega
    | linked l =>
      have := outs_dep (l := l)
      simp only [datR, PyData.depth, PyData.depthAll]; omega
  rw [decide_eq_true (by omega)]
  rfl
theorem datR_refl {r : Rs} (h : RsOk r) : PyData.eqv (datR r) (datR r) = true := SeqAt.eqv_refl _ (datR_lay h)
theorem filt_take {α : Type} {l : List α} {i : Nat} {x : α} {f : α → Bool} (h : l[i]? = some x) : (l.take (i + 1)).filter f = (l.take i).filter f ++ if f x = true then [x] else [] := by
  rw [take_nx h, List.filter_append]
  congr 1
  by_cases e : f x = true
  · rw [if_pos e, List.filter_cons_of_pos e]; rfl
  · rw [if_neg e, List.filter_cons_of_neg e]; rfl
theorem inV_str {x : Str} {xs : List Str} : inV (.str x) (xs.map V.str) = xs.contains x := by
  unfold inV
  rw [List.any_map]
  induction xs with
  | nil => rfl
  | cons y r ih =>
    rw [List.any_cons, List.contains_cons, ih]
    congr 1
    show (y == x) = (x == y)
    rw [Bool.eq_iff_iff, beq_iff_eq, beq_iff_eq]
    exact ⟨Eq.symm, Eq.symm⟩
theorem flat_str {xs : List Str} : (xs.map V.str).all flatV = true := by
  rw [List.all_map]
  exact List.all_eq_true.mpr fun x _ => rfl
theorem none_left {done : List Str} : ∀ {l : List Str}, (l.filter fun i => !(done.contains i)).isEmpty = l.all fun i => done.contains i
  | [] => rfl
  | x :: r => by
    have ih := none_left (done := done) (l := r)
    rw [List.all_cons]
    cases e : done.contains x with
    | true => rw [List.filter_cons_of_neg (by rw [e]; decide), ih, Bool.true_and]
    | false => rw [List.filter_cons_of_pos (by rw [e]; rfl)]; rfl
theorem rdy_filter {im : Str → List Str} {done : List Str} {l : List Str} : ((l.filter fun n => !(done.contains n)).filter fun n => (im n).all fun i => done.contains i) = l.filter (rdyB im done) := by
  rw [List.filter_filter]
  refine List.filter_congr fun n _ => ?_
  unfold rdyB
  rw [Bool.and_comm]
theorem find_filter {p : Str → Bool} : ∀ {l : List Str}, l.find? p = (l.filter p).head?
  | [] => rfl
  | x :: r => by
    by_cases e : p x = true
    · rw [List.find?_cons_of_pos e, List.filter_cons_of_pos e]; rfl
    · rw [List.find?_cons_of_neg e, List.filter_cons_of_neg e]; exact find_filter
theorem at0 {x : V} {l : List V} : atI (x :: l) 0 = some x := by
  unfold atI
  rw [show ixN (x :: l).length 0 = some 0 by
    unfold ixN
    rw [if_pos (by decide)]
    simp]
  rfl
theorem rowF_some {rows : List Rw} {n : Str} {r : Rw} (h : rowF rows n = some r) : r ∈ rows ∧ r.n = n := by
  unfold rowF at h
  exact ⟨List.mem_of_find?_eq_some h, by have := List.find?_some h; simpa using this⟩
theorem dup_mem : ∀ {rows : List Rw} {seen : List Str} {n : Str}, dupF seen rows = some n → ∃ r ∈ rows, r.n = n
  | [], _, _, h => by cases h
  | r :: rs, seen, n, h => by
    unfold dupF at h
    by_cases q : seen.contains r.n = true
    · rw [if_pos q] at h; cases h; exact ⟨r, List.mem_cons_self, rfl⟩
    · rw [if_neg q] at h
      obtain ⟨p, hp, e⟩ := dup_mem h
      exact ⟨p, List.mem_cons_of_mem _ hp, e⟩
theorem link_rsok {rows : List Rw} (O : RwsOk rows) : RsOk (linkF rows) := by
  unfold linkF
  cases hd : dupF [] rows with
  | some n =>
    obtain ⟨r, hr, rfl⟩ := dup_mem hd
    exact (O.2 r hr).n.2
  | none =>
    cases hu : unkF (rows.map (·.n)) (imF rows) with
    | some m =>
      unfold unkF at hu
      obtain ⟨c, hc, hm⟩ := List.mem_flatMap.mp (List.mem_of_find?_eq_some hu)
      unfold imF at hm
      cases e : rowF rows c with
      | none => rw [e] at hm; cases hm
      | some r => rw [e] at hm; exact ((O.2 r (rowF_some e).1).zi m hm).2
    | none =>
      cases ho : ordF (rows.map (·.n)) (imF rows) rows.length [] with
      | none => exact True.intro
      | some o =>
        intro x hx
        obtain ⟨n, hn, hx⟩ := List.mem_flatMap.mp hx
        obtain ⟨d, hd2, rfl⟩ := List.mem_map.mp hx
        unfold dfF at hd2
        cases e : rowF rows n with
        | none => rw [e] at hd2; cases hd2
        | some r =>
          rw [e] at hd2
          obtain ⟨mr, en⟩ := rowF_some e
          exact ⟨by rw [← en]; exact (O.2 r mr).n.2, ((O.2 r mr).zd d hd2).2⟩
end My
namespace My
open PySem PySem.Spec PyProof.Rows L2
/-! several clauses 'except x as n', n the same slot in each -/
def wMas (K : PySem.W.Frag) (i : Nat) (Wout : WX) (D : Ends) : List (Value × (Addr → Value → Option Addr → TS)) → WX
  | [] => Wout
  | (c, ts) :: r => fun cls d σ H => ∃ b, PySem.W.exmOne K cls c = some b ∧ (b = true → ∀ a, H a = none → ts a cls d { nx := fun σ' H' => D.nx (σ'.set i none) H', rt := D.rt, bk := fun σ' H' => D.bk (σ'.set i none) H', ct := fun σ' H' => D.ct (σ'.set i none) H' } (σ.set i (some (.ref a))) H) ∧
    (b = false → wMas K i Wout D r cls d σ H)
inductive HdsAs (X : Cx) (n : Str) : List ExceptHandler → List (Value × (Addr → Value → Option Addr → TS)) → Prop
  | nil : HdsAs X n [] []
  | cons {x : Str} {c : Value} {ts : Addr → Value → Option Addr → TS} {b₀ : Stmt} {suite : List Stmt} {np pos' : Pos} {hds : List ExceptHandler} {l : List (Value × (Addr → Value → Option Addr → TS))} (hc : Names X x c)
      (hsu : ∀ (a : Addr) (oe : Obj) (cls : Value) (d : Option Addr) (pn : List (Addr × Obj)), Zc cls d oe → (∃ vs, oe.data = .fields vs) → PSs (X.suite a ((a, oe) :: pn)) (b₀ :: suite) (ts a cls d)) (r : HdsAs X n hds l) :
      HdsAs X n (.ExceptHandler (some (.Name x np)) (some n) (b₀ :: suite) pos' :: hds) ((c, ts) :: l)
section
variable {X : Cx} {n : Str} {i : Nat} {body : List Stmt} {h₀ : ExceptHandler} {hds : List ExceptHandler} {l : List (Value × (Addr → Value → Option Addr → TS))} {pos : Pos} {tb : WX → TS} {Wout : WX}
theorem ps_try_mas (hs : X.stack = X.env :: X.outer) (hf : X.env.frame = some X.env.locals) (hN : X.N.Nodup) (hi : X.N[i]? = some n) (hln : X.env.kindOf n = some .local) (tk : Takes X Wout)
    (hb : ∀ (W : WX) (pn : List (Addr × Obj)) (xe : Value → Shared → Prop), Takes (X.tr pn xe) W → PassesOwn (model X.prog X.w) X.A X.env xe → PSs (X.tr pn xe) body (tb W))
    (hh : HdsAs X n (h₀ :: hds) l) : PS X (.Try body (h₀ :: hds) [] [] pos) (fun D σ H => tb (wMas X.K i Wout D l) D σ H) := by
  refine ⟨fun pins s σ H D I h => ?_⟩
  have ok := I.ok
  have hfr : X.A.frames = some (X.env :: X.outer) := by rw [ok.frames, hs]
  have hloc : Loc X.env.scope n := .inl hln
  refine wpAny_Try_except ?_
  refine wpAny_mono ((hb (wMas X.K i Wout D l) (X.pn ++ pins) (fun e s₁ => wpAny (model X.prog X.w) X.A (noteFrame e X.env) (fun _ s₂ => wpAny (model X.prog X.w) X.A (setFlight e none) (fun _ s₃ =>
    wpAny (model X.prog X.w) X.A (handleBy e X.env (h₀ :: hds)) (SP X pins D) X.xe s₃) X.xe s₂) X.xe s₁) (fun u s' xx => ?_) PassesOwn.looking).run [] s σ H D (I.toTry _) h) (fun f s1 hsp => ?_) (fun e s1 he => he)
  · obtain ⟨a, B, sI, pins', σ', H', cls, d, rfl, J', nb, up, sky, na, os, ag, w⟩ := xx
    have J : Inv X pins σ' H' sI := J'.ofTry ok
    have sky' : Sky B (X.env :: X.outer) a (Zc cls d) X.env.locals s'.heap := by rw [← hs]; exact sky
    show wpAny (model X.prog X.w) X.A (noteFrame (.ref a) X.env) _ _ _
    refine Sky.land Zc.steady hfr hf sky' fun h3 fl3 up3 => ?_
    have J3 : Inv X pins σ' H' { s' with heap := h3 } := J.landed nb fl3.1 (up.trans up3) os ag
    obtain ⟨oe3, vs3, he3, hz3, hd3⟩ := fl3.there
    have nfr : a ∉ frs (X.env :: X.outer) := fun hm => by
      obtain ⟨_, o', e', hnf⟩ := fl3.2.2.1.mem hm
      rw [he3] at e'; cases e'
      exact hnf _ hd3
    have nL : a ≠ X.env.locals := fun z => nfr (List.mem_filterMap.mpr ⟨X.env, List.mem_cons_self, by rw [hf, z]⟩)
    have nF : a ∉ X.fs := fun hm => by
      obtain ⟨e, he, q⟩ := List.mem_filterMap.mp hm
      exact nfr (List.mem_filterMap.mpr ⟨e, List.mem_cons_of_mem _ he, q⟩)
    have S3 := J3.suite he3 hd3 na nL nF
    have go : ∀ {hds' : List ExceptHandler} {l' : List (Value × (Addr → Value → Option Addr → TS))}, HdsAs X n hds' l' → wMas X.K i Wout D l' cls d σ' H' →
        wpAny (model X.prog X.w) X.A (handleBy (.ref a) X.env hds') (SP X pins D) X.xe { s' with heap := h3 } := by
      intro hds' l' hk
      induction hk with
      | nil =>
        intro w
        refine wpAny_handleBy_nil ?_
        obtain ⟨k1, k2, k3, oe, vs, T, oT, ts', he, hz, hd, h1, hr⟩ := id fl3
        unfold PySem.passOn
        refine wpAny_bind (wpAny_field he hd h1 ?_)
        rw [if_neg (show ¬ ((Value.ref T == Value.none) = true) from by simp)]
        have fin : wpAny (model X.prog X.w) X.A (setFlight (.ref a) X.env.frame) (fun _ s4 => wpAny (model X.prog X.w) X.A (throw (.ref a) : Sem Flow) (SP X pins D) X.xe s4) X.xe { s' with heap := h3 } := by
          rw [hf]
          refine HandSPX.setFlight_upZ fl3 fun h4 hh4 up4 => wpAny_throw (tk _ _ ?_)
          exact ⟨a, B, sI, pins, σ', H', cls, d, rfl, J, nb, (up.trans up3).trans up4, .inr (.inr (by rw [hs]; exact hh4)), na, os, ag, w⟩
        first
          | exact wpAny_bind (wpAny_pure (wpAny_bind fin))
          | exact wpAny_bind fin
      | @cons x c ts b₀ suite np pos' hds2 l2 hc hsu r ih =>
        intro w
        obtain ⟨b, hb1, hyes, hno⟩ := w
        refine wpAny_handleBy_cons (codeAny_handlers_test ?_) (by intro q; cases q)
        have LT : PySem.W.Looks (model X.prog X.w) h3 (typeOf (.ref a)) cls := fun A Q E s k q => wpAny_typeOf_ref (k _ _ he3) (by rw [hz3.1]; exact q)
        have LM := PySem.W.exm_one (M := model X.prog X.w) (J3.kIn) LT hb1
        have test : ∀ {Q : Value → Shared → Prop} {E : Value → Shared → Prop}, Q c { s' with heap := h3 } → wpAny (model X.prog X.w) (X.A.mark (some (.ref a))) (eval (.Name x np) X.env) Q E { s' with heap := h3 } := fun {Q E} q => by
          obtain ⟨hg, hdbg, hm | ⟨hm, hv, hnn⟩⟩ := hc
          · exact ld_glob (X := X.suite a ((a, oe3) :: (X.pn ++ pins))) S3 hg hm q hdbg
          · exact ld_blt (X := X.suite a ((a, oe3) :: (X.pn ++ pins))) S3 hg hm hv q hnn hdbg
        refine test (LM.here ?_)
        cases b with
        | true =>
          refine codeAny_handlers_suite_as ?_
          refine HandSPX.lands_againZ fl3 fun h4 fl4 up4 => ?_
          have J4 : Inv X pins σ' H' { s' with heap := h4 } := J.landed nb fl4.1 ((up.trans up3).trans up4) os ag
          obtain ⟨oe4, vs4, he4, hz4, hd4⟩ := fl4.there
          have S4 := J4.suite he4 hd4 na nL nF
          refine store_ok (X := X.suite a ((a, oe4) :: (X.pn ++ pins))) (v := .ref a) S4 hN hi hloc rfl (fun s5 S5 => ?_) (.inr hln)
          refine wpAny_mono ((hsu a oe4 cls d (X.pn ++ pins) hz4 ⟨_, hd4⟩).run [] s5 _ H' _ S5 (hyes rfl a na)) (fun f s6 hsp => ?_) (fun _ _ z => False.elim z)
          have end_ : ∀ {σ6 : L2.St} {H6 : Hp} {Q : Shared → Prop}, Inv (X.suite a ((a, oe4) :: (X.pn ++ pins))) [] σ6 H6 s6 → (∀ s7, Inv X pins (σ6.set i none) H6 s7 → Q s7) →
              wpAny (model X.prog X.w) X.A (do bindName X.env n .none; unbindBehindTheSuite X.env n pos') (fun _ s7 => Q s7) X.xe s6 := fun {σ6 H6 Q} S6 hq => gone_ok (S6.unsuite ok) hN hi hln hq
          cases f with
          | next =>
            obtain ⟨σ6, H6, S6, q6⟩ := hsp
            exact end_ S6 fun s7 J7 => ⟨_, _, J7, q6⟩
          | brk =>
            obtain ⟨σ6, H6, S6, q6⟩ := hsp
            exact end_ S6 fun s7 J7 => ⟨_, _, J7, q6⟩
          | cont =>
            obtain ⟨σ6, H6, S6, q6⟩ := hsp
            exact end_ S6 fun s7 J7 => ⟨_, _, J7, q6⟩
          | ret u =>
            obtain ⟨v6, σ6, H6, S6, r6, q6⟩ := hsp
            exact end_ S6 fun s7 J7 => ⟨_, _, _, J7, r6, q6⟩
        | false =>
          show wpAny _ X.A (handleBy (.ref a) X.env hds2) _ _ _
          exact ih (hno rfl)
    exact go hh w
  · cases f with
    | next =>
      obtain ⟨σ', H', J', q⟩ := hsp
      exact wpAny_execs_nil ⟨σ', H', J'.ofTry ok, q⟩
    | brk =>
      obtain ⟨σ', H', J', q⟩ := hsp
      exact ⟨σ', H', J'.ofTry ok, q⟩
    | cont =>
      obtain ⟨σ', H', J', q⟩ := hsp
      exact ⟨σ', H', J'.ofTry ok, q⟩
    | ret u =>
      obtain ⟨v, σ', H', J', r, q⟩ := hsp
      exact ⟨v, σ', H', J'.ofTry ok, r, q⟩
end
/-- list(x), where the reading must be told -/
def rListOf (K : PySem.W.Frag) : List V → Hp → VK → Prop := fun xs H Q => ∃ p ys, xs = [.ref p] ∧ (SqL K H p ys ∨ SqT K H p ys) ∧ ∀ l, H l = none → Q (.ref l) (upd H l (.lst ys))
end My
namespace My
open PySem PySem.Spec PyProof.Rows L2 TL
def top (i : Nat) : Stmt := PySem.Challenge.pw_aliasfold_k75_forms_of_a_module.main.body.getD i (.Pass ⟨0, 0, 0, 0⟩)
structure Blt (mg : Str → Option Value) : Prop where
  int : mg "int" = none
  len : mg "len" = none
  range : mg "range" = none
  str : mg "str" = none
  list : mg "list" = none
  min : mg "min" = none
  any : mg "any" = none
  all : mg "all" = none
  isinstance : mg "isinstance" = none
structure Cal (P : Program) (w : World) (K : PySem.W.Frag) (mg : Str → Option Value) (base : Heap) (CX : CXT) (k : Nat) (x : Str) (ps : List Str) (sp : Sp) (f : Addr) (fd : FuncData) : Prop where
  ok : FnOk P w K mg base CX k f fd ps sp
  k : PySem.W.keepIn K (.ref f) = true
  g : mg x = some (.ref f)
  b : Binds K fd ps []
theorem line_of {n : Nat} (h : n ≤ 1000) : n < sizeLine := small1000 h
/-- a class of errors without an __init__ -/
structure PlainC (K : PySem.W.Frag) (mg : Str → Option Value) (x : Str) (C : Addr) : Prop where
  q : PySem.W.excIn K C [.type "ValueError", .type "Exception", .type "BaseException", .type "object"] "ValueError.__new__" = true
  g : mg x = some (.ref C)
  k : PySem.W.keepIn K (.ref C) = true
  s : PySem.W.subIn K (.ref C) (.type "BaseException") = some true
  t : PySem.W.typeIn K (.ref C) = some (.type "type")
theorem pmk_plain {X : Cx} {C : Addr} {bmB : List Value} {B newId initId : String} {x : Str} {e : Expr} {te : TE} {p pos : Pos} (F : ExcBaseFacts B newId initId bmB) (q : PySem.W.excIn X.K C bmB newId = true) (gC : X.mg x = some (.ref C))
    (kC : PySem.W.keepIn X.K (.ref C) = true) (r : Raises X (.ref C)) (hg : Gl X x) (he : PE X e te) (hdb : (x == ("__debug__" : Str)) = false := by decide)
    (hse : starEach [e] X.env = (false, eval e X.env) :: starEach [] X.env := by rfl) (hpl : (backTo pos (starEach [] X.env)).any (·.1) = false := by rfl) :
    PMk X (.Call (.Name x p) [e] [] pos) (fun σ H Q => tCons te tNil σ H fun vs H1 => vs.length = 1 ∧ Q (.ref C) none H1) := by
  intro pins s σ H Q I h
  refine wpAny_Call_Name_kw (ld_glob I hg gC ?_ hdb)
  have ha : PA X [e] (tCons te tNil) := pa_cons he pa_nil hse
  refine PySem.W.callWith_K (h₀ := X.base) I.ok.mod.kin kC (thn (ha.run pos pins s σ H _ I h) fun us s1 hh => ?_) hse hpl
  obtain ⟨vs, H1, J, rv, el, q1⟩ := hh
  have lu : us.length ≤ sizeLine := by
    rw [← Paired.length rv, el]
    decide
  obtain ⟨bm, N, nm, qn, bs, hdct, sn, sub, ab, col, dd, k0, k1, k2, k3, k5, mN, hC, hN, hni, T⟩ := exc_obj J.kIn q
  refine ⟨J.kIn, wpAny_call_exc_subT F T hC hN hni (fun h' e hm => ?_) lu⟩
  exact mk_of J hm r q1 (J.hok.gone hm.new)
/-! ### data of rules: numbers, texts, lists (no names that an expansion made) -/
inductive Dt where
  | int (i : Int) | str (s : Str) | lst (ds : List Dt)
mutual
inductive Rq (H : Hp) : V → Dt → Prop
  | int (i : Int) : Rq H (.int i) (.int i)
  | str (s : Str) : Rq H (.str s) (.str s)
  | lst {a : Addr} {vs : List V} {ds : List Dt} : H a = some (.lst vs) → RqL H vs ds → Rq H (.ref a) (.lst ds)
inductive RqL (H : Hp) : List V → List Dt → Prop
  | nil : RqL H [] []
  | cons {v : V} {d : Dt} {vs : List V} {ds : List Dt} : Rq H v d → RqL H vs ds → RqL H (v :: vs) (d :: ds)
end
mutual
theorem Rq.sm {H H' : Hp} (e : Sm No H H') : ∀ {v : V} {d : Dt}, Rq H v d → Rq H' v d
  | _, _, .int i => .int i
  | _, _, .str s => .str s
  | _, _, .lst h r => .lst (e.lst0 h) (RqL.sm e r)
theorem RqL.sm {H H' : Hp} (e : Sm No H H') : ∀ {vs : List V} {ds : List Dt}, RqL H vs ds → RqL H' vs ds
  | _, _, .nil => .nil
  | _, _, .cons h r => .cons (Rq.sm e h) (RqL.sm e r)
end
theorem RqL.al {H : Hp} : ∀ {vs : List V} {ds : List Dt}, RqL H vs ds → Al (Rq H) vs ds
  | _, _, .nil => Al.nil
  | _, _, .cons h r => Al.app (Al.one h) (RqL.al r)
def tyQ : Dt → String
  | .int _ => "int"
  | .str _ => "str"
  | .lst _ => "list"
theorem Rq.ty {K : PySem.W.Frag} {H : Hp} {v : V} {d : Dt} (r : Rq H v d) : TyX K H v (.type (tyQ d)) := by
  cases r with
  | int i => exact .base (.int i)
  | str s => exact .base (.str s)
  | lst h r => exact .base (.lst h)
/-- what the program's own class of names is to the kinds of data -/
structure NewC (K : PySem.W.Frag) (mg : Str → Option Value) (N : Addr) : Prop where
  g : mg "NewName" = some (.ref N)
  i : PySem.W.kitOne K (.type "int") (.ref N) = some false
  s : PySem.W.kitOne K (.type "str") (.ref N) = some false
  l : PySem.W.kitOne K (.type "list") (.ref N) = some false
def isW : Dt → Bool
  | .str _ => true
  | _ => false
def canB : Dt → Bool
  | .str s => !decide (s = "...")
  | _ => false
def spWd : Sp := fun vs H Q _ => ∃ (v : V) (d : Dt), vs = [v] ∧ Rq H v d ∧ Q (.bl (isW d)) H
def spCan : Sp := fun vs H Q _ => ∃ (v : V) (d : Dt), vs = [v] ∧ Rq H v d ∧ Q (.bl (canB d)) H
def spCkn (I : Addr) : Sp := fun vs H Q E => ∃ (a : Addr) (us : List V) (ds : List Dt), vs = [.ref a] ∧ H a = some (.lst us) ∧ RqL H us ds ∧
  (ds.all canB = true → ∀ H', Sm No H H' → Q .non H') ∧ (ds.all canB = false → ∀ H', Sm No H H' → E (.ref I) none H')
abbrev sWd : Stmt := top 11
abbrev sCan : Stmt := top 12
abbrev sCkn : Stmt := top 28
section
variable {P : Program} {w : World} {K : PySem.W.Frag} {mg : Str → Option Value} {base : Heap}
theorem scWd : FnScope ["datum"] ["datum"] (defScope sWd) := ⟨rfl, rfl, rfl, by decide +kernel, rfl, by decide +kernel, by decide +kernel⟩
theorem scCan : FnScope ["datum"] ["datum"] (defScope sCan) := ⟨rfl, rfl, rfl, by decide +kernel, rfl, by decide +kernel, by decide +kernel⟩
theorem scCkn : FnScope ["names", "name"] ["names"] (defScope sCkn) := ⟨rfl, rfl, rfl, by decide +kernel, rfl, by decide +kernel, by decide +kernel⟩
theorem ok_wd {f N : Addr} {fd : FuncData} (F : Fun K "is_word" "is_word" sWd f fd) (B : Blt mg) (NC : NewC K mg N) : FnOk P w K mg base CX0 1 f fd ["datum"] spWd := by
  refine F.ok scWd (fun vs H Q E h => ?_) (fun cdv A outer s H vs Q E hr h => ?_)
  · obtain ⟨v, d, rfl, _⟩ := h
    rfl
  obtain ⟨v, d, rfl, r, q⟩ := h
  have nd := scWd.nd
  refine ⟨_, (pss_one (ps_ret (pe_or (pe_callB call_isi (by rfl) B.isinstance (by decide +kernel) (pa_cons (pv 0) (pa_cons (pe_bltn (v := .ty "str") (by rfl) B.str (by decide +kernel) rfl) pa_nil))) (pe_one (pe_callB call_isi (by rfl) B.isinstance (by decide +kernel) (pa_cons (pv 0) (pa_cons (pe_glob (v := .ref N) rfl NC.g rfl) pa_nil))))))), ?_⟩
  have ty := r.ty (K := K)
  cases r with
  | int i => exact ⟨_, rfl, _, _, _, _, false, rfl, .ty "str", ty, kit_ty (show kitB "int" "str" = some false by decide +kernel), _, rfl, iteF ⟨_, rfl, _, _, _, _, false, rfl, .own N, ty, NC.i, q⟩⟩
  | str z => exact ⟨_, rfl, _, _, _, _, true, rfl, .ty "str", ty, kit_ty (show kitB "str" "str" = some true by decide +kernel), _, rfl, iteT q⟩
  | lst h r => exact ⟨_, rfl, _, _, _, _, false, rfl, .ty "str", ty, kit_ty (show kitB "list" "str" = some false by decide +kernel), _, rfl, iteF ⟨_, rfl, _, _, _, _, false, rfl, .own N, ty, NC.l, q⟩⟩
theorem ok_can {f fW : Addr} {fd dW : FuncData} (F : Fun K "can_be_bound" "can_be_bound" sCan f fd) (GW : Cal P w K mg base CX0 1 "is_word" ["datum"] spWd fW dW) (eD : ∃ t, mg "DOTS" = some (.str "..." t)) : FnOk P w K mg base CX0 2 f fd ["datum"] spCan := by
  refine F.ok scCan (fun vs H Q E h => ?_) (fun cdv A outer s H vs Q E hr h => ?_)
  · obtain ⟨v, d, rfl, _⟩ := h
    rfl
  obtain ⟨v, d, rfl, r, q⟩ := h
  have nd := scCan.nd
  obtain ⟨t, eD⟩ := eD
  refine ⟨_, (pss_one (ps_ret (pe_and (pe_call GW.ok hr rfl GW.g GW.k GW.b .nil pass0 (pa_cons (pv 0) pa_nil)) (pe_one (pe_cmpR op_ne (pv 0) (pe_glob (v := .str "...") rfl eD ⟨_, rfl⟩) (nomark _)))))), ?_⟩
  refine ⟨_, rfl, v, d, rfl, r, _, rfl, ?_⟩
  cases r with
  | int i => exact iteF q
  | str z =>
    refine iteT ⟨_, rfl, rfl, ?_⟩
    have e : decide (V.str z = V.str "...") = decide (z = "...") := by
      by_cases h : z = "..."
      · rw [h, decide_eq_true rfl, decide_eq_true rfl]
      · rw [decide_eq_false h, decide_eq_false fun e => h (V.str.inj e)]
    rw [e]
    exact q
  | lst h r => exact iteF q
theorem ok_ckn {f fC I : Addr} {fd dC : FuncData} (F : Fun K "check_names" "check_names" sCkn f fd) (GB : Cal P w K mg base CX0 2 "can_be_bound" ["datum"] spCan fC dC) (XF : PlainC K mg "InvalidForm" I) : FnOk P w K mg base (L2.CX P w) 3 f fd ["names"] (spCkn I) := by
  refine F.okX scCkn (fun vs H Q E h => ?_) (fun cdv A outer s H vs Q E hr h => ?_)
  · obtain ⟨a, us, ds, rfl, _⟩ := h
    rfl
  obtain ⟨a, us, ds, rfl, ha, r, qO, qE⟩ := h
  have nd := scCkn.nd
  refine ⟨_, (pss_one (ps_for (passes_of rfl) rfl (pi_list (pv 0)) (pg_name (i := 1) nd rfl (Or.inl rfl))
      (pss_one (ps_if (pt_not (pt_val (pe_call GB.ok hr rfl GB.g GB.k GB.b .nil pass0 (pa_cons (pv 1) pa_nil)))) (pss_one (ps_raise rfl (takes_of rfl rfl rfl rfl) (pmk_plain PySem.F.excBase_ValueError XF.q XF.g XF.k (raises_own XF.s XF.t) rfl pe_str))) pss_nil)))), ?_⟩
  refine ⟨_, rfl, a, rfl, ⟨_, SqL.of ha⟩, ?_⟩
  have al := r.al
  refine for_list (xs := us) (fun i σ H' => ∃ v1, σ = [some (.ref a), v1] ∧ (ds.take i).all canB = true ∧ Sm No H H') ⟨none, rfl, by rw [List.take_zero]; rfl, Sm.refl _ _⟩ (fun i σ H' _ ⟨_, _, _, s⟩ => SqL.of (s.lst0 ha)) ?_ ?_
  · rintro i x σ H1 hi ⟨v1, rfl, a1, s1⟩
    obtain ⟨d, hd, rd⟩ := al.2 i x hi
    refine ⟨_, rfl, x, d, rfl, rd.sm s1, _, rfl, ?_⟩
    cases e : canB d with
    | true =>
      refine iteF ⟨_, rfl, ?_, s1⟩
      rw [take_nx hd, List.all_append, a1]
      simp [e]
    | false =>
      refine iteT ⟨rfl, qE ?_ H1 s1⟩
      rw [cut_at hd, List.all_append, List.all_cons, e]
      simp
  · rintro σ H1 ⟨v1, rfl, a1, s1⟩
    rw [al.len, List.take_length] at a1
    exact qO a1 H1 s1
end
end My
namespace My
open PySem PySem.Spec PyProof.Rows L2 TL
/-! ### item_names, check_import, check_export, check_define -/
theorem cut_lo {xs : List V} {k : Nat} (h : k ≤ xs.length) : cutV xs (some (k : Int)) none = xs.drop k := by
  unfold cutV
  rw [HT.sIx_none, HT.sIx_nat, show min k xs.length = k by omega]
  exact List.take_of_length_le (by rw [List.length_drop]; omega)
theorem cut_mid {xs : List V} {j k : Nat} (hj : j ≤ k) (h : k ≤ xs.length) : cutV xs (some (j : Int)) (some (k : Int)) = (xs.drop j).take (k - j) := by
  unfold cutV
  rw [HT.sIx_nat, HT.sIx_nat, show min k xs.length - min j xs.length = k - j by omega, show min j xs.length = j by omega]
theorem RqL.len {H : Hp} {vs : List V} {ds : List Dt} (r : RqL H vs ds) : vs.length = ds.length := r.al.len
theorem RqL.drop {H : Hp} : ∀ {vs : List V} {ds : List Dt} (k : Nat), RqL H vs ds → RqL H (vs.drop k) (ds.drop k)
  | _, _, 0, r => r
  | _, _, _ + 1, .nil => .nil
  | _, _, k + 1, .cons _ r => RqL.drop k r
theorem RqL.take {H : Hp} : ∀ {vs : List V} {ds : List Dt} (k : Nat), RqL H vs ds → RqL H (vs.take k) (ds.take k)
  | _, _, 0, _ => .nil
  | _, _, _ + 1, .nil => .nil
  | _, _, k + 1, .cons h r => .cons h (RqL.take k r)
theorem at1 {x y : V} {l : List V} : atI (x :: y :: l) 1 = some y := by
  unfold atI
  rw [show ixN (x :: y :: l).length 1 = some 1 by
    unfold ixN
    rw [if_pos (by decide), if_pos (by simp; omega)]
    rfl]
  rfl
def okItem : Dt → Bool
  | .lst ds => decide (ds.length = 2) && ds.all canB
  | d => canB d
def okImp (ds : List Dt) : Bool := decide (2 ≤ ds.length) && (((ds.drop 1).take 1).all canB && (ds.drop 2).all okItem)
def okExp (ds : List Dt) : Bool := decide (2 ≤ ds.length) && (ds.drop 1).all canB
def okDef (ds : List Dt) : Bool := decide (ds.length = 3) && ((ds.drop 1).take 1).all canB
def spItem (I : Addr) : Sp := fun vs H Q E => ∃ (v : V) (d : Dt), vs = [v] ∧ Rq H v d ∧ (okItem d = true → ∀ u H', Sm No H H' → Q u H') ∧ (okItem d = false → ∀ H', Sm No H H' → E (.ref I) none H')
def spForm (I : Addr) (ok : List Dt → Bool) : Sp := fun vs H Q E => ∃ (a : Addr) (us : List V) (ds : List Dt), vs = [.ref a] ∧ H a = some (.lst us) ∧ RqL H us ds ∧
  (ok ds = true → ∀ H', Sm No H H' → Q .non H') ∧ (ok ds = false → ∀ H', Sm No H H' → E (.ref I) none H')
abbrev sItem : Stmt := top 29
abbrev sImp : Stmt := top 30
abbrev sExp : Stmt := top 31
abbrev sDef : Stmt := top 32
section
variable {P : Program} {w : World} {K : PySem.W.Frag} {mg : Str → Option Value} {base : Heap}
theorem scItem : FnScope ["item", "names"] ["item"] (defScope sItem) := ⟨rfl, rfl, rfl, by decide +kernel, rfl, by decide +kernel, by decide +kernel⟩
theorem scImp : FnScope ["form", "item"] ["form"] (defScope sImp) := ⟨rfl, rfl, rfl, by decide +kernel, rfl, by decide +kernel, by decide +kernel⟩
theorem scExp : FnScope ["form"] ["form"] (defScope sExp) := ⟨rfl, rfl, rfl, by decide +kernel, rfl, by decide +kernel, by decide +kernel⟩
theorem scDef : FnScope ["form"] ["form"] (defScope sDef) := ⟨rfl, rfl, rfl, by decide +kernel, rfl, by decide +kernel, by decide +kernel⟩
theorem ok_item {f fN I : Addr} {fd dN : FuncData} (F : Fun K "item_names" "item_names" sItem f fd) (B : Blt mg) (GN : Cal P w K mg base (L2.CX P w) 3 "check_names" ["names"] (spCkn I) fN dN) (XF : PlainC K mg "InvalidForm" I) : FnOk P w K mg base (L2.CX P w) 4 f fd ["item"] (spItem I) := by
  refine F.okX scItem (fun vs H Q E h => ?_) (fun cdv A outer s H vs Q E hr h => ?_)
  · obtain ⟨v, d, rfl, _⟩ := h
    rfl
  obtain ⟨v, d, rfl, r, qO, qE⟩ := h
  have nd := scItem.nd
  refine ⟨_, (pss_cons (ps_set (i := 1) nd rfl (Or.inl rfl) (pe_ifExp (pt_val (pe_callB call_isi (by rfl) B.isinstance (by decide +kernel) (pa_cons (pv 0) (pa_cons (pe_bltn (v := .ty "list") (by rfl) B.list (by decide +kernel) rfl) pa_nil)))) (pv 0) (pe_lst (pa_cons (pv 0) (pa_cons (pv 0) pa_nil)))))
    (pss_cons (ps_if (pt_cmpR op_ne (pe_callB call_len_seq (by rfl) B.len PySem.boot_len (pa_cons (pv 1) pa_nil)) pe_int (nomark _)) (pss_one (ps_raise rfl (takes_of rfl rfl rfl rfl) (pmk_plain PySem.F.excBase_ValueError XF.q XF.g XF.k (raises_own XF.s XF.t) rfl pe_str))) pss_nil)
    (pss_cons (ps_expr (pe_call GN.ok hr rfl GN.g GN.k GN.b .nil (passes_call (takes_of rfl rfl rfl rfl) fun _ _ _ _ h => h) (pa_cons (pv 1) pa_nil)))
    (pss_one (ps_ret (pe_tup (pa_cons (pe_ix (r := rIxL K) ix_list (pv 1) pe_int (fun _ _ => rfl)) (pa_cons (pe_ix (r := rIxL K) ix_list (pv 1) pe_int (fun _ _ => rfl)) pa_nil)))))))), ?_⟩
  have ty := r.ty (K := K)
  -- names: a list of data at a
  have go : ∀ (a : Addr) (us : List V) (ds : List Dt) (H1 : Hp), H1 a = some (.lst us) → RqL H1 us ds → Sm No H H1 → okItem d = (decide (ds.length = 2) && ds.all canB) →
      tSeq (tIfS (tTest (tOp rNe (tCB (fun xs H Q => ∃ p ys, xs = [V.ref p] ∧ (SqL K H p ys ∨ SqT K H p ys) ∧ Q (.int ys.length) H) (tCons (tVar 1) tNil)) (tC (.int 2)))) (fun x σ H => tCons (tC (.str "an item of an \u0069mport that is not made of one name or two")) tNil σ H fun vs H1 => vs.length = 1 ∧ (fun cls d H' => E cls d H') (.ref I) none H1) tNext)
        (tSeq (tDrop (tCall (spCkn I) [] E (tCons (tVar 1) tNil))) (tRet (tTup (tCons (tOp (rIxL K) (tVar 1) (tC (.int 0))) (tCons (tOp (rIxL K) (tVar 1) (tC (.int 1))) tNil))))) { nx := fun _ H' => Q .non H', rt := Q } [some v, some (.ref a)] H1 := fun a us ds H1 ha rl s1 eo => by
    have ll := rl.len
    refine ⟨_, rfl, a, _, rfl, .inl (SqL.of ha), rfl, _, rfl, ?_⟩
    by_cases h2 : ds.length = 2
    · rw [show (!decide (V.int ((us.length : Nat) : Int) = V.int 2)) = false by rw [ll, h2]; decide +kernel]
      refine iteF ⟨_, rfl, a, us, ds, rfl, ha, rl, fun h H2 s2 => ?_, fun h H2 s2 => qE (by rw [eo, h, Bool.and_false]) H2 (s1.trans s2)⟩
      have ha2 := s2.lst0 ha
      cases us with
      | nil => simp at ll; omega
      | cons x us =>
        cases us with
        | nil => simp at ll; omega
        | cons y us =>
          refine ⟨_, rfl, a, _, 0, _, rfl, rfl, SqL.of ha2, at0, _, rfl, a, _, 1, _, rfl, rfl, SqL.of ha2, at1, by show 2 ≤ sizeLine; decide, fun p hp => ?_⟩
          exact qO (by rw [eo, h, decide_eq_true h2]; rfl) _ _ ((s1.trans s2).trans (Sm.new hp))
    · rw [show (!decide (V.int ((us.length : Nat) : Int) = V.int 2)) = true by
        rw [decide_eq_false fun e => h2 (by have := V.int.inj e; omega)]; rfl]
      exact iteT ⟨rfl, qE (by rw [eo, decide_eq_false h2]; rfl) H1 s1⟩
  cases r with
  | int i =>
    refine ⟨_, rfl, _, _, _, _, false, rfl, .ty "list", ty, kit_ty (show kitB "int" "list" = some false by decide +kernel), _, rfl, iteF ⟨_, rfl, _, rfl, by show 2 ≤ sizeLine; decide, fun p hp => ?_⟩⟩
    exact go p [.int i, .int i] [.int i, .int i] _ upd_same (.cons (.int i) (.cons (.int i) .nil)) (Sm.new hp) rfl
  | str z =>
    refine ⟨_, rfl, _, _, _, _, false, rfl, .ty "list", ty, kit_ty (show kitB "str" "list" = some false by decide +kernel), _, rfl, iteF ⟨_, rfl, _, rfl, by show 2 ≤ sizeLine; decide, fun p hp => ?_⟩⟩
    refine go p [.str z, .str z] [.str z, .str z] _ upd_same (.cons (.str z) (.cons (.str z) .nil)) (Sm.new hp) ?_
    show canB (.str z) = (true && (canB (.str z) && (canB (.str z) && true)))
    cases canB (.str z) <;> rfl
  | @lst a vs ds ha rl =>
    refine ⟨_, rfl, _, _, _, _, true, rfl, .ty "list", ty, kit_ty (show kitB "list" "list" = some true by decide +kernel), _, rfl, iteT ⟨_, rfl, ?_⟩⟩
    exact go a vs ds H ha rl (Sm.refl _ _) rfl
theorem ok_imp {f fN fI I : Addr} {fd dN dI : FuncData} (F : Fun K "check_import" "check_import" sImp f fd) (B : Blt mg) (GN : Cal P w K mg base (L2.CX P w) 3 "check_names" ["names"] (spCkn I) fN dN) (GI : Cal P w K mg base (L2.CX P w) 4 "item_names" ["item"] (spItem I) fI dI) (XF : PlainC K mg "InvalidForm" I) :
    FnOk P w K mg base (L2.CX P w) 5 f fd ["form"] (spForm I okImp) := by
  refine F.okX scImp (fun vs H Q E h => ?_) (fun cdv A outer s H vs Q E hr h => ?_)
  · obtain ⟨a, us, ds, rfl, _⟩ := h
    rfl
  obtain ⟨a, us, ds, rfl, ha, rl, qO, qE⟩ := h
  have nd := scImp.nd
  have r3 := hr.mono (show 3 ≤ 4 by decide)
  have ll := rl.len
  refine ⟨_, (pss_cons (ps_if (pt_cmpR op_lt (pe_callB call_len_seq (by rfl) B.len PySem.boot_len (pa_cons (pv 0) pa_nil)) pe_int (nomark _)) (pss_one (ps_raise rfl (takes_of rfl rfl rfl rfl) (pmk_plain PySem.F.excBase_ValueError XF.q XF.g XF.k (raises_own XF.s XF.t) rfl pe_str))) pss_nil)
    (pss_cons (ps_expr (pe_call GN.ok r3 rfl GN.g GN.k GN.b .nil (passes_call (takes_of rfl rfl rfl rfl) fun _ _ _ _ h => h) (pa_cons (pe_slice sl_list (pv 0) (po_some pe_int) (po_some pe_int)) pa_nil)))
    (pss_one (ps_for (passes_of rfl) rfl (pi_list (pe_slice sl_list (pv 0) (po_some pe_int) po_none)) (pg_name (i := 1) nd rfl (Or.inl rfl))
      (pss_one (ps_expr (pe_call GI.ok hr rfl GI.g GI.k GI.b .nil (passes_call (takes_of rfl rfl rfl rfl) fun _ _ _ _ h => h) (pa_cons (pv 1) pa_nil)))))))), ?_⟩
  refine ⟨_, rfl, a, _, rfl, .inl (SqL.of ha), _, _, rfl, rfl, _, rfl, ?_⟩
  by_cases h2 : 2 ≤ ds.length
  · rw [decide_eq_false (show ¬ ((us.length : Nat) : Int) < 2 by omega)]
    refine iteF ⟨_, rfl, _, rfl, _, rfl, a, _, rfl, SqL.of ha, fun p hp => ?_⟩
    have e1 : cutV us (some 1) (some 2) = (us.drop 1).take 1 := cut_mid (j := 1) (k := 2) (by decide) (by omega)
    rw [e1]
    have s1 : Sm No H (upd H p (.lst ((us.drop 1).take 1))) := Sm.new hp
    refine ⟨p, _, (ds.drop 1).take 1, rfl, upd_same, ((rl.drop 1).take 1).sm s1, fun c1 H2 s2 => ?_, fun c1 H2 s2 => qE (by unfold okImp; rw [c1, Bool.false_and, Bool.and_false]) H2 (s1.trans s2)⟩
    have s12 := s1.trans s2
    refine ⟨_, rfl, _, rfl, a, _, rfl, SqL.of (s12.lst0 ha), fun p2 hp2 => ?_⟩
    have e2 : cutV us (some 2) none = us.drop 2 := cut_lo (k := 2) (by omega)
    rw [e2]
    have s3 := s12.trans (Sm.new (o := .lst (us.drop 2)) hp2)
    have al := (rl.drop 2).al
    refine ⟨p2, rfl, ⟨_, SqL.of upd_same⟩, ?_⟩
    refine for_list (xs := us.drop 2) (fun i σ H' => ∃ v1, σ = [some (.ref a), v1] ∧ ((ds.drop 2).take i).all okItem = true ∧ H' p2 = some (.lst (us.drop 2)) ∧ Sm No H H') ⟨none, rfl, by rw [List.take_zero]; rfl, upd_same, s3⟩ (fun i σ H' _ ⟨_, _, _, e, _⟩ => SqL.of e) ?_ ?_
    · rintro i x σ H4 hi ⟨v1, rfl, a1, e4, s4⟩
      obtain ⟨d, hd, rd⟩ := al.2 i x hi
      refine ⟨_, rfl, x, d, rfl, rd.sm s4, fun c2 u H5 s5 => ⟨_, rfl, ?_, s5.lst0 e4, s4.trans s5⟩, fun c2 H5 s5 => qE ?_ H5 (s4.trans s5)⟩
      · rw [take_nx hd, List.all_append, a1]
        simp [c2]
      · unfold okImp
        have z : (ds.drop 2).all okItem = false := by
          rw [cut_at hd, List.all_append, List.all_cons, c2]
          simp
        rw [z, Bool.and_false, Bool.and_false]
    · rintro σ H4 ⟨v1, rfl, a1, e4, s4⟩
      rw [al.len, List.take_length] at a1
      refine qO ?_ H4 s4
      unfold okImp
      rw [decide_eq_true h2, c1, a1]; rfl
  · rw [decide_eq_true (show ((us.length : Nat) : Int) < 2 by omega)]
    exact iteT ⟨rfl, qE (by unfold okImp; rw [decide_eq_false h2]; rfl) H (Sm.refl _ _)⟩
theorem ok_exp {f fN I : Addr} {fd dN : FuncData} (F : Fun K "check_export" "check_export" sExp f fd) (B : Blt mg) (GN : Cal P w K mg base (L2.CX P w) 3 "check_names" ["names"] (spCkn I) fN dN) (XF : PlainC K mg "InvalidForm" I) :
    FnOk P w K mg base (L2.CX P w) 4 f fd ["form"] (spForm I okExp) := by
  refine F.okX scExp (fun vs H Q E h => ?_) (fun cdv A outer s H vs Q E hr h => ?_)
  · obtain ⟨a, us, ds, rfl, _⟩ := h
    rfl
  obtain ⟨a, us, ds, rfl, ha, rl, qO, qE⟩ := h
  have nd := scExp.nd
  have ll := rl.len
  refine ⟨_, (pss_cons (ps_if (pt_cmpR op_lt (pe_callB call_len_seq (by rfl) B.len PySem.boot_len (pa_cons (pv 0) pa_nil)) pe_int (nomark _)) (pss_one (ps_raise rfl (takes_of rfl rfl rfl rfl) (pmk_plain PySem.F.excBase_ValueError XF.q XF.g XF.k (raises_own XF.s XF.t) rfl pe_str))) pss_nil)
    (pss_one (ps_expr (pe_call GN.ok hr rfl GN.g GN.k GN.b .nil (passes_call (takes_of rfl rfl rfl rfl) fun _ _ _ _ h => h) (pa_cons (pe_slice sl_list (pv 0) (po_some pe_int) po_none) pa_nil))))), ?_⟩
  refine ⟨_, rfl, a, _, rfl, .inl (SqL.of ha), _, _, rfl, rfl, _, rfl, ?_⟩
  by_cases h2 : 2 ≤ ds.length
  · rw [decide_eq_false (show ¬ ((us.length : Nat) : Int) < 2 by omega)]
    refine iteF ⟨_, rfl, _, rfl, a, _, rfl, SqL.of ha, fun p hp => ?_⟩
    have e1 : cutV us (some 1) none = us.drop 1 := cut_lo (k := 1) (by omega)
    rw [e1]
    have s1 : Sm No H (upd H p (.lst (us.drop 1))) := Sm.new hp
    exact ⟨p, _, ds.drop 1, rfl, upd_same, (rl.drop 1).sm s1, fun c1 H2 s2 => qO (by unfold okExp; rw [c1, decide_eq_true h2]; rfl) H2 (s1.trans s2), fun c1 H2 s2 => qE (by unfold okExp; rw [c1, Bool.and_false]) H2 (s1.trans s2)⟩
  · rw [decide_eq_true (show ((us.length : Nat) : Int) < 2 by omega)]
    exact iteT ⟨rfl, qE (by unfold okExp; rw [decide_eq_false h2]; rfl) H (Sm.refl _ _)⟩
theorem ok_def {f fN I : Addr} {fd dN : FuncData} (F : Fun K "check_define" "check_define" sDef f fd) (B : Blt mg) (GN : Cal P w K mg base (L2.CX P w) 3 "check_names" ["names"] (spCkn I) fN dN) (XF : PlainC K mg "InvalidForm" I) :
    FnOk P w K mg base (L2.CX P w) 4 f fd ["form"] (spForm I okDef) := by
  refine F.okX scDef (fun vs H Q E h => ?_) (fun cdv A outer s H vs Q E hr h => ?_)
  · obtain ⟨a, us, ds, rfl, _⟩ := h
    rfl
  obtain ⟨a, us, ds, rfl, ha, rl, qO, qE⟩ := h
  have nd := scDef.nd
  have ll := rl.len
  refine ⟨_, (pss_cons (ps_if (pt_cmpR op_ne (pe_callB call_len_seq (by rfl) B.len PySem.boot_len (pa_cons (pv 0) pa_nil)) pe_int (nomark _)) (pss_one (ps_raise rfl (takes_of rfl rfl rfl rfl) (pmk_plain PySem.F.excBase_ValueError XF.q XF.g XF.k (raises_own XF.s XF.t) rfl pe_str))) pss_nil)
    (pss_one (ps_expr (pe_call GN.ok hr rfl GN.g GN.k GN.b .nil (passes_call (takes_of rfl rfl rfl rfl) fun _ _ _ _ h => h) (pa_cons (pe_slice sl_list (pv 0) (po_some pe_int) (po_some pe_int)) pa_nil))))), ?_⟩
  refine ⟨_, rfl, a, _, rfl, .inl (SqL.of ha), rfl, _, rfl, ?_⟩
  by_cases h3 : ds.length = 3
  · rw [show (!decide (V.int ((us.length : Nat) : Int) = V.int 3)) = false by rw [ll, h3]; decide +kernel]
    refine iteF ⟨_, rfl, _, rfl, _, rfl, a, _, rfl, SqL.of ha, fun p hp => ?_⟩
    have e1 : cutV us (some 1) (some 2) = (us.drop 1).take 1 := cut_mid (j := 1) (k := 2) (by decide) (by omega)
    rw [e1]
    have s1 : Sm No H (upd H p (.lst ((us.drop 1).take 1))) := Sm.new hp
    exact ⟨p, _, (ds.drop 1).take 1, rfl, upd_same, ((rl.drop 1).take 1).sm s1, fun c1 H2 s2 => qO (by unfold okDef; rw [c1, decide_eq_true h3]; rfl) H2 (s1.trans s2), fun c1 H2 s2 => qE (by unfold okDef; rw [c1, Bool.and_false]) H2 (s1.trans s2)⟩
  · rw [show (!decide (V.int ((us.length : Nat) : Int) = V.int 3)) = true by
      rw [decide_eq_false fun e => h3 (by have := V.int.inj e; omega)]; rfl]
    exact iteT ⟨rfl, qE (by unfold okDef; rw [decide_eq_false h3]; rfl) H (Sm.refl _ _)⟩
end
end My
namespace My
open PySem PySem.Spec PyProof.Rows L2 TL
/-! ### check_size (of data within the bounds) -/
mutual
def szT : Dt → Nat
  | .lst ds => szTs ds + 1
  | .int _ => 1
  | .str _ => 1
def szTs : List Dt → Nat
  | [] => 0
  | d :: ds => szT d + szTs ds
end
mutual
def DpOk : Nat → Dt → Prop
  | n, .lst ds => n ≤ 60 ∧ DpOks (n + 1) ds
  | n, .int _ => n ≤ 60
  | n, .str _ => n ≤ 60
def DpOks : Nat → List Dt → Prop
  | _, [] => True
  | n, d :: ds => DpOk n d ∧ DpOks n ds
end
theorem DpOk.le {n : Nat} {d : Dt} (h : DpOk n d) : n ≤ 60 := by
  cases d with
  | int i => unfold DpOk at h; exact h
  | str s => unfold DpOk at h; exact h
  | lst ds => unfold DpOk at h; exact h.1
theorem szT_pos (d : Dt) : 1 ≤ szT d := by
  cases d with
  | int i => unfold szT; omega
  | str s => unfold szT; omega
  | lst ds => unfold szT; omega
theorem szTs_sum : ∀ ds : List Dt, szTs ds = (ds.map szT).sum
  | [] => by unfold szTs; rfl
  | d :: r => by unfold szTs; rw [List.map_cons, List.sum_cons, szTs_sum r]
theorem len_szTs : ∀ ds : List Dt, ds.length ≤ szTs ds
  | [] => Nat.zero_le _
  | d :: r => by
    have := len_szTs r
    have := szT_pos d
    unfold szTs
    rw [List.length_cons]; omega
theorem DpOks.mem : ∀ {n : Nat} {ds : List Dt}, DpOks n ds → ∀ d ∈ ds, DpOk n d
  | _, [], _, _, m => by cases m
  | n, x :: r, h, d, m => by
    unfold DpOks at h
    rcases List.mem_cons.mp m with rfl | m
    · exact h.1
    · exact h.2.mem d m
/-- an entry of the stack: (datum, around); the datum stood at the beginning -/
def PrR (H0 H : Hp) (v : V) (x : Dt × Nat) : Prop := ∃ p u, v = .ref p ∧ H p = some (.tup [u, .int (x.2 : Nat)]) ∧ Rq H0 u x.1
theorem PrR.sm {H0 H H' : Hp} {v : V} {x : Dt × Nat} (h : PrR H0 H v x) (e : Sm No H H') : PrR H0 H' v x := let ⟨p, u, a, b, c⟩ := h; ⟨p, u, a, e.tup (fun z => z) b, c⟩
theorem PrR.put {H0 H : Hp} {v : V} {x : Dt × Nat} {a : Addr} {ys : List V} {o : HO} (h : PrR H0 H v x) (ha : H a = some (.lst ys)) : PrR H0 (upd H a o) v x :=
  let ⟨p, u, e, b, c⟩ := h; ⟨p, u, e, by rw [upd_ne (fun z => by rw [z, ha] at b; cases b)]; exact b, c⟩
theorem Al.last {α : Type} {R : V → α → Prop} {vs : List V} {xs : List α} (h : Al R vs xs) (n : vs ≠ []) : ∃ vs' y xs' x, vs = vs' ++ [y] ∧ xs = xs' ++ [x] ∧ Al R vs' xs' ∧ R y x := by
  rcases List.eq_nil_or_concat vs with e | ⟨vs', y, e⟩
  · exact absurd e n
  rcases List.eq_nil_or_concat xs with e2 | ⟨xs', x, e2⟩
  · have := h.1
    rw [e2, List.length_nil] at this
    exact absurd (List.length_eq_zero_iff.mp this) n
  rw [List.concat_eq_append] at e e2
  subst e e2
  have l := h.1
  rw [List.length_append, List.length_append] at l
  have l' : vs'.length = xs'.length := by simpa using l
  refine ⟨vs', y, xs', x, rfl, rfl, ?_, ?_⟩
  · have := h.take vs'.length
    rw [List.take_left, l', List.take_left] at this
    exact this
  · obtain ⟨x', hx, r⟩ := h.2 vs'.length y (by simp)
    rw [l', List.getElem?_append_right (Nat.le_refl _)] at hx
    have : x = x' := by simpa using hx
    rw [this]; exact r
def sumZ (ps : List (Dt × Nat)) : Nat := (ps.map fun x => szT x.1).sum
theorem sumZ_app (a b : List (Dt × Nat)) : sumZ (a ++ b) = sumZ a + sumZ b := by unfold sumZ; rw [List.map_append, List.sum_append]
theorem len_sumZ : ∀ ps : List (Dt × Nat), ps.length ≤ sumZ ps
  | [] => Nat.zero_le _
  | x :: r => by
    have := len_sumZ r
    have := szT_pos x.1
    unfold sumZ at *
    rw [List.map_cons, List.sum_cons, List.length_cons]; omega
def spSize : Sp := fun vs H Q _ => ∃ (v : V) (d : Dt), vs = [v] ∧ Rq H v d ∧ szT d ≤ 500 ∧ DpOk 0 d ∧ ∀ H', Sm No H H' → Q .non H'
abbrev sSize : Stmt := top 16
abbrev NSz : List Str := ["rule", "many", "rest", "datum", "around", "part"]
section
variable {P : Program} {w : World} {K : PySem.W.Frag} {mg : Str → Option Value} {base : Heap}
theorem scSize : FnScope NSz ["rule"] (defScope sSize) := ⟨rfl, rfl, rfl, by decide +kernel, rfl, by decide +kernel, by decide +kernel⟩
theorem ok_size {f T L : Addr} {fd : FuncData} (F : Fun K "check_size" "check_size" sSize f fd) (B : Blt mg) (XT : PlainC K mg "TooDeep" T) (XL : PlainC K mg "TooLarge" L) (eL : ∃ t, mg "MOST_LISTS" = some (.int 60 t)) (eM : ∃ t, mg "MOST_DATA" = some (.int 500 t)) :
    FnOk P w K mg base (L2.CX P w) 1 f fd ["rule"] spSize := by
  refine F.okX scSize (fun vs H Q E h => ?_) (fun cdv A outer s H vs Q E hr h => ?_)
  · obtain ⟨v, d, rfl, _⟩ := h
    rfl
  obtain ⟨v, d, rfl, r, hz, hd, q⟩ := h
  have nd := scSize.nd
  obtain ⟨t1, eL⟩ := eL
  obtain ⟨t2, eM⟩ := eM
  refine ⟨_, (pss_cons (ps_set (i := 1) nd rfl (Or.inl rfl) pe_int)
    (pss_cons (ps_set (i := 2) nd rfl (Or.inl rfl) (pe_lst (pa_cons (pe_tup (pa_cons (pv 0) (pa_cons pe_int pa_nil))) pa_nil)))
    (pss_one (ps_while (passes_of rfl) (pt_truth (pv 2) (by intro _; rfl))
      (pss_cons (ps_asg (pe_bm0 PySem.F.plainAttrs_list PySem.F.slot_list_pop PySem.F.type_list_pop mt_pop (pv 2)) (pg_tup rfl (pgs_cons (pg_name (i := 3) nd rfl (Or.inl rfl)) (pgs_cons (pg_name (i := 4) nd rfl (Or.inr rfl)) pgs_nil))))
      (pss_cons (ps_aug (i := 1) nd rfl (Or.inl rfl) pe_int ip_add)
      (pss_cons (ps_if (pt_cmpR op_gt (pv 4) (pe_glob (v := .int 60) rfl eL ⟨_, rfl⟩) (nomark _)) (pss_one (ps_raise rfl (takes_of rfl rfl rfl rfl) (pmk_plain PySem.F.excBase_ValueError XT.q XT.g XT.k (raises_own XT.s XT.t) rfl (pe_joined (PJ.cons pe_str (PJ.cons (pe_fmt (pe_glob (v := .int 60) rfl eL ⟨_, rfl⟩)) (PJ.cons pe_str PJ.nil))))))) pss_nil)
      (pss_cons (ps_if (pt_cmpR op_gt (pv 1) (pe_glob (v := .int 500) rfl eM ⟨_, rfl⟩) (nomark _)) (pss_one (ps_raise rfl (takes_of rfl rfl rfl rfl) (pmk_plain PySem.F.excBase_ValueError XL.q XL.g XL.k (raises_own XL.s XL.t) rfl (pe_joined (PJ.cons pe_str (PJ.cons (pe_fmt (pe_glob (v := .int 500) rfl eM ⟨_, rfl⟩)) (PJ.cons pe_str PJ.nil))))))) pss_nil)
      (pss_one (ps_if (pt_val (pe_callB call_isi (by rfl) B.isinstance (by decide +kernel) (pa_cons (pv 3) (pa_cons (pe_bltn (v := .ty "list") (by rfl) B.list (by decide +kernel) rfl) pa_nil)))) (pss_one (ps_expr (pe_bm PySem.F.plainAttrs_list PySem.F.slot_list_extend PySem.F.type_list_extend mt_extend (pv 2) (pa_cons (pe_lc (own := [("part", 5)]) (g := gName 5) (tt := tYes) rfl nd (pi_list (pe_revL (pv 3))) (blkOk_by (N := NSz) (sc := defScope sSize) (by decide +kernel)) (fun _ _ _ _ _ => (pg_name (i := 5) nd rfl (Or.inl rfl) (hf := Or.inr rfl))) (fun _ _ _ _ _ => pts_nil) (fun _ _ _ _ _ => (pe_tup (pa_cons (pv 5) (pa_cons (pe_op op_add (pv 4) pe_int) pa_nil))))) pa_nil)))) pss_nil)))))))))), ?_⟩
  refine ⟨_, rfl, by show 2 ≤ sizeLine; decide, fun p0 hp0 => ⟨by show 1 ≤ sizeLine; decide, fun R hR => ?_⟩⟩
  have s1 : Sm No H (upd H p0 (.tup [v, .int 0])) := Sm.new hp0
  have s2 := s1.trans (Sm.new (o := .lst [.ref p0]) hR)
  have hR0 : H R = none := s1.dom R hR
  have pR : p0 ≠ R := fun z => by rw [← z, upd_same] at hR; cases hR
  refine ⟨fun m σ H' => ∃ (many : Nat) (v3 v4 v5 : Option V) (ps : List (Dt × Nat)) (vs : List V), σ = [some v, some (.int (many : Nat)), some (.ref R), v3, v4, v5] ∧ H' R = some (.lst vs) ∧ Al (PrR H H') vs ps ∧ sumZ ps + many ≤ 500 ∧ (∀ x ∈ ps, DpOk x.2 x.1) ∧ m = sumZ ps ∧ Sm No H H',
    ⟨_, 0, none, none, none, [(d, 0)], [.ref p0], rfl, upd_same, Al.one ⟨p0, v, rfl, by rw [upd_ne pR, upd_same]; rfl, r⟩, ?_, ?_, rfl, s2⟩, ?_⟩
  · show szT d + 0 + 0 ≤ 500; omega
  · intro x hx
    have : x = (d, 0) := by simpa using hx
    rw [this]; exact hd
  rintro m σ H1 ⟨many, v3, v4, v5, ps, vs, rfl, h1, al, hs, dp, rfl, s3⟩
  refine ⟨_, rfl, _, .inl ⟨_, SqL.of h1, rfl⟩, ?_⟩
  by_cases hn : vs = []
  · subst hn
    exact iteF (q H1 s3)
  obtain ⟨vs', y, ps', x, rfl, rfl, al', p, u, rfl, hp, ru⟩ := al.last hn
  rw [show (!(vs' ++ [V.ref p]).isEmpty) = true by cases vs' <;> rfl]
  refine iteT ?_
  refine ⟨fun σ H' => ∃ (v3 v4 v5 : Option V) (ps : List (Dt × Nat)) (vs : List V), σ = [some v, some (.int ((many + 1 : Nat) : Int)), some (.ref R), v3, v4, v5] ∧ H' R = some (.lst vs) ∧ Al (PrR H H') vs ps ∧ sumZ ps + 1 ≤ sumZ (ps' ++ [x]) ∧ (∀ z ∈ ps, DpOk z.2 z.1) ∧ Sm No H H', ?_, ?_⟩
  · rintro σ H' ⟨v3, v4, v5, ps2, vs2, e, a, b, c, d', s⟩
    exact ⟨sumZ ps2, by omega, many + 1, v3, v4, v5, ps2, vs2, e, a, b, by omega, d', rfl, s⟩
  refine ⟨_, rfl, .inl ⟨rfl, _, SqL.of h1⟩, R, _, .ref p, rfl, rfl, h1, by simp, ?_⟩
  have dl : (vs' ++ [V.ref p]).dropLast = vs' := List.dropLast_concat
  rw [dl]
  have s4 : Sm No H (upd H1 R (.lst vs')) := s3.mut hR0 (ntbl_l h1)
  have hp2 : upd H1 R (.lst vs') p = some (.tup [u, .int (x.2 : Nat)]) := by rw [upd_ne (fun z => by rw [z, h1] at hp; cases hp)]; exact hp
  have al2 : Al (PrR H (upd H1 R (.lst vs'))) vs' ps' := al'.mono fun _ _ z => z.put h1
  have h2 : upd H1 R (.lst vs') R = some (.lst vs') := upd_same
  dsimp only
  generalize upd H1 R (.lst vs') = H2 at s4 hp2 al2 h2
  have dx := dp x (by simp)
  have x60 := dx.le
  have zx := szT_pos x.1
  have es : sumZ (ps' ++ [x]) = sumZ ps' + szT x.1 := by rw [sumZ_app]; show _ + (szT x.1 + 0) = _; omega
  have lps := len_sumZ ps'
  have lvs := al2.len
  refine ⟨p, _, rfl, SqT.of hp2, rfl, _, _, rfl, _, _, rfl, rfl, ?_⟩
  refine ⟨_, rfl, _, _, rfl, rfl, ?_⟩
  refine ⟨_, rfl, _, _, rfl, rfl, _, rfl, ?_⟩
  rw [decide_eq_false (show ¬ ((60 : Int) < ((x.2 : Nat) : Int)) by omega)]
  refine iteF ⟨_, rfl, _, _, rfl, rfl, _, rfl, ?_⟩
  rw [decide_eq_false (show ¬ ((500 : Int) < ((many : Nat) : Int) + 1) by omega)]
  refine iteF ?_
  have ty := (ru.sm s4).ty (K := K)
  obtain ⟨xd, xn⟩ := x
  cases ru with
  | int i =>
    refine ⟨_, rfl, _, _, _, _, false, rfl, .ty "list", ty, kit_ty (show kitB "int" "list" = some false by decide +kernel), _, rfl, iteF ?_⟩
    exact ⟨_, _, _, ps', vs', rfl, h2, al2, by rw [es]; show sumZ ps' + 1 ≤ sumZ ps' + szT (.int i); have := szT_pos (.int i); omega, fun z hz => dp z (List.mem_append_left _ hz), s4⟩
  | str i =>
    refine ⟨_, rfl, _, _, _, _, false, rfl, .ty "list", ty, kit_ty (show kitB "str" "list" = some false by decide +kernel), _, rfl, iteF ?_⟩
    exact ⟨_, _, _, ps', vs', rfl, h2, al2, by rw [es]; show sumZ ps' + 1 ≤ sumZ ps' + szT (.str i); have := szT_pos (.str i); omega, fun z hz => dp z (List.mem_append_left _ hz), s4⟩
  | @lst a us ds ha rl =>
    have ha2 := s4.lst0 ha
    have ez : szT (.lst ds) = szTs ds + 1 := by unfold szT; rfl
    have dds : DpOks (xn + 1) ds := by unfold DpOk at dx; exact dx.2
    refine ⟨_, rfl, _, _, _, _, true, rfl, .ty "list", ty, kit_ty (show kitB "list" "list" = some true by decide +kernel), _, rfl, iteT ?_⟩
    refine ⟨_, rfl, .inl ⟨rfl, _, SqL.of h2⟩, _, rfl, a, _, rfl, SqL.of ha2, fun rv hrv => ⟨rv, rfl, ⟨_, SqL.of upd_same⟩, fun Dn hDn => ?_⟩⟩
    have alr := rl.al.rev
    have lrs := rl.len
    have lds := len_szTs ds
    have s5 : Sm No H2 (upd H2 rv (.lst us.reverse)) := Sm.new hrv
    have er : szT ((Dt.lst ds, xn) : Dt × Nat).1 = szTs ds + 1 := ez
    refine lc_list (xs := us.reverse) (fun j H' => ∃ ws, H' Dn = some (.lst ws) ∧ Al (PrR H H') ws ((ds.reverse.take j).map fun d => (d, xn + 1)) ∧ ws.length = j ∧ H' rv = some (.lst us.reverse) ∧ Sm No H2 H')
      ⟨[], upd_same, by rw [List.take_zero]; exact Al.nil, rfl, (Sm.new hDn : Sm No _ _).lst0 upd_same, s5.trans (Sm.new hDn)⟩ (fun j H' _ ⟨_, _, _, _, e, _⟩ => SqL.of e) ?_ ?_
    · rintro j y H3 hj ⟨ws, h3, al3, lw, e3, s6⟩
      obtain ⟨d', hd', rd⟩ := alr.2 j y hj
      have jl := (List.getElem?_eq_some_iff.mp hj).1
      rw [List.length_reverse] at jl
      refine ⟨rfl, _, rfl, _, rfl, _, _, rfl, rfl, by show 2 ≤ sizeLine; decide, fun t2 ht2 => ?_⟩
      have s7 : Sm No H3 (upd H3 t2 (.tup [y, .int ((xn + 1 : Nat) : Int)])) := Sm.new ht2
      have h7 := s7.lst0 h3
      have e7 := s7.lst0 e3
      have tD : t2 ≠ Dn := fun z => by rw [z, h3] at ht2; cases ht2
      have rD : rv ≠ Dn := fun z => by rw [← z, upd_same] at hDn; cases hDn
      refine ⟨ws, h7, line_of (by omega), ws ++ [.ref t2], upd_same, ?_, by rw [List.length_append, lw]; rfl, by rw [upd_ne rD]; exact e7, (s6.trans s7).mut (s5.dom Dn hDn) (ntbl_l h7)⟩
      rw [take_nx hd', List.map_append]
      exact (al3.mono fun _ _ z => (z.sm s7).put h7).snoc ⟨t2, y, rfl, by rw [upd_ne tD, upd_same], rd⟩
    · rintro H3 ⟨ws, h3, al3, lw, e3, s6⟩
      rw [alr.len, List.take_length] at al3
      rw [List.length_reverse] at lw
      have hR3 := s6.lst0 h2
      refine ⟨R, Dn, vs', ws, rfl, rfl, hR3, h3, Nat.le_of_lt (line_of (by omega)), ?_⟩
      refine ⟨_, _, _, ps' ++ ds.reverse.map (fun d => (d, xn + 1)), vs' ++ ws, rfl, upd_same, ?_, ?_, fun z hz => ?_, (s4.trans s6).mut hR0 (ntbl_l hR3)⟩
      · exact ((al2.mono fun _ _ z => (z.sm s6).put hR3)).app (al3.mono fun _ _ z => z.put hR3)
      · rw [es, sumZ_app, er]
        have : sumZ (ds.reverse.map fun d => (d, xn + 1)) = szTs ds := by
          unfold sumZ
          rw [List.map_map, szTs_sum]
          show (ds.reverse.map szT).sum = _
          rw [List.map_reverse, List.sum_reverse]
        omega
      · rcases List.mem_append.mp hz with hz | hz
        · exact dp z (List.mem_append_left _ hz)
        · obtain ⟨d', hd', rfl⟩ := List.mem_map.mp hz
          exact dds.mem d' (List.mem_reverse.mp hd')
end
end My
namespace My
open PySem PySem.Spec PyProof.Rows L2 TL
/-! ### words_of -/
mutual
def occ (s : Str) : Dt → Bool
  | .lst ds => occs s ds
  | .str z => decide (z = s)
  | .int _ => false
def occs (s : Str) : List Dt → Bool
  | [] => false
  | d :: ds => occ s d || occs s ds
end
theorem occs_any (s : Str) : ∀ ds : List Dt, occs s ds = ds.any (occ s)
  | [] => by unfold occs; rfl
  | d :: r => by unfold occs; rw [List.any_cons, occs_any s r]
def spWof : Sp := fun vs H Q _ => ∃ (v : V) (d : Dt), vs = [v] ∧ Rq H v d ∧ szT d ≤ 500 ∧ ∀ (L : Addr) (ws : List Str) (H' : Hp), Sm No H H' → H' L = some (.lst (ws.map V.str)) → ws.length ≤ 500 → (∀ s, ws.contains s = occ s d) → Q (.ref L) H'
abbrev sWof : Stmt := top 17
abbrev NWo : List Str := ["datum", "found", "rest", "part"]
theorem szT_lst (ds : List Dt) : szT (.lst ds) = (ds.map szT).sum + 1 := by unfold szT; rw [szTs_sum]
theorem len_sum : ∀ ps : List Dt, ps.length ≤ (ps.map szT).sum
  | [] => Nat.zero_le _
  | x :: r => by
    have := len_sum r
    have := szT_pos x
    rw [List.map_cons, List.sum_cons, List.length_cons]; omega
section
variable {P : Program} {w : World} {K : PySem.W.Frag} {mg : Str → Option Value} {base : Heap}
theorem scWof : FnScope NWo ["datum"] (defScope sWof) := ⟨rfl, rfl, rfl, by decide +kernel, rfl, by decide +kernel, by decide +kernel⟩
theorem ok_wof {f fW : Addr} {fd dW : FuncData} (F : Fun K "words_of" "words_of" sWof f fd) (B : Blt mg) (GW : Cal P w K mg base CX0 1 "is_word" ["datum"] spWd fW dW) : FnOk P w K mg base CX0 2 f fd ["datum"] spWof := by
  refine F.ok scWof (fun vs H Q E h => ?_) (fun cdv A outer s H vs Q E hr h => ?_)
  · obtain ⟨v, d, rfl, _⟩ := h
    rfl
  obtain ⟨v, d, rfl, r, hz, q⟩ := h
  have nd := scWof.nd
  refine ⟨_, (pss_cons (ps_set (i := 1) nd rfl (Or.inl rfl) (pe_lst pa_nil))
    (pss_cons (ps_set (i := 2) nd rfl (Or.inl rfl) (pe_lst (pa_cons (pv 0) pa_nil)))
    (pss_cons (ps_while PassesOwn.never (pt_truth (pv 2) (by intro _; rfl))
      (pss_cons (ps_set (i := 3) nd rfl (Or.inl rfl) (pe_bm0 PySem.F.plainAttrs_list PySem.F.slot_list_pop PySem.F.type_list_pop mt_pop (pv 2)))
      (pss_one (ps_if (pt_val (pe_callB call_isi (by rfl) B.isinstance (by decide +kernel) (pa_cons (pv 3) (pa_cons (pe_bltn (v := .ty "list") (by rfl) B.list (by decide +kernel) rfl) pa_nil)))) (pss_one (ps_expr (pe_bm PySem.F.plainAttrs_list PySem.F.slot_list_extend PySem.F.type_list_extend mt_extend (pv 2) (pa_cons (pv 3) pa_nil)))) (pss_one (ps_if (pt_val (pe_call GW.ok hr rfl GW.g GW.k GW.b .nil pass0 (pa_cons (pv 3) pa_nil))) (pss_one (ps_expr (pe_bm PySem.F.plainAttrs_list PySem.F.slot_list_append PySem.F.type_list_append mt_append (pv 1) (pa_cons (pv 3) pa_nil)))) pss_nil))))))
    (pss_one (ps_ret (pv 1)))))), ?_⟩
  refine ⟨by show 0 ≤ sizeLine; decide, fun Fd hF => ?_⟩
  have s1 : Sm No H (upd H Fd (.lst [])) := Sm.new hF
  refine ⟨_, rfl, by show 1 ≤ sizeLine; decide, fun R hR => ?_⟩
  have FR : Fd ≠ R := fun z => by rw [← z, upd_same] at hR; cases hR
  have hR0 : H R = none := s1.dom R hR
  refine ⟨fun m σ H' => ∃ (v3 : Option V) (ps : List Dt) (vs : List V) (fs : List Str), σ = [some v, some (.ref Fd), some (.ref R), v3] ∧ H' R = some (.lst vs) ∧ H' Fd = some (.lst (fs.map V.str)) ∧ Al (Rq H) vs ps ∧ (ps.map szT).sum + fs.length ≤ 500 ∧ (∀ s, (fs.contains s || ps.any (occ s)) = occ s d) ∧ m = (ps.map szT).sum ∧ Sm No H H',
    ⟨_, none, [d], [v], [], rfl, upd_same, by rw [upd_ne FR, upd_same]; rfl, Al.one r, by show szT d + 0 + 0 ≤ 500; omega, fun s => by show (false || (occ s d || false)) = _; rw [Bool.or_false, Bool.false_or], rfl, s1.trans (Sm.new hR)⟩, ?_⟩
  rintro m σ H1 ⟨v3, ps, vs, fs, rfl, h1, f1, al, hs, oc, rfl, s3⟩
  refine ⟨_, rfl, _, .inl ⟨_, SqL.of h1, rfl⟩, ?_⟩
  by_cases hn : vs = []
  · subst hn
    have pn : ps = [] := List.length_eq_zero_iff.mp al.len.symm
    subst pn
    refine iteF ⟨_, rfl, q Fd fs H1 s3 f1 (by omega) fun s => ?_⟩
    have := oc s
    rw [List.any_nil, Bool.or_false] at this
    exact this
  obtain ⟨vs', y, ps', x, rfl, rfl, al', ry⟩ := al.last hn
  rw [show (!(vs' ++ [y]).isEmpty) = true by cases vs' <;> rfl]
  refine iteT ?_
  have es : ((ps' ++ [x]).map szT).sum = (ps'.map szT).sum + szT x := by rw [List.map_append, List.sum_append]; rfl
  refine ⟨fun σ H' => ∃ (v3 : Option V) (ps : List Dt) (vs : List V) (fs : List Str), σ = [some v, some (.ref Fd), some (.ref R), v3] ∧ H' R = some (.lst vs) ∧ H' Fd = some (.lst (fs.map V.str)) ∧ Al (Rq H) vs ps ∧ (ps.map szT).sum + fs.length ≤ 500 ∧ (∀ s, (fs.contains s || ps.any (occ s)) = occ s d) ∧ (ps.map szT).sum + 1 ≤ ((ps' ++ [x]).map szT).sum ∧ Sm No H H', ?_, ?_⟩
  · rintro σ H' ⟨v3, ps2, vs2, fs2, e, a, b, c, d', o, lt, s⟩
    exact ⟨(ps2.map szT).sum, by omega, v3, ps2, vs2, fs2, e, a, b, c, d', o, rfl, s⟩
  refine ⟨_, rfl, .inl ⟨rfl, _, SqL.of h1⟩, R, _, y, rfl, rfl, h1, by simp, ?_⟩
  have dl : (vs' ++ [y]).dropLast = vs' := List.dropLast_concat
  rw [dl]
  have s4 : Sm No H (upd H1 R (.lst vs')) := s3.mut hR0 (ntbl_l h1)
  have h2 : upd H1 R (.lst vs') R = some (.lst vs') := upd_same
  have f2 : upd H1 R (.lst vs') Fd = some (.lst (fs.map V.str)) := by rw [upd_ne FR]; exact f1
  dsimp only
  generalize upd H1 R (.lst vs') = H2 at s4 h2 f2
  have zx := szT_pos x
  have lps := len_sum ps'
  have lvs := al'.len
  have ty := (ry.sm s4).ty (K := K)
  have oc' : ∀ s, (fs.contains s || (ps'.any (occ s) || occ s x)) = occ s d := fun s => by
    have := oc s
    rw [List.any_append, List.any_cons, List.any_nil, Bool.or_false] at this
    exact this
  have ry2 := ry.sm s4
  cases ry with
  | int i =>
    refine ⟨_, rfl, _, _, _, _, false, rfl, .ty "list", ty, kit_ty (show kitB "int" "list" = some false by decide +kernel), _, rfl, iteF ⟨_, rfl, _, _, rfl, ry2, _, rfl, iteF ?_⟩⟩
    refine ⟨_, ps', vs', fs, rfl, h2, f2, al', by omega, fun s => ?_, by omega, s4⟩
    have := oc' s
    rw [show occ s (.int i) = false by unfold occ; rfl, Bool.or_false] at this
    exact this
  | str z =>
    refine ⟨_, rfl, _, _, _, _, false, rfl, .ty "list", ty, kit_ty (show kitB "str" "list" = some false by decide +kernel), _, rfl, iteF ⟨_, rfl, _, _, rfl, ry2, _, rfl, iteT ?_⟩⟩
    refine ⟨_, rfl, .inl ⟨rfl, _, SqL.of f2⟩, _, rfl, Fd, _, _, rfl, rfl, f2, by rw [List.length_map]; exact line_of (by omega), ?_⟩
    refine ⟨_, ps', vs', fs ++ [z], rfl, by rw [upd_ne (Ne.symm FR)]; exact h2, by rw [upd_same, List.map_append]; rfl, al', by rw [List.length_append, List.length_singleton]; omega, fun s => ?_, by omega, s4.mut hF (ntbl_l f2)⟩
    have := oc' s
    rw [show occ s (.str z) = decide (z = s) by unfold occ; rfl] at this
    rw [← this]
    have e : (fs ++ [z]).contains s = (fs.contains s || decide (z = s)) := by
      rw [Bool.eq_iff_iff, Bool.or_eq_true, List.contains_iff_mem, List.contains_iff_mem, decide_eq_true_iff, List.mem_append, List.mem_singleton]
      exact ⟨fun h => h.imp id Eq.symm, fun h => h.imp id Eq.symm⟩
    rw [e]
    cases fs.contains s <;> cases decide (z = s) <;> cases ps'.any (occ s) <;> rfl
  | @lst a us ds ha rl =>
    have ha2 := s4.lst0 ha
    have ez := szT_lst ds
    have lds := len_sum ds
    have lrs := rl.len
    refine ⟨_, rfl, _, _, _, _, true, rfl, .ty "list", ty, kit_ty (show kitB "list" "list" = some true by decide +kernel), _, rfl, iteT ?_⟩
    refine ⟨_, rfl, .inl ⟨rfl, _, SqL.of h2⟩, _, rfl, R, a, vs', us, rfl, rfl, h2, ha2, Nat.le_of_lt (line_of (by omega)), ?_⟩
    refine ⟨_, ps' ++ ds, vs' ++ us, fs, rfl, upd_same, by rw [upd_ne FR]; exact f2, al'.app rl.al, ?_, fun s => ?_, ?_, s4.mut hR0 (ntbl_l h2)⟩
    · rw [List.map_append, List.sum_append]; omega
    · rw [List.any_append, ← oc' s, show occ s (.lst ds) = ds.any (occ s) by unfold occ; exact occs_any s ds]
    · rw [List.map_append, List.sum_append]; omega
end
end My
namespace My
open PySem PySem.Spec PyProof.Rows L2 TL
/-! ### is_variable; data as Python's equality sees them -/
def isVar (nm : List Str) : Dt → Bool
  | .str s => !(nm.contains s)
  | _ => false
def spVar : Sp := fun vs H Q _ => ∃ (v : V) (d : Dt) (l : Addr) (nm : List Str) (g : Str → V), vs = [v, .ref l] ∧ Rq H v d ∧ Rd H l (.dK (dkm nm g)) ∧ Q (.bl (isVar nm d)) H
abbrev sVar : Stmt := top 18
mutual
def pyQ : Dt → PyData
  | .int i => .int i
  | .str s => .str s
  | .lst ds => .list (pyQs ds)
def pyQs : List Dt → List PyData
  | [] => []
  | d :: ds => pyQ d :: pyQs ds
end
mutual
theorem Rq.dp {K : PySem.W.Frag} {H : Hp} : ∀ {v : V} {d : Dt}, Rq H v d → Dp K H v (pyQ d)
  | _, _, .int i => by unfold pyQ; exact .int i
  | _, _, .str s => by unfold pyQ; exact .str s
  | _, _, .lst h r => by unfold pyQ; exact .lst (SqL.of h) (RqL.dp r)
theorem RqL.dp {K : PySem.W.Frag} {H : Hp} : ∀ {vs : List V} {ds : List Dt}, RqL H vs ds → DpAll K H vs (pyQs ds)
  | _, _, .nil => by unfold pyQs; exact .nil
  | _, _, .cons h r => by unfold pyQs; exact .cons (Rq.dp h) (RqL.dp r)
end
/-! the texts within are texts of Python's -/
mutual
def okQ : Dt → Bool
  | .int _ => true
  | .str s => PyData.strOk s
  | .lst ds => okQs ds
def okQs : List Dt → Bool
  | [] => true
  | d :: ds => okQ d && okQs ds
end
mutual
theorem lay_q : ∀ d : Dt, okQ d = true → (pyQ d).canLay0 = true
  | .int i, _ => by unfold pyQ PyData.canLay0; rfl
  | .str s, h => by unfold okQ at h; unfold pyQ PyData.canLay0; exact h
  | .lst ds, h => by unfold okQ at h; unfold pyQ PyData.canLay0; exact lay_qs ds h
theorem lay_qs : ∀ ds : List Dt, okQs ds = true → PyData.canLayAll0 (pyQs ds) = true
  | [], _ => by unfold pyQs PyData.canLayAll0; rfl
  | d :: r, h => by
    unfold okQs at h
    rw [Bool.and_eq_true] at h
    unfold pyQs PyData.canLayAll0
    rw [lay_q d h.1, lay_qs r h.2]; rfl
end
mutual
theorem dep_q : ∀ (n : Nat) (d : Dt), DpOk n d → (pyQ d).depth + n ≤ 62
  | n, .int i, h => by unfold DpOk at h; unfold pyQ PyData.depth; omega
  | n, .str s, h => by unfold DpOk at h; unfold pyQ PyData.depth; omega
  | n, .lst ds, h => by
    unfold DpOk at h
    have := dep_qs (n + 1) ds h.2
    unfold pyQ PyData.depth
    omega
theorem dep_qs : ∀ (n : Nat) (ds : List Dt), DpOks n ds → PyData.depthAll (pyQs ds) + n ≤ 62 ∨ PyData.depthAll (pyQs ds) = 0
  | n, [], _ => .inr (by unfold pyQs PyData.depthAll; rfl)
  | n, d :: r, h => by
    unfold DpOks at h
    have h1 := dep_q n d h.1
    have h2 := dep_qs n r h.2
    unfold pyQs PyData.depthAll
    left
    rcases h2 with h2 | h2 <;> omega
end
theorem shaped_q {d : Dt} (h : okQ d = true) (g : DpOk 0 d) : SeqAt.shaped (pyQ d) = true := by
  unfold SeqAt.shaped
  have := dep_q 0 d g
  rw [lay_q d h, decide_eq_true (by omega)]; rfl
def isDots : Dt → Bool
  | .str s => decide (s = "...")
  | _ => false
theorem eqv_dots (d : Dt) : PyData.eqv (pyQ d) (.str "...") = isDots d := by
  cases d with
  | int i => unfold pyQ PyData.eqv; rfl
  | str s =>
    unfold pyQ PyData.eqv isDots
    rw [Bool.eq_iff_iff, beq_iff_eq, decide_eq_true_iff]
  | lst ds => unfold pyQ PyData.eqv; rfl
theorem shaped_dots : SeqAt.shaped (.str "...") = true := by decide +kernel
section
variable {P : Program} {w : World} {K : PySem.W.Frag} {mg : Str → Option Value} {base : Heap}
theorem scVar : FnScope ["part", "literals"] ["part", "literals"] (defScope sVar) := ⟨rfl, rfl, rfl, by decide +kernel, rfl, by decide +kernel, by decide +kernel⟩
theorem ok_var {f fW : Addr} {fd dW : FuncData} (F : Fun K "is_variable" "is_variable" sVar f fd) (GW : Cal P w K mg base CX0 1 "is_word" ["datum"] spWd fW dW) : FnOk P w K mg base CX0 2 f fd ["part", "literals"] spVar := by
  refine F.ok scVar (fun vs H Q E h => ?_) (fun cdv A outer s H vs Q E hr h => ?_)
  · obtain ⟨v, d, l, nm, g, rfl, _⟩ := h
    rfl
  obtain ⟨v, d, l, nm, g, rfl, r, hl, q⟩ := h
  have nd := scVar.nd
  have hu := units1 hr.units
  refine ⟨_, (pss_one (ps_ret (pe_and (pe_call GW.ok hr rfl GW.g GW.k GW.b .nil pass0 (pa_cons (pv 0) pa_nil)) (pe_one (pe_cmp (pc_dnotin hu (pv 0) (pv 1)) rfl))))), ?_⟩
  refine ⟨_, rfl, v, d, rfl, r, _, rfl, ?_⟩
  cases r with
  | int i => exact iteF q
  | str z =>
    obtain ⟨o, dg, eo⟩ := dget0 (n := z) hl
    refine iteT ⟨_, rfl, _, rfl, l, o, rfl, dg, ?_⟩
    rw [eo]
    exact q
  | lst h r => exact iteF q
end
end My
namespace My
open PySem PySem.Spec PyProof.Rows L2 TL GxR
/-! ### any(test for x in xs), all(..): xs a list of data; the test may read what the def keeps -/
/-- what a test tells of a number, a text, a list -/
structure Tst where
  i : Int → Bool
  s : Str → Bool
  l : Bool
  lo : Bool := true
/-- lists where lists may occur -/
def Tst.okD (T : Tst) : Dt → Bool
  | .lst _ => T.lo
  | _ => true
def Tst.at (T : Tst) : Dt → Bool
  | .int i => T.i i
  | .str s => T.s s
  | .lst _ => T.l
def KindV (T : Tst) (h : Heap) (u : Value) (b : Bool) : Prop :=
  (∃ i t, u = .int i t ∧ b = T.i i) ∨ (∃ y t, u = .str y t ∧ b = T.s y) ∨ (∃ a its, u = .ref a ∧ h.IsList a its ∧ b = T.l ∧ T.lo = true)
theorem kind_of {X : Cx} {pins : List (Addr × Obj)} {σ : L2.St} {H : Hp} {s : Shared} {v : V} {u : Value} {d : Dt} (T : Tst) (I : Inv X pins σ H s) (r : RelV v u) (h : Rq H v d) (ok : T.okD d = true) : KindV T s.heap u (T.at d) := by
  cases h with
  | int i => obtain ⟨t, e⟩ := (show ∃ t, u = Value.int i t from r); exact .inl ⟨i, t, e, rfl⟩
  | str y => obtain ⟨t, e⟩ := (show ∃ t, u = Value.str y t from r); exact .inr (.inl ⟨y, t, e, rfl⟩)
  | lst hx _ =>
    cases (show u = Value.ref _ from r)
    obtain ⟨its, _, pl, _⟩ := I.list (SqL.of hx)
    exact .inr (.inr ⟨_, _, rfl, pl.isList, rfl, ok⟩)
theorem vals_at {xs : List V} {us : List Value} (r : Vals xs us) {i : Nat} {u : Value} (e : us[i]? = some u) : ∃ v, xs[i]? = some v ∧ RelV v u := by
  cases h : xs[i]? with
  | none => rw [r.none_of h] at e; cases e
  | some v =>
    obtain ⟨u', e', q⟩ := r.get h
    rw [e] at e'
    cases e'
    exact ⟨v, rfl, q⟩
/-- the element, where what s1 held but P is held -/
def EltK (X : Cx) (sc : Scope) (x : Str) (e : Expr) (D U : Nat) (P : Addr) (s1 : Shared) (T : Tst) : Prop :=
  ∀ (ce : Env) (A' : Around) (E' : Value → Shared → Prop) (v : Value) (b : Bool) (z : Shared) (m : Str → Option Value), ce.scope = sc → ce.globals = mainGlobals → ce.cells = cloFrom X.env.cells sc.names [] → A'.handled = none → A'.depth ≤ D → A'.units ≤ U →
    (∀ q o, q ≠ P → s1.heap.get? q = some o → z.heap.get? q = some o) → z.heap.Ns ce.locals m → m x = some v → KindV T z.heap v b → wpAny (model X.prog X.w) A' (eval e ce) (fun y z' => y = .bool b ∧ Keeps z z') E' z
def trB (bs : List Bool) (j : Nat) : Bool := trF (fun n => n == 1) (bs.map fun b => if b = true then 1 else 0) j
theorem trB_some {bs : List Bool} {j : Nat} {b : Bool} (h : bs[j]? = some b) : trB bs j = b := by
  unfold trB
  rw [trF_some (b := if b = true then 1 else 0) (by rw [List.getElem?_map, h]; rfl)]
  cases b <;> rfl
theorem all_trB (bs : List Bool) : (List.range bs.length).all (trB bs) = bs.all id := by
  have := all_trF (bs.map fun b => if b = true then 1 else 0) (fun n => n == 1)
  rw [List.length_map] at this
  show (List.range bs.length).all (trF _ _) = _
  rw [this, List.all_map]
  congr 1
  funext b
  cases b <;> rfl
theorem any_trB (bs : List Bool) : (List.range bs.length).any (trB bs) = bs.any id := by
  have := any_trF (bs.map fun b => if b = true then 1 else 0) (fun n => n == 1)
  rw [List.length_map] at this
  show (List.range bs.length).any (trF _ _) = _
  rw [this, List.any_map]
  congr 1
  funext b
  cases b <;> rfl
def ReadyB (X : Cx) (pins : List (Addr × Obj)) (σ : L2.St) (H1 : Hp) (P : Addr) (bs : List Bool) (g : Addr) (s5 : Shared) : Prop :=
  ∃ (fp wr : List Addr) (G : Array GenState → Array GenState → Prop) (F : Nat → Value → Prop) (St : Nat → Shared → Prop), WalksS X.prog X.w X.A.in1 g fp wr G bs.length F St ∧ St 0 s5 ∧ TruthOf X.prog X.w X.A.in1 F (trB bs) ∧
    ∀ s', Moved wr G s5 s' → ∃ H2, Tabbed P H1 H2 ∧ Inv X pins σ H2 s'
section
variable {X : Cx} {pins : List (Addr × Obj)} {σ : L2.St} {H : Hp} {s : Shared}
theorem genK {c P : Addr} {elt iter : Expr} {x : Str} {px gpos : Pos} {scope : Scope} {te : TE} {k : Nat} {Q' : Value → Shared → Prop} {R : List Dt → Hp → Prop} {G0 : L2.St → Hp → Prop} {T : Tst}
    (hr : Room k X.A) (TB : TabB X.base X.mg c P) (hcode : X.env.code = .ref c) (S : GenS X.env scope x) (hi : PE X iter te)
    (hel : ∀ (pins : List (Addr × Obj)) (s1 : Shared) (H1 : Hp), Inv X pins σ H1 s1 → G0 σ H1 → TabG H1 P → EltK X scope x elt (X.A.depth + 1) (X.A.units + 8) P s1 T) (hs : ∀ v, genFold iter X.env v = pure v) (I : Inv X pins σ H s)
    (h : te σ H fun v H1 => ∃ (l : Addr) (vs : List V) (ds : List Dt), v = .ref l ∧ H1 l = some (.lst vs) ∧ RqL H1 vs ds ∧ (∀ d ∈ ds, T.okD d = true) ∧ TabG H1 P ∧ G0 σ H1 ∧ R ds H1)
    (hQ : ∀ ds H1 g s5, R ds H1 → ReadyB X pins σ H1 P (ds.map T.at) g s5 → Q' (.ref g) s5) :
    wpAny (model X.prog X.w) X.A (eval (.GeneratorExp elt [⟨.Name x px, iter, [], 0⟩] scope gpos) X.env) Q' X.xe s := by
  refine wpAny_GeneratorExp_walksQD hr.hd S.co (closure_ok S.free) S.cell S.dot S.loc S.kind hr.depth (thn (hi.run pins s σ H _ I h) fun xv s1 hx => ?_) hs
  obtain ⟨v, H1, J, rv, l, vs, ds, ev, hl, rq, okd, ⟨ps, tP, tOk⟩, hG, hR⟩ := hx
  subst ev
  obtain rfl : xv = Value.ref l := rv
  have EL := hel pins s1 H1 J hG ⟨ps, tP, tOk⟩
  obtain ⟨its, rits, pl, _⟩ := J.list (SqL.of hl)
  have isl := pl.isList
  have al := rq.al
  have szI : its.toArray.size = (ds.map T.at).length := by rw [List.size_toArray, ← rits.length, List.length_map, al.len]
  refine wpAny_pyIter_list isl ?_
  generalize hN : s1.heap.objs.size = N
  generalize ho : ({ cls := .type "list_iterator", data := .fields #[.ref l, .int 0 0] } : Obj) = o
  have isit : (s1.heap.push o).IsListIter N l 0 := by rw [← ho, ← hN]; exact ⟨_, Heap.get?_push_size _ rfl, rfl, rfl⟩
  have gP : s1.heap.get? P = some { cls := .none, data := .fields ps } := J.hok P _ tP
  have ltP : P < N := by rw [← hN]; exact Heap.lt_size gP
  have ltl : l < N := by rw [← hN]; obtain ⟨q, e, _⟩ := isl; exact Heap.lt_size e
  have szO : (s1.heap.push o).objs.size = N + 1 := by rw [Heap.size_push, hN]
  have kO : ∀ b u, s1.heap.get? b = some u → (s1.heap.push o).get? b = some u := fun b u e => Heap.get?_push_of_some _ e
  have codeO : PySem.W.CodeHd (s1.heap.push o) c P := TB.code.keeps fun b u e => kO b u (J.bk b u e)
  have limO : (s1.heap.push o).NoLimit := J.nolimit.push o
  have nPl : l ≠ P := fun e => by rw [e, tP] at hl; cases hl
  have stLt : cStatics < N := by
    obtain ⟨_, hn, _⟩ := J.nolimit
    rw [← hN]
    exact hn.lt
  have stP : cStatics ≠ P := fun e => by
    obtain ⟨_, hn, _⟩ := J.nolimit
    obtain ⟨q, _, _, hq, hqd, _⟩ := hn
    rw [e, gP] at hq
    cases hq
    cases hqd
  refine ⟨limO, ?_⟩
  have main : ∀ (code : Value) (h3 : Heap) (tk : Nat) (ps' : Array Value), Heap.ExtBut P (s1.heap.push o) h3 → N + 1 ≤ h3.objs.size →
      h3.get? P = some { cls := .none, data := .fields ps' } → (∃ more, ps' = ps ++ more) → TriplesOk ps'.toList →
      wpAny (model X.prog X.w) X.A (builtinsFor X.env.globals X.env.builtins) (fun bi s₄ =>
        ∃ Ia fp wr n₀ Pf St₀ pz F, Value.ref N = .ref Ia ∧ (∀ A' : Around, A'.handled = none → Walks X.prog X.w A' Ia fp wr n₀ Pf St₀) ∧ St₀ 0 s₄.heap ∧
          (∀ b ∈ fp, b < s₄.heap.objs.size) ∧ s₄.heap.NoLimit ∧ cStatics ∉ wr ∧
          (∀ href : Heap, (∀ b o, s₄.heap.get? b = some o → href.get? b = some o) →
            QuietGenD X.prog X.w (genEnv scope (cloFrom X.env.cells scope.names []) s₄.heap.objs.size code bi X.env) x [] elt (List.range s₄.heap.objs.size) wr Pf pz F href (X.A.depth + 1) (X.A.units + 8)) ∧
          (∀ a h₅ tk gs, gs.bare = true → s₄.heap.objs.size < a → h₅.objs.size = a + 1 → (∀ b o, s₄.heap.get? b = some o → h₅.get? b = some o) →
            WalksS X.prog X.w X.A.in4 a (a :: s₄.heap.objs.size :: List.range s₄.heap.objs.size) (s₄.heap.objs.size :: wr) (GenOnlyQ s₄.gens.size) (passing pz n₀ 0).length
              (fun j y => ∃ i, (passing pz n₀ 0)[j]? = some i ∧ F i y) (GenAt X.prog X.w X.A.in4 a s₄.gens.size s₄.heap.objs.size (List.range s₄.heap.objs.size) wr pz n₀ F) →
            GenAt X.prog X.w X.A.in4 a s₄.gens.size s₄.heap.objs.size (List.range s₄.heap.objs.size) wr pz n₀ F 0 { s₄ with gens := s₄.gens.push gs, toks := tk, heap := h₅ } →
            Q' (.ref a) { s₄ with gens := s₄.gens.push gs, toks := tk, heap := h₅ })) X.xe { s1 with heap := h3, toks := tk } := by
    intro code h3 tk ps' hx hsz hP3 hmore ht3
    have k3 : ∀ b u, b ≠ P → s1.heap.get? b = some u → h3.get? b = some u := fun b u hb e => hx b u hb (kO b u e)
    have glob3 : h3.Ns mainGlobals X.mg := ((J.mod.glob.keeps J.bk).push o).extBut hx TB.gP
    obtain ⟨bm, ob, b1, b2, b3, b4, b5, b6, b7, b8⟩ := TB.bm
    refine wpAny_builtinsFor (m := X.mg) (by rw [J.ok.glob]; exact glob3) b1 b2 (k3 _ _ b4 (J.bk _ _ b5)) b6 b7 b8 ?_
    have isl3 : h3.IsList l its.toArray := by
      obtain ⟨q, e, r⟩ := isl
      exact ⟨q, k3 _ _ nPl e, r⟩
    have isit3 : h3.IsListIter N l 0 := by
      obtain ⟨q, e, r⟩ := isit
      exact ⟨q, hx _ _ (fun z => Nat.lt_irrefl _ (z ▸ ltP)) e, r⟩
    refine ⟨N, [N, l], [N], its.toArray.size, _, _, (fun _ => true), (fun i y => ∃ b, (ds.map T.at)[i]? = some b ∧ y = .bool b), rfl, (fun A' hA => Walks.list hA N l (Nat.ne_of_lt ltl) its.toArray), ⟨isit3, isl3⟩, ?_, limO.extBut hx stP, ?_, ?_, ?_⟩
    · intro b hb
      rcases List.mem_cons.mp hb with e | e
      · exact ad_lt e hsz
      · exact ad_ltlt ((List.mem_singleton.mp e) ▸ ltl) hsz
    · intro z
      have eb : cStatics = N := by simpa using z
      rw [eb] at stLt
      exact Nat.lt_irrefl _ stLt
    · intro href keepH
      refine ⟨fun A' E' i v z m hA hD hU hv hn hm hk => ?_, fun A' E' i v z m hA hD hU hv hp hn hm hk => ?_⟩
      · simp only [List.forIn_nil]
        exact wpAny_pure ⟨rfl, keeps_refl _⟩
      · have hv2 : its[i]? = some v := by simpa using hv
        obtain ⟨vv, hvv, q1⟩ := vals_at rits hv2
        obtain ⟨d, hd, rd⟩ := al.2 i vv hvv
        have old : ∀ q u, q ≠ P → s1.heap.get? q = some u → z.heap.get? q = some u := fun q u hq e => by
          have lq : q < N := by rw [← hN]; exact Heap.lt_size e
          refine hk q (List.mem_range.mpr (ad_ltlt lq hsz)) (fun hw => ?_) u (keepH _ _ (k3 q u hq e))
          have eb : q = N := by simpa using hw
          exact Nat.lt_irrefl _ (eb ▸ lq)
        have nvz : KindV T z.heap v (T.at d) := by
          rcases kind_of T J q1 rd (okd d (List.mem_of_getElem? hd)) with r | r | ⟨a, its', ea, ⟨oo, eo, ec⟩, eb⟩
          · exact .inl r
          · exact .inr (.inl r)
          · refine .inr (.inr ⟨a, its', ea, ⟨oo, old a oo (fun z => ?_) eo, ec⟩, eb⟩)
            rw [z, gP] at eo
            cases eo
            cases ec.1
        exact wpAny_mono (EL _ A' E' v _ z m rfl J.ok.glob rfl hA hD hU old hn hm nvz) (fun y z' r => ⟨⟨_, by rw [List.getElem?_map, hd]; rfl, r.1⟩, r.2⟩) fun _ _ e => e
    · intro g h5 tk5 gs hgb hag hsz5 hk5 W5 at0
      rw [szI] at W5 at0
      simp only [GxR.passing_true, List.length_range] at W5
      refine hQ ds H1 g _ hR ⟨_, _, _, _, _, W5.in4_1, at0, ?_, fun s' mv => ?_⟩
      · rintro j y sj Qj Ej ⟨i, hij, b, hb, rfl⟩ hQj
        obtain ⟨hj, ej⟩ := List.getElem?_eq_some_iff.mp hij
        rw [List.getElem_range] at ej
        subst ej
        have hQ2 : Qj (trB (ds.map T.at) j) sj := hQj
        rw [trB_some hb] at hQ2
        exact wpAny_truthy_bool hQ2
      · obtain ⟨more, em⟩ := hmore
        have nwr : ∀ b u, s1.heap.get? b = some u → b ∉ h3.objs.size :: [N] := fun b u e hb => by
          have hl : b < N := by rw [← hN]; exact Heap.lt_size e
          rcases List.mem_cons.mp hb with z | z
          · exact ad_no2 z hl hsz
          · have eb : b = N := by simpa using z
            exact ad_no eb hl
        have K2 := inv_tab (more := more) (h' := s'.heap) (g' := s'.gens) (d' := s'.drawn) (t' := s'.toks) J tP
          (fun b u hb e => mv.heap b u (nwr b u e) (hk5 b u (k3 b u hb e))) (by rw [← em]; exact mv.heap P _ (nwr P _ gP) (hk5 P _ hP3)) (AllBare.movedS (J.bare.push hgb) mv)
        rw [sh_eta s1 s' mv.os] at K2
        exact ⟨upd H1 P (.tbl (ps ++ more)), ⟨⟨ps ++ more, upd_same, by rw [← em]; exact ht3⟩, fun b hb => upd_ne hb⟩, K2⟩
  cases hf : codeAmong gpos ps.toList with
  | none =>
    refine wpAny_genexprCodeX hcode (codeO.code (kO _ _ gP) tOk) (codeO.tab (kO _ _ gP)) hf fun c' h' tk hx hge hlt hco' _ htab' _ => ?_
    obtain ⟨o1, vs1, f1, tf, fl, tg, inF, tx, tt, op, _, _, _, _, _, _, _, _, _, htr, _⟩ := hco'
    refine main _ h' tk _ hx ?_ htab'.2 ⟨_, rfl⟩ htr
    rw [szO] at hge
    exact Nat.le_trans hge (Nat.le_of_lt hlt)
  | some cv =>
    refine wpAny_genexprCode_hit hcode (codeO.code (kO _ _ gP) tOk) hf ?_
    exact main cv (s1.heap.push o) s1.toks ps (Heap.ExtBut.refl _ _) (Nat.le_of_eq szO.symm) (kO _ _ gP) ⟨#[], by simp⟩ tOk
def tGenK (P : Addr) (T : Tst) (G0 : L2.St → Hp → Prop) (te : TE) (f : List Dt → Bool) : TE := fun σ H Q => te σ H fun v H1 => ∃ (l : Addr) (vs : List V) (ds : List Dt), v = .ref l ∧ H1 l = some (.lst vs) ∧ RqL H1 vs ds ∧ (∀ d ∈ ds, T.okD d = true) ∧ TabG H1 P ∧ G0 σ H1 ∧ ∀ H2, Tabbed P H1 H2 → Q (.bl (f ds)) H2
/-- all(test for x in e), e a list -/
theorem pe_allK {c P : Addr} {elt iter : Expr} {x : Str} {px p pos gpos : Pos} {scope : Scope} {te : TE} {k : Nat} {G0 : L2.St → Hp → Prop} {T : Tst}
    (hr : Room k X.A) (hg : Gl X "all") (hm : X.mg "all" = none) (hb : bootBuiltins "all" = some (.builtin "all")) (TB : TabB X.base X.mg c P) (hcode : X.env.code = .ref c) (S : GenS X.env scope x)
    (hi : PE X iter te) (hel : ∀ (σ : L2.St) (pins : List (Addr × Obj)) (s1 : Shared) (H1 : Hp), Inv X pins σ H1 s1 → G0 σ H1 → TabG H1 P → EltK X scope x elt (X.A.depth + 1) (X.A.units + 8) P s1 T) (hs : ∀ v, genFold iter X.env v = pure v)
    (he : starEach [.GeneratorExp elt [⟨.Name x px, iter, [], 0⟩] scope gpos] X.env = (false, eval (.GeneratorExp elt [⟨.Name x px, iter, [], 0⟩] scope gpos) X.env) :: starEach [] X.env := by rfl) :
    PE X (.Call (.Name "all" p) [.GeneratorExp elt [⟨.Name x px, iter, [], 0⟩] scope gpos] [] pos) (tGenK P T G0 te fun ds => ds.all T.at) := by
  refine ⟨fun pins s σ H Q I h => wpAny_Call_Name_kw (ld_blt I hg hm hb (PyProof.Rows.callWith_builtin1 ?_ he (by rfl)))⟩
  rw [he]
  show wpAny _ _ (spliced ((false, eval (.GeneratorExp elt [⟨.Name x px, iter, [], 0⟩] scope gpos) X.env) :: backTo pos (starEach [] X.env))) _ _ s
  refine Calls.spliced_cons (genK (R := fun ds H1 => ∀ H2, Tabbed P H1 H2 → Q (.bl (ds.all T.at)) H2) hr TB hcode S hi (hel σ) hs I h fun ds H1 g z hR rdy => Calls.spliced_nil ?_)
  obtain ⟨fp, wr, G, F, St, W, st0, tru, back⟩ := rdy
  refine call_all_walkS (W.self 0 _ _ _ st0 ⟨g, fp, wr, G, _, F, St, _, rfl, W, st0, tru, fun z' mv => ?_⟩)
  obtain ⟨H2, tb, K2⟩ := back z' mv
  have q := hR H2 tb
  rw [show ds.all T.at = (ds.map T.at).all id by rw [List.all_map]; rfl, ← all_trB] at q
  exact ⟨.bl _, H2, K2, rfl, q⟩
/-- any(test for x in e), e a list -/
theorem pe_anyK {c P : Addr} {elt iter : Expr} {x : Str} {px p pos gpos : Pos} {scope : Scope} {te : TE} {k : Nat} {G0 : L2.St → Hp → Prop} {T : Tst}
    (hr : Room k X.A) (hg : Gl X "any") (hm : X.mg "any" = none) (hb : bootBuiltins "any" = some (.builtin "any")) (TB : TabB X.base X.mg c P) (hcode : X.env.code = .ref c) (S : GenS X.env scope x)
    (hi : PE X iter te) (hel : ∀ (σ : L2.St) (pins : List (Addr × Obj)) (s1 : Shared) (H1 : Hp), Inv X pins σ H1 s1 → G0 σ H1 → TabG H1 P → EltK X scope x elt (X.A.depth + 1) (X.A.units + 8) P s1 T) (hs : ∀ v, genFold iter X.env v = pure v)
    (he : starEach [.GeneratorExp elt [⟨.Name x px, iter, [], 0⟩] scope gpos] X.env = (false, eval (.GeneratorExp elt [⟨.Name x px, iter, [], 0⟩] scope gpos) X.env) :: starEach [] X.env := by rfl) :
    PE X (.Call (.Name "any" p) [.GeneratorExp elt [⟨.Name x px, iter, [], 0⟩] scope gpos] [] pos) (tGenK P T G0 te fun ds => ds.any T.at) := by
  refine ⟨fun pins s σ H Q I h => wpAny_Call_Name_kw (ld_blt I hg hm hb (PyProof.Rows.callWith_builtin1 ?_ he (by rfl)))⟩
  rw [he]
  show wpAny _ _ (spliced ((false, eval (.GeneratorExp elt [⟨.Name x px, iter, [], 0⟩] scope gpos) X.env) :: backTo pos (starEach [] X.env))) _ _ s
  refine Calls.spliced_cons (genK (R := fun ds H1 => ∀ H2, Tabbed P H1 H2 → Q (.bl (ds.any T.at)) H2) hr TB hcode S hi (hel σ) hs I h fun ds H1 g z hR rdy => Calls.spliced_nil ?_)
  obtain ⟨fp, wr, G, F, St, W, st0, tru, back⟩ := rdy
  refine call_any_walkS (W.self 0 _ _ _ st0 ⟨g, fp, wr, G, _, F, St, _, rfl, W, st0, tru, fun z' mv => ?_⟩)
  obtain ⟨H2, tb, K2⟩ := back z' mv
  have q := hR H2 tb
  rw [show ds.any T.at = (ds.map T.at).any id by rw [List.any_map]; rfl, ← any_trB] at q
  exact ⟨.bl _, H2, K2, rfl, q⟩
end
end My
namespace My
open PySem PySem.Spec PyProof.Rows L2 TL GxR
/-! ### the elements: can_be_bound(x); variables.get(x, False); x == DOTS -/
def tWd : Tst := ⟨fun _ => false, fun _ => true, false, true⟩
def tCan : Tst := ⟨fun _ => false, fun s => !decide (s = "..."), false, true⟩
def tDots : Tst := ⟨fun _ => false, fun s => decide (s = "..."), false, true⟩
theorem at_can (d : Dt) : tCan.at d = canB d := by cases d <;> rfl
theorem at_dots (d : Dt) : tDots.at d = isDots d := by cases d <;> rfl
theorem Keeps.trans' {a b c : Shared} (x : Keeps a b) (y : Keeps b c) : Keeps a c := by
  obtain ⟨h, t, rfl, k⟩ := x
  obtain ⟨h', t', rfl, k'⟩ := y
  exact ⟨h', t', rfl, fun q o e => k' q o (k q o e)⟩
theorem isList_keep {a : Addr} {its : Array Value} {h h' : Heap} (k : ∀ b o, h.get? b = some o → h'.get? b = some o) (q : h.IsList a its) : h'.IsList a its := by
  obtain ⟨o, e, c⟩ := q
  exact ⟨o, k _ _ e, c⟩
theorem KindV.keep {T : Tst} {h h' : Heap} {u : Value} {b : Bool} (k : ∀ b o, h.get? b = some o → h'.get? b = some o) (q : KindV T h u b) : KindV T h' u b := by
  rcases q with q | q | ⟨a, its, e, q, r, lo⟩
  · exact .inl q
  · exact .inr (.inl q)
  · exact .inr (.inr ⟨a, its, e, isList_keep k q, r, lo⟩)
section
variable {P : Program} {w : World} {K : PySem.W.Frag} {mg : Str → Option Value} {base : Heap}
/-- what isinstance tells of it -/
theorem kit_kind {N : Addr} (NC : NewC K mg N) {T : Tst} {h : Heap} {u : Value} {b : Bool} (q : KindV T h u b) : ∃ (t : Value) (Z : Heap → Prop) (c : Bool), PySem.W.KitX K u t Z ∧ Z h ∧ u ≠ .builtin "__main__.__loader__#opaque" ∧ PySem.W.kitOne K t (.type "str") = some c ∧ PySem.W.kitOne K t (.ref N) = some false ∧
    ((c = true ∧ ∃ y k, u = .str y k ∧ b = T.s y) ∨ (c = false ∧ ((∃ i, b = T.i i) ∨ b = T.l))) := by
  rcases q with ⟨i, t, rfl, e⟩ | ⟨y, t, rfl, e⟩ | ⟨a, its, rfl, ⟨o, q, c, _⟩, e, _⟩
  · exact ⟨_, _, false, PySem.W.kitx_int, True.intro, (fun z => nomatch z), kit_ty (show kitB "int" "str" = some false by decide +kernel), NC.i, .inr ⟨rfl, .inl ⟨i, e⟩⟩⟩
  · exact ⟨_, _, true, PySem.W.kitx_str, True.intro, (fun z => nomatch z), kit_ty (show kitB "str" "str" = some true by decide +kernel), NC.s, .inl ⟨rfl, y, t, rfl, e⟩⟩
  · exact ⟨_, _, false, PySem.W.kitx_list, ⟨o, q, c⟩, (fun z => nomatch z), kit_ty (show kitB "list" "str" = some false by decide +kernel), NC.l, .inr ⟨rfl, .inr e⟩⟩
theorem word_raw {f N : Addr} {fd : FuncData} (F : Fun K "is_word" "is_word" sWd f fd) (mI : mg "isinstance" = none) (mS : mg "str" = none) (NC : NewC K mg N) (M : Mod K mg base) (bn : L2.Binds K fd ["datum"] [])
    {A : Around} (hdp : A.depth < recursionLimit) {z : Shared} (bk : ∀ b o, base.get? b = some o → z.heap.get? b = some o) {u : Value} {b : Bool} (hu : KindV tWd z.heap u b) :
    codeAny (model P w) A (.call (.ref f) ⟨[u], []⟩) (fun r s' => r = .ok (.ret (.bool b)) ∧ Keeps z s') z := by
  obtain ⟨oc, od, kV, doc, pm, an, cdv, ct, osl, efd, lk, hcd⟩ := F.ex
  subst efd
  have KX : K.In z.heap := M.kin.keeps bk
  have nl : z.heap.NoLimit := M.nolimit.keeps bk
  have S := scWd
  have hb := bn z [u] KX rfl
  have hkind : ∀ y ∈ (["datum"] : List Str).zip [u], (defScope sWd).names.lookup y.1 = some .local ∨ ((defScope sWd).names.lookup y.1 = some .cell ∧ ((cellsFrom (z.heap.objs.size + 1) (defScope sWd).names []).lookup y.1).isSome = true) := by
    rintro ⟨n, v⟩ hy
    rcases S.par n (List.of_mem_zip hy).1 with q | q
    · exact .inl q
    · exact .inr ⟨q, PySem.W.cellsFrom_some _ _ _ (.inl q)⟩
  refine codeAny_call_function hdp (KX _ _ lk) rfl S.co S.gen rfl (PySem.W.codeRec_of KX hcd) (hb _ _ _ _ ?_)
  refine wpAny_newFunctionEnv_cells S.kind hkind fun env he s1 x => ?_
  obtain ⟨h1, tk, es, hk⟩ := x.done
  subst es
  refine ⟨nl.keeps hk, codeAny_func ?_⟩
  have ns := x.toInCall.ns
  have bk1 : ∀ b o, base.get? b = some o → h1.get? b = some o := fun b o e => hk b o (bk b o e)
  have hu1 := hu.keep hk
  have gl : h1.Ns env.globals mg := by rw [he]; exact M.glob.keeps bk1
  obtain ⟨mb, m1, m2⟩ := M.blt
  have bl : h1.Ns env.builtins mb := by rw [he]; exact m1.keeps bk1
  have kd : env.scope.kind = .function := by rw [he]; exact S.kind
  have kn : env.kindOf "datum" = some .local := by rw [he]; rfl
  have nv : (bindL env.kindOf ((["datum"] : List Str).zip [u]) fun _ => none) "datum" = some u := by
    show (bindL env.kindOf [("datum", u)] fun _ => none) "datum" = some u
    simp [bindL, kn]
  have ki : env.kindOf "isinstance" = some .globalImplicit := by rw [he]; rfl
  have kt : env.kindOf "str" = some .globalImplicit := by rw [he]; rfl
  have kg : env.kindOf "NewName" = some .globalImplicit := by rw [he]; rfl
  clear he
  obtain ⟨t, Z, c, hZ, hz, nop, hc, hc2, res⟩ := kit_kind NC hu1
  have isbI : bootBuiltins "isinstance" = some (.builtin "isinstance") := by decide +kernel
  have isbS : bootBuiltins "str" = some (.type "str") := by decide +kernel
  have load : ∀ {A' : Around} {E' : Value → Shared → Prop} {Q : Value → Shared → Prop} {h2 : Heap} {t2 : Nat} {pos : Pos}, h2.Ns env.locals (bindL env.kindOf ((["datum"] : List Str).zip [u]) fun _ => none) → Q u { z with heap := h2, toks := t2 } →
      wpAny (model P w) A' (eval (.Name "datum" pos) env) Q E' { z with heap := h2, toks := t2 } := fun n q => wpAny_Name (wpAny_loadName_local kd kn n nv q)
  have fin : ∀ t2 : Nat, Keeps z { z with heap := h1, toks := t2 } := fun t2 => ⟨h1, t2, rfl, hk⟩
  refine wpAny_execs_cons (wpAny_Return_some (BoolOp_or ?_))
  refine wpAny_Call_Name_kw (Calls.Name_function_global kd ki (Calls.loadGlobal_builtin gl mI bl ((m2 "isinstance" (by decide)).trans isbI) ?_))
  refine PyProof.Rows.callWith_builtin1 (PyProof.Rows.args_cons (load ns (PyProof.Rows.args_cons ?_))) rfl rfl
  refine Calls.Name_function_global kd kt (Calls.loadGlobal_builtin gl mS bl ((m2 "str" (by decide)).trans isbS) ?_)
  refine PyProof.Rows.args_nil ?_
  refine PySem.W.kia_one hZ (M.kin.keeps bk1) hz hc nop fun tk2 => ?_
  refine wpAny_truthy_bool ?_
  rcases res with ⟨rfl, y, k, rfl, rfl⟩ | ⟨rfl, res⟩
  · exact ite_tt ⟨rfl, fin _⟩
  · refine ite_ff (BoolOp_one ?_)
    refine wpAny_Call_Name_kw (Calls.Name_function_global kd ki (Calls.loadGlobal_builtin gl mI bl ((m2 "isinstance" (by decide)).trans isbI) ?_))
    refine PyProof.Rows.callWith_builtin1 (PyProof.Rows.args_cons (load ns (PyProof.Rows.args_cons ?_))) rfl rfl
    refine Calls.Name_function_global kd kg (Calls.loadGlobal_global gl NC.g ?_)
    refine PyProof.Rows.args_nil ?_
    refine PySem.W.kia_one hZ (M.kin.keeps bk1) hz hc2 nop fun tk3 => ?_
    have eb : b = false := by
      rcases res with ⟨_, e⟩ | e <;> exact e
    rw [eb]
    exact ⟨rfl, fin _⟩
theorem can_raw {f fW N : Addr} {fd dW : FuncData} (F : Fun K "can_be_bound" "can_be_bound" sCan f fd) (FW : Fun K "is_word" "is_word" sWd fW dW) (gW : mg "is_word" = some (.ref fW)) (bW : L2.Binds K dW ["datum"] []) (mI : mg "isinstance" = none) (mS : mg "str" = none) (NC : NewC K mg N)
    (eD : ∃ t, mg "DOTS" = some (.str "..." t)) (M : Mod K mg base) (bn : L2.Binds K fd ["datum"] [])
    {A : Around} (hdp : A.depth + 1 < recursionLimit) {z : Shared} (bk : ∀ b o, base.get? b = some o → z.heap.get? b = some o) {u : Value} {b : Bool} (hu : KindV tCan z.heap u b) :
    codeAny (model P w) A (.call (.ref f) ⟨[u], []⟩) (fun r s' => r = .ok (.ret (.bool b)) ∧ Keeps z s') z := by
  obtain ⟨oc, od, kV, doc, pm, an, cdv, ct, osl, efd, lk, hcd⟩ := F.ex
  subst efd
  have KX : K.In z.heap := M.kin.keeps bk
  have nl : z.heap.NoLimit := M.nolimit.keeps bk
  have S := scCan
  have hb := bn z [u] KX rfl
  have hkind : ∀ y ∈ (["datum"] : List Str).zip [u], (defScope sCan).names.lookup y.1 = some .local ∨ ((defScope sCan).names.lookup y.1 = some .cell ∧ ((cellsFrom (z.heap.objs.size + 1) (defScope sCan).names []).lookup y.1).isSome = true) := by
    rintro ⟨n, v⟩ hy
    rcases S.par n (List.of_mem_zip hy).1 with q | q
    · exact .inl q
    · exact .inr ⟨q, PySem.W.cellsFrom_some _ _ _ (.inl q)⟩
  refine codeAny_call_function (by omega) (KX _ _ lk) rfl S.co S.gen rfl (PySem.W.codeRec_of KX hcd) (hb _ _ _ _ ?_)
  refine wpAny_newFunctionEnv_cells S.kind hkind fun env he s1 x => ?_
  obtain ⟨h1, tk, es, hk⟩ := x.done
  subst es
  refine ⟨nl.keeps hk, codeAny_func ?_⟩
  have ns := x.toInCall.ns
  have bk1 : ∀ b o, base.get? b = some o → h1.get? b = some o := fun b o e => hk b o (bk b o e)
  have hu1 := hu.keep hk
  have gl : h1.Ns env.globals mg := by rw [he]; exact M.glob.keeps bk1
  have eg : env.globals = mainGlobals := by rw [he]; rfl
  have kd : env.scope.kind = .function := by rw [he]; exact S.kind
  have kn : env.kindOf "datum" = some .local := by rw [he]; rfl
  have nv : (bindL env.kindOf ((["datum"] : List Str).zip [u]) fun _ => none) "datum" = some u := by
    show (bindL env.kindOf [("datum", u)] fun _ => none) "datum" = some u
    simp [bindL, kn]
  have ki : env.kindOf "is_word" = some .globalImplicit := by rw [he]; rfl
  have kg : env.kindOf "DOTS" = some .globalImplicit := by rw [he]; rfl
  clear he
  obtain ⟨tD, hD⟩ := eD
  have cw : ∃ c, KindV tWd h1 u c ∧ ((c = true ∧ ∃ y k, u = .str y k ∧ b = !decide (y = "...")) ∨ (c = false ∧ b = false)) := by
    rcases hu1 with ⟨i, t, rfl, e⟩ | ⟨y, t, rfl, e⟩ | ⟨a, its, rfl, q, e, _⟩
    · exact ⟨false, .inl ⟨i, t, rfl, rfl⟩, .inr ⟨rfl, e⟩⟩
    · exact ⟨true, .inr (.inl ⟨y, t, rfl, rfl⟩), .inl ⟨rfl, y, t, rfl, e⟩⟩
    · exact ⟨false, .inr (.inr ⟨a, its, rfl, q, rfl, rfl⟩), .inr ⟨rfl, e⟩⟩
  obtain ⟨c, kc, res⟩ := cw
  refine wpAny_execs_cons (wpAny_Return_some (BoolOp_and ?_))
  refine wpAny_Call_Name_kw (Calls.Name_function_global kd ki (Calls.loadGlobal_global gl gW ?_))
  refine PySem.W.callWith_K (h₀ := base) M.kin FW.kp (PyProof.Rows.args_cons (wpAny_Name (wpAny_loadName_local kd kn ns nv (PyProof.Rows.args_nil ⟨M.kin.keeps bk1, ?_⟩))))
  refine wpAny_call (codeAny_mono (word_raw FW mI mS NC M bW ?_ bk1 kc) fun r s' q => ?_)
  · exact hdp
  obtain ⟨er, h2, t2, rfl, k2⟩ := q
  subst er
  refine wpAny_truthy_bool ?_
  have fin : ∀ t2 : Nat, Keeps z { z with heap := h2, toks := t2 } := fun t2 => ⟨h2, t2, rfl, fun q o e => k2 q o (hk q o e)⟩
  rcases res with ⟨rfl, y, k, rfl, rfl⟩ | ⟨rfl, rfl⟩
  · refine ite_tt (BoolOp_one (wpAny_Compare1 (wpAny_Name (wpAny_loadName_local kd kn (ns.keeps k2) nv ?_))))
    refine Calls.Name_function_global kd kg (Calls.loadGlobal_global (gl.keeps k2) hD ?_)
    have e : (y != ("..." : Str)) = !decide (y = "...") := by by_cases h : y = ("..." : Str) <;> simp [h]
    refine PyProof.Rows.ne_str ⟨?_, fin _⟩
    rw [e]
  · exact ite_ff ⟨rfl, fin _⟩
end
end My
namespace My
open PySem PySem.Spec PyProof.Rows L2 TL GxR PySem.SeqAt
/-! ### any(test for x, y in pairs): pairs a list of tuples of a datum and a truth value -/
theorem valV_dkmi {f : Str → V} {m : Int} : ∀ {nm : List Str}, valV (dkm nm f) (.inl m) = none
  | [] => rfl
  | n :: r => by
    unfold dkm
    rw [List.map_cons, valV_neg (p := (Sum.inr n, f n)) (show ¬ (Sum.inr n : Key) = Sum.inl m from fun z => by cases z)]
    exact valV_dkmi
def PrB (H : Hp) (v : V) (x : Dt × Bool) : Prop := ∃ p u, v = .ref p ∧ H p = some (.tup [u, .bl x.2]) ∧ Rq H u x.1
abbrev EltT := EltK
section
variable {X : Cx} {pins : List (Addr × Obj)} {σ : L2.St} {H : Hp} {s : Shared}
theorem genT {c P : Addr} {elt iter : Expr} {xa xb : Str} {pa pb pt gpos : Pos} {kt : Nat} {scope : Scope} {te : TE} {k : Nat} {Q' : Value → Shared → Prop} {R : List (Dt × Bool) → Hp → Prop} {T : Tst}
    (hr : Room k X.A) (TB : TabB X.base X.mg c P) (hcode : X.env.code = .ref c) (S : GenS X.env scope xa) (hxb : scope.names.lookup xb = some .local) (hab : xa ≠ xb) (hi : PE X iter te)
    (hel : ∀ (pins : List (Addr × Obj)) (s1 : Shared) (H1 : Hp), Inv X pins σ H1 s1 → TabG H1 P → EltT X scope xa elt (X.A.depth + 1) (X.A.units + 8) P s1 T) (hs : ∀ v, genFold iter X.env v = pure v) (I : Inv X pins σ H s)
    (h : te σ H fun v H1 => ∃ (l : Addr) (vs : List V) (ds : List (Dt × Bool)), v = .ref l ∧ H1 l = some (.lst vs) ∧ Al (PrB H1) vs ds ∧ (∀ d ∈ ds, T.okD d.1 = true) ∧ TabG H1 P ∧ R ds H1)
    (hQ : ∀ ds H1 g s5, R ds H1 → ReadyB X pins σ H1 P (ds.map fun d => T.at d.1) g s5 → Q' (.ref g) s5) :
    wpAny (model X.prog X.w) X.A (eval (.GeneratorExp elt [⟨.Tuple [.Name xa pa, .Name xb pb] kt pt, iter, [], 0⟩] scope gpos) X.env) Q' X.xe s := by
  refine wpAny_GeneratorExp_walksQTD hr.hd S.co (closure_ok S.free) S.cell S.dot S.loc hxb hab S.kind hr.depth (thn (hi.run pins s σ H _ I h) fun xv s1 hx => ?_) hs
  obtain ⟨v, H1, J, rv, l, vs, ds, ev, hl, al, okd, ⟨ps, tP, tOk⟩, hR⟩ := hx
  subst ev
  obtain rfl : xv = Value.ref l := rv
  have EL := hel pins s1 H1 J ⟨ps, tP, tOk⟩
  obtain ⟨its, rits, pl, _⟩ := J.list (SqL.of hl)
  have isl := pl.isList
  have szI : its.toArray.size = (ds.map fun d => T.at d.1).length := by rw [List.size_toArray, ← rits.length, List.length_map, al.len]
  refine wpAny_pyIter_list isl ?_
  generalize hN : s1.heap.objs.size = N
  generalize ho : ({ cls := .type "list_iterator", data := .fields #[.ref l, .int 0 0] } : Obj) = o
  have isit : (s1.heap.push o).IsListIter N l 0 := by rw [← ho, ← hN]; exact ⟨_, Heap.get?_push_size _ rfl, rfl, rfl⟩
  have gP : s1.heap.get? P = some { cls := .none, data := .fields ps } := J.hok P _ tP
  have ltP : P < N := by rw [← hN]; exact Heap.lt_size gP
  have ltl : l < N := by rw [← hN]; obtain ⟨q, e, _⟩ := isl; exact Heap.lt_size e
  have szO : (s1.heap.push o).objs.size = N + 1 := by rw [Heap.size_push, hN]
  have kO : ∀ b u, s1.heap.get? b = some u → (s1.heap.push o).get? b = some u := fun b u e => Heap.get?_push_of_some _ e
  have codeO : PySem.W.CodeHd (s1.heap.push o) c P := TB.code.keeps fun b u e => kO b u (J.bk b u e)
  have limO : (s1.heap.push o).NoLimit := J.nolimit.push o
  have nPl : l ≠ P := fun e => by rw [e, tP] at hl; cases hl
  have stLt : cStatics < N := by
    obtain ⟨_, hn, _⟩ := J.nolimit
    rw [← hN]
    exact hn.lt
  have stP : cStatics ≠ P := fun e => by
    obtain ⟨_, hn, _⟩ := J.nolimit
    obtain ⟨q, _, _, hq, hqd, _⟩ := hn
    rw [e, gP] at hq
    cases hq
    cases hqd
  have hex : ∀ j : Nat, ∃ p : Addr × Value × Value, j < its.toArray.size → ∃ d : Dt × Bool, its.toArray[j]? = some (.ref p.1) ∧ s1.heap.IsTuple p.1 #[p.2.1, p.2.2] ∧ p.1 < N ∧ p.1 ≠ P ∧ ds[j]? = some d ∧ KindV T s1.heap p.2.1 (T.at d.1) := fun j => by
    by_cases hj : j < its.toArray.size
    · have hj2 : j < its.length := by simpa using hj
      obtain ⟨vv, hvv, q1⟩ := vals_at rits (List.getElem?_eq_getElem hj2)
      obtain ⟨d, hd, q, u, ev, hq, rd⟩ := al.2 j vv hvv
      subst ev
      have q1' : its[j] = Value.ref q := q1
      obtain ⟨is2, r2, ⟨ob, e1, e2, n, e3⟩, _⟩ := J.tuple (SqT.of hq)
      obtain ⟨u1, u2, ei, ru, rb⟩ := r2.two
      subst ei
      refine ⟨(q, u1, u2), fun _ => ⟨d, by rw [List.getElem?_toArray, List.getElem?_eq_getElem hj2, q1'], ⟨ob, e1, e2, n, e3⟩, by rw [← hN]; exact Heap.lt_size e1, fun z => ?_, hd, kind_of T J ru rd (okd d (List.mem_of_getElem? hd))⟩⟩
      rw [show q = P from z, gP] at e1
      cases e1
      cases e2
    · exact ⟨(0, .none, .none), fun z => absurd z hj⟩
  obtain ⟨pf, hpf⟩ := Classical.skolem.mp hex
  refine ⟨limO, ?_⟩
  have main : ∀ (code : Value) (h3 : Heap) (tk : Nat) (ps' : Array Value), Heap.ExtBut P (s1.heap.push o) h3 → N + 1 ≤ h3.objs.size →
      h3.get? P = some { cls := .none, data := .fields ps' } → (∃ more, ps' = ps ++ more) → TriplesOk ps'.toList →
      wpAny (model X.prog X.w) X.A (builtinsFor X.env.globals X.env.builtins) (fun bi s₄ =>
        ∃ Ia fp wr n₀ Pf St₀ Mid pz F, Value.ref N = .ref Ia ∧ (∀ A' : Around, A'.handled = none → WalksU X.prog X.w A' Ia fp wr n₀ Pf St₀ Mid) ∧ (∀ i vals, Pf i vals → ∃ va vb, vals = #[va, vb]) ∧ St₀ 0 s₄.heap ∧
          (∀ b ∈ fp, b < s₄.heap.objs.size) ∧ s₄.heap.NoLimit ∧ cStatics ∉ wr ∧
          (∀ href : Heap, (∀ b o, s₄.heap.get? b = some o → href.get? b = some o) →
            QuietGenTD X.prog X.w (genEnv scope (cloFrom X.env.cells scope.names []) s₄.heap.objs.size code bi X.env) xa xb [] elt (List.range s₄.heap.objs.size) wr Pf pz F href (X.A.depth + 1) (X.A.units + 8)) ∧
          (∀ a h₅ tk gs, gs.bare = true → s₄.heap.objs.size < a → h₅.objs.size = a + 1 → (∀ b o, s₄.heap.get? b = some o → h₅.get? b = some o) →
            WalksS X.prog X.w X.A.in4 a (a :: s₄.heap.objs.size :: List.range s₄.heap.objs.size) (s₄.heap.objs.size :: wr) (GenOnlyQ s₄.gens.size) (passing pz n₀ 0).length
              (fun j y => ∃ i, (passing pz n₀ 0)[j]? = some i ∧ F i y) (GenAt X.prog X.w X.A.in4 a s₄.gens.size s₄.heap.objs.size (List.range s₄.heap.objs.size) wr pz n₀ F) →
            GenAt X.prog X.w X.A.in4 a s₄.gens.size s₄.heap.objs.size (List.range s₄.heap.objs.size) wr pz n₀ F 0 { s₄ with gens := s₄.gens.push gs, toks := tk, heap := h₅ } →
            Q' (.ref a) { s₄ with gens := s₄.gens.push gs, toks := tk, heap := h₅ })) X.xe { s1 with heap := h3, toks := tk } := by
    intro code h3 tk ps' hx hsz hP3 hmore ht3
    have k3 : ∀ b u, b ≠ P → s1.heap.get? b = some u → h3.get? b = some u := fun b u hb e => hx b u hb (kO b u e)
    have glob3 : h3.Ns mainGlobals X.mg := ((J.mod.glob.keeps J.bk).push o).extBut hx TB.gP
    obtain ⟨bm, ob, b1, b2, b3, b4, b5, b6, b7, b8⟩ := TB.bm
    refine wpAny_builtinsFor (m := X.mg) (by rw [J.ok.glob]; exact glob3) b1 b2 (k3 _ _ b4 (J.bk _ _ b5)) b6 b7 b8 ?_
    have isl3 : h3.IsList l its.toArray := by
      obtain ⟨q, e, r⟩ := isl
      exact ⟨q, k3 _ _ nPl e, r⟩
    have isit3 : h3.IsListIter N l 0 := by
      obtain ⟨q, e, r⟩ := isit
      exact ⟨q, hx _ _ (fun z => Nat.lt_irrefl _ (z ▸ ltP)) e, r⟩
    have tup3 : ∀ k, k < its.toArray.size → h3.IsTuple (pf k).1 #[(pf k).2.1, (pf k).2.2] := fun k hk => by
      obtain ⟨d, _, ⟨q, e, r⟩, _, nP, _⟩ := hpf k hk
      exact ⟨q, k3 _ _ nP e, r⟩
    refine ⟨N, N :: l :: (List.range its.toArray.size).map (fun k => (pf k).1), [N], its.toArray.size, _, _, _, (fun _ => true), (fun i y => ∃ b, (ds.map fun d => T.at d.1)[i]? = some b ∧ y = .bool b), rfl,
      (fun A' hA => (WalksU.listOfTuples hA N l (Nat.ne_of_lt ltl) its.toArray (fun k => (pf k).1) (fun k => #[(pf k).2.1, (pf k).2.2]) (fun j hj => (hpf j hj).elim fun d q => q.1) (fun j hj => (hpf j hj).elim fun d q => Nat.ne_of_lt q.2.2.1)).bound), (fun i vals e => ⟨_, _, e.2⟩), ⟨isit3, isl3, tup3⟩, ?_, limO.extBut hx stP, ?_, ?_, ?_⟩
    · intro b hb
      rcases List.mem_cons.mp hb with e | e
      · exact ad_lt e hsz
      rcases List.mem_cons.mp e with e | e
      · exact ad_ltlt (e ▸ ltl) hsz
      · obtain ⟨k, hk, rfl⟩ := List.mem_map.mp e
        obtain ⟨d, _, _, lt, _⟩ := hpf k (List.mem_range.mp hk)
        exact ad_ltlt lt hsz
    · intro z
      have eb : cStatics = N := by simpa using z
      rw [eb] at stLt
      exact Nat.lt_irrefl _ stLt
    · intro href keepH
      refine ⟨fun A' E' i va vb z m hA hD hU hv hn hm hm2 hk => ?_, fun A' E' i va vb z m hA hD hU hv hp hn hm hm2 hk => ?_⟩
      · simp only [List.forIn_nil]
        exact wpAny_pure ⟨rfl, keeps_refl _⟩
      · have ea : va = (pf i).2.1 := by
          have := congrArg (fun a : Array Value => a[0]?) (show (#[va, vb] : Array Value) = #[(pf i).2.1, (pf i).2.2] from hv.2)
          simpa using this
        have hi : i < its.toArray.size := hv.1
        · obtain ⟨d, _, _, _, _, hd, kv⟩ := hpf i hi
          have old : ∀ q u, q ≠ P → s1.heap.get? q = some u → z.heap.get? q = some u := fun q u hq e => by
            have lq : q < N := by rw [← hN]; exact Heap.lt_size e
            refine hk q (List.mem_range.mpr (ad_ltlt lq hsz)) (fun hw => ?_) u (keepH _ _ (k3 q u hq e))
            have eb : q = N := by simpa using hw
            exact Nat.lt_irrefl _ (eb ▸ lq)
          have nvz : KindV T z.heap va (T.at d.1) := by
            rw [ea]
            rcases kv with r | r | ⟨a, its', ea, ⟨oo, eo, ec⟩, eb⟩
            · exact .inl r
            · exact .inr (.inl r)
            · refine .inr (.inr ⟨a, its', ea, ⟨oo, old a oo (fun z => ?_) eo, ec⟩, eb⟩)
              rw [z, gP] at eo
              cases eo
              cases ec.1
          exact wpAny_mono (EL _ A' E' va _ z m rfl J.ok.glob rfl hA hD hU old hn hm nvz) (fun y z' r => ⟨⟨_, by rw [List.getElem?_map, hd]; rfl, r.1⟩, r.2⟩) fun _ _ e => e
    · intro g h5 tk5 gs hgb hag hsz5 hk5 W5 at0
      rw [szI] at W5 at0
      simp only [GxR.passing_true, List.length_range] at W5
      refine hQ ds H1 g _ hR ⟨_, _, _, _, _, W5.in4_1, at0, ?_, fun s' mv => ?_⟩
      · rintro j y sj Qj Ej ⟨i, hij, b, hb, rfl⟩ hQj
        obtain ⟨hj, ej⟩ := List.getElem?_eq_some_iff.mp hij
        rw [List.getElem_range] at ej
        subst ej
        have hQ2 : Qj (trB (ds.map fun d => T.at d.1) j) sj := hQj
        rw [trB_some hb] at hQ2
        exact wpAny_truthy_bool hQ2
      · obtain ⟨more, em⟩ := hmore
        have nwr : ∀ b u, s1.heap.get? b = some u → b ∉ h3.objs.size :: [N] := fun b u e hb => by
          have hl : b < N := by rw [← hN]; exact Heap.lt_size e
          rcases List.mem_cons.mp hb with z | z
          · exact ad_no2 z hl hsz
          · have eb : b = N := by simpa using z
            exact ad_no eb hl
        have K2 := inv_tab (more := more) (h' := s'.heap) (g' := s'.gens) (d' := s'.drawn) (t' := s'.toks) J tP
          (fun b u hb e => mv.heap b u (nwr b u e) (hk5 b u (k3 b u hb e))) (by rw [← em]; exact mv.heap P _ (nwr P _ gP) (hk5 P _ hP3)) (AllBare.movedS (J.bare.push hgb) mv)
        rw [sh_eta s1 s' mv.os] at K2
        exact ⟨upd H1 P (.tbl (ps ++ more)), ⟨⟨ps ++ more, upd_same, by rw [← em]; exact ht3⟩, fun b hb => upd_ne hb⟩, K2⟩
  cases hf : codeAmong gpos ps.toList with
  | none =>
    refine wpAny_genexprCodeX hcode (codeO.code (kO _ _ gP) tOk) (codeO.tab (kO _ _ gP)) hf fun c' h' tk hx hge hlt hco' _ htab' _ => ?_
    obtain ⟨o1, vs1, f1, tf, fl, tg, inF, tx, tt, op, _, _, _, _, _, _, _, _, _, htr, _⟩ := hco'
    refine main _ h' tk _ hx ?_ htab'.2 ⟨_, rfl⟩ htr
    rw [szO] at hge
    exact Nat.le_trans hge (Nat.le_of_lt hlt)
  | some cv =>
    refine wpAny_genexprCode_hit hcode (codeO.code (kO _ _ gP) tOk) hf ?_
    exact main cv (s1.heap.push o) s1.toks ps (Heap.ExtBut.refl _ _) (Nat.le_of_eq szO.symm) (kO _ _ gP) ⟨#[], by simp⟩ tOk
def tGenT (P : Addr) (T : Tst) (te : TE) (f : List (Dt × Bool) → Bool) : TE := fun σ H Q => te σ H fun v H1 => ∃ (l : Addr) (vs : List V) (ds : List (Dt × Bool)), v = .ref l ∧ H1 l = some (.lst vs) ∧ Al (PrB H1) vs ds ∧ (∀ d ∈ ds, T.okD d.1 = true) ∧ TabG H1 P ∧ ∀ H2, Tabbed P H1 H2 → Q (.bl (f ds)) H2
/-- any(test for x, y in e) -/
theorem pe_anyT {c P : Addr} {elt iter : Expr} {xa xb : Str} {pa pb pt p pos gpos : Pos} {kt : Nat} {scope : Scope} {te : TE} {k : Nat} {T : Tst}
    (hr : Room k X.A) (hg : Gl X "any") (hm : X.mg "any" = none) (hb : bootBuiltins "any" = some (.builtin "any")) (TB : TabB X.base X.mg c P) (hcode : X.env.code = .ref c) (S : GenS X.env scope xa) (hxb : scope.names.lookup xb = some .local) (hab : xa ≠ xb)
    (hi : PE X iter te) (hel : ∀ (σ : L2.St) (pins : List (Addr × Obj)) (s1 : Shared) (H1 : Hp), Inv X pins σ H1 s1 → TabG H1 P → EltT X scope xa elt (X.A.depth + 1) (X.A.units + 8) P s1 T) (hs : ∀ v, genFold iter X.env v = pure v)
    (he : starEach [.GeneratorExp elt [⟨.Tuple [.Name xa pa, .Name xb pb] kt pt, iter, [], 0⟩] scope gpos] X.env = (false, eval (.GeneratorExp elt [⟨.Tuple [.Name xa pa, .Name xb pb] kt pt, iter, [], 0⟩] scope gpos) X.env) :: starEach [] X.env := by rfl) :
    PE X (.Call (.Name "any" p) [.GeneratorExp elt [⟨.Tuple [.Name xa pa, .Name xb pb] kt pt, iter, [], 0⟩] scope gpos] [] pos) (tGenT P T te fun ds => ds.any fun d => T.at d.1) := by
  refine ⟨fun pins s σ H Q I h => wpAny_Call_Name_kw (ld_blt I hg hm hb (PyProof.Rows.callWith_builtin1 ?_ he (by rfl)))⟩
  rw [he]
  show wpAny _ _ (spliced ((false, eval (.GeneratorExp elt [⟨.Tuple [.Name xa pa, .Name xb pb] kt pt, iter, [], 0⟩] scope gpos) X.env) :: backTo pos (starEach [] X.env))) _ _ s
  refine Calls.spliced_cons (genT (R := fun ds H1 => ∀ H2, Tabbed P H1 H2 → Q (.bl (ds.any fun d => T.at d.1)) H2) hr TB hcode S hxb hab hi (hel σ) hs I h fun ds H1 g z hR rdy => Calls.spliced_nil ?_)
  obtain ⟨fp, wr, G, F, St, W, st0, tru, back⟩ := rdy
  refine call_any_walkS (W.self 0 _ _ _ st0 ⟨g, fp, wr, G, _, F, St, _, rfl, W, st0, tru, fun z' mv => ?_⟩)
  obtain ⟨H2, tb, K2⟩ := back z' mv
  have q := hR H2 tb
  rw [show (ds.any fun d => T.at d.1) = (ds.map fun d => T.at d.1).any id by rw [List.any_map]; rfl, ← any_trB] at q
  exact ⟨.bl _, H2, K2, rfl, q⟩
/-- can_be_bound(x) -/
theorem elt_can {pins : List (Addr × Obj)} {s1 : Shared} {H1 : Hp} {sc : Scope} {x : Str} {p1 p2 p3 : Pos} {f fW N P : Addr} {fd dW : FuncData} {D U : Nat} (J : Inv X pins σ H1 s1) (tg : TabG H1 P) (F : Fun X.K "can_be_bound" "can_be_bound" sCan f fd) (gF : X.mg "can_be_bound" = some (.ref f)) (bF : L2.Binds X.K fd ["datum"] [])
    (FW : Fun X.K "is_word" "is_word" sWd fW dW) (gW : X.mg "is_word" = some (.ref fW)) (bW : L2.Binds X.K dW ["datum"] []) (mI : X.mg "isinstance" = none) (mS : X.mg "str" = none) (NC : NewC X.K X.mg N) (eD : ∃ t, X.mg "DOTS" = some (.str "..." t)) (hD : D + 1 < recursionLimit) (hk : sc.kind = .function)
    (hl : sc.names.lookup x = some .local) (hgl : sc.names.lookup ("can_be_bound" : Str) = some .globalImplicit) (hd : (x == ("__debug__" : Str)) = false := by decide) :
    EltK X sc x (.Call (.Name "can_be_bound" p1) [.Name x p2] [] p3) D U P s1 tCan := by
  intro ce A' E' v b z m hs hg hc hA hDA hU old hn hx nv
  have M := J.mod
  obtain ⟨ps, tP, _⟩ := tg
  have bk : ∀ b o, X.base.get? b = some o → z.heap.get? b = some o := fun b o e => old b o (fun q => by
    have := (J.bs b o e).2
    rw [q, tP] at this
    cases this) (J.bk b o e)
  have gl : z.heap.Ns ce.globals X.mg := by rw [hg]; exact M.glob.keeps bk
  refine wpAny_Call_Name_kw (Calls.Name_function_global (by rw [hs]; exact hk) (show ce.scope.names.lookup _ = some .globalImplicit by rw [hs]; exact hgl) (Calls.loadGlobal_global gl gF ?_))
  refine PySem.W.callWith_K (h₀ := X.base) M.kin F.kp (PyProof.Rows.args_cons (wpAny_Name (wpAny_loadName_local (by rw [hs]; exact hk) (show ce.scope.names.lookup x = some .local by rw [hs]; exact hl) hn hx (PyProof.Rows.args_nil ⟨M.kin.keeps bk, ?_⟩)) hd))
  refine wpAny_call (codeAny_mono (can_raw F FW gW bW mI mS NC eD M bF (Nat.lt_of_le_of_lt (Nat.succ_le_succ hDA) hD) bk nv) fun r s' q => ?_)
  obtain ⟨er, kp⟩ := q
  subst er
  exact ⟨rfl, kp⟩
/-- x == DOTS -/
theorem elt_dots {pins : List (Addr × Obj)} {s1 : Shared} {H1 : Hp} {sc : Scope} {x : Str} {p1 p2 p3 : Pos} {P : Addr} {D U : Nat} (J : Inv X pins σ H1 s1) (tg : TabG H1 P) (eD : ∃ t, X.mg "DOTS" = some (.str "..." t)) (hU : U < cLine) (hk : sc.kind = .function)
    (hl : sc.names.lookup x = some .local) (hgl : sc.names.lookup ("DOTS" : Str) = some .globalImplicit) (hd : (x == ("__debug__" : Str)) = false := by decide) :
    EltK X sc x (.Compare (.Name x p1) [.Eq] [.Name "DOTS" p2] p3) D U P s1 tDots := by
  intro ce A' E' v b z m hs hg hc hA hDA hUA old hn hx nv
  have M := J.mod
  obtain ⟨ps, tP, _⟩ := tg
  have bk : ∀ b o, X.base.get? b = some o → z.heap.get? b = some o := fun b o e => old b o (fun q => by
    have := (J.bs b o e).2
    rw [q, tP] at this
    cases this) (J.bk b o e)
  have gl : z.heap.Ns ce.globals X.mg := by rw [hg]; exact M.glob.keeps bk
  obtain ⟨tD, hD⟩ := eD
  refine wpAny_Compare1 ?_
  refine wpAny_Name (wpAny_loadName_local (by rw [hs]; exact hk) (show ce.scope.names.lookup x = some .local by rw [hs]; exact hl) hn hx ?_) hd
  refine Calls.Name_function_global (by rw [hs]; exact hk) (show ce.scope.names.lookup _ = some .globalImplicit by rw [hs]; exact hgl) (Calls.loadGlobal_global gl hD ?_)
  rcases nv with ⟨i, t, rfl, rfl⟩ | ⟨y, t, rfl, rfl⟩ | ⟨a, its, rfl, q, rfl, _⟩
  · exact RcAt.int_str i t "..." tD _ _ _ _ ⟨rfl, keeps_refl _⟩
  · have e : (y == ("..." : Str)) = decide (y = "...") := by by_cases h : y = ("..." : Str) <;> simp [h]
    refine PyProof.Rows.eq_str ⟨?_, keeps_refl _⟩
    rw [e]; rfl
  · exact RcAt.list_str "..." tD q (Nat.lt_of_le_of_lt hUA hU) _ _ _ _ ⟨rfl, keeps_refl _⟩
/-- variables.get(x, False) -/
def tGet (nm : List Str) (g : Str → Bool) : Tst := ⟨fun _ => false, fun s => nm.contains s && g s, false, false⟩
theorem elt_get {pins : List (Addr × Obj)} {s1 : Shared} {H1 : Hp} {sc : Scope} {x y : Str} {i j : Nat} {p1 p2 p3 apos cpos : Pos} {P a : Addr} {nm : List Str} {g : Str → Bool} {D U : Nat} (J : Inv X pins σ H1 s1) (tg : TabG H1 P) (hi : σ[i]? = some (some (.ref a))) (ha : H1 a = some (.dK (dkm nm fun s => .bl (g s)))) (hN : X.N[i]? = some y)
    (hcell : X.env.kindOf y = some .cell) (hU : U + 1 < cLine) (hk : sc.kind = .function) (hl : sc.names.lookup x = some .local) (hfr : sc.names.lookup y = some .free) (hclo : ∀ cells c, cells.lookup y = some c → (cloFrom cells sc.names []).lookup y = some c) (hln : (apos.endLine == cpos.line) = true)
    (hd : (x == ("__debug__" : Str)) = false := by decide) (hd2 : (y == ("__debug__" : Str)) = false := by decide) (hd3 : (y == ("__classdict__" : Str)) = false := by decide) :
    EltK X sc x (.Call (.Attribute (.Name y p1) "get" apos) [.Name x p2, .Constant (.bool false) j p3] [] cpos) D U P s1 (tGet nm g) := by
  intro ce A' E' v b z m hs hg hc hA hDA hUA old hn hx nv
  obtain ⟨ps, tP, _⟩ := tg
  have nPa : a ≠ P := fun e => by rw [e, tP] at ha; cases ha
  obtain ⟨m0, _, lk⟩ := J.loc
  obtain ⟨u, ru, look⟩ := lk i y (.ref a) hN hi (.inr (.inl hcell))
  cases (show u = Value.ref a from ru)
  obtain ⟨c, hc1, hc2⟩ : ∃ c, X.env.cells.lookup y = some c ∧ s1.heap.IsCell c (some (.ref a)) := by
    rcases look with ⟨q, _⟩ | ⟨_, q⟩
    · rw [hcell] at q; cases q
    · exact q
  have nPc : c ≠ P := fun e => by
    have := J.freeC y c hc1
    rw [e, tP] at this; cases this
  have hc3 : z.heap.IsCell c (some (.ref a)) := by
    obtain ⟨o, e, r⟩ := hc2
    exact ⟨o, old _ _ nPc e, r⟩
  have hcl : ce.cells.lookup y = some c := by rw [hc]; exact hclo _ _ hc1
  obtain ⟨zz, hsm, vs, rel, ⟨ob, es, ep, g1, g2, g3⟩⟩ := dk_of J.hok ha
  have dd : z.heap.DictOf (mixKind X.prog X.w) a vs := ⟨ob, es, ep, old _ _ nPa g1, g2, g3⟩
  refine wpAny_Call_method rfl rfl hln PySem.F.plainAttrs_dict PySem.F.slot_dict_get PySem.F.type_dict_get ?_
  refine wpAny_Name (wpAny_loadName_free (by rw [hs]; exact hk) (show ce.scope.names.lookup y = some .free by rw [hs]; exact hfr) hcl hc3 ?_ hd3) hd2
  refine ⟨dd.typeIs, fun b q => ?_, ?_⟩
  · cases q
    exact ⟨ob, old _ _ nPa g1, g2.2.1⟩
  rw [show backTo cpos (starEach [Expr.Name x p2, .Constant (.bool false) j p3] ce) = [(false, eval (.Name x p2) ce), (false, eval (.Constant (.bool false) j p3) ce)] from rfl]
  refine Calls.callWith_builtin rfl (Calls.evalArgs_plain (Calls.spliced_cons (wpAny_Name (wpAny_loadName_local (by rw [hs]; exact hk) (show ce.scope.names.lookup x = some .local by rw [hs]; exact hl) hn hx (Calls.spliced_cons (wpAny_Constant_bool (Calls.spliced_nil ?_)))) hd)))
  rcases nv with ⟨i, t, rfl, rfl⟩ | ⟨w, t, rfl, rfl⟩ | ⟨a', its, rfl, q, _, e⟩
  · have ry : RelV (.int i) (.int i t) := ⟨t, rfl⟩
    refine call_meetsIn PySem.F.slot_dict_get dd.typeIs PySem.F.entry_dict_get (PySem.F.args_dict_get_3 _ _ _) (meets_dict_get_default (mixKind X.prog X.w) a (kV_is (k := Sum.inl i) ry) hsm (.bool false)) ⟨_, dd.mapOf, ?_, keeps_tok _ _⟩
    have := (rel.val (Sum.inl i)).getD (show RelV (.bl false) (.bool false) from rfl)
    rw [valV_dkmi] at this
    exact this
  · have ry : RelV (.str w) (.str w t) := ⟨t, rfl⟩
    refine call_meetsIn PySem.F.slot_dict_get dd.typeIs PySem.F.entry_dict_get (PySem.F.args_dict_get_3 _ _ _) (meets_dict_get_default (mixKind X.prog X.w) a (kV_is (k := Sum.inr w) ry) hsm (.bool false)) ⟨_, dd.mapOf, ?_, keeps_tok _ _⟩
    have := (rel.val (Sum.inr w)).getD (show RelV (.bl false) (.bool false) from rfl)
    show _ = Value.bool (nm.contains w && g w)
    by_cases h : w ∈ nm
    · rw [valV_dkm h] at this
      rw [List.contains_iff_mem.mpr h, Bool.true_and]
      exact this
    · rw [valV_dkm0 h] at this
      rw [show nm.contains w = false by rw [Bool.eq_false_iff]; exact fun z => h (List.contains_iff_mem.mp z), Bool.false_and]
      exact this
  · cases e
end
end My
namespace My
open PySem PySem.Spec PyProof.Rows L2 TL
theorem app_len (x y : Str) : (x ++ y).length = x.length + y.length := by
  rw [len_tl, tl_append, List.length_append, ← len_tl, ← len_tl]
/-! ### errors whose context is None: what raises them -/
theorem okN {P : Program} {w : World} {K : PySem.W.Frag} {mg : Str → Option Value} {base : Heap} {x qual : Str} {st : Stmt} {f : Addr} {fd : FuncData} {N ps : List Str} {k : Nat} {sp : Sp} (F : Fun K x qual st f fd) (S : FnScope N ps (defScope st))
    (len : ∀ vs H Q E, sp vs H Q E → vs.length = ps.length)
    (body : ∀ (cdv : Value) (A : Around) (outer : List Env) (s : Shared) (H : Hp) (vs : List V) (Q : VK) (E : XK), Room k (A.deeper (envOfC qual (defScope st) s.heap.objs.size f cdv)) → sp vs H Q E →
      ∃ t, PSs (cxOf (L2N.CX P w) P w K mg base N qual (defScope st) f cdv A outer s H E) (defBody st) t ∧ t { nx := fun _ H' => Q .non H', rt := Q } (start N vs) H) : FnOk P w K mg base (L2N.CX P w) (k + 1) f fd ps sp := by
  obtain ⟨oc, od, kV, doc, pm, an, cdv, ct, osl, efd, lk, hcd⟩ := F.ex
  subst efd
  exact fn_of lk hcd S len fun A out s0 H0 vs Q E room told => body cdv A out s0 H0 vs Q E room told
theorem pmkN_plain {X : Cx} {C : Addr} {bmB : List Value} {B newId initId : String} {x : Str} {e : Expr} {te : TE} {p pos : Pos} (F : ExcBaseFacts B newId initId bmB) (q : PySem.W.excIn X.K C bmB newId = true) (gC : X.mg x = some (.ref C))
    (kC : PySem.W.keepIn X.K (.ref C) = true) (r : Raises X (.ref C)) (hg : Gl X x) (he : PE X e te) (hdb : (x == ("__debug__" : Str)) = false := by decide)
    (hse : starEach [e] X.env = (false, eval e X.env) :: starEach [] X.env := by rfl) (hpl : (backTo pos (starEach [] X.env)).any (·.1) = false := by rfl) :
    L2N.PMk X (.Call (.Name x p) [e] [] pos) (fun σ H Q => tCons te tNil σ H fun vs H1 => vs.length = 1 ∧ Q (.ref C) none H1) := by
  intro pins s σ H Q I h
  refine wpAny_Call_Name_kw (ld_glob I hg gC ?_ hdb)
  have ha : PA X [e] (tCons te tNil) := pa_cons he pa_nil hse
  refine PySem.W.callWith_K (h₀ := X.base) I.ok.mod.kin kC (thn (ha.run pos pins s σ H _ I h) fun us s1 hh => ?_) hse hpl
  obtain ⟨vs, H1, J, rv, el, q1⟩ := hh
  have lu : us.length ≤ sizeLine := by
    rw [← Paired.length rv, el]
    decide
  obtain ⟨bm, N, nm, qn, bs, hdct, sn, sub, ab, col, dd, k0, k1, k2, k3, k5, mN, hC, hN, hni, T⟩ := exc_obj J.kIn q
  refine ⟨J.kIn, wpAny_call_exc_subT F T hC hN hni (fun h' e hm => ?_) lu⟩
  exact L2N.mk_of J hm r q1 (J.hok.gone hm.new)
theorem pmkN_oex {X : Cx} {CX : CXT} {x : Str} {e : Expr} {es : List Expr} {ta : TA} {p pos : Pos} {C fI : Addr} {k : Nat} {fd : FuncData} {ps : List Str} {sp : Sp} (T : OexC X.K C) (iC : PySem.W.findIn X.K (.ref C) "__init__" = some (some (.ref fI)))
    (tI : PySem.W.typeIn X.K (.ref fI) = some (.type "function")) (F : FnOk X.prog X.w X.K X.mg X.base CX k fI fd ps sp) (room : Room (k + 1) X.A) (bd : Binds X.K fd ps []) (_ : Vals ([] : List V) ([] : List Value)) (no : Passes CX X (fun _ _ _ => False))
    (hg : Gl X x) (hm : X.mg x = some (.ref C)) (ha : PA X (e :: es) ta) (hdb : (x == ("__debug__" : Str)) = false := by decide)
    (hse : starEach (e :: es) X.env = (false, eval e X.env) :: starEach es X.env := by rfl) (hpl : (backTo pos (starEach es X.env)).any (·.1) = false := by rfl) : L2N.PMk X (.Call (.Name x p) (e :: es) [] pos) (tMkO C sp [] ta) := by
  intro pins s0 σ H Q I told
  obtain ⟨nm, qn, ns, bs, bm, sn, sub, ab, col, dd, k0, k1, k2, k3, k5, lkC, ve⟩ := T.cls
  refine wpAny_Call_Name_kw (ld_glob I hg hm ?_ hdb)
  refine PySem.W.callWith_K (h₀ := X.base) I.ok.mod.kin T.kC (thn (ha.run pos pins s0 σ H _ I told) fun us s1 hh => ?_) hse hpl
  obtain ⟨vs, H1, J, rv, few, q1⟩ := hh
  refine ⟨J.kIn, ?_⟩
  show wpAny _ _ (call (.ref C) us) _ _ _
  obtain ⟨hp, gs, dr, tk, oss⟩ := s1
  have grown : ∀ b o, hp.get? b = some o → ((hp.push (PySem.W.kdv_tup us)).push (PySem.HandSPX.excO C hp.objs.size)).get? b = some o := fun b o z => Heap.get?_push_of_some _ (Heap.get?_push_of_some _ z)
  have new : ((hp.push (PySem.W.kdv_tup us)).push (PySem.HandSPX.excO C hp.objs.size)).get? (hp.objs.size + 1) = some (PySem.HandSPX.excO C hp.objs.size) := by heap_get
  have asked := q1 (hp.objs.size + 1) (J.hok.fresh (Nat.le_succ _))
  rw [List.append_nil] at asked
  have J2 := J.laid (t' := tk) (a := hp.objs.size + 1) (o := exo (hp.objs.size + 1) C none) grown (Nat.le_succ _) (exo_ok new)
  have rv2 : Vals (V.ref (hp.objs.size + 1) :: vs) (Value.ref (hp.objs.size + 1) :: us) := .cons rfl rv
  have el : (Value.ref (hp.objs.size + 1) :: us ++ []).length = ps.length := by
    rw [List.append_nil, ← rv2.length]
    exact F.len _ _ _ _ asked
  have lu : us.length ≤ sizeLine := by
    rw [← Paired.length rv]
    exact Nat.le_of_lt (small1000 few)
  have bd2 := bd _ (Value.ref (hp.objs.size + 1) :: us) J2.kIn el
  rw [List.append_nil] at bd2
  refine wpAny_call (PySem.HandSPX.call_own PySem.F.excBase_ValueError (fun Y => PySem.HandSPX.refsVE_contains Y bm ve) (J.kIn _ _ lkC) (PySem.W.looks_findIn J.kIn iC) (fun self => PySem.W.bind_fn J.kIn self tI) lu
    (codeAny_mono (F.run _ X.stack _ _ ⟨Value.ref (hp.objs.size + 1) :: us, []⟩ _ _ _ (fun _ _ _ => False) (room.make C us []) (J2.env0.make C us []) bd2 rv2 asked) fun r s2 end_ => ?_))
  cases r with
  | error er => exact no pins σ _ _ er s2 J2 end_
  | ok fl =>
    cases fl with
    | ret u =>
      obtain ⟨v, H2, os2, bare2, un2, hok2, ru, ev, d, fs, ea, ed, hd1, q2⟩ := end_
      subst ev
      obtain ⟨h2, g2, d2, t2, os'⟩ := s2
      obtain ⟨t0, G, I3, kG, goneA, atA, na⟩ := mk_end0 (d2 := d2) (t2 := t2) J (Nat.le_succ _) grown un2 hok2 os2 bare2 ea ed hd1
      refine ⟨ru, hp.objs.size + 1, _, _, ⟨G, g2, d2, t2, os'⟩, _, .ref C, some d, rfl, I3, kG, goneA, atA, ⟨rfl, rfl, fun ws z => ?_⟩, rfl, rfl, na, rfl, bare2, raises_own T.exC T.tyC, q2⟩
      cases z
      rfl
    | next => exact end_.elim
    | brk => exact end_.elim
    | cont => exact end_.elim
/-! ### errors with the field name -/
structure BaseC (K : PySem.W.Frag) (mg : Str → Option Value) (F : Addr) : Prop where
  g : mg "FoldError" = some (.ref F)
  rd : PySem.W.readsIn K F (.type "type") = true
  ga : PySem.W.specialIn K (.ref F) "__getattribute__" = some (some (.builtin "type.__getattribute__"))
  ini : PySem.W.findCls K (.ref F) (.type "type") "__init__" = some (.val (.builtin "ValueError.__init__"))
theorem pe_baseInit {X : Cx} {e : Expr} {es : List Expr} {ta : TA} {p1 p2 pos : Pos} {F : Addr} {pl : Sem Bool} (B : BaseC X.K X.mg F) (hg : Gl X "FoldError") (ha : PA X (e :: es) ta)
    (hc : eval (.Call (.Attribute (.Name "FoldError" p1) "__init__" p2) (e :: es) [] pos) X.env = (do
      let ov ← eval (.Name "FoldError" p1) X.env
      standAt p2.atName
      let (f, first) ← holding [ov] (getMethod ov "__init__" pl)
      callWith pos f first (backTo pos (starEach (e :: es) X.env)) (backToKw pos (keywordEach [] X.env))) := by rfl)
    (he : starEach (e :: es) X.env = (false, eval e X.env) :: starEach es X.env := by rfl) (hpl : (backTo pos (starEach es X.env)).any (·.1) = false := by rfl) :
    PE X (.Call (.Attribute (.Name "FoldError" p1) "__init__" p2) (e :: es) [] pos) (tVeI X.K ta) := by
  refine ⟨fun pins s σ H Q I h => PySem.W.methodCall_KW (ld_glob I hg B.g ?_) hc⟩
  refine PySem.W.method_cls I.kIn B.ga (PySem.W.cls_value I.kIn B.rd B.ini rfl ?_)
  show wpAny _ _ (callWith pos (Value.builtin "ValueError.__init__") [] (backTo pos (starEach (e :: es) X.env)) []) _ _ _
  refine PyProof.Rows.callWith_method1 (thn (ha.run pos pins _ σ H _ (I.tok _) h) fun us s1 hh => ?_) he hpl
  obtain ⟨vs, H1, J, rv, a, C, ws, ev, hl, T, ea, q⟩ := hh
  subst ev
  cases rv with
  | @cons _ u0 _ ur r0 rr =>
    have eu : u0 = Value.ref a := r0
    subst eu
    refine oinit_ok T J ea ?_ fun s' J' => ⟨.non, H1, J', rfl, q⟩
    rw [← Paired.length rr]
    exact Nat.le_of_lt (small1000 hl)
/-- __init__(self, name) of an error with the field name -/
def spIniN (K : PySem.W.Frag) (C : Addr) : Sp := fun vs H Q _ => ∃ (a : Addr) (z : Str), vs = [.ref a, .str z] ∧ H a = some (exo a C none) ∧ z.length ≤ 1000 ∧
  ∀ d, H d = none → d ≠ a → Q .non (upd (upd H d (exd d [("name", .str z)])) a (exo a C (some d)))
section
variable {P : Program} {w : World} {K : PySem.W.Frag} {mg : Str → Option Value} {base : Heap}
abbrev sIniD : Stmt := inClass (top 6) 0
theorem scIniD : FnScope ["self", "name"] ["self", "name"] (defScope sIniD) := ⟨rfl, rfl, rfl, by decide +kernel, rfl, by decide +kernel, by decide +kernel⟩
theorem ok_iniD {f F C : Addr} {fd : FuncData} (Fn : Fun K "__init__" "DuplicateName.__init__" sIniD f fd) (B : BaseC K mg F) (T : OexC K C) (hno : PySem.W.findIn K (.ref C) "name" = some none) :
    FnOk P w K mg base CX0 1 f fd ["self", "name"] (spIniN K C) := by
  refine Fn.ok scIniD (fun vs H Q E h => ?_) (fun cdv A outer s H vs Q E hr h => ?_)
  · obtain ⟨a, i, rfl, _⟩ := h
    rfl
  obtain ⟨a, z, rfl, ea, hz, q⟩ := h
  refine ⟨_, pss_cons (ps_expr (pe_baseInit B rfl (pa_cons (pv 0) (pa_cons (pe_joined (PJ.cons (pe_fmt (pv 1)) (PJ.cons pe_str PJ.nil))) pa_nil))))
    (pss_one (ps_ost (pv 0) (pv 1))), ?_⟩
  have l1 : (" is given twice" : Str).length = 15 := by decide +kernel
  have l0 : (Str.empty ++ z).length ≤ 1000 := by
    rw [app_len]
    exact Nat.le_trans (Nat.le_of_eq (show (Str.empty : Str).length + z.length = z.length by rw [show (Str.empty : Str).length = 0 from rfl]; omega)) hz
  refine ⟨_, rfl, _, rfl, .inl ⟨z, rfl, Nat.le_of_lt (line_of hz), _, rfl, Nat.le_of_lt (line_of l0), _, rfl, ?_, ?_⟩⟩
  · rw [app_len, l1]
    exact Nat.le_trans (Nat.add_le_add_right l0 15) (by decide)
  refine ⟨a, C, _, rfl, by show 1 ≤ 1000; decide, T, ea, ?_⟩
  refine ⟨_, rfl, _, rfl, a, C, rfl, T, hno, .inl ⟨ea, fun d hd hda => q d hd hda⟩⟩
/-- what a class of errors with the field name must show where one is made -/
structure ErrN (P : Program) (w : World) (K : PySem.W.Frag) (mg : Str → Option Value) (base : Heap) (x : Str) (C fI : Addr) (fdI : FuncData) : Prop where
  o : OexC K C
  g : mg x = some (.ref C)
  iC : PySem.W.findIn K (.ref C) "__init__" = some (some (.ref fI))
  tI : PySem.W.typeIn K (.ref fI) = some (.type "function")
  f : FnOk P w K mg base CX0 1 fI fdI ["self", "name"] (spIniN K C)
  b : Binds K fdI ["self", "name"] []
theorem mkO_nm {C : Addr} {H H0 : Hp} {z : Str} {Q : XK} {ta : TA} {σ : L2.St} (hz : z.length ≤ 1000) (h : ∀ Q' : List V → Hp → Prop, Q' [.str z] H → ta σ H Q')
    (sm : Sm No H0 H) (q : ∀ H' d, Sm No H0 H' → H0 d = none → H' d = some (.xd [("name", .str z)]) → Q (.ref C) (some d) H') : tMkO C (spIniN K C) [] ta σ H Q := by
  refine h _ ⟨by show 1 ≤ 1000; decide, fun a ha => ?_⟩
  refine ⟨a, z, rfl, upd_same, hz, fun d hd hda => ⟨rfl, d, [("name", .str z)], upd_same, ?_, ?_, ?_⟩⟩
  · rw [upd_ne hda, upd_same]
  · rw [upd_ne hda] at hd; exact hd
  have hd0 : H d = none := by rw [upd_ne hda] at hd; exact hd
  refine q _ d ?_ (sm.dom d hd0) upd_same
  have ne_a : ∀ {b : Addr} {o : HO}, H b = some o → b ≠ a := fun {b o} e z => by rw [z, ha] at e; cases e
  have ne_d : ∀ {b : Addr} {o : HO}, H b = some o → b ≠ d := fun {b o} e z => by rw [z, hd0] at e; cases e
  have val : ∀ {b : Addr} {o : HO}, H b = some o → (upd (L2.del (upd (upd (upd H a (exo a C none)) d (exd d [("name", V.str z)])) a (exo a C (some d))) a) d (.xd [("name", .str z)])) b = some o := fun {b o} e => by
    rw [upd_ne (ne_d e), del_ne (ne_a e), upd_ne (ne_a e), upd_ne (ne_d e), upd_ne (ne_a e)]
    exact e
  refine sm.trans ⟨fun b o _ _ e => val e, fun Z ⟨ps, z1, z2⟩ => ⟨ps, val z1, z2⟩, fun b e => ?_⟩
  cases q : H b with
  | none => rfl
  | some o => rw [val q] at e; cases e
end
/-- an error of the class at C with this name -/
def nmX (C : Addr) (z : Str) (H : Hp) (E : XK) : Prop := ∀ H' d, Sm No H H' → H d = none → H' d = some (.xd [("name", .str z)]) → E (.ref C) (some d) H'

/-! ### promises of one kind of exceptions as those of another -/
theorem toL2 {P : Program} {w : World} {K : PySem.W.Frag} {mg : Str → Option Value} {base : Heap} {k : Nat} {f : Addr} {fd : FuncData} {ps : List Str} {sp : Sp} (F : FnOk P w K mg base (L2N.CX P w) k f fd ps sp) : FnOk P w K mg base (L2.CX P w) k f fd ps sp :=
  ⟨F.len, fun A outer s H args us vs Q E hr he hb hv hs => codeAny_mono (F.run A outer s H args us vs Q E hr he hb hv hs) fun r s' q => by
    cases r with
    | ok e => cases e <;> exact q
    | error e =>
      obtain ⟨a, B, H', cls, d, e1, ⟨st, n, ff, oe, vs, T, oT, ts, h1, hz, h3⟩, rest⟩ := q
      exact ⟨a, B, H', cls, d, e1, ⟨st, n, ff, oe, vs, T, oT, ts, h1, L2N.Zn.zc hz, h3⟩, rest⟩⟩
/-- a promise that allows no exception -/
theorem quiet {P : Program} {w : World} {K : PySem.W.Frag} {mg : Str → Option Value} {base : Heap} {k : Nat} {f : Addr} {fd : FuncData} {ps : List Str} {sp : Sp} (F : FnOk P w K mg base (L2.CX P w) k f fd ps sp) (h : ∀ vs H Q E, sp vs H Q E → sp vs H Q fun _ _ _ => False) : FnOk P w K mg base CX0 k f fd ps sp :=
  ⟨F.len, fun A outer s H args us vs Q E hr he hb hv hs => codeAny_mono (F.run A outer s H args us vs Q (fun _ _ _ => False) hr he hb hv (h _ _ _ _ hs)) fun r s' q => by
    cases r with
    | ok e => cases e <;> exact q
    | error e =>
      obtain ⟨a, B, H', cls, d, e1, _, _, _, _, _, _, z⟩ := q
      exact z.elim⟩
/-! ### a, b, *r = xs -/
section
variable {X : Cx}
def gStar (K : PySem.W.Frag) (n : Nat) (t : TGs) : TG := fun v σ H Q => ∃ a xs, v = .ref a ∧ SqL K H a xs ∧ n ≤ xs.length ∧ ∀ p, H p = none → t (xs.take n ++ [.ref p]) σ (upd H p (.lst (xs.drop n))) Q
theorem pg_star {es es' : List Expr} {k n : Nat} {pos : Pos} {t : TGs} (hc : X.calm = true) (h : PGs X es' t) (hsame : (assignEach es X.env).map (·.2) = (assignEach es' X.env).map (·.2) := by rfl)
    (hn : (assignEach es X.env).length = n + 1 := by rfl) (hst : (assignEach es X.env).findIdx? (·.1) = some n := by rfl) : PG X (.Tuple es k pos) (gStar X.K n t) := by
  refine ⟨fun pins s σ H v u Q I r hw => ?_⟩
  obtain ⟨a, xs, e1, hq, hl, hw⟩ := hw
  subst e1
  obtain rfl : u = Value.ref a := r
  obtain ⟨its, rv, pl, hz⟩ := I.list hq
  have hsz : its.toArray.size = xs.length := by rw [List.size_toArray, ← rv.length]
  rw [arm_assign_Tuple]
  refine wpAny_bind (wpAny_standAt ?_)
  unfold unpack
  rw [hn, hst]
  refine wpAny_bind (wpAny_holding (unpack_star (I.ok.hd hc) pl.isList (by rw [hsz]; exact hl) (by rw [hsz]; exact hz) fun h' tk kp => ?_))
  have I1 : Inv X pins σ H { s with heap := h', toks := tk } := I.kept (t' := tk) kp
  have hD : H h'.objs.size = none := I1.hok.fresh (Nat.le_refl _)
  have I2 : Inv X pins σ (upd H h'.objs.size (.lst (xs.drop n))) { s with heap := h'.push { cls := .type "list", data := .seq (its.drop n).toArray }, toks := tk } :=
    I1.laid (t' := tk) (fun b o e => Heap.get?_push_of_some _ e) (Nat.le_refl _) ⟨Nat.le_trans (by rw [List.length_drop]; omega) hz, its.drop n, 0, rv.drop n, Heap.get?_push_size _ rfl⟩
  rw [hsame]
  exact h.run pins _ σ _ (xs.take n ++ [.ref h'.objs.size]) (its.take n ++ [.ref h'.objs.size]) Q I2 ((rv.take n).append (.cons (show RelV (.ref h'.objs.size) (.ref h'.objs.size) from rfl) .nil)) (hw _ hD)
end
/-! ### written -/
def spWrit : Sp := fun vs H Q _ => ∃ s : Str, vs = [.str s] ∧ Q (.str s) H
abbrev sWrit : Stmt := top 10
abbrev NWr : List Str := ["name", "symbol"]
section
variable {P : Program} {w : World} {K : PySem.W.Frag} {mg : Str → Option Value} {base : Heap}
theorem scWrit : FnScope NWr ["name"] (defScope sWrit) := ⟨rfl, rfl, rfl, by decide +kernel, rfl, by decide +kernel, by decide +kernel⟩
theorem ok_writ {f N : Addr} {fd : FuncData} (F : Fun K "written" "written" sWrit f fd) (B : Blt mg) (NC : NewC K mg N) : FnOk P w K mg base CX0 1 f fd ["name"] spWrit := by
  refine F.ok scWrit (fun vs H Q E h => ?_) (fun cdv A outer s H vs Q E hr h => ?_)
  · obtain ⟨s, rfl, _⟩ := h
    rfl
  obtain ⟨s, rfl, q⟩ := h
  have nd := scWrit.nd
  refine ⟨_, pss_cons (ps_set (i := 1) nd rfl (Or.inl rfl) (pv 0)) (pss_cons (ps_while PassesOwn.never (pt_val (pe_callB call_isi (by rfl) B.isinstance (by decide +kernel) (pa_cons (pv 1) (pa_cons (pe_glob (v := .ref N) rfl NC.g rfl) pa_nil)))) (pss_one ps_never)) (pss_one (ps_ret (pv 1)))), ?_⟩
  refine ⟨_, rfl, fun m σ H' => m = 0 ∧ H' = H ∧ σ = [some (.str s), some (.str s)], ⟨0, rfl, rfl, rfl⟩, ?_⟩
  rintro m σ H' ⟨rfl, rfl, rfl⟩
  exact ⟨_, rfl, _, _, _, _, false, rfl, .own N, .base (.str s), NC.s, _, rfl, iteF ⟨_, rfl, q⟩⟩
end
end My
namespace My
open PySem PySem.Spec PyProof.Rows L2 TL
/-! ### a def whose code object is known -/
structure FunC (K : PySem.W.Frag) (x : Str) (st : Stmt) (f : Addr) (fd : FuncData) (c : Addr) : Prop where
  ex : ∃ (oc : Value) (od : Option Addr) (kV doc pm : Value) (an : Option Addr) (ct : Value) (osl : Array (Option Value)),
    fd = PySem.W.fnOf x x (defArgs st) (defBody st) (defScope st) .none kV doc pm an (.ref c) ct ∧ K.lookup f = some ⟨oc, od, .func fd, osl⟩ ∧ PySem.W.codeIn K (.ref c) x = true
  kp : PySem.W.keepIn K (.ref f) = true
section
variable {P : Program} {w : World} {K : PySem.W.Frag} {mg : Str → Option Value} {base : Heap}
theorem FunC.okN {x : Str} {st : Stmt} {f c : Addr} {fd : FuncData} {N ps : List Str} {k : Nat} {sp : Sp} (F : FunC K x st f fd c) (S : FnScope N ps (defScope st)) (len : ∀ vs H Q E, sp vs H Q E → vs.length = ps.length)
    (hb : ∀ (A : Around) (outer : List Env) (s : Shared) (H : Hp) (vs : List V) (Q : VK) (E : XK), Room k (A.deeper (PyProof.Rows.envOfC x (defScope st) s.heap.objs.size f (.ref c))) → sp vs H Q E →
      ∃ t, PSs (cxOf (L2N.CX P w) P w K mg base N x (defScope st) f (.ref c) A outer s H E) (defBody st) t ∧ t { nx := fun _ H' => Q .non H', rt := Q } (start N vs) H) : FnOk P w K mg base (L2N.CX P w) (k + 1) f fd ps sp := by
  obtain ⟨oc, od, kV, doc, pm, an, ct, osl, e, lk, hcd⟩ := F.ex
  subst e
  exact fn_of lk hcd S len fun A outer s H vs Q E hr hsp => hb A outer s H vs Q E hr hsp
end
theorem genS_of {env : Env} {sc : Scope} {x : Str} (a : sc.kind = .function) (b : sc.isCoroutine = false) (c : ∀ y ∈ sc.names, y.2 ≠ .cell) (d : sc.names.lookup (".0" : Str) = some NameKind.local) (e : sc.names.lookup x = some .local)
    (n : ∀ y ∈ sc.names, y.2 ≠ .free) : GxR.GenS env sc x := ⟨a, b, c, d, e, fun y hy z => absurd z (n y hy)⟩
/-! ### shapes of the parts -/
def Shp (d : Dt) : Prop := SeqAt.shaped (pyQ d) = true
theorem lay_mem : ∀ {ds : List Dt}, PyData.canLayAll0 (pyQs ds) = true → ∀ d ∈ ds, (pyQ d).canLay0 = true
  | [], _, d, m => by cases m
  | x :: r, h, d, m => by
    unfold pyQs PyData.canLayAll0 at h
    rw [Bool.and_eq_true] at h
    rcases List.mem_cons.mp m with rfl | m
    · exact h.1
    · exact lay_mem h.2 d m
theorem dep_mem : ∀ {ds : List Dt}, ∀ d ∈ ds, (pyQ d).depth ≤ PyData.depthAll (pyQs ds)
  | [], d, m => by cases m
  | x :: r, d, m => by
    unfold pyQs PyData.depthAll
    rcases List.mem_cons.mp m with rfl | m
    · omega
    · have := dep_mem d m
      omega
theorem shp_lst {ds : List Dt} (h : Shp (.lst ds)) : ∀ d ∈ ds, Shp d := fun d m => by
  unfold Shp SeqAt.shaped at *
  unfold pyQ at h
  unfold PyData.canLay0 PyData.depth at h
  rw [Bool.and_eq_true, decide_eq_true_iff] at h
  rw [Bool.and_eq_true, decide_eq_true_iff]
  refine ⟨lay_mem h.1 d m, ?_⟩
  have := dep_mem d m
  omega
/-! ### ends_with_dots -/
def endD (ds : List Dt) : Bool := decide (1 < ds.length) && (match ds.getLast? with | some d => isDots d | none => false)
def spEnd : Sp := fun vs H Q _ => ∃ (a : Addr) (us : List V) (ds : List Dt), vs = [.ref a] ∧ H a = some (.lst us) ∧ RqL H us ds ∧ (∀ d ∈ ds, Shp d) ∧ Q (.bl (endD ds)) H
abbrev sEnd : Stmt := top 19
/-- a list of pairs, the data of the beginning -/
def PrQ (H0 H : Hp) (v : V) (x : Dt × Bool) : Prop := ∃ p u, v = .ref p ∧ H p = some (.tup [u, .bl x.2]) ∧ Rq H0 u x.1
theorem PrQ.sm {H0 H H' : Hp} {v : V} {x : Dt × Bool} (h : PrQ H0 H v x) (e : Sm No H H') : PrQ H0 H' v x := let ⟨p, u, a, b, c⟩ := h; ⟨p, u, a, e.tup (fun z => z) b, c⟩
theorem PrQ.put {H0 H : Hp} {v : V} {x : Dt × Bool} {a : Addr} {ys : List V} {o : HO} (h : PrQ H0 H v x) (ha : H a = some (.lst ys)) : PrQ H0 (upd H a o) v x :=
  let ⟨p, u, e, b, c⟩ := h; ⟨p, u, e, by rw [upd_ne (fun z => by rw [z, ha] at b; cases b)]; exact b, c⟩
theorem PrQ.putD {H0 H : Hp} {v : V} {x : Dt × Bool} {a : Addr} {ys : List (Key × V)} {o : HO} (h : PrQ H0 H v x) (ha : H a = some (.dK ys)) : PrQ H0 (upd H a o) v x :=
  let ⟨p, u, e, b, c⟩ := h; ⟨p, u, e, by rw [upd_ne (fun z => by rw [z, ha] at b; cases b)]; exact b, c⟩
theorem PrQ.toB {H0 H : Hp} {v : V} {x : Dt × Bool} (h : PrQ H0 H v x) (e : Sm No H0 H) : PrB H v x := let ⟨p, u, a, b, c⟩ := h; ⟨p, u, a, b, c.sm e⟩
theorem PrQ.back {H0 H1 H : Hp} {v : V} {x : Dt × Bool} (h : PrQ H1 H v x) (f : ∀ u d, Rq H1 u d → Rq H0 u d) : PrQ H0 H v x := let ⟨p, u, a, b, c⟩ := h; ⟨p, u, a, b, f _ _ c⟩
/-- the elements of a list of a pattern, each with whether it is repeated; none: malformed -/
def partsD (ds : List Dt) (r : Bool) : Option (List (Dt × Bool)) :=
  bif endD ds then (bif r then none else bif ((ds.take (ds.length - 2)).map (fun d => (d, r)) ++ [((ds[ds.length - 2]?).getD (.int 0), true)]).any (fun x => isDots x.1) then none else some ((ds.take (ds.length - 2)).map (fun d => (d, r)) ++ [((ds[ds.length - 2]?).getD (.int 0), true)]))
  else bif (ds.map fun d => (d, r)).any (fun x => isDots x.1) then none else some (ds.map fun d => (d, r))
def spParts (I P1 : Addr) : Sp := fun vs H Q E => ∃ (H0 : Hp) (a : Addr) (us : List V) (ds : List Dt) (r : Bool), vs = [.ref a, .bl r] ∧ H a = some (.lst us) ∧ RqL H0 us ds ∧ Sm No H0 H ∧ (∀ d ∈ ds, Shp d) ∧ ds.length ≤ 1000 ∧ GxR.TabG H P1 ∧
  (∀ ps, partsD ds r = some ps → ∀ (L : Addr) (ws : List V) (H' : Hp), Sm No H H' → H' L = some (.lst ws) → Al (PrQ H0 H') ws ps → Q (.ref L) H') ∧
  (partsD ds r = none → ∀ H', Sm No H H' → E (.ref I) none H')
abbrev sParts : Stmt := top 20
abbrev NPa : List Str := ["pattern", "repeated", "parts", "part"]
theorem sIx_neg {n d k : Nat} (hk : 0 < k) : HT.sIx n d (some (-(k : Int))) = n - k := by
  show (if (-(k : Int)) < 0 then (-(k : Int) + (n : Int)).toNat else min (-(k : Int)).toNat n) = n - k
  rw [if_pos (by omega)]
  omega
theorem cut_neg {xs : List V} {k : Nat} (hk : 0 < k) : cutV xs none (some (-(k : Int))) = xs.take (xs.length - k) := by
  unfold cutV
  rw [HT.sIx_none, sIx_neg hk, List.drop_zero, Nat.sub_zero]
theorem at_neg {α : Type} {xs : List α} {k : Nat} {v : α} (hk : 0 < k) (hl : k ≤ xs.length) (h : xs[xs.length - k]? = some v) : atI xs (-(k : Int)) = some v := by
  unfold atI
  rw [show ixN xs.length (-(k : Int)) = some (xs.length - k) by
    unfold ixN
    rw [if_neg (by omega), if_pos (by omega)]
    congr 1
    omega]
  exact h
section
variable {P : Program} {w : World} {K : PySem.W.Frag} {mg : Str → Option Value} {base : Heap}
theorem scEnd : FnScope ["pattern"] ["pattern"] (defScope sEnd) := ⟨rfl, rfl, rfl, by decide +kernel, rfl, by decide +kernel, by decide +kernel⟩
theorem scParts : FnScope NPa ["pattern", "repeated"] (defScope sParts) := ⟨rfl, rfl, rfl, by decide +kernel, rfl, by decide +kernel, by decide +kernel⟩
theorem ok_end {f : Addr} {fd : FuncData} (F : Fun K "ends_with_dots" "ends_with_dots" sEnd f fd) (B : Blt mg) (eD : ∃ t, mg "DOTS" = some (.str "..." t)) : FnOk P w K mg base CX0 1 f fd ["pattern"] spEnd := by
  refine F.ok scEnd (fun vs H Q E h => ?_) (fun cdv A outer s H vs Q E hr h => ?_)
  · obtain ⟨a, us, ds, rfl, _⟩ := h
    rfl
  obtain ⟨a, us, ds, rfl, ha, rl, shp, q⟩ := h
  have nd := scEnd.nd
  obtain ⟨t, eD⟩ := eD
  refine ⟨_, (pss_one (ps_ret (pe_and (pe_cmpR op_gt (pe_callB call_len_seq (by rfl) B.len PySem.boot_len (pa_cons (pv 0) pa_nil)) pe_int (nomark _)) (pe_one (pe_cmpR (op_eqD hr.units) (pe_ix (r := rIxL K) ix_list (pv 0) (pe_un un_neg pe_int) (fun _ _ => rfl)) (pe_glob (v := .str "...") rfl eD ⟨_, rfl⟩) (nomark _)))))), ?_⟩
  have ll := rl.len
  refine ⟨_, rfl, a, _, rfl, .inl (SqL.of ha), _, _, rfl, rfl, _, rfl, ?_⟩
  unfold endD at q
  by_cases h1 : 1 < ds.length
  · rw [decide_eq_true h1, Bool.true_and] at q
    have ne : us ≠ [] := fun z => by rw [z] at ll; simp at ll; omega
    obtain ⟨us', y, ds', x, rfl, rfl, al', rx⟩ := rl.al.last ne
    rw [List.getLast?_append] at q
    rw [decide_eq_true (show ((1 : Int) < (((us' ++ [y]).length : Nat) : Int)) by omega)]
    refine iteT ⟨_, rfl, _, rfl, a, _, _, _, rfl, rfl, SqL.of ha, atI_last _ _, pyQ x, .str "...", rx.dp, .str _, shp x (by simp), shaped_dots, ?_⟩
    rw [eqv_dots]
    exact q
  · rw [decide_eq_false h1, Bool.false_and] at q
    rw [decide_eq_false (show ¬ ((1 : Int) < ((us.length : Nat) : Int)) by omega)]
    exact iteF q
theorem ok_parts {f c fE I P1 : Addr} {fd dE : FuncData} (F : FunC K "pattern_parts" sParts f fd c) (B : Blt mg) (TB : GxR.TabB base mg c P1) (GE : Cal P w K mg base CX0 1 "ends_with_dots" ["pattern"] spEnd fE dE) (XR : PlainC K mg "InvalidRule" I) (eD : ∃ t, mg "DOTS" = some (.str "..." t)) :
    FnOk P w K mg base (L2N.CX P w) 2 f fd ["pattern", "repeated"] (spParts I P1) := by
  refine F.okN scParts (fun vs H Q E h => ?_) (fun A outer s H vs Q E hr h => ?_)
  · obtain ⟨H0, a, us, ds, r, rfl, _⟩ := h
    rfl
  obtain ⟨H0, a, us, ds, r, rfl, ha, rl, sH, shp, hz, tg, qO, qE⟩ := h
  have nd := scParts.nd
  have hU : (A.deeper (PyProof.Rows.envOfC "pattern_parts" (defScope sParts) s.heap.objs.size f (.ref c))).units + 8 < cLine := by
    have := hr.units
    omega
  refine ⟨_, (pss_cons (ps_setLc (i := 2) (own := [("part", 3)]) (g := gName 3) (tt := tYes) rfl nd rfl rfl (sw_true rfl rfl rfl (by decide +kernel)) (pi_list (pv 0)) (blkOk_by (N := NPa) (sc := defScope sParts) (by decide +kernel)) (fun _ _ _ _ _ => (pg_name (i := 3) nd rfl (Or.inl rfl) (hf := Or.inr rfl))) (fun _ _ _ _ _ => pts_nil) (fun _ _ _ _ _ => (pe_tup (pa_cons (pv 3) (pa_cons (pv 1) pa_nil)))))
    (C8.pss_cut (ps_if (pt_val (pe_call GE.ok hr rfl GE.g GE.k GE.b .nil pass0 (pa_cons (pv 0) pa_nil))) (pss_cons (ps_if (pt_val (pv 1)) (pss_one (L2N.ps_raise rfl (L2N.takes_of rfl rfl rfl rfl) (pmkN_plain PySem.F.excBase_ValueError XR.q XR.g XR.k (raises_own XR.s XR.t) rfl pe_str))) pss_nil)
      (pss_one (ps_set (i := 2) nd rfl (Or.inl rfl) (pe_lst (StX.pa_star (pe_slice sl_list (pv 2) po_none (po_some (pe_un un_neg pe_int))) (pa_cons (pe_tup (pa_cons (pe_ix (r := rIxL K) ix_list (pv 0) (pe_un un_neg pe_int) (fun _ _ => rfl)) (pa_cons pe_bl pa_nil))) pa_nil)))))) pss_nil)
    (pss_cons (ps_if (pt_val (pe_anyT (P := P1) hr rfl B.any (by decide +kernel) TB rfl (genS_of rfl rfl (by decide +kernel) rfl rfl (by decide +kernel)) rfl (by decide) (pv 2) (fun σ pins s1 H1 J tg => elt_dots J tg eD hU rfl rfl rfl) (fun _ => rfl))) (pss_one (L2N.ps_raise rfl (L2N.takes_of rfl rfl rfl rfl) (pmkN_plain PySem.F.excBase_ValueError XR.q XR.g XR.k (raises_own XR.s XR.t) rfl pe_str))) pss_nil)
    (pss_one (ps_ret (pv 2)))))), ?_⟩
  have al := rl.al
  have ll := rl.len
  refine ⟨_, rfl, a, rfl, ⟨_, SqL.of ha⟩, fun D hD => ?_⟩
  have sD : Sm No H (upd H D (.lst [])) := Sm.new hD
  refine lc_list (xs := us) (fun j H' => ∃ ws, H' D = some (.lst ws) ∧ Al (PrQ H0 H') ws ((ds.take j).map fun d => (d, r)) ∧ ws.length = j ∧ Sm No H H')
      ⟨[], upd_same, by rw [List.take_zero]; exact Al.nil, rfl, sD⟩ (fun j H' _ ⟨_, _, _, _, e⟩ => SqL.of (e.lst0 ha)) ?_ ?_
  · rintro j y H3 hj ⟨ws, h3, al3, lw, s6⟩
    obtain ⟨d', hd', rd⟩ := al.2 j y hj
    have jl := (List.getElem?_eq_some_iff.mp hj).1
    refine ⟨rfl, _, rfl, _, rfl, by show 2 ≤ sizeLine; decide, fun t2 ht2 => ?_⟩
    have s7 : Sm No H3 (upd H3 t2 (.tup [y, .bl r])) := Sm.new ht2
    have h7 := s7.lst0 h3
    have tD : t2 ≠ D := fun z => by rw [z, h3] at ht2; cases ht2
    refine ⟨ws, h7, line_of (by omega), ws ++ [.ref t2], upd_same, ?_, by rw [List.length_append, lw]; rfl, (s6.trans s7).mut hD (ntbl_l h7)⟩
    rw [take_nx hd', List.map_append]
    exact (al3.mono fun _ _ z => (z.sm s7).put h7).snoc ⟨t2, y, rfl, by rw [upd_ne tD, upd_same], rd⟩
  rintro H1 ⟨ws, h1, al1, lw, s1⟩
  rw [al.len, List.take_length] at al1
  -- the last check
  have fin : ∀ (L : Addr) (vs : List V) (ps : List (Dt × Bool)) (H2 : Hp) (v3 : Option V), Sm No H H2 → H2 L = some (.lst vs) → Al (PrQ H0 H2) vs ps → (∀ x ∈ ps, Shp x.1) → (partsD ds r = bif ps.any (fun x => isDots x.1) then none else some ps) →
      (tSeq (tIfS (tTest (tGenT P1 tDots (tVar 2) fun ds => ds.any fun d => tDots.at d.1)) (fun x σ H => tCons (tC (.str "dots in a pattern that are not behind its last but one element")) tNil σ H fun vs H1 => vs.length = 1 ∧ E (.ref I) none H1) tNext) (tRet (tVar 2))) { nx := fun _ H' => Q .non H', rt := Q } [some (.ref a), some (.bl r), some (.ref L), v3] H2 := fun L vs ps H2 v3 s2 hL al2 sh ep => by
    refine ⟨_, rfl, L, vs, ps, rfl, hL, al2.mono fun _ _ z => z.toB (sH.trans s2), fun d _ => by cases d.1 <;> rfl, s2.tab _ tg, fun H3 tb => ⟨ps.any fun x => isDots x.1, congrArg (fun f => V.bl (ps.any f)) (funext fun d => at_dots d.1), ?_⟩⟩
    have s3 : Sm No H2 H3 := Sm.tabbed (s2.tab _ tg) tb
    cases hc : ps.any fun x => isDots x.1 with
    | true =>
      rw [hc] at ep
      exact iteT ⟨rfl, qE ep H3 (s2.trans s3)⟩
    | false =>
      rw [hc] at ep
      exact iteF ⟨_, rfl, qO ps ep L vs H3 (s2.trans s3) (s3.lst0 hL) (al2.mono fun _ _ z => z.sm s3)⟩
  have ha1 := s1.lst0 ha
  refine ⟨fun σ' H' => ∃ (L : Addr) (vs : List V) (ps : List (Dt × Bool)) (v3 : Option V), σ' = [some (.ref a), some (.bl r), some (.ref L), v3] ∧ Sm No H H' ∧ H' L = some (.lst vs) ∧ Al (PrQ H0 H') vs ps ∧ (∀ x ∈ ps, Shp x.1) ∧ (partsD ds r = bif ps.any (fun x => isDots x.1) then none else some ps), ?_, ?_⟩
  · refine ⟨_, rfl, a, us, ds, rfl, ha1, rl.sm (sH.trans s1), shp, _, rfl, ?_⟩
    cases he : endD ds with
    | false =>
      refine iteF ⟨D, ws, _, _, rfl, s1, h1, al1, fun x hx => ?_, ?_⟩
      · obtain ⟨d, hd, rfl⟩ := List.mem_map.mp hx
        exact shp d hd
      · unfold partsD
        rw [he]; rfl
    | true =>
      refine iteT ⟨_, rfl, r, rfl, ?_⟩
      cases r with
      | true =>
        refine iteT ⟨rfl, qE ?_ H1 s1⟩
        unfold partsD
        rw [he]; rfl
      | false =>
        have l2 : 2 ≤ ds.length := by
          unfold endD at he
          rw [Bool.and_eq_true, decide_eq_true_iff] at he
          omega
        obtain ⟨d2, hd2⟩ : ∃ d2, ds[ds.length - 2]? = some d2 := ⟨_, List.getElem?_eq_getElem (by omega)⟩
        obtain ⟨u2, hu2⟩ : ∃ u2, us[us.length - 2]? = some u2 := ⟨_, List.getElem?_eq_getElem (by omega)⟩
        obtain ⟨d2', hd2', r2⟩ := al.2 _ u2 hu2
        rw [ll, hd2] at hd2'
        cases hd2'
        refine iteF ⟨_, rfl, _, rfl, _, rfl, D, ws, rfl, SqL.of h1, fun p hp => ?_⟩
        have e1 : cutV ws none (some (-2)) = ws.take (ws.length - 2) := cut_neg (k := 2) (by decide)
        have sp1 : Sm No H1 (upd H1 p (.lst (cutV ws none (some (-2))))) := Sm.new hp
        refine ⟨p, _, rfl, .inr (SqL.of upd_same), ?_⟩
        have ha2 := sp1.lst0 ha1
        refine ⟨_, rfl, _, rfl, a, _, _, u2, rfl, rfl, SqL.of ha2, at_neg (k := 2) (by decide) (by omega) hu2, by show 2 ≤ sizeLine; decide, fun t ht => ?_⟩
        rw [e1] at sp1
        rw [e1] at ht ⊢
        have st := sp1.trans (Sm.new (o := .tup [u2, .bl true]) ht)
        refine ⟨?_, fun l hl => ?_⟩
        · rw [List.length_append, List.length_take]
          exact Nat.le_of_lt (line_of (by show min (ws.length - 2) ws.length + 1 ≤ 1000; omega))
        have sl := st.trans (Sm.new (o := .lst (ws.take (ws.length - 2) ++ [.ref t])) hl)
        refine ⟨l, _, (ds.take (ds.length - 2)).map (fun d => (d, false)) ++ [(d2, true)], _, rfl, s1.trans sl, upd_same, ?_, fun x hx => ?_, ?_⟩
        · have al4 := (al1.take (ws.length - 2)).mono fun _ _ z => z.sm sl
          have lws : ws.length - 2 = ds.length - 2 := by omega
          rw [lws] at al4 ⊢
          rw [← List.map_take] at al4
          refine al4.snoc ⟨t, u2, rfl, ?_, r2⟩
          rw [upd_ne (fun z => by rw [z] at hl; rw [upd_same] at hl; cases hl), upd_same]
        · rcases List.mem_append.mp hx with hx | hx
          · obtain ⟨d, hd, rfl⟩ := List.mem_map.mp hx
            exact shp d (List.mem_of_mem_take hd)
          · rw [List.mem_singleton.mp hx]
            exact shp d2 (List.mem_of_getElem? hd2)
        · unfold partsD
          rw [he, hd2]; rfl
  · rintro σ' H' ⟨L, vs, ps, v3, rfl, s2, hL, al2, sh, ep⟩
    exact fin L vs ps H' v3 s2 hL al2 sh ep
end
end My
namespace My
open PySem PySem.Spec PyProof.Rows L2 TL
/-! ### pattern_variables -/
inductive PV where
  | ok (nm : List Str) (g : Str → Bool) | bad | dup (s : Str)
/-- the stack's top first -/
def patV (lit : List Str) : Nat → List (Dt × Bool) → List Str → (Str → Bool) → Option PV
  | 0, _, _, _ => none
  | _ + 1, [], nm, g => some (.ok nm g)
  | n + 1, (.lst ds, r) :: rest, nm, g => bif decide (ds.length ≤ 1000) then
      (match partsD ds r with
      | none => some .bad
      | some ps => bif decide (ps.length + rest.length ≤ 1000) then patV lit n (ps ++ rest) nm g else none) else none
  | n + 1, (.str s, r) :: rest, nm, g => bif lit.contains s then patV lit n rest nm g else bif decide (s.length ≤ 1000) then
      (bif nm.contains s then some (.dup s) else bif decide (nm.length ≤ 900) then patV lit n rest (nm ++ [s]) (fun z => bif decide (z = s) then r else g z) else none) else none
  | n + 1, (.int _, _) :: rest, nm, g => patV lit n rest nm g
theorem PV.imp {a b : Option (Option PV)} (h : a = b) : b = a := h.symm
theorem shp_parts {ds : List Dt} {r : Bool} {ps : List (Dt × Bool)} (h : ∀ d ∈ ds, Shp d) (e : partsD ds r = some ps) : ∀ x ∈ ps, Shp x.1 := by
  unfold partsD at e
  cases he : endD ds with
  | false =>
    rw [he, cond_false] at e
    cases hc : (ds.map fun d => (d, r)).any fun x => isDots x.1 with
    | true => rw [hc] at e; cases e
    | false =>
      rw [hc] at e
      cases e
      intro x hx
      obtain ⟨d, hd, rfl⟩ := List.mem_map.mp hx
      exact h d hd
  | true =>
    rw [he, cond_true] at e
    cases r with
    | true => cases e
    | false =>
      rw [cond_false] at e
      cases hc : ((ds.take (ds.length - 2)).map (fun d => (d, false)) ++ [((ds[ds.length - 2]?).getD (.int 0), true)]).any (fun x => isDots x.1) with
      | true => rw [hc] at e; cases e
      | false =>
        rw [hc] at e
        cases e
        intro x hx
        have l2 : 2 ≤ ds.length := by
          unfold endD at he
          rw [Bool.and_eq_true, decide_eq_true_iff] at he
          omega
        rcases List.mem_append.mp hx with hx | hx
        · obtain ⟨d, hd, rfl⟩ := List.mem_map.mp hx
          exact h d (List.mem_of_mem_take hd)
        · rw [List.mem_singleton.mp hx, List.getElem?_eq_getElem (show ds.length - 2 < ds.length by omega)]
          exact h _ (List.getElem_mem _)
def spPv (I D P1 : Addr) : Sp := fun vs H Q E => ∃ (v : V) (d : Dt) (l : Addr) (lit : List Str) (gl : Str → V) (fuel : Nat) (o : PV), vs = [v, .ref l] ∧ Rq H v d ∧ Rd H l (.dK (dkm lit gl)) ∧ Shp d ∧ GxR.TabG H P1 ∧ patV lit fuel [(d, false)] [] (fun _ => false) = some o ∧
  (∀ nm g, o = .ok nm g → ∀ (L : Addr) (H' : Hp), Sm No H H' → H' L = some (.dK (dkm nm fun s => .bl (g s))) → Q (.ref L) H') ∧
  (o = .bad → ∀ H', Sm No H H' → E (.ref I) none H') ∧ (∀ s, o = .dup s → nmX D s H E)
abbrev sPv : Stmt := top 21
abbrev NPv : List Str := ["pattern", "literals", "variables", "rest", "part", "repeated"]
theorem ntbl_k {H : Hp} {a : Addr} {xs : List (Key × V)} (h : H a = some (.dK xs)) : ∀ ps, H a ≠ some (.tbl ps) := fun ps z => by rw [h] at z; cases z
theorem Rd.sm {H H' : Hp} {l : Addr} {kvs : List (Key × V)} (e : Sm No H H') (h : Rd H l (.dK kvs)) : Rd H' l (.dK kvs) := Sm.rd e (fun z => z) rfl h
section
variable {P : Program} {w : World} {K : PySem.W.Frag} {mg : Str → Option Value} {base : Heap}
theorem scPv : FnScope NPv ["pattern", "literals"] (defScope sPv) := ⟨rfl, rfl, rfl, by decide +kernel, rfl, by decide +kernel, by decide +kernel⟩
theorem ok_pv {f fP fV fW fI I D P1 : Addr} {fd dP dV dW fdI : FuncData} (F : Fun K "pattern_variables" "pattern_variables" sPv f fd) (B : Blt mg) (GP : Cal P w K mg base (L2N.CX P w) 2 "pattern_parts" ["pattern", "repeated"] (spParts I P1) fP dP)
    (GV : Cal P w K mg base CX0 2 "is_variable" ["part", "literals"] spVar fV dV) (GW : Cal P w K mg base CX0 1 "written" ["name"] spWrit fW dW) (XD : ErrN P w K mg base "DuplicateName" D fI fdI) :
    FnOk P w K mg base (L2N.CX P w) 3 f fd ["pattern", "literals"] (spPv I D P1) := by
  refine okN F scPv (fun vs H Q E h => ?_) (fun cdv A outer s H vs Q E hr h => ?_)
  · obtain ⟨v, d, l, lit, gl, fuel, o, rfl, _⟩ := h
    rfl
  obtain ⟨v, d, l, lit, gl, fuel, o, rfl, rv, hl, sh, tg, ev, qO, qB, qD⟩ := h
  have nd := scPv.nd
  have hu := units1 hr.units
  have r1 := hr.mono (show 1 ≤ 2 by decide)
  refine ⟨_, (pss_cons (ps_set (i := 2) nd rfl (Or.inl rfl) pe_dnewK)
    (pss_cons (ps_set (i := 3) nd rfl (Or.inl rfl) (pe_lst (pa_cons (pe_tup (pa_cons (pv 0) (pa_cons pe_bl pa_nil))) pa_nil)))
    (pss_cons (ps_while (passes_of rfl) (pt_truth (pv 3) (by intro _; rfl))
      (pss_cons (ps_asg (pe_bm0 PySem.F.plainAttrs_list PySem.F.slot_list_pop PySem.F.type_list_pop mt_pop (pv 3)) (pg_tup rfl (pgs_cons (pg_name (i := 4) nd rfl (Or.inl rfl)) (pgs_cons (pg_name (i := 5) nd rfl (Or.inl rfl)) pgs_nil))))
      (pss_one (ps_if (pt_val (pe_callB call_isi (by rfl) B.isinstance (by decide +kernel) (pa_cons (pv 4) (pa_cons (pe_bltn (v := .ty "list") (by rfl) B.list (by decide +kernel) rfl) pa_nil)))) (pss_one (ps_expr (pe_bm PySem.F.plainAttrs_list PySem.F.slot_list_extend PySem.F.type_list_extend mt_extend (pv 3) (pa_cons (pe_revL (pe_call GP.ok hr rfl GP.g GP.k GP.b .nil (L2N.passes_call (L2N.takes_of rfl rfl rfl rfl) fun _ _ _ _ h => h) (pa_cons (pv 4) (pa_cons (pv 5) pa_nil)))) pa_nil)))) (pss_one (ps_if (pt_val (pe_call GV.ok hr rfl GV.g GV.k GV.b .nil pass0 (pa_cons (pv 4) (pa_cons (pv 1) pa_nil)))) (pss_cons (ps_if (pt_cmp (pc_din hu (pv 4) (pv 2))) (pss_one (L2N.ps_raise rfl (L2N.takes_of rfl rfl rfl rfl) (pmkN_oex XD.o XD.iC XD.tI XD.f hr XD.b .nil pass0 rfl XD.g (pa_cons (pe_call GW.ok r1 rfl GW.g GW.k GW.b .nil pass0 (pa_cons (pv 4) pa_nil)) pa_nil)))) pss_nil)
          (pss_one (ps_dput hu (pv 2) (pv 4) (pv 5) rfl))) pss_nil))))))
    (pss_one (ps_ret (pv 2)))))), ?_⟩
  intro Dv hDv
  have s0 : Sm No H (upd H Dv (.dK [])) := Sm.new hDv
  refine ⟨_, rfl, by show 2 ≤ sizeLine; decide, fun p0 hp0 => ⟨by show 1 ≤ sizeLine; decide, fun R hR => ?_⟩⟩
  have s1 := s0.trans (Sm.new (o := .tup [v, .bl false]) hp0)
  have s2 := s1.trans (Sm.new (o := .lst [.ref p0]) hR)
  have hR0 : H R = none := s1.dom R hR
  have pR : p0 ≠ R := fun z => by rw [← z, upd_same] at hR; cases hR
  have pD : Dv ≠ p0 := fun z => by rw [← z, upd_same] at hp0; cases hp0
  have RD : R ≠ Dv := fun z => by rw [z, upd_ne pD, upd_same] at hR; cases hR
  refine ⟨fun m σ H' => ∃ (v4 v5 : Option V) (st : List (Dt × Bool)) (vs : List V) (nm : List Str) (g : Str → Bool), σ = [some v, some (.ref l), some (.ref Dv), some (.ref R), v4, v5] ∧ H' R = some (.lst vs) ∧ Al (PrQ H H') vs st.reverse ∧ H' Dv = some (.dK (dkm nm fun s => .bl (g s))) ∧
      patV lit m st nm g = some o ∧ (∀ x ∈ st, Shp x.1) ∧ st.length ≤ 1000 ∧ Sm No H H',
    ⟨fuel, none, none, [(d, false)], [.ref p0], [], fun _ => false, rfl, upd_same, Al.one ⟨p0, v, rfl, by rw [upd_ne pR, upd_same], rv⟩, by rw [upd_ne (Ne.symm RD), upd_ne pD, upd_same]; rfl, ev, ?_, by show 1 ≤ 1000; decide, s2⟩, ?_⟩
  · intro x hx
    rw [List.mem_singleton.mp hx]; exact sh
  rintro m σ H1 ⟨v4, v5, st, vs, nm, g, rfl, h1, al, hd1, ev1, shs, lst, s3⟩
  refine ⟨_, rfl, _, .inl ⟨_, SqL.of h1, rfl⟩, ?_⟩
  cases m with
  | zero => unfold patV at ev1; cases ev1
  | succ m =>
  by_cases hn : vs = []
  · subst hn
    have es : st = [] := by
      have := al.len
      rw [List.length_nil, List.length_reverse] at this
      exact List.length_eq_zero_iff.mp this.symm
    subst es
    unfold patV at ev1
    refine iteF ⟨_, rfl, qO nm g (Option.some.inj ev1).symm Dv H1 s3 hd1⟩
  cases st with
  | nil =>
    have := al.len
    rw [List.reverse_nil, List.length_nil] at this
    exact absurd (List.length_eq_zero_iff.mp this) hn
  | cons x st =>
  obtain ⟨vs', y, st', x', rfl, est, al', p, u, rfl, hp, ru⟩ := al.last hn
  rw [List.reverse_cons] at est
  obtain ⟨e1, e2⟩ := List.append_inj' est rfl
  cases e2
  subst e1
  rw [show (!(vs' ++ [V.ref p]).isEmpty) = true by cases vs' <;> rfl]
  refine iteT ?_
  refine ⟨fun σ H' => ∃ (v4 v5 : Option V) (st : List (Dt × Bool)) (vs : List V) (nm : List Str) (g : Str → Bool), σ = [some v, some (.ref l), some (.ref Dv), some (.ref R), v4, v5] ∧ H' R = some (.lst vs) ∧ Al (PrQ H H') vs st.reverse ∧ H' Dv = some (.dK (dkm nm fun s => .bl (g s))) ∧
      patV lit m st nm g = some o ∧ (∀ x ∈ st, Shp x.1) ∧ st.length ≤ 1000 ∧ Sm No H H', fun σ' H' h => ⟨m, Nat.lt_succ_self m, h⟩, ?_⟩
  refine ⟨_, rfl, .inl ⟨rfl, _, SqL.of h1⟩, R, _, .ref p, rfl, rfl, h1, by simp, ?_⟩
  have dl : (vs' ++ [V.ref p]).dropLast = vs' := List.dropLast_concat
  rw [dl]
  have s4 : Sm No H (upd H1 R (.lst vs')) := s3.mut hR0 (ntbl_l h1)
  have hp2 : upd H1 R (.lst vs') p = some (.tup [u, .bl x.2]) := by rw [upd_ne (fun z => by rw [z, h1] at hp; cases hp)]; exact hp
  have al2 : Al (PrQ H (upd H1 R (.lst vs'))) vs' st.reverse := al'.mono fun _ _ z => z.put h1
  have h2 : upd H1 R (.lst vs') R = some (.lst vs') := upd_same
  have hd2 : upd H1 R (.lst vs') Dv = some (.dK (dkm nm fun s => .bl (g s))) := by rw [upd_ne (Ne.symm RD)]; exact hd1
  dsimp only
  generalize upd H1 R (.lst vs') = H2 at s4 hp2 al2 h2 hd2
  have shx := shs x List.mem_cons_self
  have shr : ∀ z ∈ st, Shp z.1 := fun z hz => shs z (List.mem_cons_of_mem _ hz)
  have ls : st.length ≤ 1000 := by rw [List.length_cons] at lst; omega
  have lvs : vs'.length = st.length := by have := al2.len; rw [List.length_reverse] at this; exact this
  refine ⟨p, _, rfl, SqT.of hp2, rfl, _, _, rfl, _, _, rfl, rfl, ?_⟩
  have ru2 := ru.sm s4
  have ty := ru2.ty (K := K)
  obtain ⟨xd, xr⟩ := x
  cases ru with
  | int i =>
    refine ⟨_, rfl, _, _, _, _, false, rfl, .ty "list", ty, kit_ty (show kitB "int" "list" = some false by decide +kernel), _, rfl, iteF ?_⟩
    refine ⟨_, rfl, _, rfl, _, _, l, lit, gl, rfl, ru2, Rd.sm s4 hl, _, rfl, iteF ?_⟩
    unfold patV at ev1
    exact ⟨_, _, st, vs', nm, g, rfl, h2, al2, hd2, ev1, shr, ls, s4⟩
  | str z =>
    refine ⟨_, rfl, _, _, _, _, false, rfl, .ty "list", ty, kit_ty (show kitB "str" "list" = some false by decide +kernel), _, rfl, iteF ?_⟩
    refine ⟨_, rfl, _, rfl, _, _, l, lit, gl, rfl, ru2, Rd.sm s4 hl, _, rfl, ?_⟩
    unfold patV at ev1
    show (if (!(lit.contains z)) = true then _ else _)
    cases hc : lit.contains z with
    | true =>
      rw [hc, cond_true] at ev1
      exact iteF ⟨_, _, st, vs', nm, g, rfl, h2, al2, hd2, ev1, shr, ls, s4⟩
    | false =>
      rw [hc, cond_false] at ev1
      refine iteT ?_
      cases hz : decide (z.length ≤ 1000) with
      | false => rw [hz, cond_false] at ev1; cases ev1
      | true =>
      rw [hz, cond_true] at ev1
      obtain ⟨oo, dg, eo⟩ := dget0 (n := z) (.inl hd2)
      refine ⟨_, rfl, _, rfl, Dv, oo, rfl, dg, ?_⟩
      rw [eo]
      cases hm : nm.contains z with
      | true =>
        rw [hm, cond_true] at ev1
        refine ⟨_, rfl, iteT ?_⟩
        refine mkO_nm (of_decide_eq_true hz) (fun Q' q' => ⟨_, rfl, z, rfl, q'⟩) s4 fun H' d' sm hd e => qD z (Option.some.inj ev1).symm H' d' sm hd e
      | false =>
        rw [hm, cond_false] at ev1
        have nz : z ∉ nm := fun h => by rw [List.contains_iff_mem.mpr h] at hm; cases hm
        cases hk : decide (nm.length ≤ 900) with
        | false => rw [hk, cond_false] at ev1; cases ev1
        | true =>
        rw [hk, cond_true] at ev1
        have lk := of_decide_eq_true hk
        refine ⟨_, rfl, iteF ⟨_, rfl, _, rfl, _, rfl, Dv, _, rfl, DPut.k (k := .inr z) hd2 (by rw [dkm_len]; exact line_of (by omega)), ?_⟩⟩
        refine ⟨_, _, st, vs', nm ++ [z], _, rfl, by rw [upd_ne RD]; exact h2, al2.mono fun _ _ q => q.putD hd2, ?_, ev1, shr, ls, s4.mut hDv (ntbl_k hd2)⟩
        rw [upd_same, put_new nz]
        refine congrArg (fun f => some (HO.dK (dkm (nm ++ [z]) f))) (funext fun n => ?_)
        by_cases e : n = z
        · rw [if_pos e, decide_eq_true e]; rfl
        · rw [if_neg e, decide_eq_false e]; rfl
  | @lst a us ds ha rl =>
    have ha2 := s4.lst0 ha
    refine ⟨_, rfl, _, _, _, _, true, rfl, .ty "list", ty, kit_ty (show kitB "list" "list" = some true by decide +kernel), _, rfl, iteT ?_⟩
    unfold patV at ev1
    cases hk : decide (ds.length ≤ 1000) with
    | false => rw [hk, cond_false] at ev1; cases ev1
    | true =>
    rw [hk, cond_true] at ev1
    refine ⟨_, rfl, .inl ⟨rfl, _, SqL.of h2⟩, _, rfl, _, rfl, H, a, us, ds, xr, rfl, ha2, rl, s4, shp_lst shx, of_decide_eq_true hk, s4.tab _ tg, fun ps ep L ws H3 s5 hL al5 => ?_, fun ep H3 s5 => ?_⟩
    · rw [ep] at ev1
      dsimp only at ev1
      cases hq : decide (ps.length + st.length ≤ 1000) with
      | false => rw [hq, cond_false] at ev1; cases ev1
      | true =>
      rw [hq, cond_true] at ev1
      have lq := of_decide_eq_true hq
      refine ⟨L, ws, rfl, SqL.of hL, fun rv hrv => ?_⟩
      have lw := al5.len
      have s6 : Sm No H2 (upd H3 rv (.lst ws.reverse)) := s5.trans (Sm.new hrv)
      have hR3 := s6.lst0 h2
      have hD3 := s6.keep Dv _ (fun z => z) rfl hd2
      refine ⟨R, rv, vs', ws.reverse, rfl, rfl, hR3, upd_same, ?_, ?_⟩
      · rw [List.length_reverse]
        exact Nat.le_of_lt (line_of (by omega))
      refine ⟨_, _, ps ++ st, vs' ++ ws.reverse, nm, g, rfl, upd_same, ?_, by rw [upd_ne (Ne.symm RD)]; exact hD3, ev1, fun x hx => ?_, by rw [List.length_append]; exact lq, (s4.trans s6).mut hR0 (ntbl_l hR3)⟩
      · rw [List.reverse_append]
        refine (al2.mono fun _ _ z => (z.sm s6).put hR3).app ?_
        exact (al5.rev.mono fun _ _ z => (z.sm (Sm.new hrv)).put hR3)
      · rcases List.mem_append.mp hx with hx | hx
        · exact shp_parts (shp_lst shx) ep x hx
        · exact shr x hx
    · rw [ep] at ev1
      exact qB (Option.some.inj ev1).symm H3 (s4.trans s5)
end
end My
namespace My
open PySem PySem.Spec PyProof.Rows L2 TL
/-! ### template_parts, check_repeated -/
def tplP : List Dt → List (Dt × Bool) → Option (List (Dt × Bool))
  | [], acc => some acc
  | d :: r, acc => bif isDots d then
      (match acc.getLast? with
      | none => none
      | some x => bif x.2 then none else tplP r (acc.dropLast ++ [(x.1, true)]))
    else tplP r (acc ++ [(d, false)])
def spTpl (I : Addr) : Sp := fun vs H Q E => ∃ (H0 : Hp) (a : Addr) (us : List V) (ds : List Dt), vs = [.ref a] ∧ H a = some (.lst us) ∧ RqL H0 us ds ∧ Sm No H0 H ∧ (∀ d ∈ ds, Shp d) ∧ ds.length ≤ 1000 ∧
  (∀ ps, tplP ds [] = some ps → ∀ (L : Addr) (ws : List V) (H' : Hp), Sm No H H' → H' L = some (.lst ws) → H L = none → ps.length ≤ ds.length → Al (PrQ H0 H') ws ps → Q (.ref L) H') ∧
  (tplP ds [] = none → ∀ H', Sm No H H' → E (.ref I) none H')
/-- the dict of variables tells of a word in it -/
def repW (nm : List Str) (g : Str → Bool) (d : Dt) : Bool := nm.any fun s => g s && occ s d
def spRep (I P2 : Addr) : Sp := fun vs H Q E => ∃ (v : V) (d : Dt) (b : Bool) (l : Addr) (nm : List Str) (g : Str → Bool), vs = [v, .bl b, .ref l] ∧ Rq H v d ∧ szT d ≤ 500 ∧ H l = some (.dK (dkm nm fun s => .bl (g s))) ∧ GxR.TabG H P2 ∧
  ((!b && repW nm g d) = true → ∀ H', Sm No H H' → Q .non H') ∧ ((!b && repW nm g d) = false → ∀ H', Sm No H H' → E (.ref I) none H')
abbrev sTpl : Stmt := top 22
abbrev NTp : List Str := ["template", "parts", "part"]
abbrev sRep : Stmt := top 23
abbrev NRe : List Str := ["part", "inside", "variables"]
theorem rep_any {ws nm : List Str} {g : Str → Bool} {d : Dt} (h : ∀ s, ws.contains s = occ s d) : (ws.map Dt.str).any (tGet nm g).at = repW nm g d := by
  unfold repW
  rw [Bool.eq_iff_iff, List.any_eq_true, List.any_eq_true]
  constructor
  · rintro ⟨x, hx, e⟩
    obtain ⟨s, hs, rfl⟩ := List.mem_map.mp hx
    have e : (nm.contains s && g s) = true := e
    rw [Bool.and_eq_true] at e
    refine ⟨s, List.contains_iff_mem.mp e.1, ?_⟩
    rw [e.2, ← h s, List.contains_iff_mem.mpr hs]; rfl
  · rintro ⟨s, hs, e⟩
    rw [Bool.and_eq_true] at e
    refine ⟨.str s, List.mem_map.mpr ⟨s, List.contains_iff_mem.mp (by rw [h s]; exact e.2), rfl⟩, ?_⟩
    show (nm.contains s && g s) = true
    rw [List.contains_iff_mem.mpr hs, e.1]; rfl
theorem rq_strs {H : Hp} : ∀ ws : List Str, RqL H (ws.map V.str) (ws.map Dt.str)
  | [] => .nil
  | s :: r => .cons (.str s) (rq_strs r)
section
variable {P : Program} {w : World} {K : PySem.W.Frag} {mg : Str → Option Value} {base : Heap}
theorem scTpl : FnScope NTp ["template"] (defScope sTpl) := ⟨rfl, rfl, rfl, by decide +kernel, rfl, by decide +kernel, by decide +kernel⟩
theorem scRep : FnScope NRe ["part", "inside", "variables"] (defScope sRep) := ⟨rfl, rfl, rfl, by decide +kernel, rfl, by decide +kernel, by decide +kernel⟩
theorem ok_tpl {f I : Addr} {fd : FuncData} (F : Fun K "template_parts" "template_parts" sTpl f fd) (B : Blt mg) (XR : PlainC K mg "InvalidRule" I) (eD : ∃ t, mg "DOTS" = some (.str "..." t)) : FnOk P w K mg base (L2N.CX P w) 1 f fd ["template"] (spTpl I) := by
  refine okN F scTpl (fun vs H Q E h => ?_) (fun cdv A outer s H vs Q E hr h => ?_)
  · obtain ⟨H0, a, us, ds, rfl, _⟩ := h
    rfl
  obtain ⟨H0, a, us, ds, rfl, ha, rl, sH, sh, hz, qO, qE⟩ := h
  have nd := scTpl.nd
  obtain ⟨td, eD⟩ := eD
  generalize hT : tplP ds [] = T at qO qE
  refine ⟨_, (pss_cons (ps_set (i := 1) nd rfl (Or.inl rfl) (pe_lst pa_nil))
    (pss_cons (ps_for (passes_of rfl) rfl (pi_list (pv 0)) (pg_name (i := 2) nd rfl (Or.inl rfl))
      (pss_one (ps_if (pt_cmpR (op_neD hr.units) (pv 2) (pe_glob (v := .str "...") rfl eD ⟨_, rfl⟩) (nomark _)) (pss_one (ps_expr (pe_bm PySem.F.plainAttrs_list PySem.F.slot_list_append PySem.F.type_list_append mt_append (pv 1) (pa_cons (pe_tup (pa_cons (pv 2) (pa_cons pe_bl pa_nil))) pa_nil)))) (pss_one (ps_if (PW.pt (pw_or (pt_not (pt_truth (pv 1) (by intro _; rfl))) (pw_or1 (pt_val (pe_ix (r := rIxT K) ix_tup (pe_ix (r := rIxL K) ix_list (pv 1) (pe_un un_neg pe_int) (fun _ _ => rfl)) pe_int (fun _ _ => rfl)))))) (pss_one (L2N.ps_raise rfl (L2N.takes_of rfl rfl rfl rfl) (pmkN_plain PySem.F.excBase_ValueError XR.q XR.g XR.k (raises_own XR.s XR.t) rfl pe_str))) (pss_one (ps_asg (pe_tup (pa_cons (pe_ix (r := rIxT K) ix_tup (pe_ix (r := rIxL K) ix_list (pv 1) (pe_un un_neg pe_int) (fun _ _ => rfl)) pe_int (fun _ _ => rfl)) (pa_cons pe_bl pa_nil))) (pg_sub (pv 1) (pe_un un_neg pe_int) set_list))))))))
    (pss_one (ps_ret (pv 1))))), ?_⟩
  have al := rl.al
  refine ⟨by show 0 ≤ sizeLine; decide, fun R hR => ?_⟩
  have sR : Sm No H (upd H R (.lst [])) := Sm.new hR
  refine ⟨_, rfl, a, rfl, ⟨_, SqL.of (sR.lst0 ha)⟩, ?_⟩
  refine for_list (xs := us) (fun i σ H' => ∃ v2 acc ws, σ = [some (.ref a), some (.ref R), v2] ∧ H' R = some (.lst ws) ∧ Al (PrQ H0 H') ws acc ∧ acc.length ≤ i ∧ tplP (ds.drop i) acc = T ∧ Sm No H H')
    ⟨none, [], [], rfl, upd_same, Al.nil, Nat.le_refl _, hT, sR⟩ (fun i σ H' _ ⟨_, _, _, _, _, _, _, _, s⟩ => SqL.of (s.lst0 ha)) ?_ ?_
  · rintro i x σ H1 hi ⟨v2, acc, ws, rfl, h1, al1, li, ep, s1⟩
    obtain ⟨d, hd, rd⟩ := al.2 i x hi
    have il := (List.getElem?_eq_some_iff.mp hd).1
    have rd1 := rd.sm (sH.trans s1)
    have shd := sh d (List.mem_of_getElem? hd)
    have lw := al1.len
    rw [List.drop_eq_getElem_cons il, show ds[i] = d from (List.getElem?_eq_some_iff.mp hd).2] at ep
    unfold tplP at ep
    refine ⟨_, rfl, pyQ d, .str "...", rd1.dp, .str _, shd, shaped_dots, _, rfl, ?_⟩
    rw [eqv_dots]
    cases hdt : isDots d with
    | false =>
      rw [hdt, cond_false] at ep
      refine iteT ⟨_, rfl, .inl ⟨rfl, _, SqL.of h1⟩, _, rfl, by show 2 ≤ sizeLine; decide, fun t ht => ?_⟩
      have s2 : Sm No H1 (upd H1 t (.tup [x, .bl false])) := Sm.new ht
      have h2 := s2.lst0 h1
      have tR : t ≠ R := fun z => by rw [z, h1] at ht; cases ht
      refine ⟨R, _, _, rfl, rfl, h2, line_of (by omega), ?_⟩
      refine ⟨_, acc ++ [(d, false)], ws ++ [.ref t], rfl, upd_same, ?_, by rw [List.length_append]; exact Nat.succ_le_succ li, ep, (s1.trans s2).mut hR (ntbl_l h2)⟩
      exact (al1.mono fun _ _ z => (z.sm s2).put h2).snoc ⟨t, x, rfl, by rw [upd_ne tR, upd_same], rd⟩
    | true =>
      rw [hdt, cond_true] at ep
      refine iteF ?_
      by_cases hn : ws = []
      · subst hn
        have ea : acc = [] := List.length_eq_zero_iff.mp lw.symm
        subst ea
        refine ⟨_, rfl, false, .inl ⟨_, SqL.of h1, rfl⟩, ?_⟩
        exact iteT ⟨rfl, qE ep.symm H1 s1⟩
      · obtain ⟨ws', y, acc', z, rfl, rfl, al2, p, u, rfl, hp, ru⟩ := al1.last hn
        rw [List.getLast?_append, List.dropLast_concat] at ep
        have ep : (bif z.2 then none else tplP (ds.drop (i + 1)) (acc' ++ [(z.1, true)])) = T := ep
        refine ⟨_, rfl, true, .inl ⟨_, SqL.of h1, by cases ws' <;> rfl⟩, ?_⟩
        refine iteF ⟨_, rfl, _, rfl, R, _, _, _, rfl, rfl, SqL.of h1, atI_last _ _, p, _, _, _, rfl, rfl, SqT.of hp, at1, z.2, rfl, ?_⟩
        cases hz2 : z.2 with
        | true =>
          rw [hz2, cond_true] at ep
          exact iteT ⟨rfl, qE ep.symm H1 s1⟩
        | false =>
          rw [hz2, cond_false] at ep
          refine iteF ⟨_, rfl, _, rfl, R, _, _, _, rfl, rfl, SqL.of h1, atI_last _ _, p, _, _, _, rfl, rfl, SqT.of hp, at0, by show 2 ≤ sizeLine; decide, fun t ht => ?_⟩
          have s2 : Sm No H1 (upd H1 t (.tup [u, .bl true])) := Sm.new ht
          have h2 := s2.lst0 h1
          have tR : t ≠ R := fun z => by rw [z, h1] at ht; cases ht
          refine ⟨_, rfl, _, rfl, R, _, _, ws'.length, rfl, rfl, h2, ?_, ?_⟩
          · unfold ixN
            rw [if_neg (by decide), if_pos (by simp; omega)]
            congr 1
            simp
            omega
          refine ⟨_, acc' ++ [(z.1, true)], ws' ++ [.ref t], rfl, ?_, ?_, ?_, ep, (s1.trans s2).mut hR (ntbl_l h2)⟩
          · rw [upd_same]
            congr 2
            simp
          · exact (al2.mono fun _ _ q => (q.sm s2).put h2).snoc ⟨t, u, rfl, by rw [upd_ne tR, upd_same], ru⟩
          · rw [List.length_append] at li ⊢
            exact Nat.le_succ_of_le li
  · rintro σ H1 ⟨v2, acc, ws, rfl, h1, al1, li, ep, s1⟩
    rw [al.len, List.drop_length] at ep
    unfold tplP at ep
    refine ⟨_, rfl, qO acc ep.symm R ws H1 s1 h1 hR (by rw [← al.len]; exact li) al1⟩
end
end My
namespace My
open PySem PySem.Spec PyProof.Rows L2 TL
section
variable {P : Program} {w : World} {K : PySem.W.Frag} {mg : Str → Option Value} {base : Heap}
theorem ok_rep {f c fW I P2 : Addr} {fd dW : FuncData} (F : FunC K "check_repeated" sRep f fd c) (B : Blt mg) (TB : GxR.TabB base mg c P2) (GW : Cal P w K mg base CX0 2 "words_of" ["datum"] spWof fW dW) (XR : PlainC K mg "InvalidRule" I) :
    FnOk P w K mg base (L2N.CX P w) 3 f fd ["part", "inside", "variables"] (spRep I P2) := by
  refine F.okN scRep (fun vs H Q E h => ?_) (fun A outer s H vs Q E hr h => ?_)
  · obtain ⟨v, d, b, l, nm, g, rfl, _⟩ := h
    rfl
  obtain ⟨v, d, b, l, nm, g, rfl, rv, hz, hl, tg, qO, qE⟩ := h
  have nd := scRep.nd
  have hU : (A.deeper (PyProof.Rows.envOfC "check_repeated" (defScope sRep) s.heap.objs.size f (.ref c))).units + 8 + 1 < cLine := by
    have := hr.units
    omega
  refine ⟨_, (pss_cons (ps_if (pt_val (pv 1)) (pss_one (L2N.ps_raise rfl (L2N.takes_of rfl rfl rfl rfl) (pmkN_plain PySem.F.excBase_ValueError XR.q XR.g XR.k (raises_own XR.s XR.t) rfl pe_str))) pss_nil)
    (pss_one (ps_if (pt_not (pt_val (pe_anyK (P := P2) (T := tGet nm g) (G0 := fun σ H1 => σ[2]? = some (some (.ref l)) ∧ H1 l = some (.dK (dkm nm fun s => .bl (g s)))) hr rfl B.any (by decide +kernel) TB rfl ⟨rfl, rfl, by decide +kernel, rfl, rfl, by
      intro y hy e
      have e1 : y.1 = ("variables" : Str) := by
        revert y
        decide +kernel
      rw [e1]
      exact Option.isSome_iff_exists.mp (PySem.W.cellsFrom_some _ _ _ (.inl (by rfl)))⟩ (pe_call GW.ok hr rfl GW.g GW.k GW.b .nil pass0 (pa_cons (pv 0) pa_nil)) (fun σ pins s1 H1 J G tg => elt_get (i := 2) J tg G.1 G.2 rfl rfl hU rfl rfl rfl (by
      intro cells c h
      show List.lookup ("variables" : Str) [(("variables" : Str), (cells.lookup ("variables" : Str)).getD 0)] = some c
      rw [h]
      rfl) (by decide +kernel)) (fun _ => rfl)))) (pss_one (L2N.ps_raise rfl (L2N.takes_of rfl rfl rfl rfl) (pmkN_plain PySem.F.excBase_ValueError XR.q XR.g XR.k (raises_own XR.s XR.t) rfl pe_str))) pss_nil))), ?_⟩
  refine ⟨_, rfl, b, rfl, ?_⟩
  cases b with
  | true => exact iteT ⟨rfl, qE rfl H (Sm.refl _ _)⟩
  | false =>
    refine iteF ⟨_, rfl, v, d, rfl, rv, hz, fun L ws H1 s1 hL lw hc => ?_⟩
    refine ⟨L, _, ws.map Dt.str, rfl, hL, rq_strs ws, fun x hx => ?_, s1.tab _ tg, ⟨rfl, s1.keep l _ (fun z => z) rfl hl⟩, fun H2 tb => ⟨repW nm g d, congrArg V.bl (rep_any hc), ?_⟩⟩
    · obtain ⟨s, _, rfl⟩ := List.mem_map.mp hx
      rfl
    have s2 : Sm No H H2 := s1.trans (Sm.tabbed (s1.tab _ tg) tb)
    cases hw : repW nm g d with
    | true =>
      rw [hw] at qO
      exact iteF (qO rfl H2 s2)
    | false =>
      rw [hw] at qE
      exact iteT ⟨rfl, qE rfl H2 s2⟩
/-! ### check_template -/
end
def wordD (nm : List Str) (g : Str → Bool) : Dt → Bool
  | .str s => nm.contains s && g s
  | _ => false
/-- the stack's top first -/
def tplC (nm : List Str) (g : Str → Bool) : Nat → List (Dt × Bool) → Option Bool
  | 0, _ => none
  | _ + 1, [] => some true
  | n + 1, (.lst ds, ins) :: rest => bif decide (ds.length ≤ 500) && ds.all (fun d => decide (szT d ≤ 500)) then
      (match tplP ds [] with
      | none => some false
      | some ps => bif ps.all (fun x => decide (szT x.1 ≤ 500)) && decide (ps.length + rest.length ≤ 1000) then
          bif ps.any (fun x => x.2 && (ins || !repW nm g x.1)) then some false else tplC nm g n ((ps.map fun x => (x.1, ins || x.2)).reverse ++ rest) else none) else none
  | n + 1, (d, ins) :: rest => bif isDots d then some false else bif !ins && wordD nm g d then some false else tplC nm g n rest
def spChT (I P2 : Addr) : Sp := fun vs H Q E => ∃ (v : V) (d : Dt) (l : Addr) (nm : List Str) (g : Str → Bool) (fuel : Nat) (o : Bool), vs = [v, .ref l] ∧ Rq H v d ∧ H l = some (.dK (dkm nm fun s => .bl (g s))) ∧ Shp d ∧ GxR.TabG H P2 ∧ tplC nm g fuel [(d, false)] = some o ∧
  (o = true → ∀ H', Sm No H H' → Q .non H') ∧ (o = false → ∀ H', Sm No H H' → E (.ref I) none H')
abbrev sChT : Stmt := top 24
abbrev NCt : List Str := ["template", "variables", "rest", "part", "inside", "inner", "repeated"]
theorem shp_tpl : ∀ {ds : List Dt} {acc ps : List (Dt × Bool)}, (∀ d ∈ ds, Shp d) → (∀ x ∈ acc, Shp x.1) → tplP ds acc = some ps → ∀ x ∈ ps, Shp x.1
  | [], acc, ps, _, ha, e => by
    unfold tplP at e
    cases e
    exact ha
  | d :: r, acc, ps, hd, ha, e => by
    unfold tplP at e
    have hr : ∀ z ∈ r, Shp z := fun z hz => hd z (List.mem_cons_of_mem _ hz)
    cases hdt : isDots d with
    | false =>
      rw [hdt, cond_false] at e
      refine shp_tpl hr (fun x hx => ?_) e
      rcases List.mem_append.mp hx with hx | hx
      · exact ha x hx
      · rw [List.mem_singleton.mp hx]
        exact hd d List.mem_cons_self
    | true =>
      rw [hdt, cond_true] at e
      cases hl : acc.getLast? with
      | none => rw [hl] at e; cases e
      | some x =>
        rw [hl] at e
        dsimp only at e
        cases hx2 : x.2 with
        | true => rw [hx2, cond_true] at e; cases e
        | false =>
          rw [hx2, cond_false] at e
          refine shp_tpl hr (fun z hz => ?_) e
          rcases List.mem_append.mp hz with hz | hz
          · exact ha z (List.dropLast_subset _ hz)
          · rw [List.mem_singleton.mp hz]
            exact ha x (List.mem_of_getLast? hl)
section
variable {P : Program} {w : World} {K : PySem.W.Frag} {mg : Str → Option Value} {base : Heap}
theorem scChT : FnScope NCt ["template", "variables"] (defScope sChT) := ⟨rfl, rfl, rfl, by decide +kernel, rfl, by decide +kernel, by decide +kernel⟩
theorem ok_chT {f fP fR I P2 : Addr} {fd dP dR : FuncData} (F : Fun K "check_template" "check_template" sChT f fd) (B : Blt mg) (GP : Cal P w K mg base (L2N.CX P w) 1 "template_parts" ["template"] (spTpl I) fP dP)
    (GR : Cal P w K mg base (L2N.CX P w) 3 "check_repeated" ["part", "inside", "variables"] (spRep I P2) fR dR) (XR : PlainC K mg "InvalidRule" I) (eD : ∃ t, mg "DOTS" = some (.str "..." t)) :
    FnOk P w K mg base (L2N.CX P w) 4 f fd ["template", "variables"] (spChT I P2) := by
  refine okN F scChT (fun vs H Q E h => ?_) (fun cdv A outer s H vs Q E hr h => ?_)
  · obtain ⟨v, d, l, nm, g, fuel, o, rfl, _⟩ := h
    rfl
  obtain ⟨v, d, l, nm, g, fuel, o, rfl, rv, hl, sh, tg, ev, qO, qE⟩ := h
  have nd := scChT.nd
  have hu := units1 hr.units
  have r1 := hr.mono (show 1 ≤ 3 by decide)
  obtain ⟨td, eD⟩ := eD
  refine ⟨_, (pss_cons (ps_set (i := 2) nd rfl (Or.inl rfl) (pe_lst (pa_cons (pe_tup (pa_cons (pv 0) (pa_cons pe_bl pa_nil))) pa_nil)))
    (pss_one (ps_while (passes_of rfl) (pt_truth (pv 2) (by intro _; rfl))
      (pss_cons (ps_asg (pe_bm0 PySem.F.plainAttrs_list PySem.F.slot_list_pop PySem.F.type_list_pop mt_pop (pv 2)) (pg_tup rfl (pgs_cons (pg_name (i := 3) nd rfl (Or.inl rfl)) (pgs_cons (pg_name (i := 4) nd rfl (Or.inl rfl)) pgs_nil))))
      (pss_one (ps_if (pt_val (pe_callB call_isi (by rfl) B.isinstance (by decide +kernel) (pa_cons (pv 3) (pa_cons (pe_bltn (v := .ty "list") (by rfl) B.list (by decide +kernel) rfl) pa_nil)))) (pss_one (ps_for (passes_of rfl) rfl (pi_list (pe_call GP.ok r1 rfl GP.g GP.k GP.b .nil (L2N.passes_call (L2N.takes_of rfl rfl rfl rfl) fun _ _ _ _ h => h) (pa_cons (pv 3) pa_nil))) (pg_tup rfl (pgs_cons (pg_name (i := 5) nd rfl (Or.inl rfl)) (pgs_cons (pg_name (i := 6) nd rfl (Or.inl rfl)) pgs_nil)))
          (C8.pss_cut (ps_if (pt_val (pv 6)) (pss_one (ps_expr (pe_call GR.ok hr rfl GR.g GR.k GR.b .nil (L2N.passes_call (L2N.takes_of rfl rfl rfl rfl) fun _ _ _ _ h => h) (pa_cons (pv 5) (pa_cons (pv 4) (pa_cons (pv 1) pa_nil)))))) pss_nil)
          (pss_one (ps_expr (pe_bm PySem.F.plainAttrs_list PySem.F.slot_list_append PySem.F.type_list_append mt_append (pv 2) (pa_cons (pe_tup (pa_cons (pv 5) (pa_cons (pe_or (pv 4) (pe_one (pv 6))) pa_nil))) pa_nil))))))) (pss_one (ps_if (pt_cmpR (op_eqD hr.units) (pv 3) (pe_glob (v := .str "...") rfl eD ⟨_, rfl⟩) (nomark _)) (pss_one (L2N.ps_raise rfl (L2N.takes_of rfl rfl rfl rfl) (pmkN_plain PySem.F.excBase_ValueError XR.q XR.g XR.k (raises_own XR.s XR.t) rfl pe_str))) (pss_one (ps_if (PW.pt (pw_and (pt_not (pt_val (pv 4))) (pw_and1 (pt_val (pe_dget2 hu (pv 1) (pv 3) pe_bl ⟨rfl, rfl, rfl, rfl⟩))))) (pss_one (L2N.ps_raise rfl (L2N.takes_of rfl rfl rfl rfl) (pmkN_plain PySem.F.excBase_ValueError XR.q XR.g XR.k (raises_own XR.s XR.t) rfl pe_str))) pss_nil)))))))))), ?_⟩
  refine ⟨_, rfl, by show 2 ≤ sizeLine; decide, fun p0 hp0 => ⟨by show 1 ≤ sizeLine; decide, fun R hR => ?_⟩⟩
  have s1 : Sm No H (upd H p0 (.tup [v, .bl false])) := Sm.new hp0
  have s2 := s1.trans (Sm.new (o := .lst [.ref p0]) hR)
  have hR0 : H R = none := s1.dom R hR
  have pR : p0 ≠ R := fun z => by rw [← z, upd_same] at hR; cases hR
  refine ⟨fun m σ H' => ∃ (v3 v4 v5 v6 : Option V) (st : List (Dt × Bool)) (vs : List V), σ = [some v, some (.ref l), some (.ref R), v3, v4, v5, v6] ∧ H' R = some (.lst vs) ∧ Al (PrQ H H') vs st.reverse ∧
      tplC nm g m st = some o ∧ (∀ x ∈ st, Shp x.1) ∧ st.length ≤ 1000 ∧ Sm No H H',
    ⟨fuel, none, none, none, none, [(d, false)], [.ref p0], rfl, upd_same, Al.one ⟨p0, v, rfl, by rw [upd_ne pR, upd_same], rv⟩, ev, ?_, by show 1 ≤ 1000; decide, s2⟩, ?_⟩
  · intro x hx
    rw [List.mem_singleton.mp hx]; exact sh
  rintro m σ H1 ⟨v3, v4, v5, v6, st, vs, rfl, h1, al, ev1, shs, lst, s3⟩
  refine ⟨_, rfl, _, .inl ⟨_, SqL.of h1, rfl⟩, ?_⟩
  cases m with
  | zero => unfold tplC at ev1; cases ev1
  | succ m =>
  by_cases hn : vs = []
  · subst hn
    have es : st = [] := by
      have := al.len
      rw [List.length_nil, List.length_reverse] at this
      exact List.length_eq_zero_iff.mp this.symm
    subst es
    unfold tplC at ev1
    exact iteF (qO (Option.some.inj ev1).symm H1 s3)
  cases st with
  | nil =>
    have := al.len
    rw [List.reverse_nil, List.length_nil] at this
    exact absurd (List.length_eq_zero_iff.mp this) hn
  | cons x st =>
  obtain ⟨vs', y, st', x', rfl, est, al', p, u, rfl, hp, ru⟩ := al.last hn
  rw [List.reverse_cons] at est
  obtain ⟨e1, e2⟩ := List.append_inj' est rfl
  cases e2
  subst e1
  rw [show (!(vs' ++ [V.ref p]).isEmpty) = true by cases vs' <;> rfl]
  refine iteT ?_
  refine ⟨fun σ H' => ∃ (v3 v4 v5 v6 : Option V) (st : List (Dt × Bool)) (vs : List V), σ = [some v, some (.ref l), some (.ref R), v3, v4, v5, v6] ∧ H' R = some (.lst vs) ∧ Al (PrQ H H') vs st.reverse ∧
      tplC nm g m st = some o ∧ (∀ x ∈ st, Shp x.1) ∧ st.length ≤ 1000 ∧ Sm No H H', fun σ' H' h => ⟨m, Nat.lt_succ_self m, h⟩, ?_⟩
  refine ⟨_, rfl, .inl ⟨rfl, _, SqL.of h1⟩, R, _, .ref p, rfl, rfl, h1, by simp, ?_⟩
  have dl : (vs' ++ [V.ref p]).dropLast = vs' := List.dropLast_concat
  rw [dl]
  have s4 : Sm No H (upd H1 R (.lst vs')) := s3.mut hR0 (ntbl_l h1)
  have hp2 : upd H1 R (.lst vs') p = some (.tup [u, .bl x.2]) := by rw [upd_ne (fun z => by rw [z, h1] at hp; cases hp)]; exact hp
  have al2 : Al (PrQ H (upd H1 R (.lst vs'))) vs' st.reverse := al'.mono fun _ _ z => z.put h1
  have h2 : upd H1 R (.lst vs') R = some (.lst vs') := upd_same
  dsimp only
  generalize upd H1 R (.lst vs') = H2 at s4 hp2 al2 h2
  have shx := shs x List.mem_cons_self
  have shr : ∀ z ∈ st, Shp z.1 := fun z hz => shs z (List.mem_cons_of_mem _ hz)
  have ls : st.length ≤ 1000 := by rw [List.length_cons] at lst; omega
  have lvs : vs'.length = st.length := by have := al2.len; rw [List.length_reverse] at this; exact this
  refine ⟨p, _, rfl, SqT.of hp2, rfl, _, _, rfl, _, _, rfl, rfl, ?_⟩
  have ru2 := ru.sm s4
  have ty := ru2.ty (K := K)
  obtain ⟨xd, xr⟩ := x
  have hl2 := s4.keep l _ (fun z => z) rfl hl
  have dpx := ru2.dp (K := K)
  cases ru with
  | int i =>
    refine ⟨_, rfl, _, _, _, _, false, rfl, .ty "list", ty, kit_ty (show kitB "int" "list" = some false by decide +kernel), _, rfl, iteF ?_⟩
    unfold tplC at ev1
    refine ⟨_, rfl, _, .str "...", dpx, .str _, shx, shaped_dots, _, rfl, ?_⟩
    rw [eqv_dots, show isDots (.int i) = false from rfl]
    refine iteF ⟨_, rfl, xr, rfl, ?_⟩
    have ev2 : tplC nm g m st = some o := by
      have : (bif isDots (.int i) then some false else bif !xr && wordD nm g (.int i) then some false else tplC nm g m st) = some o := ev1
      rw [show isDots (.int i) = false from rfl, show wordD nm g (.int i) = false from rfl, Bool.and_false] at this
      exact this
    cases xr with
    | true => exact iteF ⟨_, _, _, _, st, vs', rfl, h2, al2, ev2, shr, ls, s4⟩
    | false =>
      refine iteT ⟨_, rfl, l, rfl, .inl ⟨_, .inl hl2⟩, _, rfl, none, .inl ⟨_, .inl i, .inl hl2, rfl, valV_dkmi.symm⟩, false, rfl, ?_⟩
      exact iteF ⟨_, _, _, _, st, vs', rfl, h2, al2, ev2, shr, ls, s4⟩
  | str z =>
    refine ⟨_, rfl, _, _, _, _, false, rfl, .ty "list", ty, kit_ty (show kitB "str" "list" = some false by decide +kernel), _, rfl, iteF ?_⟩
    unfold tplC at ev1
    have ev1 : (bif isDots (.str z) then some false else bif !xr && wordD nm g (.str z) then some false else tplC nm g m st) = some o := ev1
    refine ⟨_, rfl, _, .str "...", dpx, .str _, shx, shaped_dots, _, rfl, ?_⟩
    rw [eqv_dots]
    cases hdt : isDots (.str z) with
    | true =>
      rw [hdt, cond_true] at ev1
      exact iteT ⟨rfl, qE (Option.some.inj ev1).symm H2 s4⟩
    | false =>
      rw [hdt, cond_false] at ev1
      refine iteF ⟨_, rfl, xr, rfl, ?_⟩
      cases xr with
      | true => exact iteF ⟨_, _, _, _, st, vs', rfl, h2, al2, ev1, shr, ls, s4⟩
      | false =>
        have ev1 : (bif nm.contains z && g z then some false else tplC nm g m st) = some o := ev1
        refine iteT ⟨_, rfl, l, rfl, .inl ⟨_, .inl hl2⟩, _, rfl, valV (dkm nm fun s => .bl (g s)) (.inr z), .inl ⟨_, .inr z, .inl hl2, rfl, rfl⟩, nm.contains z && g z, ?_, ?_⟩
        · by_cases h : z ∈ nm
          · rw [valV_dkm h, List.contains_iff_mem.mpr h, Bool.true_and]; rfl
          · rw [valV_dkm0 h, show nm.contains z = false by rw [Bool.eq_false_iff]; exact fun q => h (List.contains_iff_mem.mp q), Bool.false_and]; rfl
        cases hw : nm.contains z && g z with
        | true =>
          rw [hw, cond_true] at ev1
          exact iteT ⟨rfl, qE (Option.some.inj ev1).symm H2 s4⟩
        | false =>
          rw [hw, cond_false] at ev1
          exact iteF ⟨_, _, _, _, st, vs', rfl, h2, al2, ev1, shr, ls, s4⟩
  | @lst a us ds ha rl =>
    have ha2 := s4.lst0 ha
    refine ⟨_, rfl, _, _, _, _, true, rfl, .ty "list", ty, kit_ty (show kitB "list" "list" = some true by decide +kernel), _, rfl, iteT ?_⟩
    unfold tplC at ev1
    cases hk : decide (ds.length ≤ 500) && ds.all (fun d => decide (szT d ≤ 500)) with
    | false => rw [hk, cond_false] at ev1; cases ev1
    | true =>
    rw [hk, cond_true] at ev1
    rw [Bool.and_eq_true, decide_eq_true_iff] at hk
    refine ⟨_, rfl, H, a, us, ds, rfl, ha2, rl, s4, shp_lst shx, by omega, fun ps ep L ws H3 s5 hL nL lps al5 => ?_, fun ep H3 s5 => ?_⟩
    · rw [ep] at ev1
      dsimp only at ev1
      cases hq : ps.all (fun x => decide (szT x.1 ≤ 500)) && decide (ps.length + st.length ≤ 1000) with
      | false => rw [hq, cond_false] at ev1; cases ev1
      | true =>
      rw [hq, cond_true] at ev1
      rw [Bool.and_eq_true, List.all_eq_true, decide_eq_true_iff] at hq
      have lw := al5.len
      have hR3 := s5.lst0 h2
      have RL : R ≠ L := fun z => by rw [← z, h2] at nL; cases nL
      refine ⟨L, rfl, ⟨_, SqL.of hL⟩, ?_⟩
      refine for_list (xs := ws) (fun i σ H' => ∃ (v5 v6 : Option V), σ = [some v, some (.ref l), some (.ref R), some (.ref a), some (.bl xr), v5, v6] ∧ H' L = some (.lst ws) ∧ Al (PrQ H H') ws ps ∧ (ps.take i).any (fun x => x.2 && (xr || !repW nm g x.1)) = false ∧
          (∃ vs2, H' R = some (.lst vs2) ∧ Al (PrQ H H') vs2 (st.reverse ++ (ps.take i).map fun x => (x.1, xr || x.2))) ∧ Sm No H H')
        ⟨_, _, rfl, hL, al5, by rw [List.take_zero]; rfl, ⟨vs', hR3, by rw [List.take_zero, List.map_nil, List.append_nil]; exact al2.mono fun _ _ z => z.sm s5⟩, s4.trans s5⟩ (fun i σ H' _ ⟨_, _, _, e, _⟩ => SqL.of e) ?_ ?_
      · rintro i y σ H4 hi ⟨v5, v6, rfl, hL4, al4, an, ⟨vs2, hR4, alR⟩, s6⟩
        obtain ⟨x, hx, q, uq, rfl, hq4, rq⟩ := al4.2 i y hi
        have mx := List.mem_of_getElem? hx
        have zx : szT x.1 ≤ 500 := of_decide_eq_true (hq.1 x mx)
        refine ⟨q, _, rfl, SqT.of hq4, rfl, _, _, rfl, _, _, rfl, rfl, ?_⟩
        have ra : ((ps.take (i + 1)).any fun x => x.2 && (xr || !repW nm g x.1)) = (x.2 && (xr || !repW nm g x.1)) := by
          rw [take_nx hx, List.any_append, an, Bool.false_or, List.any_cons, List.any_nil, Bool.or_false]
        have bad : (x.2 && (xr || !repW nm g x.1)) = true → ∀ H', Sm No H H' → E (.ref I) none H' := fun hb => by
          have e : (ps.any fun x => x.2 && (xr || !repW nm g x.1)) = true := List.any_eq_true.mpr ⟨x, mx, hb⟩
          rw [e, cond_true] at ev1
          exact qE (Option.some.inj ev1).symm
        refine ⟨fun σ' H' => (x.2 && (xr || !repW nm g x.1)) = false ∧ σ' = [some v, some (.ref l), some (.ref R), some (.ref a), some (.bl xr), some uq, some (.bl x.2)] ∧ Sm No H4 H', ?_, ?_⟩
        · refine ⟨_, rfl, x.2, rfl, ?_⟩
          cases hx2 : x.2 with
          | false => exact iteF ⟨rfl, rfl, Sm.refl _ _⟩
          | true =>
            refine iteT ⟨_, rfl, _, rfl, _, rfl, uq, x.1, xr, l, nm, g, rfl, rq.sm s6, zx, s6.keep l _ (fun z => z) rfl hl, s6.tab _ tg, fun hb H5 s7 => ⟨?_, rfl, s7⟩, fun hb H5 s7 => bad ?_ H5 (s6.trans s7)⟩
            · cases xr <;> cases hrw : repW nm g x.1 <;> rw [hrw] at hb <;> first | rfl | cases hb
            · rw [hx2]
              cases xr <;> cases hrw : repW nm g x.1 <;> rw [hrw] at hb <;> first | rfl | cases hb
        · rintro σ' H5 ⟨nb, rfl, s7⟩
          have hR5 := s7.lst0 hR4
          have lR := alR.len
          have tkl : (ps.take i).length ≤ ps.length := by rw [List.length_take]; omega
          rw [List.length_append, List.length_reverse, List.length_map] at lR
          refine ⟨_, rfl, .inl ⟨rfl, _, SqL.of hR5⟩, _, rfl, _, rfl, xr, rfl, ?_⟩
          have fin : ∀ b, b = (xr || x.2) → ∀ t, H5 t = none → ∀ H6, H6 = upd H5 t (.tup [uq, .bl b]) → H6 R = some (.lst vs2) ∧ upd H6 R (.lst (vs2 ++ [.ref t])) L = some (.lst ws) ∧ Al (PrQ H (upd H6 R (.lst (vs2 ++ [.ref t])))) ws ps ∧
              Al (PrQ H (upd H6 R (.lst (vs2 ++ [.ref t])))) (vs2 ++ [.ref t]) (st.reverse ++ (ps.take (i + 1)).map fun x => (x.1, xr || x.2)) ∧ Sm No H (upd H6 R (.lst (vs2 ++ [.ref t]))) := fun b hb t ht H6 e6 => by
            have s8 : Sm No H5 H6 := by rw [e6]; exact Sm.new ht
            have hR6 := s8.lst0 hR5
            have tR : t ≠ R := fun z => by rw [z, hR5] at ht; cases ht
            refine ⟨hR6, by rw [upd_ne (Ne.symm RL)]; exact s8.lst0 (s7.lst0 hL4), al4.mono fun _ _ z => ((z.sm s7).sm s8).put hR6, ?_, ((s6.trans s7).trans s8).mut hR0 (ntbl_l hR6)⟩
            rw [take_nx hx, List.map_append, ← List.append_assoc]
            refine (alR.mono fun _ _ z => ((z.sm s7).sm s8).put hR6).snoc ⟨t, uq, rfl, ?_, rq⟩
            rw [upd_ne tR, e6, upd_same, hb]
          have lz : vs2.length < sizeLine := line_of (by have := hq.2; omega)
          cases xr with
          | true =>
            refine iteT ⟨by show 2 ≤ sizeLine; decide, fun t ht => ?_⟩
            obtain ⟨f1, f2, f3, f4, f5⟩ := fin true rfl t ht _ rfl
            exact ⟨R, vs2, .ref t, rfl, rfl, f1, lz, _, _, rfl, f2, f3, ra.trans nb, ⟨_, upd_same, f4⟩, f5⟩
          | false =>
            refine iteF ⟨_, rfl, by show 2 ≤ sizeLine; decide, fun t ht => ?_⟩
            obtain ⟨f1, f2, f3, f4, f5⟩ := fin x.2 rfl t ht _ rfl
            exact ⟨R, vs2, .ref t, rfl, rfl, f1, lz, _, _, rfl, f2, f3, ra.trans nb, ⟨_, upd_same, f4⟩, f5⟩
      · rintro σ H4 ⟨v5, v6, rfl, hL4, al4, an, ⟨vs2, hR4, alR⟩, s6⟩
        rw [al5.len, List.take_length] at an alR
        rw [an, cond_false] at ev1
        refine ⟨_, _, _, _, (ps.map fun x => (x.1, xr || x.2)).reverse ++ st, vs2, rfl, hR4, by rw [List.reverse_append, List.reverse_reverse]; exact alR, ev1, fun z hz => ?_, ?_, s6⟩
        · rcases List.mem_append.mp hz with hz | hz
          · obtain ⟨x, hx, rfl⟩ := List.mem_map.mp (List.mem_reverse.mp hz)
            exact shp_tpl (shp_lst shx) (fun _ h => by cases h) ep x hx
          · exact shr z hz
        · rw [List.length_append, List.length_reverse, List.length_map]; exact hq.2
    · rw [ep] at ev1
      exact qE (Option.some.inj ev1).symm H3 (s4.trans s5)
end
end My
namespace My
open PySem PySem.Spec PyProof.Rows L2 TL
/-! ### a dict comprehension over a list that stays -/
theorem dcL {K : PySem.W.Frag} {a : Addr} {xs : List V} {g : TG} {tt : TT} {tk tv : TE} {vs : List Nat} {σ : L2.St} {H1 : Hp} {D : Addr} {Qd : Hp → Prop} (Pv : Nat → Hp → Prop) (hz : Pv 0 (upd H1 D (.dK []))) (hl : ∀ i H, i ≤ xs.length → Pv i H → SqL K H a xs)
    (hs : ∀ i x H, xs[i]? = some x → Pv i H → g x (wipe σ vs) H fun σ2 H2 => wipe σ2 vs = wipe σ vs ∧ tt σ2 H2 fun b H3 =>
      if b = true then tk σ2 H3 fun y H4 => tv σ2 H4 fun z H5 => ∃ kvs k, y = kV k ∧ H5 D = some (.dK kvs) ∧ kvs.length < sizeLine ∧ Pv (i + 1) (upd H5 D (.dK (putK kvs k z))) else Pv (i + 1) H3) (hd : ∀ H, Pv xs.length H → Qd H) :
    ∃ W : Nat → Nat → Hp → Prop, (∃ m, W 0 m (upd H1 D (.dK []))) ∧ ∀ i m H, W i m H →
      ((Itl K a).stop i H ∧ Qd H) ∨ ((Itl K a).go i H ∧ ∃ Nx : Hp → Prop, (∀ H', Nx H' → ∃ m', m' < m ∧ W (i + 1) m' H') ∧ ∀ x H', (Itl K a).yld i H x H' → g x (wipe σ vs) H' fun σ2 H2 => wipe σ2 vs = wipe σ vs ∧ tt σ2 H2 fun b H3 =>
        if b = true then tk σ2 H3 fun y H4 => tv σ2 H4 fun z H5 => ∃ kvs k, y = kV k ∧ H5 D = some (.dK kvs) ∧ kvs.length < sizeLine ∧ Nx (upd H5 D (.dK (putK kvs k z))) else Nx H3) :=
  ⟨fun i m H => m = xs.length - i ∧ i ≤ xs.length ∧ Pv i H, ⟨xs.length, by simp, Nat.zero_le _, hz⟩, fun i m H ⟨em, hi, p⟩ => by
    have sq := hl i H hi p
    rcases Nat.lt_or_ge i xs.length with lt | ge
    · exact .inr ⟨⟨xs, xs[i], sq, List.getElem?_eq_getElem lt⟩, Pv (i + 1), fun H' p' => ⟨xs.length - (i + 1), by omega, rfl, lt, p'⟩, fun x H' ⟨eh, y⟩ => by
        subst eh
        exact hs i x _ (y xs sq) p⟩
    · have ei : i = xs.length := Nat.le_antisymm hi ge
      subst ei
      exact .inl ⟨⟨xs, sq, Nat.le_refl _⟩, hd H p⟩⟩
/-! ### checked_rule -/
inductive RO where
  | ok | form | rule | dup (s : Str)
def ruleF (lit : List Str) : Dt → Option RO
  | .lst [.lst ds, t] => (match patV lit 200 [(.lst ds, false)] [] (fun _ => false) with
    | none => none
    | some .bad => some .rule
    | some (.dup s) => some (.dup s)
    | some (.ok nm g) => (match tplC nm g 200 [(t, false)] with
      | none => none
      | some true => some .ok
      | some false => some .rule))
  | _ => some .rule
def fine (d : Dt) : Prop := Shp d ∧ szT d ≤ 500 ∧ DpOk 0 d
def spRule (I D P1 P2 : Addr) : Sp := fun vs H Q E => ∃ (v : V) (d : Dt) (l : Addr) (lit : List Str) (gl : Str → V) (o : RO), vs = [v, .ref l] ∧ Rq H v d ∧ Rd H l (.dK (dkm lit gl)) ∧ fine d ∧ GxR.TabG H P1 ∧ GxR.TabG H P2 ∧ ruleF lit d = some o ∧
  (o = .ok → ∀ u H', Sm No H H' → Q u H') ∧ (o = .rule → ∀ H', Sm No H H' → E (.ref I) none H') ∧ (∀ s, o = .dup s → nmX D s H E)
abbrev sRule : Stmt := top 25
theorem nmX.back {D : Addr} {s : Str} {H H1 : Hp} {E : XK} (h : nmX D s H E) (e : Sm No H H1) : nmX D s H1 E := fun H' d sm hd q => h H' d (e.trans sm) (e.dom d hd) q
section
variable {P : Program} {w : World} {K : PySem.W.Frag} {mg : Str → Option Value} {base : Heap}
theorem scRule : FnScope ["rule", "literals"] ["rule", "literals"] (defScope sRule) := ⟨rfl, rfl, rfl, by decide +kernel, rfl, by decide +kernel, by decide +kernel⟩
theorem ok_rule {f fS fT fV I D P1 P2 : Addr} {fd dS dT dV : FuncData} (F : Fun K "checked_rule" "checked_rule" sRule f fd) (B : Blt mg) (GS : Cal P w K mg base CX0 1 "check_size" ["rule"] spSize fS dS)
    (GV : Cal P w K mg base (L2N.CX P w) 3 "pattern_variables" ["pattern", "literals"] (spPv I D P1) fV dV) (GT : Cal P w K mg base (L2N.CX P w) 4 "check_template" ["template", "variables"] (spChT I P2) fT dT) (XR : PlainC K mg "InvalidRule" I) :
    FnOk P w K mg base (L2N.CX P w) 5 f fd ["rule", "literals"] (spRule I D P1 P2) := by
  refine okN F scRule (fun vs H Q E h => ?_) (fun cdv A outer s H vs Q E hr h => ?_)
  · obtain ⟨v, d, l, lit, gl, o, rfl, _⟩ := h
    rfl
  obtain ⟨v, d, l, lit, gl, o, rfl, rv, hl, ⟨sh, sz, dp⟩, tg1, tg2, ev, qO, qR, qD⟩ := h
  have nd := scRule.nd
  have r1 := hr.mono (show 1 ≤ 4 by decide)
  have r3 := hr.mono (show 3 ≤ 4 by decide)
  refine ⟨_, (pss_cons (ps_expr (pe_call GS.ok r1 rfl GS.g GS.k GS.b .nil pass0 (pa_cons (pv 0) pa_nil)))
    (pss_cons (ps_if (PW.pt (pw_or (pt_not (pt_val (pe_callB call_isi (by rfl) B.isinstance (by decide +kernel) (pa_cons (pv 0) (pa_cons (pe_bltn (v := .ty "list") (by rfl) B.list (by decide +kernel) rfl) pa_nil))))) (pw_or (pt_cmpR op_ne (pe_callB call_len_seq (by rfl) B.len PySem.boot_len (pa_cons (pv 0) pa_nil)) pe_int (nomark _)) (pw_or1 (pt_not (pt_val (pe_callB call_isi (by rfl) B.isinstance (by decide +kernel) (pa_cons (pe_ix (r := rIxL K) ix_list (pv 0) pe_int (fun _ _ => rfl)) (pa_cons (pe_bltn (v := .ty "list") (by rfl) B.list (by decide +kernel) rfl) pa_nil))))))))) (pss_one (L2N.ps_raise rfl (L2N.takes_of rfl rfl rfl rfl) (pmkN_plain PySem.F.excBase_ValueError XR.q XR.g XR.k (raises_own XR.s XR.t) rfl pe_str))) pss_nil)
    (pss_cons (ps_expr (pe_call GT.ok hr rfl GT.g GT.k GT.b .nil (L2N.passes_call (L2N.takes_of rfl rfl rfl rfl) fun _ _ _ _ h => h) (pa_cons (pe_ix (r := rIxL K) ix_list (pv 0) pe_int (fun _ _ => rfl)) (pa_cons (pe_call GV.ok r3 rfl GV.g GV.k GV.b .nil (L2N.passes_call (L2N.takes_of rfl rfl rfl rfl) fun _ _ _ _ h => h) (pa_cons (pe_ix (r := rIxL K) ix_list (pv 0) pe_int (fun _ _ => rfl)) (pa_cons (pv 1) pa_nil))) pa_nil))))
    (pss_one (ps_ret (pe_tup (pa_cons (pe_ix (r := rIxL K) ix_list (pv 0) pe_int (fun _ _ => rfl)) (pa_cons (pe_ix (r := rIxL K) ix_list (pv 0) pe_int (fun _ _ => rfl)) pa_nil)))))))), ?_⟩
  refine ⟨_, rfl, v, d, rfl, rv, sz, dp, fun H1 s1 => ?_⟩
  have rv1 := rv.sm s1
  have ty := rv1.ty (K := K)
  have bad : o = .rule → ∀ H', Sm No H H' → E (.ref I) none H' := qR
  cases rv with
  | int i =>
    have eo : o = .rule := by unfold ruleF at ev; exact (Option.some.inj ev).symm
    refine ⟨_, rfl, _, _, _, _, false, rfl, .ty "list", ty, kit_ty (show kitB "int" "list" = some false by decide +kernel), _, rfl, ?_⟩
    exact iteT (iteT ⟨rfl, qR eo H1 s1⟩)
  | str z =>
    have eo : o = .rule := by unfold ruleF at ev; exact (Option.some.inj ev).symm
    refine ⟨_, rfl, _, _, _, _, false, rfl, .ty "list", ty, kit_ty (show kitB "str" "list" = some false by decide +kernel), _, rfl, ?_⟩
    exact iteT (iteT ⟨rfl, qR eo H1 s1⟩)
  | @lst a us ds ha rl =>
    have ha1 := s1.lst0 ha
    have ll := rl.len
    refine ⟨_, rfl, _, _, _, _, true, rfl, .ty "list", ty, kit_ty (show kitB "list" "list" = some true by decide +kernel), _, rfl, ?_⟩
    refine iteF ⟨_, rfl, a, _, rfl, .inl (SqL.of ha1), rfl, _, rfl, ?_⟩
    by_cases h2 : ds.length = 2
    · rw [show (!decide (V.int ((us.length : Nat) : Int) = V.int 2)) = false by rw [ll, h2]; decide +kernel]
      refine iteF ?_
      cases rl with
      | nil => simp at h2
      | @cons x p us ds rp rl =>
      cases rl with
      | nil => simp at h2
      | @cons y t us ds rt rl =>
      cases rl with
      | cons _ _ => simp at h2
      | nil =>
      have shp := shp_lst sh p (by simp)
      have sht := shp_lst sh t (by simp)
      have tyx := (rp.sm s1).ty (K := K)
      cases rp with
      | int i =>
        have eo : o = .rule := by unfold ruleF at ev; exact (Option.some.inj ev).symm
        refine ⟨_, rfl, a, _, 0, _, rfl, rfl, SqL.of ha1, at0, _, _, _, _, false, rfl, .ty "list", tyx, kit_ty (show kitB "int" "list" = some false by decide +kernel), _, rfl, iteT ⟨rfl, qR eo H1 s1⟩⟩
      | str i =>
        have eo : o = .rule := by unfold ruleF at ev; exact (Option.some.inj ev).symm
        refine ⟨_, rfl, a, _, 0, _, rfl, rfl, SqL.of ha1, at0, _, _, _, _, false, rfl, .ty "list", tyx, kit_ty (show kitB "str" "list" = some false by decide +kernel), _, rfl, iteT ⟨rfl, qR eo H1 s1⟩⟩
      | @lst b ws es hb rb =>
        refine ⟨_, rfl, a, _, 0, _, rfl, rfl, SqL.of ha1, at0, _, _, _, _, true, rfl, .ty "list", tyx, kit_ty (show kitB "list" "list" = some true by decide +kernel), _, rfl, iteF ?_⟩
        have ev1 : (match patV lit 200 [(.lst es, false)] [] (fun _ => false) with
          | none => none
          | some .bad => some .rule
          | some (.dup s) => some (.dup s)
          | some (.ok nm g) => (match tplC nm g 200 [(t, false)] with
            | none => none
            | some true => some .ok
            | some false => some .rule)) = some o := ev
        cases hp : patV lit 200 [(.lst es, false)] [] (fun _ => false) with
        | none => rw [hp] at ev1; cases ev1
        | some pv =>
        rw [hp] at ev1
        refine ⟨_, rfl, a, _, 1, _, rfl, rfl, SqL.of ha1, at1, _, rfl, a, _, 0, _, rfl, rfl, SqL.of ha1, at0, _, rfl, ?_⟩
        refine ⟨_, .lst es, l, lit, gl, 200, pv, rfl, .lst (s1.lst0 hb) (rb.sm s1), Rd.sm s1 hl, shp, s1.tab _ tg1, hp, fun nm g e L H2 s2 hL => ?_, fun e H2 s2 => ?_, fun z e => ?_⟩
        · subst e
          dsimp only at ev1
          have s12 := s1.trans s2
          cases ht : tplC nm g 200 [(t, false)] with
          | none => rw [ht] at ev1; cases ev1
          | some b =>
          rw [ht] at ev1
          refine ⟨y, t, L, nm, g, 200, b, rfl, rt.sm s12, hL, sht, s12.tab _ tg2, ht, fun eb H3 s3 => ?_, fun eb H3 s3 => ?_⟩
          · subst eb
            have s13 := s12.trans s3
            have ha3 := s13.lst0 ha
            refine ⟨_, rfl, a, _, 0, _, rfl, rfl, SqL.of ha3, at0, _, rfl, a, _, 1, _, rfl, rfl, SqL.of ha3, at1, by show 2 ≤ sizeLine; decide, fun q hq => ?_⟩
            exact qO (Option.some.inj ev1).symm _ _ (s13.trans (Sm.new hq))
          · subst eb
            exact qR (Option.some.inj ev1).symm H3 (s12.trans s3)
        · subst e
          exact qR (Option.some.inj ev1).symm H2 (s1.trans s2)
        · subst e
          exact (qD z (Option.some.inj ev1).symm).back s1
    · rw [show (!decide (V.int ((us.length : Nat) : Int) = V.int 2)) = true by
        rw [decide_eq_false fun e => h2 (by have := V.int.inj e; omega)]; rfl]
      have eo : o = .rule := by
        unfold ruleF at ev
        split at ev
        · rename_i heq
          injection heq with heq
          rw [heq] at h2
          exact absurd rfl h2
        · exact (Option.some.inj ev).symm
      exact iteT (iteT ⟨rfl, qR eo H1 s1⟩)
end
end My
namespace My
open PySem PySem.Spec PyProof.Rows L2 TL
/-! ### macro_parts, check_macro -/
def addW (acc : List Str) : Dt → List Str
  | .str s => bif acc.contains s then acc else acc ++ [s]
  | _ => acc
def litsOf (ls : List Dt) : List Str := ls.foldl addW []
def rulesF (lit : List Str) : List Dt → Option RO
  | [] => some .ok
  | d :: r => (match ruleF lit d with
    | some .ok => rulesF lit r
    | x => x)
def macF : List Dt → Option RO
  | n :: .lst ls :: r0 :: rs => bif canB n then bif ls.all canB then bif decide (ls.length ≤ 500) then rulesF (litsOf ls) (r0 :: rs) else none else some .rule else some .rule
  | _ => some .rule
def spMac (I D P1 P2 P3 : Addr) : Sp := fun vs H Q E => ∃ (a : Addr) (us : List V) (ds : List Dt) (o : RO), vs = [.ref a] ∧ H a = some (.lst us) ∧ RqL H us ds ∧ (∀ d ∈ ds, fine d) ∧ ds.length ≤ 900 ∧ GxR.TabG H P1 ∧ GxR.TabG H P2 ∧ GxR.TabG H P3 ∧ macF ds = some o ∧
  (o = .ok → ∀ u H', Sm No H H' → Q u H') ∧ (o = .rule → ∀ H', Sm No H H' → E (.ref I) none H') ∧ (∀ s, o = .dup s → nmX D s H E)
abbrev sMac : Stmt := top 26
abbrev NMc : List Str := ["macro", "name", "literals", "rules", "known", "literal", "rule"]
abbrev sCkM : Stmt := top 33
theorem rulesF_at {lit : List Str} : ∀ {ds : List Dt} {i : Nat} {d : Dt} {o : RO}, rulesF lit ds = some o → ds[i]? = some d → (∀ (j : Nat) (e : Dt), j < i → ds[j]? = some e → ruleF lit e = some .ok) →
    (ruleF lit d = some .ok) ∨ (ruleF lit d = some o)
  | x :: r, 0, d, o, h, e, _ => by
    cases e
    unfold rulesF at h
    cases hx : ruleF lit x with
    | none => rw [hx] at h; cases h
    | some z =>
      rw [hx] at h
      cases z with
      | ok => exact .inl rfl
      | form => exact .inr (by rw [← h])
      | rule => exact .inr (by rw [← h])
      | dup s => exact .inr (by rw [← h])
  | x :: r, i + 1, d, o, h, e, p => by
    have h0 := p 0 x (Nat.succ_pos i) rfl
    unfold rulesF at h
    rw [h0] at h
    exact rulesF_at (ds := r) (i := i) h (by simpa using e) fun j e lt he => p (j + 1) e (Nat.succ_lt_succ lt) (by simpa using he)
theorem rulesF_all {lit : List Str} : ∀ {ds : List Dt} {o : RO}, rulesF lit ds = some o → (∀ (j : Nat) (e : Dt), ds[j]? = some e → ruleF lit e = some .ok) → o = .ok
  | [], o, h, _ => by unfold rulesF at h; exact (Option.some.inj h).symm
  | x :: r, o, h, p => by
    unfold rulesF at h
    rw [p 0 x rfl] at h
    exact rulesF_all (ds := r) h fun j e he => p (j + 1) e (by simpa using he)
theorem litsOf_take {ls : List Dt} {i : Nat} {d : Dt} (h : ls[i]? = some d) : litsOf (ls.take (i + 1)) = addW (litsOf (ls.take i)) d := by
  unfold litsOf
  rw [take_nx h, List.foldl_append]; rfl
theorem litsOf_len : ∀ (ls : List Dt) (acc : List Str), (ls.foldl addW acc).length ≤ acc.length + ls.length
  | [], acc => Nat.le_refl _
  | d :: r, acc => by
    rw [List.foldl_cons]
    have := litsOf_len r (addW acc d)
    have h2 : (addW acc d).length ≤ acc.length + 1 := by
      cases d with
      | int i => exact Nat.le_succ _
      | lst l => exact Nat.le_succ _
      | str s =>
        show (bif acc.contains s then acc else acc ++ [s]).length ≤ _
        cases acc.contains s
        · rw [cond_false, List.length_append]; exact Nat.le_refl _
        · rw [cond_true]; exact Nat.le_succ _
    rw [List.length_cons]; omega
section
variable {P : Program} {w : World} {K : PySem.W.Frag} {mg : Str → Option Value} {base : Heap}
theorem scMac : FnScope NMc ["macro"] (defScope sMac) := ⟨rfl, rfl, rfl, by decide +kernel, rfl, by decide +kernel, by decide +kernel⟩
theorem scCkM : FnScope ["form"] ["form"] (defScope sCkM) := ⟨rfl, rfl, rfl, by decide +kernel, rfl, by decide +kernel, by decide +kernel⟩
theorem ok_mac {f c fR fC fW N I D P1 P2 P3 : Addr} {fd dR dC dW : FuncData} (F : FunC K "macro_parts" sMac f fd c) (B : Blt mg) (TB : GxR.TabB base mg c P3) (FC : Fun K "can_be_bound" "can_be_bound" sCan fC dC) (GC : Cal P w K mg base CX0 2 "can_be_bound" ["datum"] spCan fC dC)
    (FW : Fun K "is_word" "is_word" sWd fW dW) (gW : mg "is_word" = some (.ref fW)) (bW : L2.Binds K dW ["datum"] []) (NC : NewC K mg N) (eD : ∃ t, mg "DOTS" = some (.str "..." t))
    (GR : Cal P w K mg base (L2N.CX P w) 5 "checked_rule" ["rule", "literals"] (spRule I D P1 P2) fR dR) (XR : PlainC K mg "InvalidRule" I) :
    FnOk P w K mg base (L2N.CX P w) 6 f fd ["macro"] (spMac I D P1 P2 P3) := by
  refine F.okN scMac (fun vs H Q E h => ?_) (fun A outer s H vs Q E hr h => ?_)
  · obtain ⟨a, us, ds, o, rfl, _⟩ := h
    rfl
  obtain ⟨a, us, ds, o, rfl, ha, rl, fi, hz, tg1, tg2, tg3, ev, qO, qR, qD⟩ := h
  have nd := scMac.nd
  have hu := units1 hr.units
  have r2 := hr.mono (show 2 ≤ 5 by decide)
  have hd1 : (A.deeper (PyProof.Rows.envOfC "macro_parts" (defScope sMac) s.heap.objs.size f (.ref c))).depth + 1 + 1 < recursionLimit := by
    have := hr.dp
    omega
  refine ⟨_, (pss_cons (ps_if (PW.pt (pw_or (pt_not (pt_val (pe_callB call_isi (by rfl) B.isinstance (by decide +kernel) (pa_cons (pv 0) (pa_cons (pe_bltn (v := .ty "list") (by rfl) B.list (by decide +kernel) rfl) pa_nil))))) (pw_or1 (pt_cmpR op_lt (pe_callB call_len_seq (by rfl) B.len PySem.boot_len (pa_cons (pv 0) pa_nil)) pe_int (nomark _))))) (pss_one (L2N.ps_raise rfl (L2N.takes_of rfl rfl rfl rfl) (pmkN_plain PySem.F.excBase_ValueError XR.q XR.g XR.k (raises_own XR.s XR.t) rfl pe_str))) pss_nil)
    (pss_cons (ps_asg (pv 0) (pg_star (n := 2) rfl (pgs_cons (pg_name (i := 1) nd rfl (Or.inl rfl)) (pgs_cons (pg_name (i := 2) nd rfl (Or.inl rfl)) (pgs_cons (pg_name (i := 3) nd rfl (Or.inl rfl)) pgs_nil)))))
    (pss_cons (ps_if (pt_not (pt_val (pe_call GC.ok r2 rfl GC.g GC.k GC.b .nil pass0 (pa_cons (pv 1) pa_nil)))) (pss_one (L2N.ps_raise rfl (L2N.takes_of rfl rfl rfl rfl) (pmkN_plain PySem.F.excBase_ValueError XR.q XR.g XR.k (raises_own XR.s XR.t) rfl pe_str))) pss_nil)
    (pss_cons (ps_if (PW.pt (pw_or (pt_not (pt_val (pe_callB call_isi (by rfl) B.isinstance (by decide +kernel) (pa_cons (pv 2) (pa_cons (pe_bltn (v := .ty "list") (by rfl) B.list (by decide +kernel) rfl) pa_nil))))) (pw_or1 (pt_not (pt_val (pe_allK (P := P3) (T := tCan) (G0 := fun _ _ => True) hr rfl B.all (by decide +kernel) TB rfl (genS_of rfl rfl (by decide +kernel) rfl rfl (by decide +kernel)) (pv 2) (fun σ pins s1 H1 J _ tg => elt_can J tg FC GC.g GC.b FW gW bW B.isinstance B.str NC eD hd1 rfl rfl rfl) (fun _ => rfl))))))) (pss_one (L2N.ps_raise rfl (L2N.takes_of rfl rfl rfl rfl) (pmkN_plain PySem.F.excBase_ValueError XR.q XR.g XR.k (raises_own XR.s XR.t) rfl pe_str))) pss_nil)
    (pss_cons (ps_set (i := 4) nd rfl (Or.inr rfl) (pe_dc (own := [("literal", 5)]) (g := gName 5) (tt := tYes) rfl nd (pi_list (pv 2)) (blkOk_by (N := NMc) (sc := defScope sMac) (by decide +kernel)) (fun _ _ _ _ _ => (pg_name (i := 5) nd rfl (Or.inl rfl) (hf := Or.inr rfl))) (fun _ _ _ _ _ => pts_nil) (fun _ _ _ _ _ => (pv 5)) (fun _ _ _ _ _ => pe_bl)))
    (pss_one (ps_ret (pe_tup (pa_cons (pv 1) (pa_cons (pe_callTy call_list_of (by rfl) B.list (by decide +kernel) (pa_cons (pv 2) pa_nil)) (pa_cons (pe_lcX (own := [("rule", 6)]) (g := gName 6) (tt := tYes) rfl rfl (L2N.takes_of rfl rfl rfl rfl) rfl nd (pi_list (pv 3)) (blkOk_by (N := NMc) (sc := defScope sMac) (by decide +kernel)) (fun _ _ _ _ _ _ => (pg_name (i := 6) nd rfl (Or.inl rfl) (hf := Or.inr rfl))) (fun _ _ _ _ _ _ => pts_nil) (fun _ _ _ _ _ _ tk => (pe_call GR.ok hr rfl GR.g GR.k GR.b .nil (passF tk) (pa_cons (pv 6) (pa_cons (pv 4) pa_nil))))) pa_nil))))))))))), ?_⟩
  have ll := rl.len
  refine ⟨_, rfl, _, _, _, _, true, rfl, .ty "list", .base (.lst ha), kit_ty (show kitB "list" "list" = some true by decide +kernel), _, rfl, iteF ?_⟩
  refine ⟨_, rfl, a, _, rfl, .inl (SqL.of ha), _, _, rfl, rfl, _, rfl, ?_⟩
  by_cases h3 : ds.length < 3
  · rw [decide_eq_true (show ((us.length : Nat) : Int) < 3 by omega)]
    have eo : o = .rule := by
      unfold macF at ev
      split at ev
      · simp at h3; omega
      · exact (Option.some.inj ev).symm
    exact iteT ⟨rfl, qR eo H (Sm.refl _ _)⟩
  rw [decide_eq_false (show ¬ ((us.length : Nat) : Int) < 3 by omega)]
  refine iteF ⟨_, rfl, a, us, rfl, SqL.of ha, by omega, fun p hp => ?_⟩
  cases rl with
  | nil => simp at h3
  | @cons x n us ds rn rl =>
  cases rl with
  | nil => simp at h3
  | @cons y t us ds rt rl =>
  cases rl with
  | nil => simp at h3
  | @cons z r0 us ds r0r rl =>
  have rl : RqL H (z :: us) (r0 :: ds) := .cons r0r rl
  have s1 : Sm No H (upd H p (.lst (z :: us))) := Sm.new hp
  have hp1 : upd H p (.lst (z :: us)) p = some (.lst (z :: us)) := upd_same
  refine ⟨_, _, rfl, _, _, rfl, _, _, rfl, rfl, ?_⟩
  show tSeq _ _ _ _ (upd H p (.lst (z :: us)))
  generalize upd H p (.lst (z :: us)) = H1 at s1 hp1
  refine ⟨_, rfl, x, n, rfl, rn.sm s1, _, rfl, ?_⟩
  cases hn : canB n with
  | false =>
    have eo : o = .rule := by
      unfold macF at ev
      split at ev
      · rename_i heq
        injection heq with e1 e2
        rw [← e1, hn, cond_false] at ev
        exact (Option.some.inj ev).symm
      · exact (Option.some.inj ev).symm
    exact iteT ⟨rfl, qR eo H1 s1⟩
  | true =>
  refine iteF ?_
  have tyt := (rt.sm s1).ty (K := K)
  cases rt with
  | int i =>
    have eo : o = .rule := by unfold macF at ev; exact (Option.some.inj ev).symm
    exact ⟨_, rfl, _, _, _, _, false, rfl, .ty "list", tyt, kit_ty (show kitB "int" "list" = some false by decide +kernel), _, rfl, iteT (iteT ⟨rfl, qR eo H1 s1⟩)⟩
  | str i =>
    have eo : o = .rule := by unfold macF at ev; exact (Option.some.inj ev).symm
    exact ⟨_, rfl, _, _, _, _, false, rfl, .ty "list", tyt, kit_ty (show kitB "str" "list" = some false by decide +kernel), _, rfl, iteT (iteT ⟨rfl, qR eo H1 s1⟩)⟩
  | @lst b ws ls hb rb =>
  have ev1 : (bif canB n then bif ls.all canB then bif decide (ls.length ≤ 500) then rulesF (litsOf ls) (r0 :: ds) else none else some .rule else some .rule) = some o := ev
  rw [hn, cond_true] at ev1
  refine ⟨_, rfl, _, _, _, _, true, rfl, .ty "list", tyt, kit_ty (show kitB "list" "list" = some true by decide +kernel), _, rfl, iteF ?_⟩
  have hb1 := s1.lst0 hb
  refine ⟨_, rfl, b, ws, ls, rfl, hb1, rb.sm s1, fun d _ => by cases d <;> rfl, s1.tab _ tg3, trivial, fun H2 tb => ⟨ls.all canB, congrArg (fun g => V.bl (ls.all g)) (funext at_can), ?_⟩⟩
  have s2 : Sm No H H2 := s1.trans (Sm.tabbed (s1.tab _ tg3) tb)
  cases hc : ls.all canB with
  | false =>
    rw [hc, cond_false] at ev1
    exact iteT ⟨rfl, qR (Option.some.inj ev1).symm H2 s2⟩
  | true =>
  rw [hc, cond_true] at ev1
  cases hk : decide (ls.length ≤ 500) with
  | false => rw [hk, cond_false] at ev1; cases ev1
  | true =>
  rw [hk, cond_true] at ev1
  have lk := of_decide_eq_true hk
  have hb2 := s2.lst0 hb
  have hp2 := (Sm.tabbed (s1.tab _ tg3) tb : Sm No H1 H2).lst0 hp1
  have alb := rb.al
  refine iteF ⟨_, rfl, b, rfl, ⟨_, SqL.of hb2⟩, fun Dk hDk => ?_⟩
  refine dcL (xs := ws) (fun i H' => H' Dk = some (.dK (dkm (litsOf (ls.take i)) fun _ => .bl true)) ∧ Sm No H2 H') ⟨by rw [upd_same]; rfl, Sm.new hDk⟩ (fun i H' _ ⟨_, e⟩ => SqL.of (e.lst0 hb2)) ?_ ?_
  · rintro i v H3 hi ⟨h3, s3⟩
    obtain ⟨d, hd, rd⟩ := alb.2 i v hi
    have cd : canB d = true := List.all_eq_true.mp hc d (List.mem_of_getElem? hd)
    cases rd with
    | int i => cases cd
    | lst _ _ => cases cd
    | str q =>
    refine ⟨rfl, _, rfl, _, .inr q, rfl, h3, ?_, ?_, s3.mut hDk (ntbl_k h3)⟩
    · rw [dkm_len]
      have := litsOf_len (ls.take i) []
      rw [List.length_take] at this
      exact line_of (by show (List.foldl addW [] (List.take i ls)).length ≤ 1000; simp at this; omega)
    · rw [upd_same, litsOf_take hd]
      show some (HO.dK (putK _ _ _)) = some (HO.dK (dkm (bif (litsOf (ls.take i)).contains q then litsOf (ls.take i) else litsOf (ls.take i) ++ [q]) _))
      cases hm : (litsOf (ls.take i)).contains q with
      | true =>
        rw [cond_true, put_dkm (List.contains_iff_mem.mp hm)]
        refine congrArg (fun f => some (HO.dK (dkm _ f))) (funext fun n => ?_)
        by_cases e : n = q
        · rw [if_pos e]
        · rw [if_neg e]
      | false =>
        rw [cond_false, put_new fun h => by rw [List.contains_iff_mem.mpr h] at hm; cases hm]
        refine congrArg (fun f => some (HO.dK (dkm _ f))) (funext fun n => ?_)
        by_cases e : n = q
        · rw [if_pos e]
        · rw [if_neg e]
  · rintro H3 ⟨h3, s3⟩
    rw [alb.len, List.take_length] at h3
    have s23 := s2.trans s3
    refine ⟨_, rfl, _, rfl, b, _, rfl, .inl (SqL.of (s23.lst0 hb)), fun lc hlc => ?_⟩
    have s4 := s3.trans (Sm.new (o := .lst ws) hlc)
    have s24 := s2.trans s4
    have hp4 := s4.lst0 hp2
    have hk4 := (Sm.new (o := .lst ws) hlc : Sm No H3 _).keep Dk _ (fun z => z) rfl h3
    refine ⟨_, rfl, p, rfl, ⟨_, SqL.of hp4⟩, fun Dn hDn => ?_⟩
    show ∃ W : Nat → Nat → Hp → Prop, _
    generalize upd H3 lc (.lst ws) = H4 at s4 s24 hp4 hk4 hDn
    have alr := rl.al
    have lr := rl.len
    have lds : (r0 :: ds).length ≤ 900 := by simp at hz ⊢; omega
    refine lc_list (xs := z :: us) (fun i H' => (∃ acc, H' Dn = some (.lst acc) ∧ acc.length = i) ∧ (∀ j e, j < i → (r0 :: ds)[j]? = some e → ruleF (litsOf ls) e = some .ok) ∧ Sm No H4 H')
      ⟨⟨[], upd_same, rfl⟩, fun j e lt => absurd lt (Nat.not_lt_zero j), Sm.new hDn⟩ (fun i H' _ ⟨_, _, e⟩ => SqL.of (e.lst0 hp4)) ?_ ?_
    · rintro i v H5 hi ⟨⟨acc, h5, la⟩, al, s5⟩
      obtain ⟨d, hd, rd⟩ := alr.2 i v hi
      have s25 := s24.trans s5
      have fid : fine d := fi d (List.mem_cons_of_mem _ (List.mem_cons_of_mem _ (List.mem_of_getElem? hd)))
      have il := (List.getElem?_eq_some_iff.mp hd).1
      rcases rulesF_at ev1 hd al with e | e
      · refine ⟨rfl, _, rfl, _, rfl, v, d, Dk, litsOf ls, _, .ok, rfl, rd.sm s25, .inl (s5.keep Dk _ (fun z => z) rfl hk4), fid, s25.tab _ tg1, s25.tab _ tg2, e, fun _ u H6 s6 => ?_, (fun z => by cases z), (fun s z => by cases z)⟩
        have h6 := s6.lst0 h5
        refine ⟨acc, h6, line_of (by omega), ⟨_, upd_same, by rw [List.length_append, la]; rfl⟩, fun j e' lt he => ?_, (s5.trans s6).mut hDn (ntbl_l h6)⟩
        rcases Nat.lt_or_eq_of_le (Nat.le_of_lt_succ lt) with lt | rfl
        · exact al j e' lt he
        · rw [hd] at he
          cases he
          exact e
      · refine ⟨rfl, _, rfl, _, rfl, v, d, Dk, litsOf ls, _, o, rfl, rd.sm s25, .inl (s5.keep Dk _ (fun z => z) rfl hk4), fid, s25.tab _ tg1, s25.tab _ tg2, e, fun eo u H6 s6 => ?_, fun eo H6 s6 => qR eo H6 (s25.trans s6), fun s eo => (qD s eo).back s25⟩
        subst eo
        have h6 := s6.lst0 h5
        refine ⟨acc, h6, line_of (by omega), ⟨_, upd_same, by rw [List.length_append, la]; rfl⟩, fun j e' lt he => ?_, (s5.trans s6).mut hDn (ntbl_l h6)⟩
        rcases Nat.lt_or_eq_of_le (Nat.le_of_lt_succ lt) with lt | rfl
        · exact al j e' lt he
        · rw [hd] at he
          cases he
          exact e
    · rintro H5 ⟨⟨acc, h5, la⟩, al, s5⟩
      have eo : o = .ok := rulesF_all ev1 fun j e he => al j e (by have := (List.getElem?_eq_some_iff.mp he).1; rw [lr]; exact this) he
      refine ⟨by show 3 ≤ sizeLine; decide, fun q hq => qO eo _ _ ((s24.trans s5).trans (Sm.new hq))⟩
theorem ok_ckM {f fM I D P1 P2 P3 : Addr} {fd dM : FuncData} (F : Fun K "check_macro" "check_macro" sCkM f fd) (GM : Cal P w K mg base (L2.CX P w) 6 "macro_parts" ["macro"] (spMac I D P1 P2 P3) fM dM) :
    FnOk P w K mg base (L2.CX P w) 7 f fd ["form"] (fun vs H Q E => ∃ (a : Addr) (us : List V) (ds : List Dt) (o : RO), vs = [.ref a] ∧ H a = some (.lst us) ∧ RqL H us ds ∧ (∀ d ∈ ds, fine d) ∧ 1 ≤ ds.length ∧ ds.length ≤ 900 ∧ GxR.TabG H P1 ∧ GxR.TabG H P2 ∧ GxR.TabG H P3 ∧ macF (ds.drop 1) = some o ∧
      (o = .ok → ∀ H', Sm No H H' → Q .non H') ∧ (o = .rule → ∀ H', Sm No H H' → E (.ref I) none H') ∧ (∀ s, o = .dup s → nmX D s H E)) := by
  refine F.okX scCkM (fun vs H Q E h => ?_) (fun cdv A outer s H vs Q E hr h => ?_)
  · obtain ⟨a, us, ds, o, rfl, _⟩ := h
    rfl
  obtain ⟨a, us, ds, o, rfl, ha, rl, fi, hl, hz, tg1, tg2, tg3, ev, qO, qR, qD⟩ := h
  have nd := scCkM.nd
  have ll := rl.len
  refine ⟨_, (pss_one (ps_expr (pe_call GM.ok hr rfl GM.g GM.k GM.b .nil (passes_call (takes_of rfl rfl rfl rfl) fun _ _ _ _ h => h) (pa_cons (pe_slice sl_list (pv 0) (po_some pe_int) po_none) pa_nil)))), ?_⟩
  refine ⟨_, rfl, _, rfl, a, _, rfl, SqL.of ha, fun p hp => ?_⟩
  have e1 : cutV us (some 1) none = us.drop 1 := cut_lo (k := 1) (by omega)
  rw [e1]
  have s1 : Sm No H (upd H p (.lst (us.drop 1))) := Sm.new hp
  exact ⟨p, _, ds.drop 1, o, rfl, upd_same, (rl.drop 1).sm s1, fun d hd => fi d (List.mem_of_mem_drop hd), by rw [List.length_drop]; omega, s1.tab _ tg1, s1.tab _ tg2, s1.tab _ tg3, ev, fun e u H' s => qO e H' (s1.trans s), fun e H' s => qR e H' (s1.trans s), fun s e => (qD s e).back s1⟩
end
end My
namespace My
open PySem PySem.Spec PyProof.Rows L2 TL
/-! ### a local name that holds one of several defs, which may raise -/
structure HeldX (P : Program) (w : World) (K : PySem.W.Frag) (mg : Str → Option Value) (base : Heap) (k : Nat) (f : Addr) (sp : Sp) : Prop where
  ex : ∃ (fd : FuncData) (ps : List Str), FnOk P w K mg base (L2.CX P w) k f fd ps sp ∧ PySem.W.keepIn K (.ref f) = true ∧ Binds K fd ps []
def tCallAX (i : Nat) (S : Addr → Sp → Prop) (E : XK) (t : TA) : TE := fun σ H Q => ∃ f sp, σ[i]? = some (some (.ref f)) ∧ S f sp ∧ t σ H fun vs H1 => sp vs H1 Q E
section
variable {X : Cx} {k i : Nat} {E : XK} {x : Str} {p pos : Pos} {e : Expr} {es : List Expr} {t : TA}
theorem pe_callAX {S : Addr → Sp → Prop} (A : ∀ f sp, S f sp → HeldX X.prog X.w X.K X.mg X.base k f sp) (hr : Room k X.A) (hN : X.N[i]? = some x) (hv : Vis X.env.scope x) (hx : Passes (L2.CX X.prog X.w) X E) (ha : PA X (e :: es) t)
    (hdb : (x == ("__debug__" : Str)) = false := by decide) (hcd : (x == ("__classdict__" : Str)) = false := by decide)
    (he : starEach (e :: es) X.env = (false, eval e X.env) :: starEach es X.env := by rfl) (hpl : (backTo pos (starEach es X.env)).any (·.1) = false := by rfl) : PE X (.Call (.Name x p) (e :: es) [] pos) (tCallAX i S E t) := by
  refine ⟨fun pins s σ H Q I h => ?_⟩
  obtain ⟨f, sp, hs, hS, ht⟩ := h
  obtain ⟨fd, ps, F, hk, hb⟩ := (A f sp hS).ex
  refine (pe_callL (i := i) (f := f) (sp := sp) (dvs := []) (E := E) F hr hN hv hk hb .nil hx ha hdb hcd he hpl).run pins s σ H Q I ⟨hs, ?_⟩
  have e0 : (fun (vs : List V) (H1 : Hp) => sp (vs ++ []) H1 Q E) = fun vs H1 => sp vs H1 Q E := by
    funext vs H1
    rw [List.append_nil]
  show t σ H (fun vs H1 => sp (vs ++ []) H1 Q E)
  rw [e0]
  exact ht
end
/-! ### check_form -/
def formF : Dt → Option RO
  | .lst (.str w :: r) => bif decide (w = "\u0069mport") then (bif okImp (.str w :: r) then some .ok else some .form) else bif decide (w = "export") then (bif okExp (.str w :: r) then some .ok else some .form)
      else bif decide (w = "define") then (bif okDef (.str w :: r) then some .ok else some .form) else bif decide (w = "macro") then macF r else bif decide (w = "unknown") then some .form else none
  | _ => some .form
def fineF : Dt → Prop
  | .lst ds => (∀ d ∈ ds, fine d) ∧ ds.length ≤ 900
  | _ => True
structure FCh (K : PySem.W.Frag) (w : World) (mg : Str → Option Value) (fc fI fE fD fM : Addr) : Prop where
  g : mg "FORM_CHECKS" = some (.ref fc)
  d : ∃ es n, KDict K w fc es n
  i : PySem.W.nsIn K fc "\u0069mport" = some (some (.ref fI))
  e : PySem.W.nsIn K fc "export" = some (some (.ref fE))
  f : PySem.W.nsIn K fc "define" = some (some (.ref fD))
  m : PySem.W.nsIn K fc "macro" = some (some (.ref fM))
  u : PySem.W.nsIn K fc "unknown" = some none
def spCkM (I D P1 P2 P3 : Addr) : Sp := fun vs H Q E => ∃ (a : Addr) (us : List V) (ds : List Dt) (o : RO), vs = [.ref a] ∧ H a = some (.lst us) ∧ RqL H us ds ∧ (∀ d ∈ ds, fine d) ∧ 1 ≤ ds.length ∧ ds.length ≤ 900 ∧ GxR.TabG H P1 ∧ GxR.TabG H P2 ∧ GxR.TabG H P3 ∧ macF (ds.drop 1) = some o ∧
      (o = .ok → ∀ H', Sm No H H' → Q .non H') ∧ (o = .rule → ∀ H', Sm No H H' → E (.ref I) none H') ∧ (∀ s, o = .dup s → nmX D s H E)
def spCf (IF IR D P1 P2 P3 : Addr) : Sp := fun vs H Q E => ∃ (v : V) (d : Dt) (o : RO), vs = [v] ∧ Rq H v d ∧ fineF d ∧ GxR.TabG H P1 ∧ GxR.TabG H P2 ∧ GxR.TabG H P3 ∧ formF d = some o ∧
  (o = .ok → ∀ H', Sm No H H' → Q .non H') ∧ (o = .form → ∀ H', Sm No H H' → E (.ref IF) none H') ∧ (o = .rule → ∀ H', Sm No H H' → E (.ref IR) none H') ∧ (∀ s, o = .dup s → nmX D s H E)
abbrev sCf : Stmt := top 35
abbrev NCf : List Str := ["form", "check"]
theorem macF_form : ∀ {ds : List Dt}, macF ds ≠ some .form := by
  have hP : ∀ lit d, ruleF lit d ≠ some .form := by
    intro lit d h
    unfold ruleF at h
    split at h
    · split at h
      · cases h
      · cases h
      · cases h
      · split at h <;> cases h
    · cases h
  have hR : ∀ lit (ds : List Dt), rulesF lit ds ≠ some .form := by
    intro lit ds
    induction ds with
    | nil => intro h; unfold rulesF at h; cases h
    | cons d r ih =>
      intro h
      unfold rulesF at h
      split at h
      · exact ih h
      · exact hP _ _ h
  intro ds h
  unfold macF at h
  split at h
  · rename_i n ls r0 rs
    cases h1 : canB n <;> rw [h1] at h <;> try (cases h)
    rw [cond_true] at h
    cases h2 : ls.all canB <;> rw [h2] at h <;> try (cases h)
    rw [cond_true] at h
    cases h3 : decide (ls.length ≤ 500) <;> rw [h3] at h <;> try (cases h)
    exact hR _ _ h
  · cases h
section
variable {P : Program} {w : World} {K : PySem.W.Frag} {mg : Str → Option Value} {base : Heap}
theorem scCf : FnScope NCf ["form"] (defScope sCf) := ⟨rfl, rfl, rfl, by decide +kernel, rfl, by decide +kernel, by decide +kernel⟩
theorem ok_cf {f fI fE fD fM fc IF IR D P1 P2 P3 : Addr} {fd dI dE dD dM : FuncData} (F : Fun K "check_form" "check_form" sCf f fd) (B : Blt mg) (C : FCh K w mg fc fI fE fD fM) (GI : Cal P w K mg base (L2.CX P w) 5 "check_import" ["form"] (spForm IF okImp) fI dI)
    (GE : Cal P w K mg base (L2.CX P w) 4 "check_export" ["form"] (spForm IF okExp) fE dE) (GD : Cal P w K mg base (L2.CX P w) 4 "check_define" ["form"] (spForm IF okDef) fD dD) (GM : Cal P w K mg base (L2.CX P w) 7 "check_macro" ["form"] (spCkM IR D P1 P2 P3) fM dM) (XF : PlainC K mg "InvalidForm" IF) :
    FnOk P w K mg base (L2.CX P w) 8 f fd ["form"] (spCf IF IR D P1 P2 P3) := by
  refine F.okX scCf (fun vs H Q E h => ?_) (fun cdv A outer s H vs Q E hr h => ?_)
  · obtain ⟨v, d, o, rfl, _⟩ := h
    rfl
  obtain ⟨v, d, o, rfl, rv, fi, tg1, tg2, tg3, ev, qO, qF, qR, qD⟩ := h
  have nd := scCf.nd
  obtain ⟨es, n, KD⟩ := C.d
  have held : ∀ g sp, ((g = fI ∧ sp = spForm IF okImp) ∨ (g = fE ∧ sp = spForm IF okExp) ∨ (g = fD ∧ sp = spForm IF okDef) ∨ (g = fM ∧ sp = spCkM IR D P1 P2 P3)) → HeldX P w K mg base 7 g sp := by
    rintro g sp (⟨rfl, rfl⟩ | ⟨rfl, rfl⟩ | ⟨rfl, rfl⟩ | ⟨rfl, rfl⟩)
    · exact ⟨_, _, GI.ok.mono (by decide), GI.k, GI.b⟩
    · exact ⟨_, _, GE.ok.mono (by decide), GE.k, GE.b⟩
    · exact ⟨_, _, GD.ok.mono (by decide), GD.k, GD.b⟩
    · exact ⟨_, _, GM.ok, GM.k, GM.b⟩
  refine ⟨_, (pss_cons (ps_if (PW.pt (pw_or (pt_not (pt_val (pe_callB call_isi (by rfl) B.isinstance (by decide +kernel) (pa_cons (pv 0) (pa_cons (pe_bltn (v := .ty "list") (by rfl) B.list (by decide +kernel) rfl) pa_nil))))) (pw_or (pt_not (pt_truth (pv 0) (by intro _; rfl))) (pw_or (pt_not (pt_val (pe_callB call_isi (by rfl) B.isinstance (by decide +kernel) (pa_cons (pe_ix (r := rIxL K) ix_list (pv 0) pe_int (fun _ _ => rfl)) (pa_cons (pe_bltn (v := .ty "str") (by rfl) B.str (by decide +kernel) rfl) pa_nil))))) (pw_or1 (pt_cmpR (op_notIn_kd KD) (pe_ix (r := rIxL K) ix_list (pv 0) pe_int (fun _ _ => rfl)) (pe_glob (v := .ref fc) rfl C.g rfl) (by rfl))))))) (pss_one (ps_raise rfl (takes_of rfl rfl rfl rfl) (pmk_plain PySem.F.excBase_ValueError XF.q XF.g XF.k (raises_own XF.s XF.t) rfl pe_str))) pss_nil)
    (pss_cons (ps_set (i := 1) nd rfl (Or.inl rfl) (pe_ix (r := rIxD K w) ix_kdict (pe_glob (v := .ref fc) rfl C.g rfl) (pe_ix (r := rIxL K) ix_list (pv 0) pe_int (fun _ _ => rfl)) (fun _ _ => rfl)))
    (pss_one (ps_expr (pe_callAX (i := 1) held hr rfl (.inl rfl) (passes_call (takes_of rfl rfl rfl rfl) fun _ _ _ _ h => h) (pa_cons (pv 0) pa_nil)))))), ?_⟩
  have ty := rv.ty (K := K)
  cases rv with
  | int i =>
    have eo : o = .form := by unfold formF at ev; exact (Option.some.inj ev).symm
    exact ⟨_, rfl, _, _, _, _, false, rfl, .ty "list", ty, kit_ty (show kitB "int" "list" = some false by decide +kernel), _, rfl, iteT (iteT ⟨rfl, qF eo H (Sm.refl _ _)⟩)⟩
  | str i =>
    have eo : o = .form := by unfold formF at ev; exact (Option.some.inj ev).symm
    exact ⟨_, rfl, _, _, _, _, false, rfl, .ty "list", ty, kit_ty (show kitB "str" "list" = some false by decide +kernel), _, rfl, iteT (iteT ⟨rfl, qF eo H (Sm.refl _ _)⟩)⟩
  | @lst a us ds ha rl =>
    refine ⟨_, rfl, _, _, _, _, true, rfl, .ty "list", ty, kit_ty (show kitB "list" "list" = some true by decide +kernel), _, rfl, iteF ?_⟩
    have rl0 := rl
    cases rl with
    | nil =>
      have eo : o = .form := by unfold formF at ev; exact (Option.some.inj ev).symm
      exact ⟨_, rfl, false, .inl ⟨_, SqL.of ha, rfl⟩, iteT (iteT ⟨rfl, qF eo H (Sm.refl _ _)⟩)⟩
    | @cons x d us ds rx rl =>
    refine ⟨_, rfl, true, .inl ⟨_, SqL.of ha, rfl⟩, iteF ?_⟩
    have tyx := rx.ty (K := K)
    cases rx with
    | int i =>
      have eo : o = .form := by unfold formF at ev; exact (Option.some.inj ev).symm
      exact ⟨_, rfl, a, _, 0, _, rfl, rfl, SqL.of ha, at0, _, _, _, _, false, rfl, .ty "str", tyx, kit_ty (show kitB "int" "str" = some false by decide +kernel), _, rfl, iteT (iteT ⟨rfl, qF eo H (Sm.refl _ _)⟩)⟩
    | lst _ _ =>
      have eo : o = .form := by unfold formF at ev; exact (Option.some.inj ev).symm
      exact ⟨_, rfl, a, _, 0, _, rfl, rfl, SqL.of ha, at0, _, _, _, _, false, rfl, .ty "str", tyx, kit_ty (show kitB "list" "str" = some false by decide +kernel), _, rfl, iteT (iteT ⟨rfl, qF eo H (Sm.refl _ _)⟩)⟩
    | str z =>
    refine ⟨_, rfl, a, _, 0, _, rfl, rfl, SqL.of ha, at0, _, _, _, _, true, rfl, .ty "str", tyx, kit_ty (show kitB "str" "str" = some true by decide +kernel), _, rfl, iteF ?_⟩
    have ev1 : (bif decide (z = "\u0069mport") then (bif okImp (.str z :: ds) then some .ok else some .form) else bif decide (z = "export") then (bif okExp (.str z :: ds) then some .ok else some .form)
      else bif decide (z = "define") then (bif okDef (.str z :: ds) then some .ok else some .form) else bif decide (z = "macro") then macF ds else bif decide (z = "unknown") then some .form else none) = some o := ev
    -- a form with a check
    have go : ∀ (g : Addr) (sp : Sp), PySem.W.nsIn K fc z = some (some (.ref g)) → ((g = fI ∧ sp = spForm IF okImp) ∨ (g = fE ∧ sp = spForm IF okExp) ∨ (g = fD ∧ sp = spForm IF okDef) ∨ (g = fM ∧ sp = spCkM IR D P1 P2 P3)) →
        (sp [.ref a] H (fun v H' => v = .non → Q .non H') E) → sp [.ref a] H (fun _ H' => Q .non H') E → True := fun _ _ _ _ _ _ => trivial
    have fin : ∀ (g : Addr) (sp : Sp), PySem.W.nsIn K fc z = some (some (.ref g)) → ((g = fI ∧ sp = spForm IF okImp) ∨ (g = fE ∧ sp = spForm IF okExp) ∨ (g = fD ∧ sp = spForm IF okDef) ∨ (g = fM ∧ sp = spCkM IR D P1 P2 P3)) → sp [.ref a] H (fun _ H' => Q .non H') E →
        (tSeq (tAsg (tOp (rIxD K w) (tC (.ref fc)) (tOp (rIxL K) (tVar 0) (tC (.int 0)))) (gName 1)) (tDrop (tCallAX 1 (fun g sp => (g = fI ∧ sp = spForm IF okImp) ∨ (g = fE ∧ sp = spForm IF okExp) ∨ (g = fD ∧ sp = spForm IF okDef) ∨ (g = fM ∧ sp = spCkM IR D P1 P2 P3)) E (tCons (tVar 0) tNil)))) { nx := fun _ H' => Q .non H', rt := Q } [some (.ref a), none] H := fun g sp hg hS hs => by
      refine ⟨_, rfl, a, _, 0, _, rfl, rfl, SqL.of ha, at0, fc, z, .ref g, rfl, rfl, ⟨es, n, .ref g, KD.at_, KD.lit, hg, rfl⟩, g, sp, rfl, hS, _, rfl, hs⟩
    have nt : ∀ (g : Addr), PySem.W.nsIn K fc z = some (some (.ref g)) → (!(some (Value.ref g) : Option Value).isSome) = false := fun _ _ => rfl
    by_cases e1 : z = "\u0069mport"
    · subst e1
      refine ⟨_, rfl, a, _, 0, _, rfl, rfl, SqL.of ha, at0, _, _, rfl, rfl, C.i, _, rfl, iteF (fin fI _ C.i (.inl ⟨rfl, rfl⟩) ?_)⟩
      rw [decide_eq_true rfl, cond_true] at ev1
      refine ⟨a, _, _, rfl, ha, rl0, fun h H' s => qO ?_ H' s, fun h H' s => qF ?_ H' s⟩
      · rw [h, cond_true] at ev1; exact (Option.some.inj ev1).symm
      · rw [h, cond_false] at ev1; exact (Option.some.inj ev1).symm
    rw [decide_eq_false e1, cond_false] at ev1
    by_cases e2 : z = "export"
    · subst e2
      refine ⟨_, rfl, a, _, 0, _, rfl, rfl, SqL.of ha, at0, _, _, rfl, rfl, C.e, _, rfl, iteF (fin fE _ C.e (.inr (.inl ⟨rfl, rfl⟩)) ?_)⟩
      rw [decide_eq_true rfl, cond_true] at ev1
      refine ⟨a, _, _, rfl, ha, rl0, fun h H' s => qO ?_ H' s, fun h H' s => qF ?_ H' s⟩
      · rw [h, cond_true] at ev1; exact (Option.some.inj ev1).symm
      · rw [h, cond_false] at ev1; exact (Option.some.inj ev1).symm
    rw [decide_eq_false e2, cond_false] at ev1
    by_cases e3 : z = "define"
    · subst e3
      refine ⟨_, rfl, a, _, 0, _, rfl, rfl, SqL.of ha, at0, _, _, rfl, rfl, C.f, _, rfl, iteF (fin fD _ C.f (.inr (.inr (.inl ⟨rfl, rfl⟩))) ?_)⟩
      rw [decide_eq_true rfl, cond_true] at ev1
      refine ⟨a, _, _, rfl, ha, rl0, fun h H' s => qO ?_ H' s, fun h H' s => qF ?_ H' s⟩
      · rw [h, cond_true] at ev1; exact (Option.some.inj ev1).symm
      · rw [h, cond_false] at ev1; exact (Option.some.inj ev1).symm
    rw [decide_eq_false e3, cond_false] at ev1
    by_cases e4 : z = "macro"
    · subst e4
      refine ⟨_, rfl, a, _, 0, _, rfl, rfl, SqL.of ha, at0, _, _, rfl, rfl, C.m, _, rfl, iteF (fin fM _ C.m (.inr (.inr (.inr ⟨rfl, rfl⟩))) ?_)⟩
      rw [decide_eq_true rfl, cond_true] at ev1
      exact ⟨a, _, _, o, rfl, ha, rl0, fi.1, by simp, fi.2, tg1, tg2, tg3, ev1, qO, qR, qD⟩
    rw [decide_eq_false e4, cond_false] at ev1
    by_cases e5 : z = "unknown"
    · subst e5
      rw [decide_eq_true rfl, cond_true] at ev1
      exact ⟨_, rfl, a, _, 0, _, rfl, rfl, SqL.of ha, at0, _, _, rfl, rfl, C.u, _, rfl, iteT ⟨rfl, qF (Option.some.inj ev1).symm H (Sm.refl _ _)⟩⟩
    · rw [decide_eq_false e5, cond_false] at ev1
      cases ev1
end
end My
namespace My
open PySem PySem.Spec PyProof.Rows L2 TL
/-! ### module_name, imported_modules -/
def isStr (z : Str) : Dt → Bool
  | .str s => decide (s = z)
  | _ => false
theorem eqv_str (z : Str) (d : Dt) : PyData.eqv (pyQ d) (.str z) = isStr z d := by
  cases d with
  | int i => unfold pyQ PyData.eqv; rfl
  | str s =>
    unfold pyQ PyData.eqv isStr
    rw [Bool.eq_iff_iff, beq_iff_eq, decide_eq_true_iff]
  | lst ds => unfold pyQ PyData.eqv; rfl
def nameD : Dt → Option Str
  | .lst [x, .str s] => bif isStr "module" x && canB (.str s) then some s else none
  | _ => none
def nameF : List Dt → Option Str
  | d :: _ => nameD d
  | [] => none
def spNm (I : Addr) : Sp := fun vs H Q E => ∃ (a : Addr) (us : List V) (ds : List Dt), vs = [.ref a] ∧ H a = some (.lst us) ∧ RqL H us ds ∧ (∀ d ∈ ds, Shp d) ∧
  (∀ s, nameF ds = some s → ∀ H', Sm No H H' → Q (.str s) H') ∧ (nameF ds = none → ∀ H', Sm No H H' → E (.ref I) none H')
abbrev sNm : Stmt := top 36
abbrev NNm : List Str := ["data", "first"]
def formsF : List Dt → Option RO
  | [] => some .ok
  | d :: r => (match formF d with
    | some .ok => formsF r
    | x => x)
def addM (acc : List Str) : Dt → List Str
  | .lst (.str w :: d :: _) => bif decide (w = "\u0069mport") then addW acc d else acc
  | _ => acc
def modsOf (ds : List Dt) : List Str := ds.foldl addM []
def spIm (IF IR D P1 P2 P3 : Addr) : Sp := fun vs H Q E => ∃ (a : Addr) (us : List V) (ds : List Dt) (o : RO), vs = [.ref a] ∧ H a = some (.lst us) ∧ RqL H us ds ∧ (∀ d ∈ ds, fineF d) ∧ 1 ≤ ds.length ∧ ds.length ≤ 100 ∧ GxR.TabG H P1 ∧ GxR.TabG H P2 ∧ GxR.TabG H P3 ∧ formsF (ds.drop 1) = some o ∧
  (o = .ok → ∀ (L : Addr) H', Sm No H H' → H' L = some (.lst ((modsOf (ds.drop 1)).map V.str)) → Q (.ref L) H') ∧ (o = .form → ∀ H', Sm No H H' → E (.ref IF) none H') ∧ (o = .rule → ∀ H', Sm No H H' → E (.ref IR) none H') ∧ (∀ s, o = .dup s → nmX D s H E)
abbrev sIm : Stmt := top 37
abbrev NIm : List Str := ["data", "form", "modules"]
theorem formsF_at : ∀ {ds : List Dt} {i : Nat} {d : Dt} {o : RO}, formsF ds = some o → ds[i]? = some d → (∀ (j : Nat) (e : Dt), j < i → ds[j]? = some e → formF e = some .ok) → (formF d = some .ok) ∨ (formF d = some o)
  | x :: r, 0, d, o, h, e, _ => by
    cases e
    unfold formsF at h
    cases hx : formF x with
    | none => rw [hx] at h; cases h
    | some z =>
      rw [hx] at h
      cases z with
      | ok => exact .inl rfl
      | form => exact .inr (by rw [← h])
      | rule => exact .inr (by rw [← h])
      | dup s => exact .inr (by rw [← h])
  | x :: r, i + 1, d, o, h, e, p => by
    have h0 := p 0 x (Nat.succ_pos i) rfl
    unfold formsF at h
    rw [h0] at h
    exact formsF_at (ds := r) (i := i) h (by simpa using e) fun j e lt he => p (j + 1) e (Nat.succ_lt_succ lt) (by simpa using he)
theorem formsF_all : ∀ {ds : List Dt} {o : RO}, formsF ds = some o → (∀ (j : Nat) (e : Dt), ds[j]? = some e → formF e = some .ok) → o = .ok
  | [], o, h, _ => by unfold formsF at h; exact (Option.some.inj h).symm
  | x :: r, o, h, p => by
    unfold formsF at h
    rw [p 0 x rfl] at h
    exact formsF_all (ds := r) h fun j e he => p (j + 1) e (by simpa using he)
theorem modsOf_take {ls : List Dt} {i : Nat} {d : Dt} (h : ls[i]? = some d) : modsOf (ls.take (i + 1)) = addM (modsOf (ls.take i)) d := by
  unfold modsOf
  rw [take_nx h, List.foldl_append]; rfl
theorem modsOf_len : ∀ (ls : List Dt) (acc : List Str), (ls.foldl addM acc).length ≤ acc.length + ls.length
  | [], acc => Nat.le_refl _
  | d :: r, acc => by
    rw [List.foldl_cons]
    have := modsOf_len r (addM acc d)
    have h2 : (addM acc d).length ≤ acc.length + 1 := by
      unfold addM
      split
      · rename_i w d' r'
        cases decide (w = "\u0069mport")
        · exact Nat.le_succ _
        · exact litsOf_len [d'] acc
      · exact Nat.le_succ _
    rw [List.length_cons]; omega
/-- a good form has a word ahead; an \u0069mport a word behind it -/
theorem formF_ok {d : Dt} (h : formF d = some .ok) : ∃ w r, d = .lst (.str w :: r) ∧ (w = "\u0069mport" → ∃ m r', r = .str m :: r') := by
  unfold formF at h
  split at h
  · rename_i w r
    refine ⟨w, r, rfl, fun e => ?_⟩
    subst e
    rw [decide_eq_true rfl, cond_true] at h
    cases hi : okImp (.str "\u0069mport" :: r) with
    | false => rw [hi] at h; cases h
    | true =>
      unfold okImp at hi
      cases r with
      | nil => cases hi
      | cons x r =>
        rw [Bool.and_eq_true, Bool.and_eq_true] at hi
        have hx : canB x = true := by
          have := List.all_eq_true.mp hi.2.1 x (by simp)
          exact this
        cases x with
        | int i => cases hx
        | lst l => cases hx
        | str m => exact ⟨m, r, rfl⟩
  · cases h
section
variable {P : Program} {w : World} {K : PySem.W.Frag} {mg : Str → Option Value} {base : Heap}
theorem scNm : FnScope NNm ["data"] (defScope sNm) := ⟨rfl, rfl, rfl, by decide +kernel, rfl, by decide +kernel, by decide +kernel⟩
theorem scIm : FnScope NIm ["data"] (defScope sIm) := ⟨rfl, rfl, rfl, by decide +kernel, rfl, by decide +kernel, by decide +kernel⟩
theorem ok_nm {f fN I : Addr} {fd dN : FuncData} (F : Fun K "module_name" "module_name" sNm f fd) (B : Blt mg) (GN : Cal P w K mg base (L2.CX P w) 3 "check_names" ["names"] (spCkn I) fN dN) (XF : PlainC K mg "InvalidForm" I) :
    FnOk P w K mg base (L2.CX P w) 4 f fd ["data"] (spNm I) := by
  refine F.okX scNm (fun vs H Q E h => ?_) (fun cdv A outer s H vs Q E hr h => ?_)
  · obtain ⟨a, us, ds, rfl, _⟩ := h
    rfl
  obtain ⟨a, us, ds, rfl, ha, rl, sh, qO, qE⟩ := h
  have nd := scNm.nd
  refine ⟨_, (C8.pss_cut (ps_set (i := 1) nd rfl (Or.inl rfl) (pe_ifExp (pt_truth (pv 0) (by intro _; rfl)) (pe_ix (r := rIxL K) ix_list (pv 0) pe_int (fun _ _ => rfl)) (pe_lst pa_nil)))
    (pss_cons (ps_if (PW.pt (pw_or (pt_not (pt_val (pe_callB call_isi (by rfl) B.isinstance (by decide +kernel) (pa_cons (pv 1) (pa_cons (pe_bltn (v := .ty "list") (by rfl) B.list (by decide +kernel) rfl) pa_nil))))) (pw_or (pt_cmpR op_ne (pe_callB call_len_seq (by rfl) B.len PySem.boot_len (pa_cons (pv 1) pa_nil)) pe_int (nomark _)) (pw_or1 (pt_cmpR (op_neD hr.units) (pe_ix (r := rIxL K) ix_list (pv 1) pe_int (fun _ _ => rfl)) pe_str (nomark _)))))) (pss_one (ps_raise rfl (takes_of rfl rfl rfl rfl) (pmk_plain PySem.F.excBase_ValueError XF.q XF.g XF.k (raises_own XF.s XF.t) rfl pe_str))) pss_nil)
    (pss_cons (ps_expr (pe_call GN.ok hr rfl GN.g GN.k GN.b .nil (passes_call (takes_of rfl rfl rfl rfl) fun _ _ _ _ h => h) (pa_cons (pe_slice sl_list (pv 1) (po_some pe_int) po_none) pa_nil)))
    (pss_one (ps_ret (pe_ix (r := rIxL K) ix_list (pv 1) pe_int (fun _ _ => rfl))))))), ?_⟩
  refine ⟨fun σ' H' => ∃ v d, σ' = [some (.ref a), some v] ∧ Rq H' v d ∧ Sm No H H' ∧ Shp d ∧ nameF ds = nameD d, ?_, ?_⟩
  · cases rl with
    | nil => exact ⟨_, rfl, false, .inl ⟨_, SqL.of ha, rfl⟩, iteF ⟨by show 0 ≤ sizeLine; decide, fun p hp => ⟨_, .lst [], rfl, .lst upd_same .nil, Sm.new hp, by unfold Shp; decide +kernel, rfl⟩⟩⟩
    | @cons x d us ds rx rl => exact ⟨_, rfl, true, .inl ⟨_, SqL.of ha, rfl⟩, iteT ⟨_, rfl, a, _, 0, _, rfl, rfl, SqL.of ha, at0, x, d, rfl, rx, Sm.refl _ _, sh d (by simp), rfl⟩⟩
  · rintro σ' H1 ⟨v, d, rfl, rv, s1, shd, en⟩
    rw [en] at qO qE
    have ty := rv.ty (K := K)
    cases rv with
    | int i => exact ⟨_, rfl, _, _, _, _, false, rfl, .ty "list", ty, kit_ty (show kitB "int" "list" = some false by decide +kernel), _, rfl, iteT (iteT ⟨rfl, qE rfl H1 s1⟩)⟩
    | str i => exact ⟨_, rfl, _, _, _, _, false, rfl, .ty "list", ty, kit_ty (show kitB "str" "list" = some false by decide +kernel), _, rfl, iteT (iteT ⟨rfl, qE rfl H1 s1⟩)⟩
    | @lst b ws es hb rb =>
      have lb := rb.len
      refine ⟨_, rfl, _, _, _, _, true, rfl, .ty "list", ty, kit_ty (show kitB "list" "list" = some true by decide +kernel), _, rfl, iteF ?_⟩
      refine ⟨_, rfl, b, _, rfl, .inl (SqL.of hb), rfl, _, rfl, ?_⟩
      by_cases h2 : es.length = 2
      · rw [show (!decide (V.int ((ws.length : Nat) : Int) = V.int 2)) = false by rw [lb, h2]; decide +kernel]
        refine iteF ?_
        cases rb with
        | nil => simp at h2
        | @cons x p ws es rp rb =>
        cases rb with
        | nil => simp at h2
        | @cons y t ws es rt rb =>
        cases rb with
        | cons _ _ => simp at h2
        | nil =>
        have shp := shp_lst shd p (by simp)
        refine ⟨_, rfl, b, _, 0, _, rfl, rfl, SqL.of hb, at0, pyQ p, .str "module", rp.dp, .str _, shp, by decide +kernel, _, rfl, ?_⟩
        rw [eqv_str]
        cases hm : isStr "module" p with
        | false =>
          have e0 : nameD (.lst [p, t]) = none := by
            unfold nameD
            split
            · rename_i heq
              injection heq with heq
              injection heq with e1 e2
              rw [← e1, hm]; rfl
            · rfl
          exact iteT ⟨rfl, qE e0 H1 s1⟩
        | true =>
          refine iteF ⟨_, rfl, _, rfl, b, _, rfl, SqL.of hb, fun q hq => ?_⟩
          have e1 : cutV [x, y] (some 1) none = [y] := cut_lo (xs := [x, y]) (k := 1) (by simp)
          rw [e1]
          have s2 : Sm No H1 (upd H1 q (.lst [y])) := Sm.new hq
          refine ⟨q, _, [t], rfl, upd_same, .cons (rt.sm s2) .nil, fun hc H3 s3 => ?_, fun hc H3 s3 => qE ?_ H3 ((s1.trans s2).trans s3)⟩
          · have ct : canB t = true := by simpa using hc
            cases rt with
            | int i => cases ct
            | lst _ _ => cases ct
            | str z =>
              refine ⟨_, rfl, b, _, 1, _, rfl, rfl, SqL.of ((s2.trans s3).lst0 hb), at1, qO z ?_ H3 ((s1.trans s2).trans s3)⟩
              show (bif isStr "module" p && canB (.str z) then some z else none) = some z
              rw [hm, ct]; rfl
          · have ct : canB t = false := by simpa using hc
            unfold nameD
            split
            · rename_i heq
              injection heq with heq
              injection heq with e1 e2
              injection e2 with e2 e3
              rw [← e2, ct, Bool.and_false]; rfl
            · rfl
      · rw [show (!decide (V.int ((ws.length : Nat) : Int) = V.int 2)) = true by
          rw [decide_eq_false fun e => h2 (by have := V.int.inj e; omega)]; rfl]
        have e0 : nameD (.lst es) = none := by
          unfold nameD
          split
          · rename_i heq
            injection heq with heq
            rw [heq] at h2
            exact absurd rfl h2
          · rfl
        exact iteT (iteT ⟨rfl, qE e0 H1 s1⟩)
theorem ok_im {f fC IF IR D P1 P2 P3 : Addr} {fd dC : FuncData} (F : Fun K "imported_modules" "imported_modules" sIm f fd) (B : Blt mg) (GC : Cal P w K mg base (L2.CX P w) 8 "check_form" ["form"] (spCf IF IR D P1 P2 P3) fC dC) :
    FnOk P w K mg base (L2.CX P w) 9 f fd ["data"] (spIm IF IR D P1 P2 P3) := by
  refine F.okX scIm (fun vs H Q E h => ?_) (fun cdv A outer s H vs Q E hr h => ?_)
  · obtain ⟨a, us, ds, o, rfl, _⟩ := h
    rfl
  obtain ⟨a, us, ds, o, rfl, ha, rl, fi, l1, lz, tg1, tg2, tg3, ev, qO, qF, qR, qD⟩ := h
  have nd := scIm.nd
  have ll := rl.len
  refine ⟨_, (pss_cons (ps_for (passes_of rfl) rfl (pi_list (pe_slice sl_list (pv 0) (po_some pe_int) po_none)) (pg_name (i := 1) nd rfl (Or.inl rfl))
      (pss_one (ps_expr (pe_call GC.ok hr rfl GC.g GC.k GC.b .nil (passes_call (takes_of rfl rfl rfl rfl) fun _ _ _ _ h => h) (pa_cons (pv 1) pa_nil)))))
    (pss_cons (ps_setDc (i := 2) (own := [("form", 1)]) (g := gName 1) rfl nd rfl rfl (sw_trueD rfl rfl rfl (by decide +kernel)) (pi_list (pe_slice sl_list (pv 0) (po_some pe_int) po_none)) (blkOk_by (N := NIm) (sc := defScope sIm) (by decide +kernel)) (fun _ _ _ _ _ => (pg_name (i := 1) nd rfl (Or.inl rfl) (hf := Or.inr rfl))) (fun _ _ _ _ _ => pts_one (pt_cmpR op_eq (pe_ix (r := rIxL K) ix_list (pv 1) pe_int (fun _ _ => rfl)) pe_str (nomark _))) (fun _ _ _ _ _ => (pe_ix (r := rIxL K) ix_list (pv 1) pe_int (fun _ _ => rfl))) (fun _ _ _ _ _ => pe_bl))
    (pss_one (ps_ret (pe_callTy (call_list_dK rfl) (by rfl) B.list (by decide +kernel) (pa_cons (pv 2) pa_nil)))))), ?_⟩
  have cut : cutV us (some 1) none = us.drop 1 := cut_lo (k := 1) (by omega)
  have alr := (rl.drop 1).al
  have lld : (us.drop 1).length = (ds.drop 1).length := (rl.drop 1).len
  refine ⟨_, rfl, _, rfl, a, _, rfl, SqL.of ha, fun p hp => ?_⟩
  rw [cut]
  have s1 : Sm No H (upd H p (.lst (us.drop 1))) := Sm.new hp
  refine ⟨p, rfl, ⟨_, SqL.of upd_same⟩, ?_⟩
  refine for_list (xs := us.drop 1) (fun i σ H' => ∃ v1, σ = [some (.ref a), v1, none] ∧ H' p = some (.lst (us.drop 1)) ∧ (∀ (j : Nat) (e : Dt), j < i → (ds.drop 1)[j]? = some e → formF e = some .ok) ∧ Sm No H H')
    ⟨none, rfl, upd_same, fun j e lt => absurd lt (Nat.not_lt_zero j), s1⟩ (fun i σ H' _ ⟨_, _, e, _⟩ => SqL.of e) ?_ ?_
  · rintro i v σ H1 hi ⟨v1, rfl, h1, al, s2⟩
    obtain ⟨d, hd, rd⟩ := alr.2 i v hi
    have fid : fineF d := fi d (List.mem_of_mem_drop (List.mem_of_getElem? hd))
    have step : formF d = some .ok → ∀ H2, Sm No H1 H2 → ∃ v1', [some (V.ref a), some v, none] = [some (.ref a), v1', none] ∧ H2 p = some (.lst (us.drop 1)) ∧ (∀ (j : Nat) (e : Dt), j < i + 1 → (ds.drop 1)[j]? = some e → formF e = some .ok) ∧ Sm No H H2 := fun e H2 s3 => by
      refine ⟨_, rfl, s3.lst0 h1, fun j e' lt he => ?_, s2.trans s3⟩
      rcases Nat.lt_or_eq_of_le (Nat.le_of_lt_succ lt) with lt | rfl
      · exact al j e' lt he
      · rw [hd] at he
        cases he
        exact e
    rcases formsF_at ev hd al with e | e
    · exact ⟨_, rfl, v, d, .ok, rfl, rd.sm s2, fid, s2.tab _ tg1, s2.tab _ tg2, s2.tab _ tg3, e, fun _ H2 s3 => step e H2 s3, (fun z => by cases z), (fun z => by cases z), (fun s z => by cases z)⟩
    · exact ⟨_, rfl, v, d, o, rfl, rd.sm s2, fid, s2.tab _ tg1, s2.tab _ tg2, s2.tab _ tg3, e, fun eo H2 s3 => step (by rw [eo] at e; exact e) H2 s3, fun eo H2 s3 => qF eo H2 (s2.trans s3), fun eo H2 s3 => qR eo H2 (s2.trans s3), fun s eo => (qD s eo).back s2⟩
  · rintro σ H1 ⟨v1, rfl, h1, al, s2⟩
    have all : ∀ (j : Nat) (e : Dt), (ds.drop 1)[j]? = some e → formF e = some .ok := fun j e he => al j e (by have := (List.getElem?_eq_some_iff.mp he).1; rw [lld]; exact this) he
    have eo : o = .ok := formsF_all ev all
    refine ⟨_, rfl, _, rfl, a, _, rfl, SqL.of (s2.lst0 ha), fun p2 hp2 => ?_⟩
    rw [cut]
    have s3 := s2.trans (Sm.new (o := .lst (us.drop 1)) hp2)
    refine ⟨p2, rfl, ⟨_, SqL.of upd_same⟩, fun Dm hDm => ?_⟩
    have hp3 : (upd H1 p2 (.lst (us.drop 1))) p2 = some (.lst (us.drop 1)) := upd_same
    show ∃ W : Nat → Nat → Hp → Prop, _
    generalize upd H1 p2 (.lst (us.drop 1)) = H2 at s3 hp3 hDm
    refine dcL (xs := us.drop 1) (fun i H' => H' Dm = some (.dK (dkm (modsOf ((ds.drop 1).take i)) fun _ => .bl true)) ∧ Sm No H2 H') ⟨by rw [upd_same]; rfl, Sm.new hDm⟩ (fun i H' _ ⟨_, e⟩ => SqL.of (e.lst0 hp3)) ?_ ?_
    · rintro i v H4 hi ⟨h4, s4⟩
      obtain ⟨d, hd, rd⟩ := alr.2 i v hi
      obtain ⟨wd, r, rfl, imp⟩ := formF_ok (all i d hd)
      have rd4 := rd.sm (s3.trans s4)
      cases rd4 with
      | @lst b ws _ hb rb =>
      cases rb with
      | @cons x _ ws _ rx rb =>
      cases rx
      refine ⟨rfl, _, rfl, b, _, 0, _, rfl, rfl, SqL.of hb, at0, rfl, _, rfl, ?_⟩
      have dq : decide (V.str wd = V.str "\u0069mport") = decide (wd = "\u0069mport") := by
        by_cases e : wd = "\u0069mport"
        · rw [e, decide_eq_true rfl, decide_eq_true rfl]
        · rw [decide_eq_false e, decide_eq_false fun z => e (V.str.inj z)]
      rw [dq]
      by_cases e : wd = "\u0069mport"
      · obtain ⟨m, r', rfl⟩ := imp e
        rw [decide_eq_true e]
        cases rb with
        | @cons y _ ws _ ry rb =>
        cases ry
        refine iteT ⟨_, rfl, b, _, 1, _, rfl, rfl, SqL.of hb, at1, _, .inr m, rfl, h4, ?_, ?_, s4.mut hDm (ntbl_k h4)⟩
        · rw [dkm_len]
          have := modsOf_len ((ds.drop 1).take i) []
          rw [List.length_take, List.length_drop, List.length_nil] at this
          exact line_of (by show (List.foldl addM [] _).length ≤ 1000; omega)
        · rw [upd_same, modsOf_take hd]
          show _ = some (HO.dK (dkm (bif decide (wd = "\u0069mport") then (bif (modsOf ((ds.drop 1).take i)).contains m then modsOf ((ds.drop 1).take i) else modsOf ((ds.drop 1).take i) ++ [m]) else modsOf ((ds.drop 1).take i)) _))
          rw [decide_eq_true e, cond_true]
          cases hm : (modsOf ((ds.drop 1).take i)).contains m with
          | true =>
            rw [cond_true, put_dkm (List.contains_iff_mem.mp hm)]
            refine congrArg (fun f => some (HO.dK (dkm _ f))) (funext fun n => ?_)
            by_cases e : n = m
            · rw [if_pos e]
            · rw [if_neg e]
          | false =>
            rw [cond_false, put_new fun h => by rw [List.contains_iff_mem.mpr h] at hm; cases hm]
            refine congrArg (fun f => some (HO.dK (dkm _ f))) (funext fun n => ?_)
            by_cases e : n = m
            · rw [if_pos e]
            · rw [if_neg e]
      · rw [decide_eq_false e]
        refine iteF ⟨?_, s4⟩
        rw [h4, modsOf_take hd]
        cases rb with
        | nil => rfl
        | @cons y dy ws rr ry rb =>
          show _ = some (HO.dK (dkm (bif decide (wd = "\u0069mport") then _ else modsOf ((ds.drop 1).take i)) _))
          rw [decide_eq_false e]; rfl
    · rintro H4 ⟨h4, s4⟩
      rw [lld, List.take_length] at h4
      refine ⟨_, rfl, Dm, _, rfl, h4, fun q hq => qO eo q _ ((s3.trans s4).trans (Sm.new hq)) ?_⟩
      rw [upd_same]
      unfold dkm
      rw [List.map_map]; rfl
end
end My
namespace My
open PySem PySem.Spec PyProof.Rows L2
/-! several clauses 'except x as n', n the same slot in each -/
def wMix (K : PySem.W.Frag) (i : Nat) (Wout : WX) (D : Ends) : List (Value × Bool × (Addr → Value → Option Addr → TS)) → WX
  | [] => Wout
  | (c, true, ts) :: r => fun cls d σ H => ∃ b, PySem.W.exmOne K cls c = some b ∧ (b = true → ∀ a, H a = none → ts a cls d { nx := fun σ' H' => D.nx (σ'.set i none) H', rt := D.rt, bk := fun σ' H' => D.bk (σ'.set i none) H', ct := fun σ' H' => D.ct (σ'.set i none) H' } (σ.set i (some (.ref a))) H) ∧
    (b = false → wMix K i Wout D r cls d σ H)
  | (c, false, ts) :: r => fun cls d σ H => ∃ b, PySem.W.exmOne K cls c = some b ∧ (b = true → ∀ a, H a = none → ts a cls d D σ H) ∧ (b = false → wMix K i Wout D r cls d σ H)
inductive HdsMx (X : Cx) (n : Str) : List ExceptHandler → List (Value × Bool × (Addr → Value → Option Addr → TS)) → Prop
  | nil : HdsMx X n [] []
  | cons {x : Str} {c : Value} {ts : Addr → Value → Option Addr → TS} {b₀ : Stmt} {suite : List Stmt} {np pos' : Pos} {hds : List ExceptHandler} {l : List (Value × Bool × (Addr → Value → Option Addr → TS))} (hc : Names X x c)
      (hsu : ∀ (a : Addr) (oe : Obj) (cls : Value) (d : Option Addr) (pn : List (Addr × Obj)), Zc cls d oe → (∃ vs, oe.data = .fields vs) → PSs (X.suite a ((a, oe) :: pn)) (b₀ :: suite) (ts a cls d)) (r : HdsMx X n hds l) :
      HdsMx X n (.ExceptHandler (some (.Name x np)) (some n) (b₀ :: suite) pos' :: hds) ((c, true, ts) :: l)
  | cons0 {x : Str} {c : Value} {ts : Addr → Value → Option Addr → TS} {b₀ : Stmt} {suite : List Stmt} {np pos' : Pos} {hds : List ExceptHandler} {l : List (Value × Bool × (Addr → Value → Option Addr → TS))} (hc : Names X x c)
      (hsu : ∀ (a : Addr) (oe : Obj) (cls : Value) (d : Option Addr) (pn : List (Addr × Obj)), Zc cls d oe → (∃ vs, oe.data = .fields vs) → PSs (X.suite a ((a, oe) :: pn)) (b₀ :: suite) (ts a cls d)) (r : HdsMx X n hds l) :
      HdsMx X n (.ExceptHandler (some (.Name x np)) none (b₀ :: suite) pos' :: hds) ((c, false, ts) :: l)
section
variable {X : Cx} {n : Str} {i : Nat} {body : List Stmt} {h₀ : ExceptHandler} {hds : List ExceptHandler} {l : List (Value × Bool × (Addr → Value → Option Addr → TS))} {pos : Pos} {tb : WX → TS} {Wout : WX}
theorem ps_try_mix (hs : X.stack = X.env :: X.outer) (hf : X.env.frame = some X.env.locals) (hN : X.N.Nodup) (hi : X.N[i]? = some n) (hln : X.env.kindOf n = some .local) (tk : Takes X Wout)
    (hb : ∀ (W : WX) (pn : List (Addr × Obj)) (xe : Value → Shared → Prop), Takes (X.tr pn xe) W → PassesOwn (model X.prog X.w) X.A X.env xe → PSs (X.tr pn xe) body (tb W))
    (hh : HdsMx X n (h₀ :: hds) l) : PS X (.Try body (h₀ :: hds) [] [] pos) (fun D σ H => tb (wMix X.K i Wout D l) D σ H) := by
  refine ⟨fun pins s σ H D I h => ?_⟩
  have ok := I.ok
  have hfr : X.A.frames = some (X.env :: X.outer) := by rw [ok.frames, hs]
  have hloc : Loc X.env.scope n := .inl hln
  refine wpAny_Try_except ?_
  refine wpAny_mono ((hb (wMix X.K i Wout D l) (X.pn ++ pins) (fun e s₁ => wpAny (model X.prog X.w) X.A (noteFrame e X.env) (fun _ s₂ => wpAny (model X.prog X.w) X.A (setFlight e none) (fun _ s₃ =>
    wpAny (model X.prog X.w) X.A (handleBy e X.env (h₀ :: hds)) (SP X pins D) X.xe s₃) X.xe s₂) X.xe s₁) (fun u s' xx => ?_) PassesOwn.looking).run [] s σ H D (I.toTry _) h) (fun f s1 hsp => ?_) (fun e s1 he => he)
  · obtain ⟨a, B, sI, pins', σ', H', cls, d, rfl, J', nb, up, sky, na, os, ag, w⟩ := xx
    have J : Inv X pins σ' H' sI := J'.ofTry ok
    have sky' : Sky B (X.env :: X.outer) a (Zc cls d) X.env.locals s'.heap := by rw [← hs]; exact sky
    show wpAny (model X.prog X.w) X.A (noteFrame (.ref a) X.env) _ _ _
    refine Sky.land Zc.steady hfr hf sky' fun h3 fl3 up3 => ?_
    have J3 : Inv X pins σ' H' { s' with heap := h3 } := J.landed nb fl3.1 (up.trans up3) os ag
    obtain ⟨oe3, vs3, he3, hz3, hd3⟩ := fl3.there
    have nfr : a ∉ frs (X.env :: X.outer) := fun hm => by
      obtain ⟨_, o', e', hnf⟩ := fl3.2.2.1.mem hm
      rw [he3] at e'; cases e'
      exact hnf _ hd3
    have nL : a ≠ X.env.locals := fun z => nfr (List.mem_filterMap.mpr ⟨X.env, List.mem_cons_self, by rw [hf, z]⟩)
    have nF : a ∉ X.fs := fun hm => by
      obtain ⟨e, he, q⟩ := List.mem_filterMap.mp hm
      exact nfr (List.mem_filterMap.mpr ⟨e, List.mem_cons_of_mem _ he, q⟩)
    have S3 := J3.suite he3 hd3 na nL nF
    have go : ∀ {hds' : List ExceptHandler} {l' : List (Value × Bool × (Addr → Value → Option Addr → TS))}, HdsMx X n hds' l' → wMix X.K i Wout D l' cls d σ' H' →
        wpAny (model X.prog X.w) X.A (handleBy (.ref a) X.env hds') (SP X pins D) X.xe { s' with heap := h3 } := by
      intro hds' l' hk
      induction hk with
      | nil =>
        intro w
        refine wpAny_handleBy_nil ?_
        obtain ⟨k1, k2, k3, oe, vs, T, oT, ts', he, hz, hd, h1, hr⟩ := id fl3
        unfold PySem.passOn
        refine wpAny_bind (wpAny_field he hd h1 ?_)
        rw [if_neg (show ¬ ((Value.ref T == Value.none) = true) from by simp)]
        have fin : wpAny (model X.prog X.w) X.A (setFlight (.ref a) X.env.frame) (fun _ s4 => wpAny (model X.prog X.w) X.A (throw (.ref a) : Sem Flow) (SP X pins D) X.xe s4) X.xe { s' with heap := h3 } := by
          rw [hf]
          refine HandSPX.setFlight_upZ fl3 fun h4 hh4 up4 => wpAny_throw (tk _ _ ?_)
          exact ⟨a, B, sI, pins, σ', H', cls, d, rfl, J, nb, (up.trans up3).trans up4, .inr (.inr (by rw [hs]; exact hh4)), na, os, ag, w⟩
        first
          | exact wpAny_bind (wpAny_pure (wpAny_bind fin))
          | exact wpAny_bind fin
      | @cons x c ts b₀ suite np pos' hds2 l2 hc hsu r ih =>
        intro w
        obtain ⟨b, hb1, hyes, hno⟩ := w
        refine wpAny_handleBy_cons (codeAny_handlers_test ?_) (by intro q; cases q)
        have LT : PySem.W.Looks (model X.prog X.w) h3 (typeOf (.ref a)) cls := fun A Q E s k q => wpAny_typeOf_ref (k _ _ he3) (by rw [hz3.1]; exact q)
        have LM := PySem.W.exm_one (M := model X.prog X.w) (J3.kIn) LT hb1
        have test : ∀ {Q : Value → Shared → Prop} {E : Value → Shared → Prop}, Q c { s' with heap := h3 } → wpAny (model X.prog X.w) (X.A.mark (some (.ref a))) (eval (.Name x np) X.env) Q E { s' with heap := h3 } := fun {Q E} q => by
          obtain ⟨hg, hdbg, hm | ⟨hm, hv, hnn⟩⟩ := hc
          · exact ld_glob (X := X.suite a ((a, oe3) :: (X.pn ++ pins))) S3 hg hm q hdbg
          · exact ld_blt (X := X.suite a ((a, oe3) :: (X.pn ++ pins))) S3 hg hm hv q hnn hdbg
        refine test (LM.here ?_)
        cases b with
        | true =>
          refine codeAny_handlers_suite_as ?_
          refine HandSPX.lands_againZ fl3 fun h4 fl4 up4 => ?_
          have J4 : Inv X pins σ' H' { s' with heap := h4 } := J.landed nb fl4.1 ((up.trans up3).trans up4) os ag
          obtain ⟨oe4, vs4, he4, hz4, hd4⟩ := fl4.there
          have S4 := J4.suite he4 hd4 na nL nF
          refine store_ok (X := X.suite a ((a, oe4) :: (X.pn ++ pins))) (v := .ref a) S4 hN hi hloc rfl (fun s5 S5 => ?_) (.inr hln)
          refine wpAny_mono ((hsu a oe4 cls d (X.pn ++ pins) hz4 ⟨_, hd4⟩).run [] s5 _ H' _ S5 (hyes rfl a na)) (fun f s6 hsp => ?_) (fun _ _ z => False.elim z)
          have end_ : ∀ {σ6 : L2.St} {H6 : Hp} {Q : Shared → Prop}, Inv (X.suite a ((a, oe4) :: (X.pn ++ pins))) [] σ6 H6 s6 → (∀ s7, Inv X pins (σ6.set i none) H6 s7 → Q s7) →
              wpAny (model X.prog X.w) X.A (do bindName X.env n .none; unbindBehindTheSuite X.env n pos') (fun _ s7 => Q s7) X.xe s6 := fun {σ6 H6 Q} S6 hq => gone_ok (S6.unsuite ok) hN hi hln hq
          cases f with
          | next =>
            obtain ⟨σ6, H6, S6, q6⟩ := hsp
            exact end_ S6 fun s7 J7 => ⟨_, _, J7, q6⟩
          | brk =>
            obtain ⟨σ6, H6, S6, q6⟩ := hsp
            exact end_ S6 fun s7 J7 => ⟨_, _, J7, q6⟩
          | cont =>
            obtain ⟨σ6, H6, S6, q6⟩ := hsp
            exact end_ S6 fun s7 J7 => ⟨_, _, J7, q6⟩
          | ret u =>
            obtain ⟨v6, σ6, H6, S6, r6, q6⟩ := hsp
            exact end_ S6 fun s7 J7 => ⟨_, _, _, J7, r6, q6⟩
        | false =>
          show wpAny _ X.A (handleBy (.ref a) X.env hds2) _ _ _
          exact ih (hno rfl)
      | @cons0 x c ts b₀ suite np pos' hds2 l2 hc hsu r ih =>
        intro w
        obtain ⟨b, hb1, hyes, hno⟩ := w
        refine wpAny_handleBy_cons (codeAny_handlers_test ?_) (by intro q; cases q)
        have LT : PySem.W.Looks (model X.prog X.w) h3 (typeOf (.ref a)) cls := fun A Q E s k q => wpAny_typeOf_ref (k _ _ he3) (by rw [hz3.1]; exact q)
        have LM := PySem.W.exm_one (M := model X.prog X.w) (J3.kIn) LT hb1
        have test : ∀ {Q : Value → Shared → Prop} {E : Value → Shared → Prop}, Q c { s' with heap := h3 } → wpAny (model X.prog X.w) (X.A.mark (some (.ref a))) (eval (.Name x np) X.env) Q E { s' with heap := h3 } := fun {Q E} q => by
          obtain ⟨hg, hdbg, hm | ⟨hm, hv, hnn⟩⟩ := hc
          · exact ld_glob (X := X.suite a ((a, oe3) :: (X.pn ++ pins))) S3 hg hm q hdbg
          · exact ld_blt (X := X.suite a ((a, oe3) :: (X.pn ++ pins))) S3 hg hm hv q hnn hdbg
        refine test (LM.here ?_)
        cases b with
        | true =>
          refine codeAny_handlers_suite ?_
          refine HandSPX.lands_againZ fl3 fun h4 fl4 up4 => ?_
          have J4 : Inv X pins σ' H' { s' with heap := h4 } := J.landed nb fl4.1 ((up.trans up3).trans up4) os ag
          obtain ⟨oe4, vs4, he4, hz4, hd4⟩ := fl4.there
          have S4 := J4.suite he4 hd4 na nL nF
          refine wpAny_mono ((hsu a oe4 cls d (X.pn ++ pins) hz4 ⟨_, hd4⟩).run [] _ _ H' _ S4 (hyes rfl a na)) (fun f s6 hsp => ?_) (fun _ _ z => False.elim z)
          cases f with
          | next =>
            obtain ⟨σ6, H6, S6, q6⟩ := hsp
            exact ⟨_, _, S6.unsuite ok, q6⟩
          | brk =>
            obtain ⟨σ6, H6, S6, q6⟩ := hsp
            exact ⟨_, _, S6.unsuite ok, q6⟩
          | cont =>
            obtain ⟨σ6, H6, S6, q6⟩ := hsp
            exact ⟨_, _, S6.unsuite ok, q6⟩
          | ret u =>
            obtain ⟨v6, σ6, H6, S6, r6, q6⟩ := hsp
            exact ⟨_, _, _, S6.unsuite ok, r6, q6⟩
        | false =>
          show wpAny _ X.A (handleBy (.ref a) X.env hds2) _ _ _
          exact ih (hno rfl)
    exact go hh w
  · cases f with
    | next =>
      obtain ⟨σ', H', J', q⟩ := hsp
      exact wpAny_execs_nil ⟨σ', H', J'.ofTry ok, q⟩
    | brk =>
      obtain ⟨σ', H', J', q⟩ := hsp
      exact ⟨σ', H', J'.ofTry ok, q⟩
    | cont =>
      obtain ⟨σ', H', J', q⟩ := hsp
      exact ⟨σ', H', J'.ofTry ok, q⟩
    | ret u =>
      obtain ⟨v, σ', H', J', r, q⟩ := hsp
      exact ⟨v, σ', H', J'.ofTry ok, r, q⟩
end
end My
namespace My
open PySem PySem.Spec PyProof.Rows L2 TL
/-! ### written data -/
mutual
inductive LitE : Expr → Dt → Prop
  | int {i : Int} {j : Nat} {pos : Pos} : LitE (.Constant (.int i) j pos) (.int i)
  | str {s : Str} {j : Nat} {pos : Pos} : LitE (.Constant (.str s) j pos) (.str s)
  | lst {es : List Expr} {ds : List Dt} {pos : Pos} : LitEs es ds → es.length ≤ 1000 → LitE (.List es pos) (.lst ds)
inductive LitEs : List Expr → List Dt → Prop
  | nil : LitEs [] []
  | cons {e : Expr} {d : Dt} {es : List Expr} {ds : List Dt} : LitE e d → LitEs es ds → LitEs (e :: es) (d :: ds)
end
theorem LitE.star {e : Expr} {d : Dt} (h : LitE e d) (es : List Expr) (env : Env) : starEach (e :: es) env = (false, eval e env) :: starEach es env := by
  cases h <;> rfl
def tRow {α : Type} (R : Hp → V → α → Prop) (a : α) : TE := fun σ H Q => ∀ v H', Sm No H H' → R H' v a → Q v H'
def tLits (ds : List Dt) : TA := fun σ H Q => ∀ vs H', Sm No H H' → RqL H' vs ds → Q vs H'
section
variable {X : Cx}
mutual
theorem LitE.pe : ∀ {e : Expr} {d : Dt}, LitE e d → PE X e (tRow Rq d)
  | _, _, .int => ⟨fun pins s σ H Q I h => pe_int.run pins s σ H Q I (h _ _ (Sm.refl _ _) (.int _))⟩
  | _, _, .str => ⟨fun pins s σ H Q I h => pe_str.run pins s σ H Q I (h _ _ (Sm.refl _ _) (.str _))⟩
  | _, _, .lst hs hz => ⟨fun pins s σ H Q I h => (pe_lst (LitEs.pa hs)).run pins s σ H Q I fun vs H1 s1 r1 => ⟨by
      rw [r1.len, ← LitEs.len hs]
      exact Nat.le_of_lt (line_of hz), fun p hp => h _ _ (s1.trans (Sm.new hp)) (.lst upd_same (r1.sm (Sm.new hp)))⟩⟩
theorem LitEs.pa : ∀ {es : List Expr} {ds : List Dt}, LitEs es ds → PA X es (tLits ds)
  | _, _, .nil => ⟨fun pos pins s σ H Q I h => pa_nil.run pos pins s σ H Q I (h _ _ (Sm.refl _ _) .nil)⟩
  | _, _, .cons he hs => ⟨fun pos pins s σ H Q I h => (pa_cons (LitE.pe he) (LitEs.pa hs) (he.star _ _)).run pos pins s σ H Q I fun v H1 s1 r1 vs H2 s2 r2 => h _ _ (s1.trans s2) (.cons (r1.sm s2) r2)⟩
theorem LitEs.len : ∀ {es : List Expr} {ds : List Dt}, LitEs es ds → es.length = ds.length
  | _, _, .nil => rfl
  | _, _, .cons _ hs => congrArg (· + 1) (LitEs.len hs)
end
end
inductive Rows {α : Type} (ev : Expr → α → Prop) : List Expr → List α → Prop
  | nil : Rows ev [] []
  | cons {e : Expr} {a : α} {es : List Expr} {l : List α} : ev e a → Rows ev es l → Rows ev (e :: es) (a :: l)
theorem Rows.len {α : Type} {ev : Expr → α → Prop} : ∀ {es : List Expr} {l : List α}, Rows ev es l → es.length = l.length
  | _, _, .nil => rfl
  | _, _, .cons _ r => congrArg (· + 1) r.len
def tRows {α : Type} (R : Hp → V → α → Prop) (l : List α) : TE := fun σ H Q => ∀ p vs H', Sm No H H' → H' p = some (.lst vs) → Al (R H') vs l → Q (.ref p) H'
theorem rows_pe {α : Type} {X : Cx} {R : Hp → V → α → Prop} {ev : Expr → α → Prop} {es : List Expr} {l : List α} {pos : Pos} (hpe : ∀ e a, ev e a → PE X e (tRow R a)) (hst : ∀ e a es env, ev e a → starEach (e :: es) env = (false, eval e env) :: starEach es env)
    (hsm : ∀ {H H' : Hp} {v : V} {a : α}, R H v a → Sm No H H' → R H' v a) (r : Rows ev es l) (hz : es.length ≤ 1000) : PE X (.List es pos) (tRows R l) := by
  have pa : PA X es (fun σ H Q => ∀ vs H', Sm No H H' → Al (R H') vs l → Q vs H') := by
    clear hz
    induction r with
    | nil => exact ⟨fun pos pins s σ H Q I h => pa_nil.run pos pins s σ H Q I (h _ _ (Sm.refl _ _) Al.nil)⟩
    | cons he hs ih => exact ⟨fun pos pins s σ H Q I h => (pa_cons (hpe _ _ he) ih (hst _ _ _ _ he)).run pos pins s σ H Q I fun v H1 s1 r1 vs H2 s2 r2 => h _ _ (s1.trans s2) ((Al.one (hsm r1 s2)).app r2)⟩
  exact ⟨fun pins s σ H Q I h => (pe_lst pa).run pins s σ H Q I fun vs H1 s1 r1 => ⟨by
    rw [r1.len, ← r.len]
    exact Nat.le_of_lt (line_of hz), fun p hp => h _ _ _ (s1.trans (Sm.new hp)) upd_same (r1.mono fun _ _ q => hsm q (Sm.new hp))⟩⟩
/-- rows of a kind and a datum; of a datum and a name -/
inductive RowK : Expr → Str × Dt → Prop
  | mk {k : Str} {j n : Nat} {p pos : Pos} {e : Expr} {d : Dt} : LitE e d → RowK (.Tuple [.Constant (.str k) j p, e] n pos) (k, d)
inductive RowS : Expr → Dt × Option Str → Prop
  | mk {k : Str} {j n : Nat} {p pos : Pos} {e : Expr} {d : Dt} : LitE e d → RowS (.Tuple [e, .Constant (.str k) j p] n pos) (d, some k)
def oV : Option Str → V
  | some s => .str s
  | none => .non
def KD (H : Hp) (v : V) (x : Str × Dt) : Prop := ∃ p u, v = .ref p ∧ H p = some (.tup [.str x.1, u]) ∧ Rq H u x.2
def DS (H : Hp) (v : V) (x : Dt × Option Str) : Prop := ∃ p u, v = .ref p ∧ H p = some (.tup [u, oV x.2]) ∧ Rq H u x.1
theorem KD.sm {H H' : Hp} {v : V} {x : Str × Dt} (h : KD H v x) (e : Sm No H H') : KD H' v x := let ⟨p, u, a, b, c⟩ := h; ⟨p, u, a, e.tup (fun z => z) b, c.sm e⟩
theorem DS.sm {H H' : Hp} {v : V} {x : Dt × Option Str} (h : DS H v x) (e : Sm No H H') : DS H' v x := let ⟨p, u, a, b, c⟩ := h; ⟨p, u, a, e.tup (fun z => z) b, c.sm e⟩
section
variable {X : Cx} {es : List Expr} {pos : Pos}
theorem pe_rowsD {l : List Dt} (r : Rows LitE es l) (hz : es.length ≤ 1000) : PE X (.List es pos) (tRows Rq l) := rows_pe (fun _ _ h => h.pe) (fun _ _ es env h => h.star es env) (fun r s => r.sm s) r hz
theorem pe_rowsK {l : List (Str × Dt)} (r : Rows RowK es l) (hz : es.length ≤ 1000) : PE X (.List es pos) (tRows KD l) := by
  refine rows_pe (fun e a h => ?_) (fun e a es env h => by cases h; rfl) (fun r s => r.sm s) r hz
  cases h with
  | mk h => exact ⟨fun pins s σ H Q I q => (pe_tup (pa_cons pe_str (pa_cons h.pe pa_nil (h.star _ _)))).run pins s σ H Q I fun v H1 s1 r1 => ⟨by show 2 ≤ sizeLine; decide, fun t ht => q _ _ (s1.trans (Sm.new ht)) ⟨t, v, rfl, upd_same, r1.sm (Sm.new ht)⟩⟩⟩
theorem pe_rowsS {l : List (Dt × Option Str)} (r : Rows RowS es l) (hz : es.length ≤ 1000) : PE X (.List es pos) (tRows DS l) := by
  refine rows_pe (fun e a h => ?_) (fun e a es env h => by cases h; rfl) (fun r s => r.sm s) r hz
  cases h with
  | mk h => exact ⟨fun pins s σ H Q I q => (pe_tup (pa_cons h.pe (pa_cons pe_str pa_nil) (h.star _ _))).run pins s σ H Q I fun v H1 s1 r1 => ⟨by show 2 ≤ sizeLine; decide, fun t ht => q _ _ (s1.trans (Sm.new ht)) ⟨t, v, rfl, upd_same, r1.sm (Sm.new ht)⟩⟩⟩
end
/-! ### the law's forms -/
def goodL : List Dt := ((([Dt.lst [Dt.str "\u0069mport", Dt.str "a"],
  Dt.lst [Dt.str "\u0069mport", Dt.str "b", Dt.str "x", Dt.lst [Dt.str "y", Dt.str "z"]],
  Dt.lst [Dt.str "\u0069mport", Dt.str "a", Dt.lst [Dt.str "let", Dt.str "if"]],
  Dt.lst [Dt.str "\u0069mport", Dt.str "\u0069mport"]]) ++ [Dt.lst [Dt.str "export", Dt.str "x"],
  Dt.lst [Dt.str "export", Dt.str "x", Dt.str "x", Dt.str "define"],
  Dt.lst [Dt.str "define", Dt.str "f", Dt.lst []],
  Dt.lst [Dt.str "define", Dt.str "export", Dt.lst [Dt.str "fn", Dt.int 3]]]) ++ [Dt.lst [Dt.str "macro", Dt.str "k", Dt.lst [], Dt.lst [Dt.lst [], Dt.int 1]],
  Dt.lst [Dt.str "macro", Dt.str "k", Dt.lst [Dt.str "to"], Dt.lst [Dt.lst [Dt.str "a", Dt.str "to", Dt.lst [Dt.str "b", Dt.str "..."]], Dt.lst [Dt.str "a", Dt.str "b", Dt.str "..."]]]]) ++ [Dt.lst [Dt.str "macro", Dt.str "fn", Dt.lst [Dt.str "x", Dt.str "x"], Dt.lst [Dt.lst [Dt.str "a"], Dt.str "a"], Dt.lst [Dt.lst [Dt.int 1, Dt.str "a"], Dt.lst []]],
  Dt.lst [Dt.str "\u0069mport", Dt.str "c", Dt.str "c"]]
def badL : List (Str × Dt) := ((((((((((((([(("form" : Str), Dt.int 5),
  (("form" : Str), Dt.str "define"),
  (("form" : Str), Dt.lst []),
  (("form" : Str), Dt.lst [Dt.str "unknown", Dt.str "x"]),
  (("form" : Str), Dt.lst [Dt.lst [Dt.str "define"], Dt.str "x", Dt.int 1])]) ++ [(("form" : Str), Dt.lst [Dt.str "export"]),
  (("form" : Str), Dt.lst [Dt.str "export", Dt.str "x", Dt.int 3]),
  (("form" : Str), Dt.lst [Dt.str "export", Dt.lst [Dt.str "x"]]),
  (("form" : Str), Dt.lst [Dt.str "\u0069mport"])]) ++ [(("form" : Str), Dt.lst [Dt.str "\u0069mport", Dt.int 3]),
  (("form" : Str), Dt.lst [Dt.str "\u0069mport", Dt.str "a", Dt.int 3]),
  (("form" : Str), Dt.lst [Dt.str "\u0069mport", Dt.str "a", Dt.lst [Dt.str "x"]])]) ++ [(("form" : Str), Dt.lst [Dt.str "\u0069mport", Dt.str "a", Dt.lst [Dt.str "x", Dt.str "y", Dt.str "z"]]),
  (("form" : Str), Dt.lst [Dt.str "\u0069mport", Dt.str "a", Dt.lst [Dt.str "x", Dt.int 1]])]) ++ [(("form" : Str), Dt.lst [Dt.str "define", Dt.str "x"]),
  (("form" : Str), Dt.lst [Dt.str "define", Dt.int 3, Dt.int 4]),
  (("form" : Str), Dt.lst [Dt.str "define", Dt.str "x", Dt.int 1, Dt.int 2])]) ++ [(("rule" : Str), Dt.lst [Dt.str "macro", Dt.str "k"]),
  (("rule" : Str), Dt.lst [Dt.str "macro", Dt.str "k", Dt.lst []]),
  (("rule" : Str), Dt.lst [Dt.str "macro", Dt.int 3, Dt.lst [], Dt.lst [Dt.lst [], Dt.int 1]])]) ++ [(("rule" : Str), Dt.lst [Dt.str "macro", Dt.str "k", Dt.str "to", Dt.lst [Dt.lst [], Dt.int 1]]),
  (("rule" : Str), Dt.lst [Dt.str "macro", Dt.str "k", Dt.lst [Dt.int 3], Dt.lst [Dt.lst [], Dt.int 1]])]) ++ [(("rule" : Str), Dt.lst [Dt.str "macro", Dt.str "k", Dt.lst [], Dt.lst [Dt.str "a", Dt.int 1]]),
  (("rule" : Str), Dt.lst [Dt.str "macro", Dt.str "k", Dt.lst [], Dt.lst [Dt.lst [Dt.str "a"]]]),
  (("rule" : Str), Dt.lst [Dt.str "macro", Dt.str "k", Dt.lst [], Dt.int 4])]) ++ [(("rule" : Str), Dt.lst [Dt.str "macro", Dt.str "k", Dt.lst [], Dt.lst [Dt.lst [Dt.str "a", Dt.str "..."], Dt.str "a"]]),
  (("rule" : Str), Dt.lst [Dt.str "macro", Dt.str "k", Dt.lst [], Dt.lst [Dt.lst [Dt.str "...", Dt.str "a"], Dt.int 1]])]) ++ [(("rule" : Str), Dt.lst [Dt.str "macro", Dt.str "k", Dt.lst [], Dt.lst [Dt.lst [Dt.str "a"], Dt.lst [Dt.str "a", Dt.str "..."]]]),
  (("rule" : Str), Dt.lst [Dt.str "macro", Dt.str "k", Dt.lst [], Dt.lst [Dt.lst [Dt.str "a"], Dt.int 1], Dt.lst [Dt.lst [Dt.str "b"], Dt.int 1, Dt.int 2]])]) ++ [(("form" : Str), Dt.lst [Dt.str "define", Dt.str "...", Dt.int 1]),
  (("form" : Str), Dt.lst [Dt.str "\u0069mport", Dt.str "..."]),
  (("form" : Str), Dt.lst [Dt.str "\u0069mport", Dt.str "a", Dt.str "..."])]) ++ [(("form" : Str), Dt.lst [Dt.str "\u0069mport", Dt.str "a", Dt.lst [Dt.str "...", Dt.str "x"]]),
  (("form" : Str), Dt.lst [Dt.str "\u0069mport", Dt.str "a", Dt.lst [Dt.str "x", Dt.str "..."]]),
  (("form" : Str), Dt.lst [Dt.str "export", Dt.str "x", Dt.str "..."])]) ++ [(("rule" : Str), Dt.lst [Dt.str "macro", Dt.str "...", Dt.lst [], Dt.lst [Dt.lst [], Dt.int 1]]),
  (("rule" : Str), Dt.lst [Dt.str "macro", Dt.str "k", Dt.lst [Dt.str "..."], Dt.lst [Dt.lst [], Dt.int 1]])]) ++ [(("x" : Str), Dt.lst [Dt.str "macro", Dt.str "k", Dt.lst [], Dt.lst [Dt.lst [Dt.str "x", Dt.lst [Dt.str "y", Dt.str "x"]], Dt.int 1]]),
  (("y" : Str), Dt.lst [Dt.str "macro", Dt.str "k", Dt.lst [], Dt.lst [Dt.lst [Dt.str "y", Dt.str "y"], Dt.str "z"]])]
def firstG : List (Dt × Option Str) := [(Dt.lst [Dt.str "module", Dt.str "m"], some ("m" : Str)),
  (Dt.lst [Dt.str "module", Dt.str "let"], some ("let" : Str)),
  (Dt.lst [Dt.str "module", Dt.str "module"], some ("module" : Str))]
def firstB : List Dt := [Dt.lst [Dt.str "module"],
  Dt.lst [Dt.str "module", Dt.int 3],
  Dt.lst [Dt.str "module", Dt.lst [Dt.str "m"]],
  Dt.lst [Dt.str "module", Dt.str "m", Dt.str "n"],
  Dt.lst [Dt.str "modul", Dt.str "m"],
  Dt.str "module",
  Dt.int 7,
  Dt.lst [],
  Dt.lst [Dt.lst [Dt.str "module"], Dt.str "m"]] ++ [Dt.lst [Dt.str "module", Dt.str "..."]]
def firstL : List (Dt × Option Str) := firstG ++ firstB.map fun d => (d, none)
def spGood : Sp := fun vs H Q _ => vs = [] ∧ ∀ (L : Addr) (us : List V) (H' : Hp), Sm No H H' → H' L = some (.lst us) → Al (Rq H') us goodL → Q (.ref L) H'
def spBad : Sp := fun vs H Q _ => vs = [] ∧ ∀ (L : Addr) (us : List V) (H' : Hp), Sm No H H' → H' L = some (.lst us) → Al (KD H') us badL → Q (.ref L) H'
def spFirst : Sp := fun vs H Q _ => vs = [] ∧ ∀ (L : Addr) (us : List V) (H' : Hp), Sm No H H' → H' L = some (.lst us) → Al (DS H') us firstL → Q (.ref L) H'
def spCell (K : PySem.W.Frag) : Sp := fun vs H Q _ => ∃ (s : Addr) (ns : List Int) (k : Nat), vs = [.ref s, .int (k : Nat)] ∧ SqL K H s (ns.map V.int) ∧ k ≤ 100 ∧ ∀ c : Int, Q (.int c) H
abbrev sGood : Stmt := top 41
abbrev sBad : Stmt := top 42
abbrev sFirst : Stmt := top 40
abbrev NFi : List Str := ["good", "bad", "form"]
abbrev sCell : Stmt := top 39
abbrev NCe : List Str := ["script", "k"]
section
variable {P : Program} {w : World} {K : PySem.W.Frag} {mg : Str → Option Value} {base : Heap}
theorem scCell : FnScope ["script", "k"] ["script", "k"] (defScope sCell) := ⟨rfl, rfl, rfl, by decide +kernel, rfl, by decide +kernel, by decide +kernel⟩
theorem ok_cell {f : Addr} {fd : FuncData} (F : Fun K "_law_cell" "_law_cell" sCell f fd) (B : Blt mg) : FnOk P w K mg base CX0 1 f fd ["script", "k"] (spCell K) := by
  refine F.ok scCell (fun vs H Q E h => ?_) (fun cdv A outer s H vs Q E hr h => ?_)
  · obtain ⟨s, ns, k, rfl, _⟩ := h
    rfl
  obtain ⟨s, ns, k, rfl, hs, hk, q⟩ := h
  have nd := scCell.nd
  refine ⟨_, (pss_cons (ps_if (pt_cmpR op_lt (pv 1) (pe_callB call_len_seq (by rfl) B.len PySem.boot_len (pa_cons (pv 0) pa_nil)) (nomark _)) (pss_one (ps_ret (pe_callTy call_int1 (by rfl) B.int (by decide +kernel) (pa_cons (pe_ix (r := rIxL K) ix_list (pv 0) (pv 1) (fun _ _ => rfl)) pa_nil)))) pss_nil)
    (pss_one (ps_ret (pe_op op_mul pe_int (pv 1))))), ?_⟩
  refine ⟨_, rfl, _, rfl, s, _, rfl, .inl hs, _, _, rfl, rfl, _, rfl, ?_⟩
  rw [List.length_map]
  by_cases hlt : k < ns.length
  · rw [decide_eq_true (show ((k : Nat) : Int) < ((ns.length : Nat) : Int) by omega)]
    refine iteT ?_
    have e : (ns.map V.int)[k]? = some (.int ns[k]) := by rw [List.getElem?_map, List.getElem?_eq_getElem hlt]; rfl
    exact ⟨_, rfl, _, rfl, s, _, _, _, rfl, rfl, hs, atI_nat e, .inl ⟨_, rfl, q _⟩⟩
  · rw [decide_eq_false (show ¬ ((k : Nat) : Int) < ((ns.length : Nat) : Int) by omega)]
    exact iteF ⟨_, rfl, _, _, rfl, rfl, .inr ⟨by omega, by omega⟩, q _⟩
theorem sc_good : FnScope ["forms"] [] (defScope sGood) := ⟨rfl, rfl, rfl, by decide +kernel, rfl, by decide +kernel, by decide +kernel⟩
theorem ok_good {f : Addr} {fd : FuncData} (F : Fun K "_law_good" "_law_good" sGood f fd) : FnOk P w K mg base CX0 1 f fd [] spGood := by
  refine F.ok sc_good (fun vs H Q E h => ?_) (fun cdv A outer s H vs Q E hr h => ?_)
  · obtain ⟨rfl, _⟩ := h
    rfl
  obtain ⟨rfl, q⟩ := h
  have nd := sc_good.nd
  refine ⟨_, (pss_cons (ps_set (i := 0) nd rfl (Or.inl rfl) (pe_rowsD (.cons (.lst (.cons .str (.cons .str .nil)) (by decide)) (.cons (.lst (.cons .str (.cons .str (.cons .str (.cons (.lst (.cons .str (.cons .str .nil)) (by decide)) .nil)))) (by decide)) (.cons (.lst (.cons .str (.cons .str (.cons (.lst (.cons .str (.cons .str .nil)) (by decide)) .nil))) (by decide)) (.cons (.lst (.cons .str (.cons .str .nil)) (by decide)) .nil)))) (by decide)))
    (pss_cons (ps_set (i := 0) nd rfl (Or.inl rfl) (pe_op op_cat (pv 0) (pe_rowsD (.cons (.lst (.cons .str (.cons .str .nil)) (by decide)) (.cons (.lst (.cons .str (.cons .str (.cons .str (.cons .str .nil)))) (by decide)) (.cons (.lst (.cons .str (.cons .str (.cons (.lst .nil (by decide)) .nil))) (by decide)) (.cons (.lst (.cons .str (.cons .str (.cons (.lst (.cons .str (.cons .int .nil)) (by decide)) .nil))) (by decide)) .nil)))) (by decide))))
    (pss_cons (ps_set (i := 0) nd rfl (Or.inl rfl) (pe_op op_cat (pv 0) (pe_rowsD (.cons (.lst (.cons .str (.cons .str (.cons (.lst .nil (by decide)) (.cons (.lst (.cons (.lst .nil (by decide)) (.cons .int .nil)) (by decide)) .nil)))) (by decide)) (.cons (.lst (.cons .str (.cons .str (.cons (.lst (.cons .str .nil) (by decide)) (.cons (.lst (.cons (.lst (.cons .str (.cons .str (.cons (.lst (.cons .str (.cons .str .nil)) (by decide)) .nil))) (by decide)) (.cons (.lst (.cons .str (.cons .str (.cons .str .nil))) (by decide)) .nil)) (by decide)) .nil)))) (by decide)) .nil)) (by decide))))
    (pss_one (ps_ret (pe_op op_cat (pv 0) (pe_rowsD (.cons (.lst (.cons .str (.cons .str (.cons (.lst (.cons .str (.cons .str .nil)) (by decide)) (.cons (.lst (.cons (.lst (.cons .str .nil) (by decide)) (.cons .str .nil)) (by decide)) (.cons (.lst (.cons (.lst (.cons .int (.cons .str .nil)) (by decide)) (.cons (.lst .nil (by decide)) .nil)) (by decide)) .nil))))) (by decide)) (.cons (.lst (.cons .str (.cons .str (.cons .str .nil))) (by decide)) .nil)) (by decide)))))))), ?_⟩
  refine fun p1 vs1 H1 s1 h1 al1 => ?_
  refine ⟨_, rfl, fun q1 ws1 G1 t1 g1 bl1 => ⟨_, _, _, _, rfl, rfl, t1.lst0 h1, g1, by rw [al1.len, bl1.len]; decide +kernel, fun p2 hp2 => ?_⟩⟩
  have s2 := (s1.trans t1).trans (Sm.new (o := .lst (vs1 ++ ws1)) hp2)
  have al2 := ((al1.mono fun _ _ r => r.sm (t1.trans (Sm.new (o := .lst (vs1 ++ ws1)) hp2))).app (bl1.mono fun _ _ r => r.sm (Sm.new (o := .lst (vs1 ++ ws1)) hp2)))
  have h2 : upd G1 p2 (.lst (vs1 ++ ws1)) p2 = some (.lst (vs1 ++ ws1)) := upd_same
  show tSeq _ _ _ _ (upd G1 p2 (.lst (vs1 ++ ws1)))
  generalize upd G1 p2 (.lst (vs1 ++ ws1)) = H2 at s2 al2 h2
  generalize vs1 ++ ws1 = vs2 at al2 h2
  clear al1 bl1 h1 g1 t1 s1
  refine ⟨_, rfl, fun q2 ws2 G2 t2 g2 bl2 => ⟨_, _, _, _, rfl, rfl, t2.lst0 h2, g2, by rw [al2.len, bl2.len]; decide +kernel, fun p3 hp3 => ?_⟩⟩
  have s3 := (s2.trans t2).trans (Sm.new (o := .lst (vs2 ++ ws2)) hp3)
  have al3 := ((al2.mono fun _ _ r => r.sm (t2.trans (Sm.new (o := .lst (vs2 ++ ws2)) hp3))).app (bl2.mono fun _ _ r => r.sm (Sm.new (o := .lst (vs2 ++ ws2)) hp3)))
  have h3 : upd G2 p3 (.lst (vs2 ++ ws2)) p3 = some (.lst (vs2 ++ ws2)) := upd_same
  show tRet (tOp rCat (tVar 0) _) _ _ (upd G2 p3 (.lst (vs2 ++ ws2)))
  generalize upd G2 p3 (.lst (vs2 ++ ws2)) = H3 at s3 al3 h3
  generalize vs2 ++ ws2 = vs3 at al3 h3
  clear al2 bl2 h2 g2 t2 s2
  refine ⟨_, rfl, fun q3 ws3 G3 t3 g3 bl3 => ⟨_, _, _, _, rfl, rfl, t3.lst0 h3, g3, by rw [al3.len, bl3.len]; decide +kernel, fun p4 hp4 => ?_⟩⟩
  have s4 := (s3.trans t3).trans (Sm.new (o := .lst (vs3 ++ ws3)) hp4)
  have al4 := ((al3.mono fun _ _ r => r.sm (t3.trans (Sm.new (o := .lst (vs3 ++ ws3)) hp4))).app (bl3.mono fun _ _ r => r.sm (Sm.new (o := .lst (vs3 ++ ws3)) hp4)))
  have h4 : upd G3 p4 (.lst (vs3 ++ ws3)) p4 = some (.lst (vs3 ++ ws3)) := upd_same
  exact q p4 _ _ s4 h4 al4
theorem sc_bad : FnScope ["forms"] [] (defScope sBad) := ⟨rfl, rfl, rfl, by decide +kernel, rfl, by decide +kernel, by decide +kernel⟩
theorem ok_bad {f : Addr} {fd : FuncData} (F : Fun K "_law_bad" "_law_bad" sBad f fd) : FnOk P w K mg base CX0 1 f fd [] spBad := by
  refine F.ok sc_bad (fun vs H Q E h => ?_) (fun cdv A outer s H vs Q E hr h => ?_)
  · obtain ⟨rfl, _⟩ := h
    rfl
  obtain ⟨rfl, q⟩ := h
  have nd := sc_bad.nd
  refine ⟨_, (pss_cons (ps_set (i := 0) nd rfl (Or.inl rfl) (pe_rowsK (.cons (.mk .int) (.cons (.mk .str) (.cons (.mk (.lst .nil (by decide))) (.cons (.mk (.lst (.cons .str (.cons .str .nil)) (by decide))) (.cons (.mk (.lst (.cons (.lst (.cons .str .nil) (by decide)) (.cons .str (.cons .int .nil))) (by decide))) .nil))))) (by decide)))
    (pss_cons (ps_set (i := 0) nd rfl (Or.inl rfl) (pe_op op_cat (pv 0) (pe_rowsK (.cons (.mk (.lst (.cons .str .nil) (by decide))) (.cons (.mk (.lst (.cons .str (.cons .str (.cons .int .nil))) (by decide))) (.cons (.mk (.lst (.cons .str (.cons (.lst (.cons .str .nil) (by decide)) .nil)) (by decide))) (.cons (.mk (.lst (.cons .str .nil) (by decide))) .nil)))) (by decide))))
    (pss_cons (ps_set (i := 0) nd rfl (Or.inl rfl) (pe_op op_cat (pv 0) (pe_rowsK (.cons (.mk (.lst (.cons .str (.cons .int .nil)) (by decide))) (.cons (.mk (.lst (.cons .str (.cons .str (.cons .int .nil))) (by decide))) (.cons (.mk (.lst (.cons .str (.cons .str (.cons (.lst (.cons .str .nil) (by decide)) .nil))) (by decide))) .nil))) (by decide))))
    (pss_cons (ps_set (i := 0) nd rfl (Or.inl rfl) (pe_op op_cat (pv 0) (pe_rowsK (.cons (.mk (.lst (.cons .str (.cons .str (.cons (.lst (.cons .str (.cons .str (.cons .str .nil))) (by decide)) .nil))) (by decide))) (.cons (.mk (.lst (.cons .str (.cons .str (.cons (.lst (.cons .str (.cons .int .nil)) (by decide)) .nil))) (by decide))) .nil)) (by decide))))
    (pss_cons (ps_set (i := 0) nd rfl (Or.inl rfl) (pe_op op_cat (pv 0) (pe_rowsK (.cons (.mk (.lst (.cons .str (.cons .str .nil)) (by decide))) (.cons (.mk (.lst (.cons .str (.cons .int (.cons .int .nil))) (by decide))) (.cons (.mk (.lst (.cons .str (.cons .str (.cons .int (.cons .int .nil)))) (by decide))) .nil))) (by decide))))
    (pss_cons (ps_set (i := 0) nd rfl (Or.inl rfl) (pe_op op_cat (pv 0) (pe_rowsK (.cons (.mk (.lst (.cons .str (.cons .str .nil)) (by decide))) (.cons (.mk (.lst (.cons .str (.cons .str (.cons (.lst .nil (by decide)) .nil))) (by decide))) (.cons (.mk (.lst (.cons .str (.cons .int (.cons (.lst .nil (by decide)) (.cons (.lst (.cons (.lst .nil (by decide)) (.cons .int .nil)) (by decide)) .nil)))) (by decide))) .nil))) (by decide))))
    (pss_cons (ps_set (i := 0) nd rfl (Or.inl rfl) (pe_op op_cat (pv 0) (pe_rowsK (.cons (.mk (.lst (.cons .str (.cons .str (.cons .str (.cons (.lst (.cons (.lst .nil (by decide)) (.cons .int .nil)) (by decide)) .nil)))) (by decide))) (.cons (.mk (.lst (.cons .str (.cons .str (.cons (.lst (.cons .int .nil) (by decide)) (.cons (.lst (.cons (.lst .nil (by decide)) (.cons .int .nil)) (by decide)) .nil)))) (by decide))) .nil)) (by decide))))
    (pss_cons (ps_set (i := 0) nd rfl (Or.inl rfl) (pe_op op_cat (pv 0) (pe_rowsK (.cons (.mk (.lst (.cons .str (.cons .str (.cons (.lst .nil (by decide)) (.cons (.lst (.cons .str (.cons .int .nil)) (by decide)) .nil)))) (by decide))) (.cons (.mk (.lst (.cons .str (.cons .str (.cons (.lst .nil (by decide)) (.cons (.lst (.cons (.lst (.cons .str .nil) (by decide)) .nil) (by decide)) .nil)))) (by decide))) (.cons (.mk (.lst (.cons .str (.cons .str (.cons (.lst .nil (by decide)) (.cons .int .nil)))) (by decide))) .nil))) (by decide))))
    (pss_cons (ps_set (i := 0) nd rfl (Or.inl rfl) (pe_op op_cat (pv 0) (pe_rowsK (.cons (.mk (.lst (.cons .str (.cons .str (.cons (.lst .nil (by decide)) (.cons (.lst (.cons (.lst (.cons .str (.cons .str .nil)) (by decide)) (.cons .str .nil)) (by decide)) .nil)))) (by decide))) (.cons (.mk (.lst (.cons .str (.cons .str (.cons (.lst .nil (by decide)) (.cons (.lst (.cons (.lst (.cons .str (.cons .str .nil)) (by decide)) (.cons .int .nil)) (by decide)) .nil)))) (by decide))) .nil)) (by decide))))
    (pss_cons (ps_set (i := 0) nd rfl (Or.inl rfl) (pe_op op_cat (pv 0) (pe_rowsK (.cons (.mk (.lst (.cons .str (.cons .str (.cons (.lst .nil (by decide)) (.cons (.lst (.cons (.lst (.cons .str .nil) (by decide)) (.cons (.lst (.cons .str (.cons .str .nil)) (by decide)) .nil)) (by decide)) .nil)))) (by decide))) (.cons (.mk (.lst (.cons .str (.cons .str (.cons (.lst .nil (by decide)) (.cons (.lst (.cons (.lst (.cons .str .nil) (by decide)) (.cons .int .nil)) (by decide)) (.cons (.lst (.cons (.lst (.cons .str .nil) (by decide)) (.cons .int (.cons .int .nil))) (by decide)) .nil))))) (by decide))) .nil)) (by decide))))
    (pss_cons (ps_set (i := 0) nd rfl (Or.inl rfl) (pe_op op_cat (pv 0) (pe_rowsK (.cons (.mk (.lst (.cons .str (.cons .str (.cons .int .nil))) (by decide))) (.cons (.mk (.lst (.cons .str (.cons .str .nil)) (by decide))) (.cons (.mk (.lst (.cons .str (.cons .str (.cons .str .nil))) (by decide))) .nil))) (by decide))))
    (pss_cons (ps_set (i := 0) nd rfl (Or.inl rfl) (pe_op op_cat (pv 0) (pe_rowsK (.cons (.mk (.lst (.cons .str (.cons .str (.cons (.lst (.cons .str (.cons .str .nil)) (by decide)) .nil))) (by decide))) (.cons (.mk (.lst (.cons .str (.cons .str (.cons (.lst (.cons .str (.cons .str .nil)) (by decide)) .nil))) (by decide))) (.cons (.mk (.lst (.cons .str (.cons .str (.cons .str .nil))) (by decide))) .nil))) (by decide))))
    (pss_cons (ps_set (i := 0) nd rfl (Or.inl rfl) (pe_op op_cat (pv 0) (pe_rowsK (.cons (.mk (.lst (.cons .str (.cons .str (.cons (.lst .nil (by decide)) (.cons (.lst (.cons (.lst .nil (by decide)) (.cons .int .nil)) (by decide)) .nil)))) (by decide))) (.cons (.mk (.lst (.cons .str (.cons .str (.cons (.lst (.cons .str .nil) (by decide)) (.cons (.lst (.cons (.lst .nil (by decide)) (.cons .int .nil)) (by decide)) .nil)))) (by decide))) .nil)) (by decide))))
    (pss_one (ps_ret (pe_op op_cat (pv 0) (pe_rowsK (.cons (.mk (.lst (.cons .str (.cons .str (.cons (.lst .nil (by decide)) (.cons (.lst (.cons (.lst (.cons .str (.cons (.lst (.cons .str (.cons .str .nil)) (by decide)) .nil)) (by decide)) (.cons .int .nil)) (by decide)) .nil)))) (by decide))) (.cons (.mk (.lst (.cons .str (.cons .str (.cons (.lst .nil (by decide)) (.cons (.lst (.cons (.lst (.cons .str (.cons .str .nil)) (by decide)) (.cons .str .nil)) (by decide)) .nil)))) (by decide))) .nil)) (by decide)))))))))))))))))), ?_⟩
  refine fun p1 vs1 H1 s1 h1 al1 => ?_
  refine ⟨_, rfl, fun q1 ws1 G1 t1 g1 bl1 => ⟨_, _, _, _, rfl, rfl, t1.lst0 h1, g1, by rw [al1.len, bl1.len]; decide +kernel, fun p2 hp2 => ?_⟩⟩
  have s2 := (s1.trans t1).trans (Sm.new (o := .lst (vs1 ++ ws1)) hp2)
  have al2 := ((al1.mono fun _ _ r => r.sm (t1.trans (Sm.new (o := .lst (vs1 ++ ws1)) hp2))).app (bl1.mono fun _ _ r => r.sm (Sm.new (o := .lst (vs1 ++ ws1)) hp2)))
  have h2 : upd G1 p2 (.lst (vs1 ++ ws1)) p2 = some (.lst (vs1 ++ ws1)) := upd_same
  show tSeq _ _ _ _ (upd G1 p2 (.lst (vs1 ++ ws1)))
  generalize upd G1 p2 (.lst (vs1 ++ ws1)) = H2 at s2 al2 h2
  generalize vs1 ++ ws1 = vs2 at al2 h2
  clear al1 bl1 h1 g1 t1 s1
  refine ⟨_, rfl, fun q2 ws2 G2 t2 g2 bl2 => ⟨_, _, _, _, rfl, rfl, t2.lst0 h2, g2, by rw [al2.len, bl2.len]; decide +kernel, fun p3 hp3 => ?_⟩⟩
  have s3 := (s2.trans t2).trans (Sm.new (o := .lst (vs2 ++ ws2)) hp3)
  have al3 := ((al2.mono fun _ _ r => r.sm (t2.trans (Sm.new (o := .lst (vs2 ++ ws2)) hp3))).app (bl2.mono fun _ _ r => r.sm (Sm.new (o := .lst (vs2 ++ ws2)) hp3)))
  have h3 : upd G2 p3 (.lst (vs2 ++ ws2)) p3 = some (.lst (vs2 ++ ws2)) := upd_same
  show tSeq _ _ _ _ (upd G2 p3 (.lst (vs2 ++ ws2)))
  generalize upd G2 p3 (.lst (vs2 ++ ws2)) = H3 at s3 al3 h3
  generalize vs2 ++ ws2 = vs3 at al3 h3
  clear al2 bl2 h2 g2 t2 s2
  refine ⟨_, rfl, fun q3 ws3 G3 t3 g3 bl3 => ⟨_, _, _, _, rfl, rfl, t3.lst0 h3, g3, by rw [al3.len, bl3.len]; decide +kernel, fun p4 hp4 => ?_⟩⟩
  have s4 := (s3.trans t3).trans (Sm.new (o := .lst (vs3 ++ ws3)) hp4)
  have al4 := ((al3.mono fun _ _ r => r.sm (t3.trans (Sm.new (o := .lst (vs3 ++ ws3)) hp4))).app (bl3.mono fun _ _ r => r.sm (Sm.new (o := .lst (vs3 ++ ws3)) hp4)))
  have h4 : upd G3 p4 (.lst (vs3 ++ ws3)) p4 = some (.lst (vs3 ++ ws3)) := upd_same
  show tSeq _ _ _ _ (upd G3 p4 (.lst (vs3 ++ ws3)))
  generalize upd G3 p4 (.lst (vs3 ++ ws3)) = H4 at s4 al4 h4
  generalize vs3 ++ ws3 = vs4 at al4 h4
  clear al3 bl3 h3 g3 t3 s3
  refine ⟨_, rfl, fun q4 ws4 G4 t4 g4 bl4 => ⟨_, _, _, _, rfl, rfl, t4.lst0 h4, g4, by rw [al4.len, bl4.len]; decide +kernel, fun p5 hp5 => ?_⟩⟩
  have s5 := (s4.trans t4).trans (Sm.new (o := .lst (vs4 ++ ws4)) hp5)
  have al5 := ((al4.mono fun _ _ r => r.sm (t4.trans (Sm.new (o := .lst (vs4 ++ ws4)) hp5))).app (bl4.mono fun _ _ r => r.sm (Sm.new (o := .lst (vs4 ++ ws4)) hp5)))
  have h5 : upd G4 p5 (.lst (vs4 ++ ws4)) p5 = some (.lst (vs4 ++ ws4)) := upd_same
  show tSeq _ _ _ _ (upd G4 p5 (.lst (vs4 ++ ws4)))
  generalize upd G4 p5 (.lst (vs4 ++ ws4)) = H5 at s5 al5 h5
  generalize vs4 ++ ws4 = vs5 at al5 h5
  clear al4 bl4 h4 g4 t4 s4
  refine ⟨_, rfl, fun q5 ws5 G5 t5 g5 bl5 => ⟨_, _, _, _, rfl, rfl, t5.lst0 h5, g5, by rw [al5.len, bl5.len]; decide +kernel, fun p6 hp6 => ?_⟩⟩
  have s6 := (s5.trans t5).trans (Sm.new (o := .lst (vs5 ++ ws5)) hp6)
  have al6 := ((al5.mono fun _ _ r => r.sm (t5.trans (Sm.new (o := .lst (vs5 ++ ws5)) hp6))).app (bl5.mono fun _ _ r => r.sm (Sm.new (o := .lst (vs5 ++ ws5)) hp6)))
  have h6 : upd G5 p6 (.lst (vs5 ++ ws5)) p6 = some (.lst (vs5 ++ ws5)) := upd_same
  show tSeq _ _ _ _ (upd G5 p6 (.lst (vs5 ++ ws5)))
  generalize upd G5 p6 (.lst (vs5 ++ ws5)) = H6 at s6 al6 h6
  generalize vs5 ++ ws5 = vs6 at al6 h6
  clear al5 bl5 h5 g5 t5 s5
  refine ⟨_, rfl, fun q6 ws6 G6 t6 g6 bl6 => ⟨_, _, _, _, rfl, rfl, t6.lst0 h6, g6, by rw [al6.len, bl6.len]; decide +kernel, fun p7 hp7 => ?_⟩⟩
  have s7 := (s6.trans t6).trans (Sm.new (o := .lst (vs6 ++ ws6)) hp7)
  have al7 := ((al6.mono fun _ _ r => r.sm (t6.trans (Sm.new (o := .lst (vs6 ++ ws6)) hp7))).app (bl6.mono fun _ _ r => r.sm (Sm.new (o := .lst (vs6 ++ ws6)) hp7)))
  have h7 : upd G6 p7 (.lst (vs6 ++ ws6)) p7 = some (.lst (vs6 ++ ws6)) := upd_same
  show tSeq _ _ _ _ (upd G6 p7 (.lst (vs6 ++ ws6)))
  generalize upd G6 p7 (.lst (vs6 ++ ws6)) = H7 at s7 al7 h7
  generalize vs6 ++ ws6 = vs7 at al7 h7
  clear al6 bl6 h6 g6 t6 s6
  refine ⟨_, rfl, fun q7 ws7 G7 t7 g7 bl7 => ⟨_, _, _, _, rfl, rfl, t7.lst0 h7, g7, by rw [al7.len, bl7.len]; decide +kernel, fun p8 hp8 => ?_⟩⟩
  have s8 := (s7.trans t7).trans (Sm.new (o := .lst (vs7 ++ ws7)) hp8)
  have al8 := ((al7.mono fun _ _ r => r.sm (t7.trans (Sm.new (o := .lst (vs7 ++ ws7)) hp8))).app (bl7.mono fun _ _ r => r.sm (Sm.new (o := .lst (vs7 ++ ws7)) hp8)))
  have h8 : upd G7 p8 (.lst (vs7 ++ ws7)) p8 = some (.lst (vs7 ++ ws7)) := upd_same
  show tSeq _ _ _ _ (upd G7 p8 (.lst (vs7 ++ ws7)))
  generalize upd G7 p8 (.lst (vs7 ++ ws7)) = H8 at s8 al8 h8
  generalize vs7 ++ ws7 = vs8 at al8 h8
  clear al7 bl7 h7 g7 t7 s7
  refine ⟨_, rfl, fun q8 ws8 G8 t8 g8 bl8 => ⟨_, _, _, _, rfl, rfl, t8.lst0 h8, g8, by rw [al8.len, bl8.len]; decide +kernel, fun p9 hp9 => ?_⟩⟩
  have s9 := (s8.trans t8).trans (Sm.new (o := .lst (vs8 ++ ws8)) hp9)
  have al9 := ((al8.mono fun _ _ r => r.sm (t8.trans (Sm.new (o := .lst (vs8 ++ ws8)) hp9))).app (bl8.mono fun _ _ r => r.sm (Sm.new (o := .lst (vs8 ++ ws8)) hp9)))
  have h9 : upd G8 p9 (.lst (vs8 ++ ws8)) p9 = some (.lst (vs8 ++ ws8)) := upd_same
  show tSeq _ _ _ _ (upd G8 p9 (.lst (vs8 ++ ws8)))
  generalize upd G8 p9 (.lst (vs8 ++ ws8)) = H9 at s9 al9 h9
  generalize vs8 ++ ws8 = vs9 at al9 h9
  clear al8 bl8 h8 g8 t8 s8
  refine ⟨_, rfl, fun q9 ws9 G9 t9 g9 bl9 => ⟨_, _, _, _, rfl, rfl, t9.lst0 h9, g9, by rw [al9.len, bl9.len]; decide +kernel, fun p10 hp10 => ?_⟩⟩
  have s10 := (s9.trans t9).trans (Sm.new (o := .lst (vs9 ++ ws9)) hp10)
  have al10 := ((al9.mono fun _ _ r => r.sm (t9.trans (Sm.new (o := .lst (vs9 ++ ws9)) hp10))).app (bl9.mono fun _ _ r => r.sm (Sm.new (o := .lst (vs9 ++ ws9)) hp10)))
  have h10 : upd G9 p10 (.lst (vs9 ++ ws9)) p10 = some (.lst (vs9 ++ ws9)) := upd_same
  show tSeq _ _ _ _ (upd G9 p10 (.lst (vs9 ++ ws9)))
  generalize upd G9 p10 (.lst (vs9 ++ ws9)) = H10 at s10 al10 h10
  generalize vs9 ++ ws9 = vs10 at al10 h10
  clear al9 bl9 h9 g9 t9 s9
  refine ⟨_, rfl, fun q10 ws10 G10 t10 g10 bl10 => ⟨_, _, _, _, rfl, rfl, t10.lst0 h10, g10, by rw [al10.len, bl10.len]; decide +kernel, fun p11 hp11 => ?_⟩⟩
  have s11 := (s10.trans t10).trans (Sm.new (o := .lst (vs10 ++ ws10)) hp11)
  have al11 := ((al10.mono fun _ _ r => r.sm (t10.trans (Sm.new (o := .lst (vs10 ++ ws10)) hp11))).app (bl10.mono fun _ _ r => r.sm (Sm.new (o := .lst (vs10 ++ ws10)) hp11)))
  have h11 : upd G10 p11 (.lst (vs10 ++ ws10)) p11 = some (.lst (vs10 ++ ws10)) := upd_same
  show tSeq _ _ _ _ (upd G10 p11 (.lst (vs10 ++ ws10)))
  generalize upd G10 p11 (.lst (vs10 ++ ws10)) = H11 at s11 al11 h11
  generalize vs10 ++ ws10 = vs11 at al11 h11
  clear al10 bl10 h10 g10 t10 s10
  refine ⟨_, rfl, fun q11 ws11 G11 t11 g11 bl11 => ⟨_, _, _, _, rfl, rfl, t11.lst0 h11, g11, by rw [al11.len, bl11.len]; decide +kernel, fun p12 hp12 => ?_⟩⟩
  have s12 := (s11.trans t11).trans (Sm.new (o := .lst (vs11 ++ ws11)) hp12)
  have al12 := ((al11.mono fun _ _ r => r.sm (t11.trans (Sm.new (o := .lst (vs11 ++ ws11)) hp12))).app (bl11.mono fun _ _ r => r.sm (Sm.new (o := .lst (vs11 ++ ws11)) hp12)))
  have h12 : upd G11 p12 (.lst (vs11 ++ ws11)) p12 = some (.lst (vs11 ++ ws11)) := upd_same
  show tSeq _ _ _ _ (upd G11 p12 (.lst (vs11 ++ ws11)))
  generalize upd G11 p12 (.lst (vs11 ++ ws11)) = H12 at s12 al12 h12
  generalize vs11 ++ ws11 = vs12 at al12 h12
  clear al11 bl11 h11 g11 t11 s11
  refine ⟨_, rfl, fun q12 ws12 G12 t12 g12 bl12 => ⟨_, _, _, _, rfl, rfl, t12.lst0 h12, g12, by rw [al12.len, bl12.len]; decide +kernel, fun p13 hp13 => ?_⟩⟩
  have s13 := (s12.trans t12).trans (Sm.new (o := .lst (vs12 ++ ws12)) hp13)
  have al13 := ((al12.mono fun _ _ r => r.sm (t12.trans (Sm.new (o := .lst (vs12 ++ ws12)) hp13))).app (bl12.mono fun _ _ r => r.sm (Sm.new (o := .lst (vs12 ++ ws12)) hp13)))
  have h13 : upd G12 p13 (.lst (vs12 ++ ws12)) p13 = some (.lst (vs12 ++ ws12)) := upd_same
  show tRet (tOp rCat (tVar 0) _) _ _ (upd G12 p13 (.lst (vs12 ++ ws12)))
  generalize upd G12 p13 (.lst (vs12 ++ ws12)) = H13 at s13 al13 h13
  generalize vs12 ++ ws12 = vs13 at al13 h13
  clear al12 bl12 h12 g12 t12 s12
  refine ⟨_, rfl, fun q13 ws13 G13 t13 g13 bl13 => ⟨_, _, _, _, rfl, rfl, t13.lst0 h13, g13, by rw [al13.len, bl13.len]; decide +kernel, fun p14 hp14 => ?_⟩⟩
  have s14 := (s13.trans t13).trans (Sm.new (o := .lst (vs13 ++ ws13)) hp14)
  have al14 := ((al13.mono fun _ _ r => r.sm (t13.trans (Sm.new (o := .lst (vs13 ++ ws13)) hp14))).app (bl13.mono fun _ _ r => r.sm (Sm.new (o := .lst (vs13 ++ ws13)) hp14)))
  have h14 : upd G13 p14 (.lst (vs13 ++ ws13)) p14 = some (.lst (vs13 ++ ws13)) := upd_same
  exact q p14 _ _ s14 h14 al14
theorem sc_first : FnScope NFi [] (defScope sFirst) := ⟨rfl, rfl, rfl, by decide +kernel, rfl, by decide +kernel, by decide +kernel⟩
theorem ok_first {f : Addr} {fd : FuncData} (F : Fun K "_law_first" "_law_first" sFirst f fd) : FnOk P w K mg base CX0 1 f fd [] spFirst := by
  refine F.ok sc_first (fun vs H Q E h => ?_) (fun cdv A outer s H vs Q E hr h => ?_)
  · obtain ⟨rfl, _⟩ := h
    rfl
  obtain ⟨rfl, q⟩ := h
  have nd := sc_first.nd
  refine ⟨_, (pss_cons (ps_set (i := 0) nd rfl (Or.inl rfl) (pe_rowsS (.cons (.mk (.lst (.cons .str (.cons .str .nil)) (by decide))) (.cons (.mk (.lst (.cons .str (.cons .str .nil)) (by decide))) (.cons (.mk (.lst (.cons .str (.cons .str .nil)) (by decide))) .nil))) (by decide))) (pss_cons (ps_set (i := 1) nd rfl (Or.inl rfl) (pe_rowsD (.cons (.lst (.cons .str .nil) (by decide)) (.cons (.lst (.cons .str (.cons .int .nil)) (by decide)) (.cons (.lst (.cons .str (.cons (.lst (.cons .str .nil) (by decide)) .nil)) (by decide)) (.cons (.lst (.cons .str (.cons .str (.cons .str .nil))) (by decide)) (.cons (.lst (.cons .str (.cons .str .nil)) (by decide)) (.cons .str (.cons .int (.cons (.lst .nil (by decide)) (.cons (.lst (.cons (.lst (.cons .str .nil) (by decide)) (.cons .str .nil)) (by decide)) .nil))))))))) (by decide)))
    (pss_one (ps_ret (pe_op op_cat (pv 0) (pe_lc (own := [("form", 2)]) (g := gName 2) (tt := tYes) rfl nd (pi_list (pe_op op_cat (pv 1) (pe_rowsD (.cons (.lst (.cons .str (.cons .str .nil)) (by decide)) .nil) (by decide)))) (blkOk_by (N := NFi) (sc := defScope sFirst) (by decide +kernel)) (fun _ _ _ _ _ => (pg_name (i := 2) nd rfl (Or.inl rfl) (hf := Or.inr rfl))) (fun _ _ _ _ _ => pts_nil) (fun _ _ _ _ _ => (pe_tup (pa_cons (pv 2) (pa_cons pe_non pa_nil)))))))))), ?_⟩
  refine fun p1 vs1 H1 s1 h1 al1 p2 vs2 H2 s2 h2 al2 => ?_
  refine ⟨_, rfl, _, rfl, fun p3 vs3 H3 s3 h3 al3 => ⟨_, _, _, _, rfl, rfl, s3.lst0 h2, h3, by rw [al2.len, al3.len]; decide +kernel, fun p4 hp4 => ?_⟩⟩
  have s4 : Sm No H3 (upd H3 p4 (.lst (vs2 ++ vs3))) := Sm.new hp4
  have alB : Al (Rq (upd H3 p4 (.lst (vs2 ++ vs3)))) (vs2 ++ vs3) firstB := (al2.mono fun _ _ r => r.sm (s3.trans s4)).app (al3.mono fun _ _ r => r.sm s4)
  have h4 : upd H3 p4 (.lst (vs2 ++ vs3)) p4 = some (.lst (vs2 ++ vs3)) := upd_same
  have s14 : Sm No H1 (upd H3 p4 (.lst (vs2 ++ vs3))) := s2.trans (s3.trans s4)
  dsimp only
  generalize upd H3 p4 (.lst (vs2 ++ vs3)) = H4 at alB h4 s14
  generalize vs2 ++ vs3 = us at alB h4
  refine ⟨p4, rfl, ⟨_, SqL.of h4⟩, fun D hD => ?_⟩
  have lB := alB.len
  have l10 : firstB.length ≤ 100 := by decide +kernel
  refine lc_list (xs := us) (fun i H' => ∃ ws, H' D = some (.lst ws) ∧ Al (fun v x => ∃ p u, v = .ref p ∧ H' p = some (.tup [u, oV x.2]) ∧ Rq H4 u x.1) ws ((firstB.take i).map fun d => (d, none)) ∧ ws.length = i ∧ Sm No H4 H')
    ⟨[], upd_same, by rw [List.take_zero]; exact Al.nil, rfl, Sm.new hD⟩ (fun i H' _ ⟨_, _, _, _, e⟩ => SqL.of (e.lst0 h4)) ?_ ?_
  · rintro i x H5 hi ⟨ws, h5, al5, lw, s5⟩
    obtain ⟨d, hd, rd⟩ := alB.2 i x hi
    have il := (List.getElem?_eq_some_iff.mp hi).1
    refine ⟨rfl, _, rfl, by show 2 ≤ sizeLine; decide, fun t ht => ?_⟩
    have s6 : Sm No H5 (upd H5 t (.tup [x, .non])) := Sm.new ht
    have h6 := s6.lst0 h5
    have tD : t ≠ D := fun z => by rw [z, h5] at ht; cases ht
    refine ⟨ws, h6, line_of (by omega), ws ++ [.ref t], upd_same, ?_, by rw [List.length_append, lw]; rfl, (s5.trans s6).mut hD (ntbl_l h6)⟩
    rw [take_nx hd, List.map_append]
    refine (al5.mono fun v y ⟨p, u, e, hp, r⟩ => ⟨p, u, e, ?_, r⟩).snoc ⟨t, x, rfl, by rw [upd_ne tD, upd_same]; rfl, rd⟩
    have hp6 := s6.tup (fun z => z) hp
    rw [upd_ne (fun z => by rw [z, h6] at hp6; cases hp6)]
    exact hp6
  · rintro H5 ⟨ws, h5, al5, lw, s5⟩
    rw [lB, List.take_length] at al5
    have s15 := s14.trans s5
    refine ⟨_, _, _, _, rfl, rfl, s15.lst0 h1, h5, by rw [al1.len, al5.len]; decide +kernel, fun p6 hp6 => ?_⟩
    have s6 : Sm No H5 (upd H5 p6 (.lst (vs1 ++ ws))) := Sm.new hp6
    exact q p6 _ _ ((s1.trans s15).trans s6) upd_same ((al1.mono fun _ _ r => r.sm (s15.trans s6)).app (al5.mono fun v y ⟨p, u, e, hp, r⟩ => ⟨p, u, e, s6.tup (fun z => z) hp, r.sm (s5.trans s6)⟩))
end
end My
namespace My
open PySem PySem.Spec PyProof.Rows L2 TL
/-! ### _law_name, _law_told -/
def rIsN (K : PySem.W.Frag) (C a : Addr) (cls : Value) (d : Option Addr) : List V → Hp → VK → Prop := fun xs H Q => ∃ (c : V) (cv : Value) (b : Bool), xs = [.ref a, c] ∧ (∀ u, RelV c u → u = cv) ∧ cls = .ref C ∧ d = none ∧ PySem.W.kitOne K (.ref C) cv = some b ∧ Q (.bl b) H
theorem call_isN {X : Cx} {a C : Addr} {cls : Value} {d : Option Addr} {oe : Obj} {pn : List (Addr × Obj)} (T : ExcC X.K C) (hz : Zc cls d oe) (hf : ∃ vs, oe.data = .fields vs) : CallR (X.suite a ((a, oe) :: pn)) (.builtin "isinstance") (rIsN X.K C a cls d) := by
  intro pins s σ H xs us Q I r h
  obtain ⟨c, cv, b, e0, hcv, ec, ed, e, q⟩ := h
  subst ec ed
  exact call_isE T hz hf pins s σ H xs us Q I r ⟨c, cv, b, e0, hcv, e, q⟩
/-- the classes that are asked: FoldError, InvalidForm, InvalidRule, DuplicateName -/
structure ToldC (K : PySem.W.Frag) (mg : Str → Option Value) (F I R D : Addr) : Prop where
  gF : mg "FoldError" = some (.ref F)
  gI : mg "InvalidForm" = some (.ref I)
  gR : mg "InvalidRule" = some (.ref R)
  gD : mg "DuplicateName" = some (.ref D)
  ii : PySem.W.exmOne K (.ref I) (.ref I) = some true
  ri : PySem.W.exmOne K (.ref R) (.ref I) = some false
  rr : PySem.W.exmOne K (.ref R) (.ref R) = some true
  di : PySem.W.exmOne K (.ref D) (.ref I) = some false
  dr : PySem.W.exmOne K (.ref D) (.ref R) = some false
  dd : PySem.W.exmOne K (.ref D) (.ref D) = some true
  xD : XfC K D
  nD : PySem.W.findIn K (.ref D) "name" = some none
  cI : ExcC K I
  kF : PySem.W.kitOne K (.ref I) (.ref F) = some true
  kR : PySem.W.kitOne K (.ref I) (.ref R) = some false
def toldK : RO → Str
  | .ok => "modules"
  | .form => "form"
  | .rule => "rule"
  | .dup s => s
def toldN (o : RO) (ds : List Dt) : List Str := match o with
  | .ok => modsOf ds
  | _ => []
/-- what is told of a list of forms -/
def TD (H : Hp) (v : V) (k : Str) (ns : List Str) : Prop := ∃ p L, v = .ref p ∧ H p = some (.tup [.str k, .ref L]) ∧ H L = some (.lst (ns.map V.str))
theorem TD.sm {H H' : Hp} {v : V} {k : Str} {ns : List Str} (h : TD H v k ns) (e : Sm No H H') : TD H' v k ns := let ⟨p, L, a, b, c⟩ := h; ⟨p, L, a, e.tup (fun z => z) b, e.lst0 c⟩
def spLn : Sp := fun vs H Q _ => ∃ (a : Addr) (us : List V) (ds : List Dt), vs = [.ref a] ∧ H a = some (.lst us) ∧ RqL H us ds ∧ (∀ d ∈ ds, Shp d) ∧ ∀ H', Sm No H H' → Q (oV (nameF ds)) H'
def spTo (P1 P2 P3 : Addr) : Sp := fun vs H Q _ => ∃ (a : Addr) (us : List V) (ds : List Dt) (o : RO), vs = [.ref a] ∧ H a = some (.lst us) ∧ RqL H us ds ∧ (∀ d ∈ ds, fineF d) ∧ 1 ≤ ds.length ∧ ds.length ≤ 100 ∧ GxR.TabG H P1 ∧ GxR.TabG H P2 ∧ GxR.TabG H P3 ∧ formsF (ds.drop 1) = some o ∧
  ∀ v H', Sm No H H' → TD H' v (toldK o) (toldN o (ds.drop 1)) → Q v H'
abbrev sLn : Stmt := top 43
abbrev NLn : List Str := ["data", "error"]
abbrev sTo : Stmt := top 44
abbrev NTo : List Str := ["data", "error"]
section
variable {P : Program} {w : World} {K : PySem.W.Frag} {mg : Str → Option Value} {base : Heap}
theorem scLn : FnScope NLn ["data"] (defScope sLn) := ⟨rfl, rfl, rfl, by decide +kernel, rfl, by decide +kernel, by decide +kernel⟩
theorem scTo : FnScope NTo ["data"] (defScope sTo) := ⟨rfl, rfl, rfl, by decide +kernel, rfl, by decide +kernel, by decide +kernel⟩
theorem ok_ln {f fN F I R D : Addr} {fd dN : FuncData} (Fn : Fun K "_law_name" "_law_name" sLn f fd) (B : Blt mg) (T : ToldC K mg F I R D) (GN : Cal P w K mg base (L2.CX P w) 4 "module_name" ["data"] (spNm I) fN dN) : FnOk P w K mg base CX0 5 f fd ["data"] spLn := by
  refine Fn.ok scLn (fun vs H Q E h => ?_) (fun cdv A outer s H vs Q E hr h => ?_)
  · obtain ⟨a, us, ds, rfl, _⟩ := h
    rfl
  obtain ⟨a, us, ds, rfl, ha, rl, sh, q⟩ := h
  have nd := scLn.nd
  have isb : bootBuiltins "isinstance" = some (.builtin "isinstance") := by decide +kernel
  refine ⟨_, pss_cons (ps_try_mix (n := "error") (i := 1) (Wout := fun _ _ _ _ => False) rfl rfl nd rfl rfl (fun u s' ⟨a, B, sI, pins, σ, H, cls, d, e, I, nb, up, sky, na, os, ag, w⟩ => w.elim)
        (fun W pn xe tk _ => pss_one (ps_ret (pe_callS GN.ok hr rfl GN.g GN.k GN.b (fun σ => passAt tk σ) (pa_cons (pv 0) pa_nil))))
        (.cons (c := .ref I) ⟨rfl, by decide +kernel, .inl T.gI⟩ (fun a oe cls d pn hzc hf => pss_one (ps_if (pt_val (pe_callB (call_isN T.cI hzc hf) (by rfl) B.isinstance isb (pa_cons (pv 1) (pa_cons (pe_glob (v := .ref F) rfl T.gF rfl) pa_nil)))) (pss_one (ps_ret pe_non)) pss_nil)) .nil))
    (pss_one (ps_ret pe_int)), ?_⟩
  refine ⟨_, rfl, a, us, ds, rfl, ha, rl, sh, fun z e H' s => ?_, fun e H' s => ?_⟩
  · have := q H' s
    rw [e] at this
    exact this
  · refine ⟨true, T.ii, fun _ a ha => ?_, fun z => nomatch z⟩
    refine ⟨_, rfl, .ref F, .ref F, true, rfl, (fun u r => r), rfl, rfl, T.kF, _, rfl, iteT ?_⟩
    have := q H' s
    rw [e] at this
    exact this
theorem ok_to {f fM F I R D P1 P2 P3 : Addr} {fd dM : FuncData} (Fn : Fun K "_law_told" "_law_told" sTo f fd) (B : Blt mg) (T : ToldC K mg F I R D) (GM : Cal P w K mg base (L2.CX P w) 9 "imported_modules" ["data"] (spIm I R D P1 P2 P3) fM dM) : FnOk P w K mg base CX0 10 f fd ["data"] (spTo P1 P2 P3) := by
  refine Fn.ok scTo (fun vs H Q E h => ?_) (fun cdv A outer s H vs Q E hr h => ?_)
  · obtain ⟨a, us, ds, o, rfl, _⟩ := h
    rfl
  obtain ⟨a, us, ds, o, rfl, ha, rl, fi, l1, lz, tg1, tg2, tg3, ev, q⟩ := h
  have nd := scTo.nd
  have isb : bootBuiltins "isinstance" = some (.builtin "isinstance") := by decide +kernel
  refine ⟨_, pss_one (ps_try_mix (n := "error") (i := 1) (Wout := fun _ _ _ _ => False) rfl rfl nd rfl rfl (fun u s' ⟨a, B, sI, pins, σ, H, cls, d, e, I, nb, up, sky, na, os, ag, w⟩ => w.elim)
        (fun W pn xe tk _ => pss_one (ps_ret (pe_tup (pa_cons pe_str (pa_cons (pe_callS GM.ok hr rfl GM.g GM.k GM.b (fun σ => passAt tk σ) (pa_cons (pv 0) pa_nil)) pa_nil)))))
        (.cons (c := .ref I) ⟨rfl, by decide +kernel, .inl T.gI⟩ (fun a oe cls d pn hzc hf => pss_cons (ps_if (pt_val (pe_callB (call_isN T.cI hzc hf) (by rfl) B.isinstance isb (pa_cons (pv 1) (pa_cons (pe_glob (v := .ref R) rfl T.gR rfl) pa_nil)))) (pss_one (ps_ret (pe_tup (pa_cons pe_str (pa_cons (pe_lst pa_nil) pa_nil))))) pss_nil)
            (pss_one (ps_ret (pe_tup (pa_cons pe_str (pa_cons (pe_lst pa_nil) pa_nil))))))
          (.cons0 (c := .ref R) ⟨rfl, by decide +kernel, .inl T.gR⟩ (fun a oe cls d pn hzc hf => pss_one (ps_ret (pe_tup (pa_cons pe_str (pa_cons (pe_lst pa_nil) pa_nil)))))
            (.cons (c := .ref D) ⟨rfl, by decide +kernel, .inl T.gD⟩ (fun a oe cls d pn hzc hf => pss_one (ps_ret (pe_tup (pa_cons (pe_xf T.xD T.nD hzc hf (pv 1)) (pa_cons (pe_lst pa_nil) pa_nil))))) .nil)))), ?_⟩
  have fin : ∀ (k : Str) (L p : Addr) (H' : Hp), Sm No H H' → H' L = none → upd H' L (.lst []) p = none → toldK o = k → o ≠ .ok → Q (.ref p) (upd (upd H' L (.lst [])) p (.tup [.str k, .ref L])) := fun k L p H' s hL hp ek no => by
    have s1 : Sm No H' (upd H' L (.lst [])) := Sm.new hL
    have s2 : Sm No (upd H' L (.lst [])) (upd (upd H' L (.lst [])) p (.tup [.str k, .ref L])) := Sm.new hp
    refine q _ _ ((s.trans s1).trans s2) ⟨p, L, rfl, by rw [ek]; exact upd_same, ?_⟩
    have e : toldN o (ds.drop 1) = [] := by cases o with
      | ok => exact absurd rfl no
      | form => rfl
      | rule => rfl
      | dup s => rfl
    rw [e]
    exact s2.lst0 upd_same
  refine ⟨_, rfl, a, us, ds, o, rfl, ha, rl, fi, l1, lz, tg1, tg2, tg3, ev, fun e L H' s hL => ?_, fun e H' s => ?_, fun e H' s => ?_, fun z e H' d s hd hx => ?_⟩
  · refine ⟨by show 2 ≤ sizeLine; decide, fun p hp => q _ _ (s.trans (Sm.new hp)) ⟨p, L, rfl, ?_, ?_⟩⟩
    · rw [e]; exact upd_same
    · rw [e]
      exact (Sm.new hp : Sm No _ _).lst0 hL
  · refine ⟨true, T.ii, fun _ a ha => ?_, fun z => nomatch z⟩
    refine ⟨_, rfl, .ref R, .ref R, false, rfl, (fun u r => r), rfl, rfl, T.kR, _, rfl, iteF ?_⟩
    exact ⟨by show 0 ≤ sizeLine; decide, fun L hL => ⟨by show 2 ≤ sizeLine; decide, fun p hp => fin "form" L p H' s hL hp (by rw [e]; rfl) (by rw [e]; intro z; cases z)⟩⟩
  · refine ⟨false, T.ri, fun z => (nomatch z), fun _ => ⟨true, T.rr, fun _ a ha => ?_, fun z => nomatch z⟩⟩
    exact ⟨by show 0 ≤ sizeLine; decide, fun L hL => ⟨by show 2 ≤ sizeLine; decide, fun p hp => fin "rule" L p H' s hL hp (by rw [e]; rfl) (by rw [e]; intro z; cases z)⟩⟩
  · refine ⟨false, T.di, fun z => (nomatch z), fun _ => ⟨false, T.dr, fun z => (nomatch z), fun _ => ⟨true, T.dd, fun _ a ha => ?_, fun z => nomatch z⟩⟩⟩
    exact ⟨_, rfl, rfl, rfl, d, _, _, rfl, hx, rfl, by show 0 ≤ sizeLine; decide, fun L hL => ⟨by show 2 ≤ sizeLine; decide, fun p hp => fin z L p H' s hL hp (by rw [e]; rfl) (by rw [e]; intro z; cases z)⟩⟩
end
/-! ### what the law's forms are, looked at -/
mutual
def dpB : Nat → Dt → Bool
  | n, .lst ds => decide (n ≤ 60) && dpBs (n + 1) ds
  | n, .int _ => decide (n ≤ 60)
  | n, .str _ => decide (n ≤ 60)
def dpBs : Nat → List Dt → Bool
  | _, [] => true
  | n, d :: ds => dpB n d && dpBs n ds
end
mutual
theorem dpB_ok : ∀ (n : Nat) (d : Dt), dpB n d = true → DpOk n d
  | n, .int _, h => by unfold dpB at h; unfold DpOk; exact of_decide_eq_true h
  | n, .str _, h => by unfold dpB at h; unfold DpOk; exact of_decide_eq_true h
  | n, .lst ds, h => by
    unfold dpB at h
    rw [Bool.and_eq_true, decide_eq_true_iff] at h
    unfold DpOk
    exact ⟨h.1, dpBs_ok (n + 1) ds h.2⟩
theorem dpBs_ok : ∀ (n : Nat) (ds : List Dt), dpBs n ds = true → DpOks n ds
  | n, [], _ => by unfold DpOks; trivial
  | n, d :: r, h => by
    unfold dpBs at h
    rw [Bool.and_eq_true] at h
    unfold DpOks
    exact ⟨dpB_ok n d h.1, dpBs_ok n r h.2⟩
end
def fineB (d : Dt) : Bool := SeqAt.shaped (pyQ d) && (decide (szT d ≤ 500) && dpB 0 d)
theorem fineB_ok {d : Dt} (h : fineB d = true) : fine d := by
  unfold fineB at h
  rw [Bool.and_eq_true, Bool.and_eq_true, decide_eq_true_iff] at h
  exact ⟨h.1, h.2.1, dpB_ok 0 d h.2.2⟩
def formB : Dt → Bool
  | .lst ds => ds.all fineB && decide (ds.length ≤ 900)
  | _ => true
theorem formB_ok {d : Dt} (h : formB d = true) : fineF d := by
  cases d with
  | int i => trivial
  | str s => trivial
  | lst ds =>
    unfold formB at h
    rw [Bool.and_eq_true, List.all_eq_true, decide_eq_true_iff] at h
    exact ⟨fun d m => fineB_ok (h.1 d m), h.2⟩
def sameO : Option RO → Str → Bool
  | some .form, k => decide (k = "form")
  | some .rule, k => decide (k = "rule")
  | some (.dup s), k => decide (k = s)
  | _, _ => false
theorem sameO_ok {o : Option RO} {k : Str} (h : sameO o k = true) : ∃ r, o = some r ∧ r ≠ .ok ∧ k = toldK r := by
  match o, h with
  | some .form, h => exact ⟨.form, rfl, (fun z => nomatch z), of_decide_eq_true h⟩
  | some .rule, h => exact ⟨.rule, rfl, (fun z => nomatch z), of_decide_eq_true h⟩
  | some (.dup s), h => exact ⟨.dup s, rfl, (fun z => nomatch z), of_decide_eq_true h⟩
def isOkO : Option RO → Bool
  | some .ok => true
  | _ => false
theorem isOkO_ok {o : Option RO} (h : isOkO o = true) : o = some .ok := by
  match o, h with
  | some .ok, _ => rfl
theorem good_all : (goodL.all fun d => SeqAt.shaped (pyQ d) && (formB d && isOkO (formF d))) = true := by decide +kernel
theorem bad_all : (badL.all fun x => SeqAt.shaped (pyQ x.2) && (formB x.2 && (sameO (formF x.2) x.1 && (PyData.strOk x.1 && !decide (x.1 = "modules"))))) = true := by decide +kernel
theorem first_all : (firstL.all fun x => SeqAt.shaped (pyQ x.1) && (formB x.1 && decide (nameD x.1 = x.2))) = true := by decide +kernel
end My
namespace My
open PySem PySem.Spec PyProof.Rows L2 TL
/-! ### the law -/
theorem formsF_snoc : ∀ {ds : List Dt} {d : Dt} {o : RO}, formsF ds = some .ok → formF d = some o → formsF (ds ++ [d]) = some o
  | [], d, o, _, h => by
    show formsF [d] = some o
    unfold formsF
    rw [h]
    cases o <;> rfl
  | x :: r, d, o, h0, h => by
    unfold formsF at h0
    cases hx : formF x with
    | none => rw [hx] at h0; cases h0
    | some z =>
      rw [hx] at h0
      cases z with
      | ok =>
        show formsF (x :: (r ++ [d])) = some o
        unfold formsF
        rw [hx]
        exact formsF_snoc h0 h
      | form => cases h0
      | rule => cases h0
      | dup s => cases h0
theorem formsF_stay : ∀ {ds : List Dt} {d : Dt} {o : RO}, formsF ds = some o → o ≠ .ok → formsF (ds ++ [d]) = some o
  | [], d, o, h, n => by unfold formsF at h; exact absurd (Option.some.inj h).symm n
  | x :: r, d, o, h0, n => by
    show formsF (x :: (r ++ [d])) = some o
    unfold formsF at h0 ⊢
    cases hx : formF x with
    | none => rw [hx] at h0; cases h0
    | some z =>
      rw [hx] at h0
      cases z with
      | ok => exact formsF_stay h0 n
      | form => exact h0
      | rule => exact h0
      | dup s => exact h0
theorem modsOf_snoc (ds : List Dt) (d : Dt) : modsOf (ds ++ [d]) = addM (modsOf ds) d := by
  unfold modsOf
  rw [List.foldl_append]; rfl
theorem toldN_not {o : RO} {ds : List Dt} (n : o ≠ .ok) : toldN o ds = [] := by cases o with
  | ok => exact absurd rfl n
  | form => rfl
  | rule => rfl
  | dup s => rfl
/-- what is due of the forms so far -/
structure DueR (ds : List Dt) (k : Str) (ns : List Str) : Prop where
  ex : ∃ o, formsF ds = some o ∧ k = toldK o ∧ ns = toldN o ds ∧ (o ≠ .ok → k ≠ "modules")
  k : PyData.strOk k = true
  n : ∀ s ∈ ns, PyData.strOk s = true
  l : ns.length ≤ ds.length
theorem shp_str {s : Str} (h : Shp (.str s)) : PyData.strOk s = true := by
  unfold Shp SeqAt.shaped at h
  rw [Bool.and_eq_true] at h
  have := h.1
  unfold pyQ PyData.canLay0 at this
  exact this
theorem addW_mem {acc : List Str} {d : Dt} {s : Str} (h : s ∈ addW acc d) : s ∈ acc ∨ d = .str s := by
  cases d with
  | int i => exact .inl h
  | lst l => exact .inl h
  | str m =>
    have h : s ∈ (bif acc.contains m then acc else acc ++ [m]) := h
    cases hc : acc.contains m with
    | true => rw [hc, cond_true] at h; exact .inl h
    | false =>
      rw [hc, cond_false] at h
      rcases List.mem_append.mp h with h | h
      · exact .inl h
      · rw [List.mem_singleton.mp h]; exact .inr rfl
theorem al_rq {H : Hp} : ∀ {vs : List V} {ds : List Dt}, Al (Rq H) vs ds → RqL H vs ds
  | [], [], _ => .nil
  | [], _ :: _, h => by cases h.1
  | _ :: _, [], h => by cases h.1
  | v :: vs, d :: ds, h => by
    obtain ⟨x, hx, r⟩ := h.2 0 v rfl
    cases hx
    exact .cons r (al_rq ⟨by have := h.1; simpa using this, fun i u e => by
      obtain ⟨y, hy, q⟩ := h.2 (i + 1) u (by simpa using e)
      exact ⟨y, by simpa using hy, q⟩⟩)
theorem mod_lt (c : Int) {n : Nat} (h : 0 < n) : ∃ j : Nat, c % (n : Int) = (j : Int) ∧ j < n := by
  have h1 := Int.emod_nonneg c (show (n : Int) ≠ 0 by omega)
  have h2 := Int.emod_lt_of_pos c (show (0 : Int) < n by omega)
  exact ⟨(c % (n : Int)).toNat, by omega, by omega⟩
theorem td_dp {K : PySem.W.Frag} {H : Hp} {v : V} {k : Str} {ns : List Str} (h : TD H v k ns) : Dp K H v (.tuple [.str k, .list (ns.map PyData.str)]) := by
  obtain ⟨p, L, rfl, hp, hL⟩ := h
  refine .tup (SqT.of hp) (.cons (.str k) (.cons (.lst (SqL.of hL) ?_) .nil))
  clear hL hp
  induction ns with
  | nil => exact .nil
  | cons n r ih => exact .cons (.str n) ih
theorem lay_strs : ∀ {ns : List Str}, (∀ s ∈ ns, PyData.strOk s = true) → PyData.canLayAll0 (ns.map PyData.str) = true
  | [], _ => by unfold List.map PyData.canLayAll0; rfl
  | n :: r, h => by
    rw [List.map_cons]
    unfold PyData.canLayAll0 PyData.canLay0
    rw [h n List.mem_cons_self, lay_strs fun s m => h s (List.mem_cons_of_mem _ m)]; rfl
theorem dep_strs : ∀ {ns : List Str}, PyData.depthAll (ns.map PyData.str) ≤ 1
  | [] => by unfold List.map PyData.depthAll; omega
  | n :: r => by
    rw [List.map_cons]
    have := dep_strs (ns := r)
    unfold PyData.depthAll PyData.depth
    omega
theorem td_shaped {k : Str} {ns : List Str} (hk : PyData.strOk k = true) (hn : ∀ s ∈ ns, PyData.strOk s = true) : SeqAt.shaped (.tuple [.str k, .list (ns.map PyData.str)]) = true := by
  have h1 : (PyData.tuple [.str k, .list (ns.map PyData.str)]).canLay0 = true := by
    unfold PyData.canLay0 PyData.canLayAll0 PyData.canLayAll0 PyData.canLayAll0 PyData.canLay0
    rw [hk, lay_strs hn]; rfl
  have h2 : (PyData.tuple [.str k, .list (ns.map PyData.str)]).depth ≤ 10 := by
    have := dep_strs (ns := ns)
    unfold PyData.depth PyData.depthAll PyData.depthAll PyData.depthAll PyData.depth
    omega
  unfold SeqAt.shaped
  rw [h1, decide_eq_true (by omega)]; rfl
theorem DueR.bad {ds : List Dt} {k kk : Str} {ns : List Str} {d : Dt} {r : RO} (D : DueR ds k ns) (hd : formF d = some r) (hr : r ≠ .ok) (hk : kk = toldK r) (ok : PyData.strOk kk = true) (nm : kk ≠ "modules") :
    (k = "modules" → DueR (ds ++ [d]) kk []) ∧ (k ≠ "modules" → DueR (ds ++ [d]) k ns) := by
  obtain ⟨o, h1, h2, h3, h4⟩ := D.ex
  refine ⟨fun e => ?_, fun e => ?_⟩
  · have eo : o = .ok := Classical.byContradiction fun z => h4 z e
    subst eo
    exact ⟨⟨r, formsF_snoc h1 hd, hk, (toldN_not hr).symm, fun _ => nm⟩, ok, fun s m => by simp at m, Nat.zero_le _⟩
  · have no : o ≠ .ok := fun z => e (by rw [h2, z]; rfl)
    exact ⟨⟨o, formsF_stay h1 no, h2, by rw [h3, toldN_not no, toldN_not no], fun _ => e⟩, D.k, D.n, by have := D.l; rw [List.length_append]; omega⟩
theorem DueR.good {ds : List Dt} {k : Str} {ns : List Str} {d : Dt} (D : DueR ds k ns) (hd : formF d = some .ok) (sh : Shp d) :
    (k = "modules" → DueR (ds ++ [d]) "modules" (addM ns d)) ∧ (k ≠ "modules" → DueR (ds ++ [d]) k ns) := by
  obtain ⟨o, h1, h2, h3, h4⟩ := D.ex
  refine ⟨fun e => ?_, fun e => ?_⟩
  · have eo : o = .ok := Classical.byContradiction fun z => h4 z e
    subst eo
    refine ⟨⟨.ok, formsF_snoc h1 hd, rfl, ?_, fun z => absurd rfl z⟩, by decide +kernel, fun s m => ?_, ?_⟩
    · rw [h3]
      exact (modsOf_snoc ds d).symm
    · obtain ⟨w, r, rfl, imp⟩ := formF_ok hd
      cases r with
      | nil => exact D.n s m
      | cons y r =>
        have m : s ∈ (bif decide (w = "\u0069mport") then addW ns y else ns) := m
        cases hw : decide (w = "\u0069mport") with
        | false => rw [hw, cond_false] at m; exact D.n s m
        | true =>
          rw [hw, cond_true] at m
          rcases addW_mem m with m | e
          · exact D.n s m
          · subst e
            exact shp_str (shp_lst sh _ (by simp))
    · have h5 := modsOf_len [d] ns
      have h6 : ([d] : List Dt).foldl addM ns = addM ns d := rfl
      rw [h6] at h5
      have := D.l
      rw [List.length_append]
      simp only [List.length_singleton] at h5 ⊢
      omega
  · have no : o ≠ .ok := fun z => e (by rw [h2, z]; rfl)
    exact ⟨⟨o, formsF_stay h1 no, h2, by rw [h3, toldN_not no, toldN_not no], fun _ => e⟩, D.k, D.n, by have := D.l; rw [List.length_append]; omega⟩
/-- what is due, its list apart from the list of the data -/
def TX (Dd : Addr) (H : Hp) (v : V) (k : Str) (ns : List Str) : Prop := ∃ p L, v = .ref p ∧ H p = some (.tup [.str k, .ref L]) ∧ H L = some (.lst (ns.map V.str)) ∧ L ≠ Dd
theorem TX.sm {Dd : Addr} {H H' : Hp} {v : V} {k : Str} {ns : List Str} (h : TX Dd H v k ns) (e : Sm No H H') : TX Dd H' v k ns := let ⟨p, L, a, b, c, d⟩ := h; ⟨p, L, a, e.tup (fun z => z) b, e.lst0 c, d⟩
theorem TX.put {Dd : Addr} {H : Hp} {v : V} {k : Str} {ns : List Str} {xs ys : List V} (h : TX Dd H v k ns) (hD : H Dd = some (.lst xs)) : TX Dd (upd H Dd (.lst ys)) v k ns :=
  let ⟨p, L, a, b, c, d⟩ := h; ⟨p, L, a, by rw [upd_ne (fun z => by rw [z, hD] at b; cases b)]; exact b, by rw [upd_ne d]; exact c, d⟩
theorem TX.td {Dd : Addr} {H : Hp} {v : V} {k : Str} {ns : List Str} (h : TX Dd H v k ns) : TD H v k ns := let ⟨p, L, a, b, c, _⟩ := h; ⟨p, L, a, b, c⟩
theorem dec_str (x y : Str) : decide (V.str x = V.str y) = decide (x = y) := by
  by_cases e : x = y
  · rw [e, decide_eq_true rfl, decide_eq_true rfl]
  · rw [decide_eq_false e, decide_eq_false fun z => e (V.str.inj z)]
abbrev sLaw : Stmt := top 45
abbrev NLw : List Str := ["script", "firsts", "good", "bad", "form", "name", "data", "due", "k", "cell", "kind"]
def spLaw (K : PySem.W.Frag) (P1 P2 P3 : Addr) : Sp := fun vs H Q _ => ∃ (a : Addr) (ns : List Int), vs = [.ref a] ∧ SqL K H a (ns.map V.int) ∧ ns.length ≤ 63 ∧ GxR.TabG H P1 ∧ GxR.TabG H P2 ∧ GxR.TabG H P3 ∧ ∀ H', Q (.bl true) H'
section
variable {P : Program} {w : World} {K : PySem.W.Frag} {mg : Str → Option Value} {base : Heap}
theorem scLaw : FnScope NLw ["script"] (defScope sLaw) := ⟨rfl, rfl, rfl, by decide +kernel, rfl, by decide +kernel, by decide +kernel⟩
theorem ok_law {f fF fG fB fC fN fT P1 P2 P3 : Addr} {fd dF dG dB dC dN dT : FuncData} (F : Fun K "law" "law" sLaw f fd) (B : Blt mg) (GF : Cal P w K mg base CX0 1 "_law_first" [] spFirst fF dF) (GG : Cal P w K mg base CX0 1 "_law_good" [] spGood fG dG)
    (GB : Cal P w K mg base CX0 1 "_law_bad" [] spBad fB dB) (GC : Cal P w K mg base CX0 1 "_law_cell" ["script", "k"] (spCell K) fC dC) (GN : Cal P w K mg base CX0 5 "_law_name" ["data"] spLn fN dN) (GT : Cal P w K mg base CX0 10 "_law_told" ["data"] (spTo P1 P2 P3) fT dT) :
    FnOk P w K mg base CX0 11 f fd ["script"] (spLaw K P1 P2 P3) := by
  refine F.ok scLaw (fun vs H Q E h => ?_) (fun cdv A outer s H vs Q E hr h => ?_)
  · obtain ⟨a, ns, rfl, _⟩ := h
    rfl
  obtain ⟨a, ns, rfl, hs, ln, tg1, tg2, tg3, q⟩ := h
  have nd := scLaw.nd
  have r1 : Room 1 _ := hr.mono (show 1 ≤ 10 by decide)
  have r5 : Room 5 _ := hr.mono (show 5 ≤ 10 by decide)
  refine ⟨_, (pss_cons (ps_set (i := 1) nd rfl (Or.inl rfl) (pe_call0 GF.ok r1 rfl GF.g GF.k GF.b .nil pass0))
    (pss_cons (ps_set (i := 2) nd rfl (Or.inl rfl) (pe_call0 GG.ok r1 rfl GG.g GG.k GG.b .nil pass0))
    (pss_cons (ps_set (i := 3) nd rfl (Or.inl rfl) (pe_call0 GB.ok r1 rfl GB.g GB.k GB.b .nil pass0))
    (pss_cons (ps_asg (pe_ix (r := rIxL K) ix_list (pv 1) (pe_op op_mod (pe_call GC.ok r1 rfl GC.g GC.k GC.b .nil pass0 (pa_cons (pv 0) (pa_cons pe_int pa_nil))) (pe_callB call_len_seq (by rfl) B.len PySem.boot_len (pa_cons (pv 1) pa_nil))) (fun _ _ => rfl)) (pg_tup rfl (pgs_cons (pg_name (i := 4) nd rfl (Or.inl rfl)) (pgs_cons (pg_name (i := 5) nd rfl (Or.inl rfl)) pgs_nil))))
    (pss_cons (ps_set (i := 6) nd rfl (Or.inl rfl) (pe_lst (pa_cons (pv 4) pa_nil)))
    (pss_cons (ps_set (i := 7) nd rfl (Or.inl rfl) (pe_tup (pa_cons pe_str (pa_cons (pe_lst pa_nil) pa_nil))))
    (pss_cons (ps_for PassesOwn.never rfl (pi_range2 (by rfl) B.range (pa_cons pe_int (pa_cons (pe_callB (call_min2 rfl) (by rfl) B.min (by decide +kernel) (pa_cons pe_int (pa_cons (pe_callB call_len_seq (by rfl) B.len PySem.boot_len (pa_cons (pv 0) pa_nil)) pa_nil))) pa_nil))) (pg_name (i := 8) nd rfl (Or.inl rfl))
      (pss_cons (ps_set (i := 9) nd rfl (Or.inl rfl) (pe_call GC.ok r1 rfl GC.g GC.k GC.b .nil pass0 (pa_cons (pv 0) (pa_cons (pv 8) pa_nil))))
      (C8.pss_cut (ps_if (pt_cmpR op_eq (pe_op op_mod (pv 9) pe_int) pe_int (nomark _)) (pss_cons (ps_asg (pe_ix (r := rIxL K) ix_list (pv 3) (pe_op op_mod (pe_op op_fdiv (pv 9) pe_int) (pe_callB call_len_seq (by rfl) B.len PySem.boot_len (pa_cons (pv 3) pa_nil))) (fun _ _ => rfl)) (pg_tup rfl (pgs_cons (pg_name (i := 10) nd rfl (Or.inl rfl)) (pgs_cons (pg_name (i := 4) nd rfl (Or.inl rfl)) pgs_nil))))
        (pss_one (ps_if (pt_cmpR op_eq (pe_ix (r := rIxT K) ix_tup (pv 7) pe_int (fun _ _ => rfl)) pe_str (nomark _)) (pss_one (ps_set (i := 7) nd rfl (Or.inl rfl) (pe_tup (pa_cons (pv 10) (pa_cons (pe_lst pa_nil) pa_nil))))) pss_nil))) (pss_cons (ps_set (i := 4) nd rfl (Or.inl rfl) (pe_ix (r := rIxL K) ix_list (pv 2) (pe_op op_mod (pe_op op_fdiv (pv 9) pe_int) (pe_callB call_len_seq (by rfl) B.len PySem.boot_len (pa_cons (pv 2) pa_nil))) (fun _ _ => rfl)))
        (pss_one (ps_if (PW.pt (pw_and (pt_cmpR op_eq (pe_ix (r := rIxT K) ix_tup (pv 7) pe_int (fun _ _ => rfl)) pe_str (nomark _)) (pw_and (pt_cmpR op_eq (pe_ix (r := rIxL K) ix_list (pv 4) pe_int (fun _ _ => rfl)) pe_str (nomark _)) (pw_and1 (pt_cmpR op_notIn_seq (pe_ix (r := rIxL K) ix_list (pv 4) pe_int (fun _ _ => rfl)) (pe_ix (r := rIxT K) ix_tup (pv 7) pe_int (fun _ _ => rfl)) (by rfl)))))) (pss_one (ps_set (i := 7) nd rfl (Or.inl rfl) (pe_tup (pa_cons pe_str (pa_cons (pe_op op_cat (pe_ix (r := rIxT K) ix_tup (pv 7) pe_int (fun _ _ => rfl)) (pe_lst (pa_cons (pe_ix (r := rIxL K) ix_list (pv 4) pe_int (fun _ _ => rfl)) pa_nil))) pa_nil))))) pss_nil))))
      (pss_one (ps_expr (pe_bm PySem.F.plainAttrs_list PySem.F.slot_list_append PySem.F.type_list_append mt_append (pv 6) (pa_cons (pv 4) pa_nil)))))))
    (pss_cons (ps_if (PW.pt (pw_or (pt_cmpR op_ne (pe_call GN.ok r5 rfl GN.g GN.k GN.b .nil pass0 (pa_cons (pv 6) pa_nil)) (pv 5) (nomark _)) (pw_or1 (pt_cmpR op_notN (pe_call GN.ok r5 rfl GN.g GN.k GN.b .nil pass0 (pa_cons (pe_slice sl_list (pv 6) (po_some pe_int) (po_some pe_int)) pa_nil)) pe_non (nomark _))))) (pss_one (ps_ret pe_bl)) pss_nil)
    (pss_one (ps_ret (pe_cmpR (op_eqD hr.units) (pe_call GT.ok hr rfl GT.g GT.k GT.b .nil pass0 (pa_cons (pv 6) pa_nil)) (pv 7) (nomark _)))))))))))), ?_⟩
  refine ⟨rfl, fun L1 us1 H1 s1 h1 al1 => ⟨rfl, fun L2 us2 H2 s2 h2 al2 => ⟨rfl, fun L3 us3 H3 s3 h3 al3 => ?_⟩⟩⟩
  have s03 : Sm No H H3 := s1.trans (s2.trans s3)
  have h1' := (s2.trans s3).lst0 h1
  have h2' := s3.lst0 h2
  have al1' := al1.mono fun _ _ r => r.sm (s2.trans s3)
  have al2' := al2.mono fun _ _ r => r.sm s3
  have lf : us1.length = 13 := by rw [al1.len]; decide +kernel
  have hs3 : SqL K H3 a (ns.map V.int) := s03.seq (fun z => z) hs
  refine ⟨_, rfl, _, rfl, a, ns, 0, rfl, hs3, by decide, fun c0 => ?_⟩
  obtain ⟨j0, hj0, lj0⟩ := mod_lt c0 (n := us1.length) (by omega)
  obtain ⟨u0, hu0⟩ : ∃ u, us1[j0]? = some u := ⟨_, List.getElem?_eq_getElem lj0⟩
  obtain ⟨⟨d0, nm⟩, hx0, p0, w0, rfl, hp0, rw0⟩ := al1'.2 j0 u0 hu0
  have f0 := List.all_eq_true.mp first_all (d0, nm) (List.mem_of_getElem? hx0)
  rw [Bool.and_eq_true, Bool.and_eq_true, decide_eq_true_iff] at f0
  obtain ⟨sh0, fb0, nm0⟩ := f0
  have fi0 := formB_ok fb0
  refine ⟨_, rfl, L1, _, rfl, .inl (SqL.of h1'), _, _, rfl, rfl, (by show (0 : Int) < ((us1.length : Nat) : Int); omega), L1, _, _, .ref p0, rfl, rfl, SqL.of h1', by rw [hj0]; exact atI_nat hu0, ?_⟩
  refine ⟨p0, _, rfl, SqT.of hp0, rfl, _, _, rfl, _, _, rfl, rfl, ?_⟩
  refine ⟨_, rfl, by show 1 ≤ sizeLine; decide, fun Dd hDd => ⟨by show 0 ≤ sizeLine; decide, fun Ld hLd => ⟨by show 2 ≤ sizeLine; decide, fun pd hpd => ?_⟩⟩⟩
  have t1 : Sm No H3 (upd H3 Dd (.lst [w0])) := Sm.new hDd
  have t2 := t1.trans (Sm.new (o := .lst []) hLd)
  have t3 := t2.trans (Sm.new (o := .tup [.str "modules", .ref Ld]) hpd)
  have nLD : Ld ≠ Dd := fun z => by rw [z, upd_same] at hLd; cases hLd
  have hD4 : upd (upd (upd H3 Dd (.lst [w0])) Ld (.lst [])) pd (.tup [.str "modules", .ref Ld]) Dd = some (.lst [w0]) := ((Sm.new hLd : Sm No _ _).trans (Sm.new hpd)).lst0 upd_same
  have tx4 : TX Dd (upd (upd (upd H3 Dd (.lst [w0])) Ld (.lst [])) pd (.tup [.str "modules", .ref Ld])) (.ref pd) "modules" [] := ⟨pd, Ld, rfl, upd_same, (Sm.new hpd : Sm No _ _).lst0 upd_same, nLD⟩
  show tSeq _ _ _ _ (upd (upd (upd H3 Dd (.lst [w0])) Ld (.lst [])) pd (.tup [.str "modules", .ref Ld]))
  generalize upd (upd (upd H3 Dd (.lst [w0])) Ld (.lst [])) pd (.tup [.str "modules", .ref Ld]) = H4 at t3 hD4 tx4
  have hs4 : SqL K H4 a (ns.map V.int) := t3.seq (fun z => z) hs3
  have D0 : DueR [] "modules" [] := ⟨⟨.ok, rfl, rfl, rfl, fun z => absurd rfl z⟩, by decide +kernel, fun s m => by simp at m, Nat.le_refl _⟩
  have hm : ∃ m : Int, m = (if (((ns.map V.int).length : Nat) : Int) < 8 then (((ns.map V.int).length : Nat) : Int) else 8) ∧ 0 ≤ m ∧ m ≤ 8 := by
    refine ⟨_, rfl, ?_, ?_⟩
    · split <;> omega
    · split <;> omega
  obtain ⟨m, em, m0, m8⟩ := hm
  refine ⟨_, rfl, a, _, rfl, .inl hs4, _, _, rfl, 1, m, by rw [em], ⟨by decide, by decide, by omega, by omega⟩, ?_⟩
  refine for_range (lo := 1) (n := (m - 1).toNat) (fun i σ H' => ∃ (v4 v8 v9 v10 : Option V) (due : V) (ds : List Dt) (us : List V) (k : Str) (nn : List Str), σ = [some (.ref a), some (.ref L1), some (.ref L2), some (.ref L3), v4, some (oV nm), some (.ref Dd), some due, v8, v9, v10] ∧
      H' Dd = some (.lst (w0 :: us)) ∧ Al (Rq H3) us ds ∧ (∀ d ∈ ds, Shp d ∧ fineF d) ∧ ds.length = i ∧ TX Dd H' due k nn ∧ DueR ds k nn ∧ Sm No H3 H')
    ⟨_, _, _, _, _, [], [], "modules", [], rfl, hD4, Al.nil, fun d m => by simp at m, rfl, tx4, D0, t3⟩ ?_ ?_
  · rintro i σ H5 hi ⟨v4, v8, v9, v10, due, ds, us, k, nn, rfl, hD, al, fi, li, tx, D, sm⟩
    have hs5 : SqL K H5 a (ns.map V.int) := sm.seq (fun z => z) hs3
    refine ⟨_, rfl, _, rfl, a, ns, i + 1, by rw [show (1 + (i : Int)) = ((i + 1 : Nat) : Int) by omega]; rfl, hs5, by omega, fun c => ?_⟩
    refine ⟨fun σ' H' => ∃ (v10 : Option V) (due' u : V) (d : Dt) (k' : Str) (nn' : List Str), σ' = [some (.ref a), some (.ref L1), some (.ref L2), some (.ref L3), some u, some (oV nm), some (.ref Dd), some due', some (.int (1 + (i : Int))), some (.int c), v10] ∧
      Rq H3 u d ∧ Shp d ∧ fineF d ∧ TX Dd H' due' k' nn' ∧ DueR (ds ++ [d]) k' nn' ∧ Sm No H5 H', ?_, ?_⟩
    · refine ⟨_, rfl, _, _, rfl, rfl, (by show (0 : Int) < 6; decide), rfl, _, rfl, ?_⟩
      refine ite2 (fun hc => ?_) (fun hc => ?_)
      · -- a malformed form
        obtain ⟨j, hj, lj⟩ := mod_lt (c / 6) (n := us3.length) (by rw [al3.len]; decide +kernel)
        obtain ⟨u1, hu1⟩ : ∃ u, us3[j]? = some u := ⟨_, List.getElem?_eq_getElem lj⟩
        obtain ⟨⟨kk, d⟩, hx, p1, w1, rfl, hp1, rw1⟩ := al3.2 j u1 hu1
        have f1 := List.all_eq_true.mp bad_all (kk, d) (List.mem_of_getElem? hx)
        rw [Bool.and_eq_true, Bool.and_eq_true, Bool.and_eq_true, Bool.and_eq_true] at f1
        obtain ⟨sh1, fb1, so1, ok1, nm1⟩ := f1
        obtain ⟨r, hr1, hr2, hr3⟩ := sameO_ok so1
        have nm1 : kk ≠ "modules" := fun z => by rw [decide_eq_true z] at nm1; cases nm1
        have h3' := sm.lst0 h3
        refine ⟨_, rfl, _, rfl, _, _, rfl, rfl, ⟨by decide, by decide⟩, _, rfl, L3, _, rfl, .inl (SqL.of h3'), _, _, rfl, rfl, (by show (0 : Int) < ((us3.length : Nat) : Int); omega), L3, _, _, .ref p1, rfl, rfl, SqL.of h3', by rw [hj]; exact atI_nat hu1, ?_⟩
        refine ⟨p1, _, rfl, SqT.of (sm.tup (fun z => z) hp1), rfl, _, _, rfl, _, _, rfl, rfl, ?_⟩
        obtain ⟨b1, b2⟩ := D.bad hr1 hr2 hr3 ok1 nm1
        obtain ⟨p, L, rfl, hp, hL, nL⟩ := tx
        refine ⟨_, rfl, p, _, 0, _, rfl, rfl, SqT.of hp, at0, rfl, _, rfl, ?_⟩
        rw [dec_str]
        by_cases ek : k = "modules"
        · rw [decide_eq_true ek]
          refine iteT ⟨_, rfl, by show 0 ≤ sizeLine; decide, fun l hl => ⟨by show 2 ≤ sizeLine; decide, fun p' hp' => ?_⟩⟩
          have x1 : Sm No H5 (upd H5 l (.lst [])) := Sm.new hl
          have x2 : Sm No (upd H5 l (.lst [])) (upd (upd H5 l (.lst [])) p' (.tup [.str kk, .ref l])) := Sm.new hp'
          exact ⟨_, _, w1, d, kk, [], rfl, rw1, sh1, formB_ok fb1, ⟨p', l, rfl, upd_same, x2.lst0 upd_same, fun z => by rw [z, hD] at hl; cases hl⟩, b1 ek, x1.trans x2⟩
        · rw [decide_eq_false ek]
          exact iteF ⟨_, _, w1, d, k, nn, rfl, rw1, sh1, formB_ok fb1, ⟨p, L, rfl, hp, hL, nL⟩, b2 ek, Sm.refl _ _⟩
      · -- a good form
        obtain ⟨j, hj, lj⟩ := mod_lt (c / 6) (n := us2.length) (by rw [al2.len]; decide +kernel)
        obtain ⟨u1, hu1⟩ : ∃ u, us2[j]? = some u := ⟨_, List.getElem?_eq_getElem lj⟩
        obtain ⟨d, hx, rw1⟩ := al2'.2 j u1 hu1
        have f1 := List.all_eq_true.mp good_all d (List.mem_of_getElem? hx)
        rw [Bool.and_eq_true, Bool.and_eq_true] at f1
        obtain ⟨sh1, fb1, ok1⟩ := f1
        have hok := isOkO_ok ok1
        have h2'' := sm.lst0 h2'
        refine ⟨_, rfl, _, rfl, _, _, rfl, rfl, ⟨by decide, by decide⟩, _, rfl, L2, _, rfl, .inl (SqL.of h2''), _, _, rfl, rfl, (by show (0 : Int) < ((us2.length : Nat) : Int); omega), L2, _, _, u1, rfl, rfl, SqL.of h2'', by rw [hj]; exact atI_nat hu1, ?_⟩
        obtain ⟨g1, g2⟩ := D.good hok sh1
        have fid := formB_ok fb1
        obtain ⟨p, L, rfl, hp, hL, nL⟩ := tx
        have stay : k ≠ "modules" ∨ addM nn d = nn → ∃ (v10' : Option V) (due' u : V) (d' : Dt) (k' : Str) (nn' : List Str), [some (.ref a), some (.ref L1), some (.ref L2), some (.ref L3), some u1, some (oV nm), some (.ref Dd), some (V.ref p), some (.int (1 + (i : Int))), some (.int c), v10] = [some (.ref a), some (.ref L1), some (.ref L2), some (.ref L3), some u, some (oV nm), some (.ref Dd), some due', some (.int (1 + (i : Int))), some (.int c), v10'] ∧
            Rq H3 u d' ∧ Shp d' ∧ fineF d' ∧ TX Dd H5 due' k' nn' ∧ DueR (ds ++ [d']) k' nn' ∧ Sm No H5 H5 := fun h => by
          by_cases ek : k = "modules"
          · have e2 : addM nn d = nn := h.resolve_left fun z => z ek
            have := g1 ek
            rw [e2] at this
            exact ⟨_, _, u1, d, k, nn, rfl, rw1, sh1, fid, ⟨p, L, rfl, hp, hL, nL⟩, by rw [ek]; exact this, Sm.refl _ _⟩
          · exact ⟨_, _, u1, d, k, nn, rfl, rw1, sh1, fid, ⟨p, L, rfl, hp, hL, nL⟩, g2 ek, Sm.refl _ _⟩
        refine ⟨_, rfl, p, _, 0, _, rfl, rfl, SqT.of hp, at0, rfl, _, rfl, ?_⟩
        rw [dec_str]
        by_cases ek' : k ≠ "modules"
        · rw [decide_eq_false ek']
          exact iteF (stay (.inl ek'))
        have ek : k = "modules" := Classical.not_not.mp ek'
        rw [decide_eq_true ek]
        refine iteT ?_
        obtain ⟨wd, r, rfl, imp⟩ := formF_ok hok
        have rw2 := rw1
        cases rw2 with
        | @lst b ws _ hb rb =>
        have hb5 := sm.lst0 hb
        cases rb with
        | @cons x _ ws _ rx rb =>
        cases rx
        refine ⟨_, rfl, b, _, 0, _, rfl, rfl, SqL.of hb5, at0, rfl, _, rfl, ?_⟩
        rw [dec_str]
        by_cases ew' : wd ≠ "\u0069mport"
        · rw [decide_eq_false ew']
          refine iteF (stay (.inr ?_))
          cases r with
          | nil => rfl
          | cons y r =>
            show (bif decide (wd = "\u0069mport") then _ else nn) = nn
            rw [decide_eq_false ew']; rfl
        have ew : wd = "\u0069mport" := Classical.not_not.mp ew'
        rw [decide_eq_true ew]
        obtain ⟨mm, r', rfl⟩ := imp ew
        cases rb with
        | @cons y _ ws _ ry rb =>
        cases ry
        have ad : addM nn (.lst (.str wd :: .str mm :: r')) = bif nn.contains mm then nn else nn ++ [mm] := by
          show (bif decide (wd = "\u0069mport") then addW nn (.str mm) else nn) = _
          rw [decide_eq_true ew]; rfl
        refine iteT ⟨_, rfl, b, _, 1, _, rfl, rfl, SqL.of hb5, at1, _, rfl, p, _, 1, _, rfl, rfl, SqT.of hp, at1, L, _, rfl, .inl (SqL.of hL), rfl, ?_, _, rfl, ?_⟩
        · rw [List.all_eq_true]
          intro v hv
          obtain ⟨z, _, rfl⟩ := List.mem_map.mp hv
          rfl
        rw [if_pos rfl, inV_str]
        cases hm2 : nn.contains mm with
        | true =>
          refine iteF (stay (.inr ?_))
          rw [ad, hm2]; rfl
        | false =>
          refine iteT ⟨_, rfl, p, _, 1, _, rfl, rfl, SqT.of hp, at1, _, rfl, b, _, 1, _, rfl, rfl, SqL.of hb5, at1, by show 1 ≤ sizeLine; decide, fun l hl => ?_⟩
          have x1 : Sm No H5 (upd H5 l (.lst [.str mm])) := Sm.new hl
          refine ⟨L, l, _, _, rfl, rfl, x1.lst0 hL, upd_same, ?_, fun z hz => ⟨by show 2 ≤ sizeLine; decide, fun p' hp' => ?_⟩⟩
          · have := D.l
            rw [List.length_map]
            exact Nat.le_of_lt (line_of (by show nn.length + 1 ≤ 1000; omega))
          have x2 : Sm No (upd H5 l (.lst [.str mm])) (upd (upd H5 l (.lst [.str mm])) z (.lst (nn.map V.str ++ [.str mm]))) := Sm.new hz
          have x3 : Sm No (upd (upd H5 l (.lst [.str mm])) z (.lst (nn.map V.str ++ [.str mm]))) (upd (upd (upd H5 l (.lst [.str mm])) z (.lst (nn.map V.str ++ [.str mm]))) p' (.tup [.str "modules", .ref z])) := Sm.new hp'
          have := g1 ek
          rw [ad, hm2] at this
          refine ⟨_, _, _, _, "modules", nn ++ [mm], rfl, rw1, sh1, fid, ⟨p', z, rfl, upd_same, ?_, fun e => by rw [e, x1.lst0 hD] at hz; cases hz⟩, this, (x1.trans x2).trans x3⟩
          rw [List.map_append]
          exact x3.lst0 upd_same
    · rintro σ' H6 ⟨v10', due', u, d, k', nn', rfl, rw1, sh1, fi1, tx6, D6, s6⟩
      have hD6 := s6.lst0 hD
      have lus := al.len
      refine ⟨_, rfl, .inl ⟨rfl, _, SqL.of hD6⟩, _, rfl, Dd, _, _, rfl, rfl, hD6, line_of (by rw [List.length_cons]; omega), ?_⟩
      refine ⟨_, _, _, _, _, ds ++ [d], us ++ [u], k', nn', rfl, upd_same, al.snoc rw1, fun z hz => ?_, by rw [List.length_append, li]; rfl, tx6.put hD6, D6, (sm.trans s6).mut hDd (ntbl_l hD6)⟩
      rcases List.mem_append.mp hz with hz | hz
      · exact fi z hz
      · rw [List.mem_singleton.mp hz]
        exact ⟨sh1, fi1⟩
  · rintro σ H5 ⟨v4, v8, v9, v10, due, ds, us, k, nn, rfl, hD, al, fi, li, tx, D, sm⟩
    obtain ⟨o, h1, h2, h3, h4⟩ := D.ex
    have rq5 : RqL H5 (w0 :: us) (d0 :: ds) := .cons (rw0.sm sm) (RqL.sm sm (al_rq al))
    refine ⟨_, rfl, Dd, _, _, rfl, hD, rq5, fun d m => ?_, fun H6 s6 => ?_⟩
    · rcases List.mem_cons.mp m with rfl | m
      · exact sh0
      · exact (fi d m).1
    have en : nameF (d0 :: ds) = nm := nm0
    rw [en]
    have hD6 := s6.lst0 hD
    have sc : scal (oV nm) (oV nm) = true := by cases nm <;> rfl
    refine ⟨_, rfl, sc, false, by rw [decide_eq_true rfl]; rfl, iteF ?_⟩
    have e1 : cutV (w0 :: us) (some 1) (some 1) = [] := by
      have := cut_mid (xs := w0 :: us) (j := 1) (k := 1) (Nat.le_refl _) (by simp)
      rw [show (some (1 : Int)) = some ((1 : Nat) : Int) from rfl, this]; rfl
    refine ⟨_, rfl, _, rfl, _, rfl, Dd, _, rfl, SqL.of hD6, fun p7 hp7 => ?_⟩
    rw [e1]
    have s7 : Sm No H6 (upd H6 p7 (.lst [])) := Sm.new hp7
    refine ⟨p7, [], [], rfl, upd_same, .nil, (fun d m => by simp at m), fun H8 s8 => ⟨rfl, false, by rw [show oV (nameF []) = V.non from rfl, decide_eq_true rfl]; rfl, iteF ?_⟩⟩
    have s58 := s6.trans (s7.trans s8)
    have s08 : Sm No H H8 := s03.trans (sm.trans s58)
    have lds : ds.length ≤ 8 := by omega
    refine ⟨_, rfl, Dd, _, d0 :: ds, o, rfl, s58.lst0 hD, RqL.sm s58 rq5, fun d m => ?_, by simp, by simp; omega, s08.tab _ tg1, s08.tab _ tg2, s08.tab _ tg3, h1, fun v H9 s9 td => ⟨_, rfl, _, _, td_dp td, td_dp ((tx.sm (s58.trans s9)).td), ?_, td_shaped D.k D.n, ?_⟩⟩
    · rcases List.mem_cons.mp m with rfl | m
      · exact fi0
      · exact (fi d m).2
    · rw [List.drop_one, List.tail_cons, ← h2, ← h3]
      exact td_shaped D.k D.n
    · rw [List.drop_one, List.tail_cons, ← h2, ← h3, SeqAt.eqv_refl _ (by
        have := td_shaped D.k D.n
        unfold SeqAt.shaped at this
        rw [Bool.and_eq_true] at this
        exact this.1)]
      exact q _
end
end My
namespace My
open PySem PySem.Spec PyProof.Rows L2 He
abbrev dd (i : Nat) (x : Str) : DefD := ⟨(x, none), x, x, defArgs (top i), defBody (top i), defScope (top i), [], []⟩
abbrev dc (i j : Nat) (x m q : Str) : DefD := ⟨(x, some m), m, q, defArgs (inClass (top i) j), defBody (inClass (top i) j), defScope (inClass (top i) j), [], []⟩
def fnK : List DefD := [dc 6 0 "DuplicateName" "__init__" "DuplicateName.__init__", dc 9 0 "NewName" "__init__" "NewName.__init__", dd 10 "written", dd 11 "is_word", dd 12 "can_be_bound", dd 16 "check_size",
  dd 17 "words_of", dd 18 "is_variable", dd 19 "ends_with_dots", dd 20 "pattern_parts", dd 21 "pattern_variables", dd 22 "template_parts",
  dd 23 "check_repeated", dd 24 "check_template", dd 25 "checked_rule", dd 26 "macro_parts", dd 28 "check_names", dd 29 "item_names",
  dd 30 "check_import", dd 31 "check_export", dd 32 "check_define", dd 33 "check_macro", dd 35 "check_form", dd 36 "module_name",
  dd 37 "imported_modules", dd 39 "_law_cell", dd 40 "_law_first", dd 41 "_law_good", dd 42 "_law_bad", dd 43 "_law_name",
  dd 44 "_law_told", dd 45 "law"]
def faK : List Fa := [.glo "FoldError", .glo "TooDeep", .glo "TooLarge", .glo "InvalidForm", .glo "InvalidRule", .glo "DuplicateName",
  .glo "NewName", .glo "written", .glo "is_word", .glo "can_be_bound", .glo "check_size", .glo "words_of",
  .glo "is_variable", .glo "ends_with_dots", .glo "pattern_parts", .glo "pattern_variables", .glo "template_parts", .glo "check_repeated",
  .glo "check_template", .glo "checked_rule", .glo "macro_parts", .glo "check_names", .glo "item_names", .glo "check_import",
  .glo "check_export", .glo "check_define", .glo "check_macro", .glo "check_form", .glo "module_name", .glo "imported_modules",
  .glo "_law_cell", .glo "_law_first", .glo "_law_good", .glo "_law_bad", .glo "_law_name", .glo "_law_told",
  .glo "law", .glo "FORM_CHECKS", .exc "TooDeep", .exc "TooLarge", .exc "InvalidForm", .exc "InvalidRule",
  .exm "InvalidForm" "InvalidForm" true, .exm "InvalidRule" "InvalidForm" false, .exm "InvalidRule" "InvalidRule" true, .exm "DuplicateName" "InvalidForm" false, .exm "DuplicateName" "InvalidRule" false, .exm "DuplicateName" "DuplicateName" true,
  .str "DOTS" "...", .int "MOST_LISTS" 60, .int "MOST_DATA" 500, .free "int", .free "len", .free "range",
  .free "str", .free "list", .free "min", .free "any", .free "all", .free "isinstance",
  .free "ValueError"]
def tfK : List Defn := [("pattern_parts", none), ("check_repeated", none), ("macro_parts", none)]
def tsK : List Tab := [(fun K => ga K "FORM_CHECKS", ["\u0069mport", "export", "define", "macro"])]
/-- an exception's class over own ones and ValueError -/
def excB (K : PySem.W.Frag) (C : Addr) : Bool := match K.lookup C with
  | some ⟨.type "type", _, .cls cd, sl⟩ => (match cd.mro, sl.toList with
    | .ref C' :: bm, [_, _, _, _, some (.builtin n), _] => C' == C && (n == "ValueError.__new__" && (!cd.hasDel && (cd.hasDict && PySem.HandSPX.refsVE bm)))
    | _, _ => false)
  | _ => false
/-- all that is asked of one exception class with fields at -/
def excAll (K : PySem.W.Frag) (x : Str) : Bool :=
  excB K (ga K x) && (eqO (PySem.W.findIn K (.ref (ga K x)) "__setattr__") (some (some (.builtin "object.__setattr__"))) &&
  (decide (PySem.W.subIn K (.ref (ga K x)) (.type "BaseException") = some true) && (decide (PySem.W.typeIn K (.ref (ga K x)) = some (.type "type")) && (PySem.W.keepIn K (.ref (ga K x)) &&
  (eqO (PySem.W.findIn K (.ref (ga K x)) "__getattribute__") (some (some (.builtin "BaseException.__getattribute__"))) && (eqO (PySem.W.findIn K (.ref (ga K x)) "__getattr__") (some none) &&
  (PySem.W.hasDictIn K (ga K x) && (eqO (PySem.W.findIn K (.ref (ga K x)) "__class__") (some (some (.builtin "object.__class__"))) && (decide (PySem.W.mroIn K (ga K x) (.type "object") = some true) &&
  eqO (PySem.W.findIn K (.ref (ga K x)) "name") (some none))))))))))
def iniB (K : PySem.W.Frag) (x : Str) : Bool := eqO (PySem.W.findIn K (.ref (ga K x)) "__init__") (some (some (.ref (ma K (ga K x) "__init__")))) && decide (PySem.W.typeIn K (.ref (ma K (ga K x) "__init__")) = some (.type "function"))
def kitB (K : PySem.W.Frag) (x y : Str) (b : Bool) : Bool := decide (PySem.W.kitOne K (.ref (ga K x)) (.ref (ga K y)) = some b)
def valB (r : Option PySem.W.CFound) (n : String) : Bool := match r with
  | some (.val (.builtin m)) => m == n
  | _ => false
theorem valB_ok {r : Option PySem.W.CFound} {n : String} (h : valB r n = true) : r = some (.val (.builtin n)) := by
  unfold valB at h
  split at h
  · rw [eq_of_beq h]
  · cases h
def exK (K : PySem.W.Frag) : Bool := (excAll K "DuplicateName" && excAll K "InvalidForm") && (iniB K "DuplicateName" &&
  ((kitB K "InvalidForm" "FoldError" true && kitB K "InvalidForm" "InvalidRule" false) && ((eqO (PySem.W.specialIn K (.builtin "object.__class__") "__get__") (some (some (.builtin "getset_descriptor.__get__"))) && decide (PySem.W.takesIn K (.builtin "object.__class__") = some true)) &&
  ((PySem.W.readsIn K (ga K "FoldError") (.type "type") && (eqO (PySem.W.specialIn K (.ref (ga K "FoldError")) "__getattribute__") (some (some (.builtin "type.__getattribute__"))) && valB (PySem.W.findCls K (.ref (ga K "FoldError")) (.type "type") "__init__") "ValueError.__init__")) &&
  ((decide (PySem.W.kitOne K (.type "int") (.ref (ga K "NewName")) = some false) && (decide (PySem.W.kitOne K (.type "str") (.ref (ga K "NewName")) = some false) && decide (PySem.W.kitOne K (.type "list") (.ref (ga K "NewName")) = some false))) &&
  ((eqO (PySem.W.nsIn K (ga K "FORM_CHECKS") "\u0069mport") (some (some (.ref (ga K "check_import")))) && eqO (PySem.W.nsIn K (ga K "FORM_CHECKS") "export") (some (some (.ref (ga K "check_export"))))) && ((eqO (PySem.W.nsIn K (ga K "FORM_CHECKS") "define") (some (some (.ref (ga K "check_define")))) && eqO (PySem.W.nsIn K (ga K "FORM_CHECKS") "macro") (some (some (.ref (ga K "check_macro"))))) && eqO (PySem.W.nsIn K (ga K "FORM_CHECKS") "unknown") (some none))))))))
/-! ### the hook: what the module's names reach, and the statics -/
def reach (g : Addr → Option Obj) : List Addr := He.asD g 5 ++ [cStatics]
theorem says_of {fa : List Fa} {fn : List DefD} {ts : List Tab} {tf : List Defn} {ex : PySem.W.Frag → Bool} {w : World} {h : Heap} {as : List Addr} (e1 : obsT fa fn ts (frT h.get? as) = valT fn ts w)
    (e2 : (ex (frT h.get? as) && tabsB h.get? tf (frT h.get? as)) = true) : SaysX fa fn ts tf ex w h (frT h.get? as) := by
  obtain ⟨x1, x2⟩ := ba e2
  have key : ∀ p ∈ tf, PySem.W.codeHdIn (frT h.get? as) (cT (frT h.get? as) p).1 (cT (frT h.get? as) p).2 = true ∧ ∃ o, h.get? (cT (frT h.get? as) p).2 = some o ∧ emptyTab o = true := by
    intro p hp
    obtain ⟨y1, y2⟩ := ba (List.all_eq_true.mp x2 p hp)
    cases q : h.get? (cT (frT h.get? as) p).2 with
    | none => rw [q] at y2; cases y2
    | some o => rw [q] at y2; exact ⟨y1, o, rfl, y2⟩
  refine ⟨e1, x1, fun p hp => (key p hp).1, fun p hp => ?_, fun p hp => ?_⟩
  · obtain ⟨_, o, q, z⟩ := key p hp
    exact frT_none q z
  · obtain ⟨_, o, q, z⟩ := key p hp
    rw [q, emptyTab_eq z]
abbrev AlY : Type := AlT × Bool
def obsY (fa : List Fa) (fn : List DefD) (tf : List Defn) (ex : PySem.W.Frag → Bool) (g : Addr → Option Obj) : AlY := (obsT fa fn tsK (frT g (reach g)), ex (frT g (reach g)) && tabsB g tf (frT g (reach g)))
def hookY (fa : List Fa) (fn : List DefD) (tf : List Defn) (ex : PySem.W.Frag → Bool) : PySem.W.Hook where
  α := AlY
  obs := fun s => obsY fa fn tf ex s.heap.get?
  val := fun w => (valT fn tsK w, true)
  says := fun w h => ∃ K : PySem.W.Frag, K.In h ∧ SaysX fa fn tsK tf ex w h K
  of := fun _ _ e => ⟨_, frT_in, says_of (congrArg (fun z : AlY => z.1) e) (congrArg (fun z : AlY => z.2) e)⟩
  keeps := fun _ _ _ ⟨K, hK, c⟩ k => ⟨K, PySem.W.Frag.In.keeps hK k, ⟨c.t, c.more, c.hd, c.out, fun p hp => k _ _ (c.empty p hp)⟩⟩
abbrev R : PySem.W.OpenRow := PySem.W.OpenLaw.row PySem.Challenge.rw_aliasfold_k75_forms_of_a_module
abbrev hk : PySem.W.Hook := hookY faK fnK tfK exK
def ob (s : PySem.W.SharedT) : AlY := obsY faK fnK tfK exK (HandSHeadRun.getT s)
theorem ob_eq (s : PySem.W.SharedT) : ob s = hk.obs s.abs := by
  have e : HandSHeadRun.getT s = s.abs.heap.get? := funext (HandSHeadRun.getT_eq s)
  unfold ob
  rw [e] <;> rfl
def loose : List Str := [("FoldError" : Str), ("TooDeep" : Str), ("TooLarge" : Str), ("InvalidForm" : Str), ("InvalidRule" : Str), ("DuplicateName" : Str),
  ("NewName" : Str), ("DOTS" : Str), ("MOST_LISTS" : Str), ("MOST_DATA" : Str), ("FORM_CHECKS" : Str), ("written" : Str),
  ("is_word" : Str), ("can_be_bound" : Str), ("check_size" : Str), ("words_of" : Str), ("is_variable" : Str), ("ends_with_dots" : Str),
  ("pattern_parts" : Str), ("pattern_variables" : Str), ("template_parts" : Str), ("check_repeated" : Str), ("check_template" : Str), ("checked_rule" : Str),
  ("macro_parts" : Str), ("check_names" : Str), ("item_names" : Str), ("check_import" : Str), ("check_export" : Str), ("check_define" : Str),
  ("check_macro" : Str), ("check_form" : Str), ("module_name" : Str), ("imported_modules" : Str), ("_law_cell" : Str), ("_law_first" : Str),
  ("_law_good" : Str), ("_law_bad" : Str), ("_law_name" : Str), ("_law_told" : Str)]
theorem headRun (w : World) : HandSHeadRun.RunEq R (PySem.W.view R.prog [45]) hk ob 4000 loose w := by
  refine PySem.W.byRow2 "special-get-raises" (P := fun w => HandSHeadRun.RunEq R (PySem.W.view R.prog [45]) hk ob 4000 loose w) (fun w => ?_) (fun w => ?_) w
  · intro os
    kernel_rfl
  · intro os
    kernel_rfl
end My
namespace My
open PySem PySem.Spec PyProof.Rows L2 TL
section
open He
variable {K : PySem.W.Frag} {h : Heap} {mg : Str → Option Value} {w : World}
theorem fun_of {x q : Str} {st : Stmt} {f : Addr} {fd : FuncData} (F : FunD K x q (defArgs st) (defBody st) (defScope st) [] [] f fd) : Fun K x q st f fd := by
  obtain ⟨oc, od, dV, kV, doc, pm, an, cdv, ct, osl, e, lk, hcd, hD, hK⟩ := F.ex
  rcases hD with ⟨_, rfl⟩ | ⟨e, _⟩
  · exact ⟨⟨oc, od, kV, doc, pm, an, cdv, ct, osl, e, lk, hcd⟩, F.kp⟩
  · exact absurd rfl e
theorem func_of {x : Str} {st : Stmt} {fd : FuncData} (F : Fun K x x st (ga K x) fd) : FunC K x st (ga K x) fd (codeOf K (x, none)) := by
  obtain ⟨oc, od, kV, doc, pm, an, cdv, ct, osl, e, lk, hcd⟩ := F.ex
  obtain ⟨c, ec⟩ := codeIn_ref hcd
  subst ec
  subst e
  have e2 : codeOf K (x, none) = c := codeOf_eq (p := (x, none)) lk rfl
  rw [e2]
  exact ⟨⟨oc, od, kV, doc, pm, an, ct, osl, rfl, lk, hcd⟩, F.kp⟩
theorem excB_ok {C : Addr} (q : excB K C = true) : ∃ nm q N bs bm sn sub ab col dd k0 k1 k2 k3 k5, K.lookup C = some (excClassObj nm q C N bs bm true sn sub ab col dd k0 k1 k2 k3 k5 "ValueError.__new__") ∧ PySem.HandSPX.refsVE bm = true := by
  unfold excB at q
  split at q
  · rename_i dd cd sl ho
    split at q
    · rename_i C' bm k0 k1 k2 k3 n k5 hm hs
      simp only [Bool.and_eq_true, beq_iff_eq, Bool.not_eq_true'] at q
      obtain ⟨e1, e2, hdel, hd, hr⟩ := q
      obtain ⟨nm, bs, mro, ns, qn, hdct, sn, sub, ab, col, del⟩ := cd
      dsimp only at hm hdel hd
      subst hm hdel hd e1 e2
      have hsl : sl = #[k0, k1, k2, k3, some (.builtin "ValueError.__new__"), k5] := by
        obtain ⟨l⟩ := sl
        simp only at hs
        rw [hs]
      subst hsl
      exact ⟨nm, qn, ns, bs, bm, sn, sub, ab, col, dd, k0, k1, k2, k3, k5, ho, hr⟩
    · cases q
  · cases q
structure ExAll (K : PySem.W.Frag) (C : Addr) : Prop where
  o : OexC K C
  ga : PySem.W.findIn K (.ref C) "__getattribute__" = some (some (.builtin "BaseException.__getattribute__"))
  gg : PySem.W.findIn K (.ref C) "__getattr__" = some none
  hd : PySem.W.hasDictIn K C = true
  cl : PySem.W.findIn K (.ref C) "__class__" = some (some (.builtin "object.__class__"))
  mro : PySem.W.mroIn K C (.type "object") = some true
  no : PySem.W.findIn K (.ref C) "name" = some none
theorem excAll_ok {x : Str} (q : excAll K x = true) : ExAll K (ga K x) := by
  obtain ⟨c1, q⟩ := ba q
  obtain ⟨c2, q⟩ := ba q
  obtain ⟨c3, q⟩ := ba q
  obtain ⟨c4, q⟩ := ba q
  obtain ⟨c5, q⟩ := ba q
  obtain ⟨c6, q⟩ := ba q
  obtain ⟨c7, q⟩ := ba q
  obtain ⟨c8, q⟩ := ba q
  obtain ⟨c9, q⟩ := ba q
  obtain ⟨c10, q⟩ := ba q
  exact ⟨⟨excB_ok c1, eqO_ok c2, of_decide_eq_true c3, of_decide_eq_true c4, c5⟩, eqO_ok c6, eqO_ok c7, c8, eqO_ok c9, of_decide_eq_true c10, eqO_ok q⟩
theorem iniB_ok {x : Str} (q : iniB K x = true) : PySem.W.findIn K (.ref (ga K x)) "__init__" = some (some (.ref (ma K (ga K x) "__init__"))) ∧ PySem.W.typeIn K (.ref (ma K (ga K x) "__init__")) = some (.type "function") := by
  obtain ⟨a, b⟩ := ba q
  exact ⟨eqO_ok a, of_decide_eq_true b⟩
end
end My
namespace My
open PySem PySem.Spec PyProof.Rows L2 TL He
abbrev row75 : PySem.W.OpenLaw := PySem.Challenge.rw_aliasfold_k75_forms_of_a_module
theorem facts {K : PySem.W.Frag} {h : Heap} {mg : Str → Option Value} {w : World} {fa : Addr} (c : SaysX faK fnK tsK tfK exK w h K) (X : K.In h) (G : h.Ns mainGlobals mg) (hfa : mg ("law" : Str) = some (.ref fa)) :
    LamX.LawAtS row75 w K CX0 11 63 "script" mg fa h := by
  have d := c.t.d
  have kd : ∃ es n, KDict K w (ga K "FORM_CHECKS") es n := c.t.tab 0 (t := (fun K => ga K "FORM_CHECKS", ["\u0069mport", "export", "define", "macro"]))
  have glo : ∀ x : Str, Fa.glo x ∈ faK → mg x = some (.ref (ga K x)) := fun x m => glo_ok X G (d.facts m)
  have fre : ∀ x : Str, Fa.free x ∈ faK → mg x = none := fun x m => free_ok X G (d.facts m)
  have B : Blt mg := ⟨fre _ (by simp [faK]), fre _ (by simp [faK]), fre _ (by simp [faK]), fre _ (by simp [faK]), fre _ (by simp [faK]), fre _ (by simp [faK]), fre _ (by simp [faK]), fre _ (by simp [faK]), fre _ (by simp [faK])⟩
  have eD : ∃ t, mg "DOTS" = some (.str "..." t) := str_ok X G (d.facts (f := .str "DOTS" "...") (by simp [faK]))
  have eL : ∃ t, mg "MOST_LISTS" = some (.int 60 t) := He.int_ok X G (d.facts (f := .int "MOST_LISTS" 60) (by simp [faK]))
  have eM : ∃ t, mg "MOST_DATA" = some (.int 500 t) := He.int_ok X G (d.facts (f := .int "MOST_DATA" 500) (by simp [faK]))
  obtain ⟨e1, m1⟩ := ba c.more
  obtain ⟨e2, m2⟩ := ba m1
  obtain ⟨e3, m3⟩ := ba m2
  obtain ⟨e4, m4⟩ := ba m3
  obtain ⟨e5, m5⟩ := ba m4
  obtain ⟨e6, m6⟩ := ba m5
  obtain ⟨e7, m7⟩ := ba m6
  obtain ⟨e8, e9⟩ := ba m7
  obtain ⟨e1a, e1b⟩ := ba e1
  obtain ⟨e3a, e3b⟩ := ba e3
  obtain ⟨e4a, e4b⟩ := ba e4
  obtain ⟨e5a, e5b⟩ := ba e5
  obtain ⟨e5b, e5c⟩ := ba e5b
  obtain ⟨e6a, e6b⟩ := ba e6
  obtain ⟨e6b, e6c⟩ := ba e6b
  obtain ⟨e7a, e7b⟩ := ba e7
  obtain ⟨e8a, e8b⟩ := ba e8
  have xxD := excAll_ok e1a
  have xxF := excAll_ok e1b
  have iD := iniB_ok e2
  have gFo := glo "FoldError" (by simp [faK])
  have gxD := glo "DuplicateName" (by simp [faK])
  have gxF := glo "InvalidForm" (by simp [faK])
  have gxR := glo "InvalidRule" (by simp [faK])
  have gxT := glo "TooDeep" (by simp [faK])
  have gxL := glo "TooLarge" (by simp [faK])
  have BC : BaseC K mg (ga K "FoldError") := ⟨gFo, e5a, eqO_ok e5b, valB_ok e5c⟩
  have NC : NewC K mg (ga K "NewName") := ⟨glo "NewName" (by simp [faK]), of_decide_eq_true e6a, of_decide_eq_true e6b, of_decide_eq_true e6c⟩
  obtain ⟨q1, q2, q3, q4⟩ := exc_ok (d.facts (f := .exc "InvalidForm") (by simp [faK]))
  have xF : PlainC K mg "InvalidForm" (ga K "InvalidForm") := ⟨q1, gxF, q2, q3, q4⟩
  obtain ⟨q1, q2, q3, q4⟩ := exc_ok (d.facts (f := .exc "InvalidRule") (by simp [faK]))
  have xR : PlainC K mg "InvalidRule" (ga K "InvalidRule") := ⟨q1, gxR, q2, q3, q4⟩
  obtain ⟨q1, q2, q3, q4⟩ := exc_ok (d.facts (f := .exc "TooDeep") (by simp [faK]))
  have xT : PlainC K mg "TooDeep" (ga K "TooDeep") := ⟨q1, gxT, q2, q3, q4⟩
  obtain ⟨q1, q2, q3, q4⟩ := exc_ok (d.facts (f := .exc "TooLarge") (by simp [faK]))
  have xL : PlainC K mg "TooLarge" (ga K "TooLarge") := ⟨q1, gxL, q2, q3, q4⟩
  have FC : FCh K w mg (ga K "FORM_CHECKS") (ga K "check_import") (ga K "check_export") (ga K "check_define") (ga K "check_macro") := ⟨glo "FORM_CHECKS" (by simp [faK]), kd, eqO_ok e7a, eqO_ok e7b, eqO_ok e8a, eqO_ok e8b, eqO_ok e9⟩
  have TC : ToldC K mg (ga K "FoldError") (ga K "InvalidForm") (ga K "InvalidRule") (ga K "DuplicateName") := ⟨gFo, gxF, gxR, gxD, exm_ok (d.facts (f := .exm "InvalidForm" "InvalidForm" true) (by simp [faK])), exm_ok (d.facts (f := .exm "InvalidRule" "InvalidForm" false) (by simp [faK])), exm_ok (d.facts (f := .exm "InvalidRule" "InvalidRule" true) (by simp [faK])), exm_ok (d.facts (f := .exm "DuplicateName" "InvalidForm" false) (by simp [faK])), exm_ok (d.facts (f := .exm "DuplicateName" "InvalidRule" false) (by simp [faK])), exm_ok (d.facts (f := .exm "DuplicateName" "DuplicateName" true) (by simp [faK])),
    ⟨xxD.ga, xxD.gg, xxD.o.exC, xxD.hd⟩, xxD.no, ⟨xxF.ga, xxF.gg, xxF.o.exC, xxF.hd, xxF.cl, eqO_ok e4a, of_decide_eq_true e4b, xxF.mro⟩, of_decide_eq_true e3a, of_decide_eq_true e3b⟩
  obtain ⟨dDuplicatename_Init, DDuplicatename_Init⟩ := d.def_ 0 (d := dc 6 0 "DuplicateName" "__init__" "DuplicateName.__init__") rfl
  have FDuplicatename_Init : Fun K "__init__" "DuplicateName.__init__" (inClass (top 6) 0) (ma K (ga K "DuplicateName") "__init__") dDuplicatename_Init := fun_of DDuplicatename_Init
  have bDuplicatename_Init : Binds K dDuplicatename_Init ["self", "name"] [] := FDuplicatename_Init.binds fun _ _ _ _ _ _ us hl => match us, hl with | [_, _], _ => rfl
  obtain ⟨dNewname_Init, DNewname_Init⟩ := d.def_ 1 (d := dc 9 0 "NewName" "__init__" "NewName.__init__") rfl
  have FNewname_Init : Fun K "__init__" "NewName.__init__" (inClass (top 9) 0) (ma K (ga K "NewName") "__init__") dNewname_Init := fun_of DNewname_Init
  have bNewname_Init : Binds K dNewname_Init ["self", "symbol", "scope"] [] := FNewname_Init.binds fun _ _ _ _ _ _ us hl => match us, hl with | [_, _, _], _ => rfl
  obtain ⟨dWritten, DWritten⟩ := d.def_ 2 (d := dd 10 "written") rfl
  have FWritten : Fun K "written" "written" (top 10) (ga K "written") dWritten := fun_of DWritten
  have bWritten : Binds K dWritten ["name"] [] := FWritten.binds fun _ _ _ _ _ _ us hl => match us, hl with | [_], _ => rfl
  obtain ⟨dIsWord, DIsWord⟩ := d.def_ 3 (d := dd 11 "is_word") rfl
  have FIsWord : Fun K "is_word" "is_word" (top 11) (ga K "is_word") dIsWord := fun_of DIsWord
  have bIsWord : Binds K dIsWord ["datum"] [] := FIsWord.binds fun _ _ _ _ _ _ us hl => match us, hl with | [_], _ => rfl
  obtain ⟨dCanBeBound, DCanBeBound⟩ := d.def_ 4 (d := dd 12 "can_be_bound") rfl
  have FCanBeBound : Fun K "can_be_bound" "can_be_bound" (top 12) (ga K "can_be_bound") dCanBeBound := fun_of DCanBeBound
  have bCanBeBound : Binds K dCanBeBound ["datum"] [] := FCanBeBound.binds fun _ _ _ _ _ _ us hl => match us, hl with | [_], _ => rfl
  obtain ⟨dCheckSize, DCheckSize⟩ := d.def_ 5 (d := dd 16 "check_size") rfl
  have FCheckSize : Fun K "check_size" "check_size" (top 16) (ga K "check_size") dCheckSize := fun_of DCheckSize
  have bCheckSize : Binds K dCheckSize ["rule"] [] := FCheckSize.binds fun _ _ _ _ _ _ us hl => match us, hl with | [_], _ => rfl
  obtain ⟨dWordsOf, DWordsOf⟩ := d.def_ 6 (d := dd 17 "words_of") rfl
  have FWordsOf : Fun K "words_of" "words_of" (top 17) (ga K "words_of") dWordsOf := fun_of DWordsOf
  have bWordsOf : Binds K dWordsOf ["datum"] [] := FWordsOf.binds fun _ _ _ _ _ _ us hl => match us, hl with | [_], _ => rfl
  obtain ⟨dIsVariable, DIsVariable⟩ := d.def_ 7 (d := dd 18 "is_variable") rfl
  have FIsVariable : Fun K "is_variable" "is_variable" (top 18) (ga K "is_variable") dIsVariable := fun_of DIsVariable
  have bIsVariable : Binds K dIsVariable ["part", "literals"] [] := FIsVariable.binds fun _ _ _ _ _ _ us hl => match us, hl with | [_, _], _ => rfl
  obtain ⟨dEndsWithDots, DEndsWithDots⟩ := d.def_ 8 (d := dd 19 "ends_with_dots") rfl
  have FEndsWithDots : Fun K "ends_with_dots" "ends_with_dots" (top 19) (ga K "ends_with_dots") dEndsWithDots := fun_of DEndsWithDots
  have bEndsWithDots : Binds K dEndsWithDots ["pattern"] [] := FEndsWithDots.binds fun _ _ _ _ _ _ us hl => match us, hl with | [_], _ => rfl
  obtain ⟨dPatternParts, DPatternParts⟩ := d.def_ 9 (d := dd 20 "pattern_parts") rfl
  have FPatternParts : Fun K "pattern_parts" "pattern_parts" (top 20) (ga K "pattern_parts") dPatternParts := fun_of DPatternParts
  have bPatternParts : Binds K dPatternParts ["pattern", "repeated"] [] := FPatternParts.binds fun _ _ _ _ _ _ us hl => match us, hl with | [_, _], _ => rfl
  obtain ⟨dPatternVariables, DPatternVariables⟩ := d.def_ 10 (d := dd 21 "pattern_variables") rfl
  have FPatternVariables : Fun K "pattern_variables" "pattern_variables" (top 21) (ga K "pattern_variables") dPatternVariables := fun_of DPatternVariables
  have bPatternVariables : Binds K dPatternVariables ["pattern", "literals"] [] := FPatternVariables.binds fun _ _ _ _ _ _ us hl => match us, hl with | [_, _], _ => rfl
  obtain ⟨dTemplateParts, DTemplateParts⟩ := d.def_ 11 (d := dd 22 "template_parts") rfl
  have FTemplateParts : Fun K "template_parts" "template_parts" (top 22) (ga K "template_parts") dTemplateParts := fun_of DTemplateParts
  have bTemplateParts : Binds K dTemplateParts ["template"] [] := FTemplateParts.binds fun _ _ _ _ _ _ us hl => match us, hl with | [_], _ => rfl
  obtain ⟨dCheckRepeated, DCheckRepeated⟩ := d.def_ 12 (d := dd 23 "check_repeated") rfl
  have FCheckRepeated : Fun K "check_repeated" "check_repeated" (top 23) (ga K "check_repeated") dCheckRepeated := fun_of DCheckRepeated
  have bCheckRepeated : Binds K dCheckRepeated ["part", "inside", "variables"] [] := FCheckRepeated.binds fun _ _ _ _ _ _ us hl => match us, hl with | [_, _, _], _ => rfl
  obtain ⟨dCheckTemplate, DCheckTemplate⟩ := d.def_ 13 (d := dd 24 "check_template") rfl
  have FCheckTemplate : Fun K "check_template" "check_template" (top 24) (ga K "check_template") dCheckTemplate := fun_of DCheckTemplate
  have bCheckTemplate : Binds K dCheckTemplate ["template", "variables"] [] := FCheckTemplate.binds fun _ _ _ _ _ _ us hl => match us, hl with | [_, _], _ => rfl
  obtain ⟨dCheckedRule, DCheckedRule⟩ := d.def_ 14 (d := dd 25 "checked_rule") rfl
  have FCheckedRule : Fun K "checked_rule" "checked_rule" (top 25) (ga K "checked_rule") dCheckedRule := fun_of DCheckedRule
  have bCheckedRule : Binds K dCheckedRule ["rule", "literals"] [] := FCheckedRule.binds fun _ _ _ _ _ _ us hl => match us, hl with | [_, _], _ => rfl
  obtain ⟨dMacroParts, DMacroParts⟩ := d.def_ 15 (d := dd 26 "macro_parts") rfl
  have FMacroParts : Fun K "macro_parts" "macro_parts" (top 26) (ga K "macro_parts") dMacroParts := fun_of DMacroParts
  have bMacroParts : Binds K dMacroParts ["macro"] [] := FMacroParts.binds fun _ _ _ _ _ _ us hl => match us, hl with | [_], _ => rfl
  obtain ⟨dCheckNames, DCheckNames⟩ := d.def_ 16 (d := dd 28 "check_names") rfl
  have FCheckNames : Fun K "check_names" "check_names" (top 28) (ga K "check_names") dCheckNames := fun_of DCheckNames
  have bCheckNames : Binds K dCheckNames ["names"] [] := FCheckNames.binds fun _ _ _ _ _ _ us hl => match us, hl with | [_], _ => rfl
  obtain ⟨dItemNames, DItemNames⟩ := d.def_ 17 (d := dd 29 "item_names") rfl
  have FItemNames : Fun K "item_names" "item_names" (top 29) (ga K "item_names") dItemNames := fun_of DItemNames
  have bItemNames : Binds K dItemNames ["item"] [] := FItemNames.binds fun _ _ _ _ _ _ us hl => match us, hl with | [_], _ => rfl
  obtain ⟨dCheckImport, DCheckImport⟩ := d.def_ 18 (d := dd 30 "check_import") rfl
  have FCheckImport : Fun K "check_import" "check_import" (top 30) (ga K "check_import") dCheckImport := fun_of DCheckImport
  have bCheckImport : Binds K dCheckImport ["form"] [] := FCheckImport.binds fun _ _ _ _ _ _ us hl => match us, hl with | [_], _ => rfl
  obtain ⟨dCheckExport, DCheckExport⟩ := d.def_ 19 (d := dd 31 "check_export") rfl
  have FCheckExport : Fun K "check_export" "check_export" (top 31) (ga K "check_export") dCheckExport := fun_of DCheckExport
  have bCheckExport : Binds K dCheckExport ["form"] [] := FCheckExport.binds fun _ _ _ _ _ _ us hl => match us, hl with | [_], _ => rfl
  obtain ⟨dCheckDefine, DCheckDefine⟩ := d.def_ 20 (d := dd 32 "check_define") rfl
  have FCheckDefine : Fun K "check_define" "check_define" (top 32) (ga K "check_define") dCheckDefine := fun_of DCheckDefine
  have bCheckDefine : Binds K dCheckDefine ["form"] [] := FCheckDefine.binds fun _ _ _ _ _ _ us hl => match us, hl with | [_], _ => rfl
  obtain ⟨dCheckMacro, DCheckMacro⟩ := d.def_ 21 (d := dd 33 "check_macro") rfl
  have FCheckMacro : Fun K "check_macro" "check_macro" (top 33) (ga K "check_macro") dCheckMacro := fun_of DCheckMacro
  have bCheckMacro : Binds K dCheckMacro ["form"] [] := FCheckMacro.binds fun _ _ _ _ _ _ us hl => match us, hl with | [_], _ => rfl
  obtain ⟨dCheckForm, DCheckForm⟩ := d.def_ 22 (d := dd 35 "check_form") rfl
  have FCheckForm : Fun K "check_form" "check_form" (top 35) (ga K "check_form") dCheckForm := fun_of DCheckForm
  have bCheckForm : Binds K dCheckForm ["form"] [] := FCheckForm.binds fun _ _ _ _ _ _ us hl => match us, hl with | [_], _ => rfl
  obtain ⟨dModuleName, DModuleName⟩ := d.def_ 23 (d := dd 36 "module_name") rfl
  have FModuleName : Fun K "module_name" "module_name" (top 36) (ga K "module_name") dModuleName := fun_of DModuleName
  have bModuleName : Binds K dModuleName ["data"] [] := FModuleName.binds fun _ _ _ _ _ _ us hl => match us, hl with | [_], _ => rfl
  obtain ⟨dImportedModules, DImportedModules⟩ := d.def_ 24 (d := dd 37 "imported_modules") rfl
  have FImportedModules : Fun K "imported_modules" "imported_modules" (top 37) (ga K "imported_modules") dImportedModules := fun_of DImportedModules
  have bImportedModules : Binds K dImportedModules ["data"] [] := FImportedModules.binds fun _ _ _ _ _ _ us hl => match us, hl with | [_], _ => rfl
  obtain ⟨dLCell, DLCell⟩ := d.def_ 25 (d := dd 39 "_law_cell") rfl
  have FLCell : Fun K "_law_cell" "_law_cell" (top 39) (ga K "_law_cell") dLCell := fun_of DLCell
  have bLCell : Binds K dLCell ["script", "k"] [] := FLCell.binds fun _ _ _ _ _ _ us hl => match us, hl with | [_, _], _ => rfl
  obtain ⟨dLFirst, DLFirst⟩ := d.def_ 26 (d := dd 40 "_law_first") rfl
  have FLFirst : Fun K "_law_first" "_law_first" (top 40) (ga K "_law_first") dLFirst := fun_of DLFirst
  have bLFirst : Binds K dLFirst [] [] := FLFirst.binds fun _ _ _ _ _ _ us hl => match us, hl with | [], _ => rfl
  obtain ⟨dLGood, DLGood⟩ := d.def_ 27 (d := dd 41 "_law_good") rfl
  have FLGood : Fun K "_law_good" "_law_good" (top 41) (ga K "_law_good") dLGood := fun_of DLGood
  have bLGood : Binds K dLGood [] [] := FLGood.binds fun _ _ _ _ _ _ us hl => match us, hl with | [], _ => rfl
  obtain ⟨dLBad, DLBad⟩ := d.def_ 28 (d := dd 42 "_law_bad") rfl
  have FLBad : Fun K "_law_bad" "_law_bad" (top 42) (ga K "_law_bad") dLBad := fun_of DLBad
  have bLBad : Binds K dLBad [] [] := FLBad.binds fun _ _ _ _ _ _ us hl => match us, hl with | [], _ => rfl
  obtain ⟨dLName, DLName⟩ := d.def_ 29 (d := dd 43 "_law_name") rfl
  have FLName : Fun K "_law_name" "_law_name" (top 43) (ga K "_law_name") dLName := fun_of DLName
  have bLName : Binds K dLName ["data"] [] := FLName.binds fun _ _ _ _ _ _ us hl => match us, hl with | [_], _ => rfl
  obtain ⟨dLTold, DLTold⟩ := d.def_ 30 (d := dd 44 "_law_told") rfl
  have FLTold : Fun K "_law_told" "_law_told" (top 44) (ga K "_law_told") dLTold := fun_of DLTold
  have bLTold : Binds K dLTold ["data"] [] := FLTold.binds fun _ _ _ _ _ _ us hl => match us, hl with | [_], _ => rfl
  obtain ⟨dLaw, DLaw⟩ := d.def_ 31 (d := dd 45 "law") rfl
  have FLaw : Fun K "law" "law" (top 45) (ga K "law") dLaw := fun_of DLaw
  have bLaw : Binds K dLaw ["script"] [] := FLaw.binds fun _ _ _ _ _ _ us hl => match us, hl with | [_], _ => rfl
  have gWritten := glo "written" (by simp [faK])
  have gIsWord := glo "is_word" (by simp [faK])
  have gCanBeBound := glo "can_be_bound" (by simp [faK])
  have gCheckSize := glo "check_size" (by simp [faK])
  have gWordsOf := glo "words_of" (by simp [faK])
  have gIsVariable := glo "is_variable" (by simp [faK])
  have gEndsWithDots := glo "ends_with_dots" (by simp [faK])
  have gPatternParts := glo "pattern_parts" (by simp [faK])
  have gPatternVariables := glo "pattern_variables" (by simp [faK])
  have gTemplateParts := glo "template_parts" (by simp [faK])
  have gCheckRepeated := glo "check_repeated" (by simp [faK])
  have gCheckTemplate := glo "check_template" (by simp [faK])
  have gCheckedRule := glo "checked_rule" (by simp [faK])
  have gMacroParts := glo "macro_parts" (by simp [faK])
  have gCheckNames := glo "check_names" (by simp [faK])
  have gItemNames := glo "item_names" (by simp [faK])
  have gCheckImport := glo "check_import" (by simp [faK])
  have gCheckExport := glo "check_export" (by simp [faK])
  have gCheckDefine := glo "check_define" (by simp [faK])
  have gCheckMacro := glo "check_macro" (by simp [faK])
  have gCheckForm := glo "check_form" (by simp [faK])
  have gModuleName := glo "module_name" (by simp [faK])
  have gImportedModules := glo "imported_modules" (by simp [faK])
  have gLCell := glo "_law_cell" (by simp [faK])
  have gLFirst := glo "_law_first" (by simp [faK])
  have gLGood := glo "_law_good" (by simp [faK])
  have gLBad := glo "_law_bad" (by simp [faK])
  have gLName := glo "_law_name" (by simp [faK])
  have gLTold := glo "_law_told" (by simp [faK])
  have gLaw := glo "law" (by simp [faK])
  cases hfa.symm.trans gLaw
  refine ⟨dLaw, tfK.map (cT K), spLaw K (cT K ("pattern_parts", none)).2 (cT K ("check_repeated", none)).2 (cT K ("macro_parts", none)).2, ?_, ?_, ?_, fun s u => FunD.bindsA (ps := ["script"]) DLaw (fun _ _ _ _ _ _ us hl => match us, hl with | [_], _ => rfl) s [u] rfl, ?_, fun base KX GX hT => ?_⟩
  · intro p hp
    obtain ⟨t, ht, rfl⟩ := List.mem_map.mp hp
    exact c.empty t ht
  · intro p hp
    obtain ⟨t, ht, rfl⟩ := List.mem_map.mp hp
    exact c.out t ht
  · intro p hp
    obtain ⟨t, ht, rfl⟩ := List.mem_map.mp hp
    exact PySem.W.codeHd_of_K X (c.hd t ht)
  · intro H a ns hl _ hH hS
    have tg : ∀ t ∈ tfK, GxR.TabG H (cT K t).2 := fun t ht => ⟨#[], hH _ (List.mem_map.mpr ⟨t, ht, rfl⟩), trivial⟩
    exact ⟨a, ns, rfl, hS, hl, tg _ (by simp [tfK]), tg _ (by simp [tfK]), tg _ (by simp [tfK]), fun _ => rfl⟩
  have tb : ∀ t ∈ tfK, GxR.TabB base mg (cT K t).1 (cT K t).2 := fun t ht => by
    have z := hT (cT K t) (List.mem_map.mpr ⟨t, ht, rfl⟩)
    exact ⟨z.code, z.bm, z.gP⟩
  have TB1 : GxR.TabB base mg (codeOf K ("pattern_parts", none)) (cT K ("pattern_parts", none)).2 := tb _ (by simp [tfK])
  have TB2 : GxR.TabB base mg (codeOf K ("check_repeated", none)) (cT K ("check_repeated", none)).2 := tb _ (by simp [tfK])
  have TB3 : GxR.TabB base mg (codeOf K ("macro_parts", none)) (cT K ("macro_parts", none)).2 := tb _ (by simp [tfK])
  generalize (cT K ("pattern_parts", none)).2 = P1 at TB1
  generalize (cT K ("check_repeated", none)).2 = P2 at TB2
  generalize (cT K ("macro_parts", none)).2 = P3 at TB3
  have xD : ErrN row75.prog w K mg base "DuplicateName" (ga K "DuplicateName") _ dDuplicatename_Init := ⟨xxD.o, gxD, iD.1, iD.2, ok_iniD FDuplicatename_Init BC xxD.o xxD.no, bDuplicatename_Init⟩
  have cWd : Cal row75.prog w K mg base CX0 1 "is_word" ["datum"] spWd _ _ := ⟨ok_wd (P := row75.prog) (w := w) (base := base) FIsWord B NC, FIsWord.kp, gIsWord, bIsWord⟩
  have cCa : Cal row75.prog w K mg base CX0 2 "can_be_bound" ["datum"] spCan _ _ := ⟨ok_can FCanBeBound cWd eD, FCanBeBound.kp, gCanBeBound, bCanBeBound⟩
  have cCn : Cal row75.prog w K mg base (L2.CX row75.prog w) 3 "check_names" ["names"] (spCkn (ga K "InvalidForm")) _ _ := ⟨ok_ckn FCheckNames cCa xF, FCheckNames.kp, gCheckNames, bCheckNames⟩
  have cIt : Cal row75.prog w K mg base (L2.CX row75.prog w) 4 "item_names" ["item"] (spItem (ga K "InvalidForm")) _ _ := ⟨ok_item FItemNames B cCn xF, FItemNames.kp, gItemNames, bItemNames⟩
  have cCi : Cal row75.prog w K mg base (L2.CX row75.prog w) 5 "check_import" ["form"] (spForm (ga K "InvalidForm") okImp) _ _ := ⟨ok_imp FCheckImport B cCn cIt xF, FCheckImport.kp, gCheckImport, bCheckImport⟩
  have cCe : Cal row75.prog w K mg base (L2.CX row75.prog w) 4 "check_export" ["form"] (spForm (ga K "InvalidForm") okExp) _ _ := ⟨ok_exp FCheckExport B cCn xF, FCheckExport.kp, gCheckExport, bCheckExport⟩
  have cCd : Cal row75.prog w K mg base (L2.CX row75.prog w) 4 "check_define" ["form"] (spForm (ga K "InvalidForm") okDef) _ _ := ⟨ok_def FCheckDefine B cCn xF, FCheckDefine.kp, gCheckDefine, bCheckDefine⟩
  have cSz : Cal row75.prog w K mg base CX0 1 "check_size" ["rule"] spSize _ _ := ⟨quiet (ok_size (P := row75.prog) (w := w) (base := base) FCheckSize B xT xL eL eM) (fun _ _ _ _ h => h), FCheckSize.kp, gCheckSize, bCheckSize⟩
  have cWo : Cal row75.prog w K mg base CX0 2 "words_of" ["datum"] spWof _ _ := ⟨ok_wof FWordsOf B cWd, FWordsOf.kp, gWordsOf, bWordsOf⟩
  have cVa : Cal row75.prog w K mg base CX0 2 "is_variable" ["part", "literals"] spVar _ _ := ⟨ok_var FIsVariable cWd, FIsVariable.kp, gIsVariable, bIsVariable⟩
  have cWr : Cal row75.prog w K mg base CX0 1 "written" ["name"] spWrit _ _ := ⟨ok_writ (P := row75.prog) (w := w) (base := base) FWritten B NC, FWritten.kp, gWritten, bWritten⟩
  have cEn : Cal row75.prog w K mg base CX0 1 "ends_with_dots" ["pattern"] spEnd _ _ := ⟨ok_end (P := row75.prog) (w := w) (base := base) FEndsWithDots B eD, FEndsWithDots.kp, gEndsWithDots, bEndsWithDots⟩
  have cPp : Cal row75.prog w K mg base (L2N.CX row75.prog w) 2 "pattern_parts" ["pattern", "repeated"] (spParts (ga K "InvalidRule") P1) _ _ := ⟨ok_parts (func_of FPatternParts) B TB1 cEn xR eD, FPatternParts.kp, gPatternParts, bPatternParts⟩
  have cPv : Cal row75.prog w K mg base (L2N.CX row75.prog w) 3 "pattern_variables" ["pattern", "literals"] (spPv (ga K "InvalidRule") (ga K "DuplicateName") P1) _ _ := ⟨ok_pv FPatternVariables B cPp cVa cWr xD, FPatternVariables.kp, gPatternVariables, bPatternVariables⟩
  have cTp : Cal row75.prog w K mg base (L2N.CX row75.prog w) 1 "template_parts" ["template"] (spTpl (ga K "InvalidRule")) _ _ := ⟨ok_tpl (P := row75.prog) (w := w) (base := base) FTemplateParts B xR eD, FTemplateParts.kp, gTemplateParts, bTemplateParts⟩
  have cRe : Cal row75.prog w K mg base (L2N.CX row75.prog w) 3 "check_repeated" ["part", "inside", "variables"] (spRep (ga K "InvalidRule") P2) _ _ := ⟨ok_rep (func_of FCheckRepeated) B TB2 cWo xR, FCheckRepeated.kp, gCheckRepeated, bCheckRepeated⟩
  have cCt : Cal row75.prog w K mg base (L2N.CX row75.prog w) 4 "check_template" ["template", "variables"] (spChT (ga K "InvalidRule") P2) _ _ := ⟨ok_chT FCheckTemplate B cTp cRe xR eD, FCheckTemplate.kp, gCheckTemplate, bCheckTemplate⟩
  have cRu : Cal row75.prog w K mg base (L2N.CX row75.prog w) 5 "checked_rule" ["rule", "literals"] (spRule (ga K "InvalidRule") (ga K "DuplicateName") P1 P2) _ _ := ⟨ok_rule FCheckedRule B cSz cPv cCt xR, FCheckedRule.kp, gCheckedRule, bCheckedRule⟩
  have cMa : Cal row75.prog w K mg base (L2.CX row75.prog w) 6 "macro_parts" ["macro"] (spMac (ga K "InvalidRule") (ga K "DuplicateName") P1 P2 P3) _ _ := ⟨toL2 (ok_mac (func_of FMacroParts) B TB3 FCanBeBound cCa FIsWord gIsWord bIsWord NC eD cRu xR), FMacroParts.kp, gMacroParts, bMacroParts⟩
  have cCm : Cal row75.prog w K mg base (L2.CX row75.prog w) 7 "check_macro" ["form"] (spCkM (ga K "InvalidRule") (ga K "DuplicateName") P1 P2 P3) _ _ := ⟨ok_ckM FCheckMacro cMa, FCheckMacro.kp, gCheckMacro, bCheckMacro⟩
  have cCf : Cal row75.prog w K mg base (L2.CX row75.prog w) 8 "check_form" ["form"] (spCf (ga K "InvalidForm") (ga K "InvalidRule") (ga K "DuplicateName") P1 P2 P3) _ _ := ⟨ok_cf FCheckForm B FC cCi cCe cCd cCm xF, FCheckForm.kp, gCheckForm, bCheckForm⟩
  have cNm : Cal row75.prog w K mg base (L2.CX row75.prog w) 4 "module_name" ["data"] (spNm (ga K "InvalidForm")) _ _ := ⟨ok_nm FModuleName B cCn xF, FModuleName.kp, gModuleName, bModuleName⟩
  have cIm : Cal row75.prog w K mg base (L2.CX row75.prog w) 9 "imported_modules" ["data"] (spIm (ga K "InvalidForm") (ga K "InvalidRule") (ga K "DuplicateName") P1 P2 P3) _ _ := ⟨ok_im FImportedModules B cCf, FImportedModules.kp, gImportedModules, bImportedModules⟩
  have cLc : Cal row75.prog w K mg base CX0 1 "_law_cell" ["script", "k"] (spCell K) _ _ := ⟨ok_cell (P := row75.prog) (w := w) (base := base) FLCell B, FLCell.kp, gLCell, bLCell⟩
  have cLf : Cal row75.prog w K mg base CX0 1 "_law_first" [] spFirst _ _ := ⟨ok_first (P := row75.prog) (w := w) (base := base) FLFirst, FLFirst.kp, gLFirst, bLFirst⟩
  have cLg : Cal row75.prog w K mg base CX0 1 "_law_good" [] spGood _ _ := ⟨ok_good (P := row75.prog) (w := w) (base := base) FLGood, FLGood.kp, gLGood, bLGood⟩
  have cLb : Cal row75.prog w K mg base CX0 1 "_law_bad" [] spBad _ _ := ⟨ok_bad (P := row75.prog) (w := w) (base := base) FLBad, FLBad.kp, gLBad, bLBad⟩
  have cLn : Cal row75.prog w K mg base CX0 5 "_law_name" ["data"] spLn _ _ := ⟨ok_ln FLName B TC cNm, FLName.kp, gLName, bLName⟩
  have cLt : Cal row75.prog w K mg base CX0 10 "_law_told" ["data"] (spTo P1 P2 P3) _ _ := ⟨ok_to FLTold B TC cIm, FLTold.kp, gLTold, bLTold⟩
  exact ok_law FLaw B cLf cLg cLb cLc cLn cLt
end My
open PySem PySem.W PySem.Calls PyProof.Rows
theorem PySem.Challenge.cw_aliasfold_k75_forms_of_a_module_holds : PySem.Challenge.rw_aliasfold_k75_forms_of_a_module.Holds := by
  w_on; o_law
  refine HandSHeadRun.head_any (r := OpenLaw.row PySem.Challenge.rw_aliasfold_k75_forms_of_a_module) (q := view (OpenLaw.row PySem.Challenge.rw_aliasfold_k75_forms_of_a_module).prog [45]) (H := My.hk) (ob := My.ob) (M := 4000) (loose := My.loose) (d := HandSHeadRun.topDef (OpenLaw.row PySem.Challenge.rw_aliasfold_k75_forms_of_a_module).prog 45) (kwd := []) My.ob_eq
    (by kernel_rfl) (fun s => by kernel_rfl) My.headRun (by kernel_rfl) (by kernel_rfl) (by kernel_rfl) (by rfl) (by first | assumption | decide +kernel) (by decide +kernel) ⟨rfl, rfl, rfl, rfl, rfl, by decide +kernel⟩ ?hw ?hc
  case hw => w_witness2
  case hc =>
    refine LamX.walk_ofTsE (l := PySem.Challenge.rw_aliasfold_k75_forms_of_a_module) (n := 63) (k := 11) (x := "script") (CX := fun _ => L2.CX0) rfl (by decide) (by kernel_rfl) ⟨rfl, by decide, by decide⟩ ?F (fun _ _ _ _ _ z => z)
    intro w mg fa h Y G hmg0
    obtain ⟨K, KX, c⟩ := Y
    have hmg : mg ("law" : PySem.Str) = some (.ref fa) := by
      have e : (HandSHeadRun.topDef (OpenLaw.row PySem.Challenge.rw_aliasfold_k75_forms_of_a_module).prog 45).name = ("law" : PySem.Str) := by kernel_rfl
      rw [← e]
      exact hmg0
    exact ⟨K, KX, My.facts c KX G hmg⟩
