import PyProof.Rows.All
import Wide.All
import OpenK.AllK
import Wide.FinOn
import HandS.ForMost
import HandS.ForExc
import HandS.Wide
import HandS.Codes
import HandS.AnyAll
import HandS.StrMore
import HandS.FStr
import HandS.IsInst
import HandS.ExcInit
import HandS.ExcIs
import HandS.ExcField
import HandS.Replace
import HandS.ReplaceLit
import HandS.Flow
import HandS.NoneIn
import HandS.Style
import PySem.Challenge.RW_aliasfold_k53_code_is_well_made
import Wide.Once
import HandS.Head0
import HandS.Head1
import HandS.Head2
import HandS.HeadEnd
import HandS.HeadHook1
import HandS.HeadHook2
import HandS.HeadHook3
import HandS.HeadHook4
import HandS.HeadNt
import HandS.HeadWalk
import PyProof.DictUpdate
import HandS.DictComp
import HandS.ExcCtx
import HandS.TryMany
import HandS.More
import HandS.Dict
import HandS.Rev
import HandS.CallLocal
import HandS.WordsDict
import HandS.Deep
import HandS.Star
import HandS.Iter
import HandS.Zip
import PyProof.InstEq
import PyProof.EqKinds
import KE.GoesEnum
import HandS.Walk
import HandS.RevRange
import HandS.Text
import HandS.TryOnly
import HandS.TupAny
import HandS.SortRule
set_option Elab.async false
set_option linter.all false
set_option maxRecDepth 100000
set_option maxHeartbeats 0
namespace My
open PySem L2

/-! ### heaps -/
def isTbl : HO → Bool
  | .tbl _ => true
  | _ => false
/-- what was tracked stays, but for what X names; tables stay tables; nothing is forgotten -/
structure Sm (X : Addr → Prop) (H H' : Hp) : Prop where
  keep : ∀ b o, ¬ X b → isTbl o = false → H b = some o → H' b = some o
  tab : ∀ P, GxR.TabG H P → GxR.TabG H' P
  dom : ∀ b, H' b = none → H b = none
abbrev No : Addr → Prop := fun _ => False
abbrev Two (S L : Addr) : Addr → Prop := fun b => b = S ∨ b = L
theorem Sm.refl (X : Addr → Prop) (H : Hp) : Sm X H H := ⟨fun _ _ _ _ h => h, fun _ h => h, fun _ h => h⟩
theorem Sm.trans {X : Addr → Prop} {H H1 H2 : Hp} (a : Sm X H H1) (b : Sm X H1 H2) : Sm X H H2 :=
  ⟨fun c o n t h => b.keep c o n t (a.keep c o n t h), fun P h => b.tab P (a.tab P h), fun c h => a.dom c (b.dom c h)⟩
theorem Sm.wide {X Y : Addr → Prop} {H H' : Hp} (a : Sm X H H') (h : ∀ b, X b → Y b) : Sm Y H H' :=
  ⟨fun c o n t q => a.keep c o (fun z => n (h c z)) t q, a.tab, a.dom⟩
theorem Sm.no {Y : Addr → Prop} {H H' : Hp} (a : Sm No H H') : Sm Y H H' := a.wide fun _ z => z.elim
theorem tab_upd {H : Hp} {p : Addr} {o : HO} (h : ∀ ps, H p ≠ some (.tbl ps)) : ∀ P, GxR.TabG H P → GxR.TabG (upd H p o) P := fun P ⟨ps, h1, h2⟩ =>
  ⟨ps, by rw [upd_ne (fun z => h ps (by rw [← z]; exact h1))]; exact h1, h2⟩
theorem upd_dom {H : Hp} {p : Addr} {o : HO} : ∀ b, upd H p o b = none → H b = none := fun b h => by
  by_cases hb : b = p
  · rw [hb, upd_same] at h; cases h
  · rw [upd_ne hb] at h; exact h
theorem Sm.new {X : Addr → Prop} {H : Hp} {p : Addr} {o : HO} (h : H p = none) : Sm X H (upd H p o) :=
  ⟨fun b u _ _ e => by rw [upd_ne (ne_of_none e h)]; exact e, tab_upd (fun ps z => by rw [h] at z; cases z), upd_dom⟩
theorem Sm.set {X : Addr → Prop} {H : Hp} {p : Addr} {o : HO} (h : X p) (ht : ∀ ps, H p ≠ some (.tbl ps)) : Sm X H (upd H p o) :=
  ⟨fun b u n _ e => by rw [upd_ne (fun z => n (by rw [z]; exact h))]; exact e, tab_upd ht, upd_dom⟩
theorem Sm.tabbed {X : Addr → Prop} {H H' : Hp} {P : Addr} (h0 : GxR.TabG H P) (h : GxR.Tabbed P H H') : Sm X H H' := by
  obtain ⟨ht, hk⟩ := h
  refine ⟨fun b o _ n e => ?_, fun Z hz => ?_, fun b h => ?_⟩
  · by_cases hb : b = P
    · obtain ⟨ps, h1, _⟩ := h0
      rw [hb, h1] at e
      cases e
      cases n
    · rw [hk b hb]; exact e
  · by_cases hb : Z = P
    · rw [hb]; exact ht
    · obtain ⟨ps, h1, h2⟩ := hz
      exact ⟨ps, by rw [hk Z hb]; exact h1, h2⟩
  · by_cases hb : b = P
    · obtain ⟨ps, h1, _⟩ := ht
      rw [hb, h1] at h
      cases h
    · rw [← hk b hb]; exact h
theorem Sm.seq {X : Addr → Prop} {K : PySem.W.Frag} {H H' : Hp} {a : Addr} {xs : List V} (e : Sm X H H') (n : ¬ X a) (h : SqL K H a xs) : SqL K H' a xs := by
  rcases h with (h | ⟨o, h⟩) | h
  · exact .inl (.inl (e.keep _ _ n rfl h))
  · exact .inl (.inr ⟨o, e.keep _ _ n rfl h⟩)
  · exact .inr h
theorem Sm.lst {X : Addr → Prop} {H H' : Hp} {a : Addr} {xs : List V} (e : Sm X H H') (n : ¬ X a) (h : H a = some (.lst xs)) : H' a = some (.lst xs) := e.keep _ _ n rfl h
theorem Sm.lst0 {H H' : Hp} {a : Addr} {xs : List V} (e : Sm No H H') (h : H a = some (.lst xs)) : H' a = some (.lst xs) := e.keep _ _ (fun z => z) rfl h
/-- what H did not know may change -/
theorem Sm.mut {X : Addr → Prop} {H H' : Hp} {p : Addr} {o : HO} (e : Sm X H H') (h : H p = none) (ht : ∀ ps, H' p ≠ some (.tbl ps)) : Sm X H (upd H' p o) :=
  ⟨fun b u n t q => by rw [upd_ne (ne_of_none q h)]; exact e.keep b u n t q, fun P h => tab_upd ht P (e.tab P h), fun b q => e.dom b (upd_dom b q)⟩
theorem ntbl_l {H : Hp} {a : Addr} {xs : List V} (h : H a = some (.lst xs)) : ∀ ps, H a ≠ some (.tbl ps) := fun ps z => by rw [h] at z; cases z

/-! ### the state of the draws -/
/-- at S: the rest of the script, at L, and what is left of the cell -/
def LS (H : Hp) (S L : Addr) : Prop := ∃ (cs : List Int) (d : Int), H S = some (.lst [.ref L, .int d]) ∧ H L = some (.lst (cs.map V.int)) ∧ 0 ≤ d ∧ cs.length ≤ 63
theorem LS.ne {H : Hp} {S L : Addr} (h : LS H S L) : S ≠ L := by
  obtain ⟨cs, d, h1, h2, _⟩ := h
  refine ne_of h1 h2 fun z => ?_
  cases cs with
  | nil => cases z
  | cons c r => cases z
theorem LS.sm {H H' : Hp} {S L : Addr} (h : LS H S L) (e : Sm No H H') : LS H' S L := by
  obtain ⟨cs, d, h1, h2, h3⟩ := h
  exact ⟨cs, d, e.lst0 h1, e.lst0 h2, h3⟩
theorem LS.some {H : Hp} {S L : Addr} (h : LS H S L) : H S ≠ none ∧ H L ≠ none := by
  obtain ⟨cs, d, h1, h2, h3⟩ := h
  exact ⟨by rw [h1]; simp, by rw [h2]; simp⟩
/-! ### the draws, as functions -/
def spMixed : Sp := fun vs H Q _ => ∃ c : Int, vs = [.int c] ∧ ∀ n : Int, 0 ≤ n → Q (.int n) H
def spTake : Sp := fun vs H Q _ => ∃ (S L : Addr) (n : Int), vs = [.ref S, .int n] ∧ LS H S L ∧ 0 < n ∧ n.natAbs < 2 ^ 8000 ∧
  ∀ (g : Int) (H' : Hp), 0 ≤ g → g < n → LS H' S L → Sm (Two S L) H H' → Q (.int g) H'
def spState (K : PySem.W.Frag) : Sp := fun vs H Q _ => ∃ (a : Addr) (ns : List Int), vs = [.ref a] ∧ SqL K H a (ns.map V.int) ∧ ns.length ≤ 63 ∧
  ∀ (S L : Addr) (H' : Hp), H S = none → H L = none → LS H' S L → Sm No H H' → Q (.ref S) H'
end My
namespace My
open PySem L2
def top (i : Nat) : Stmt := PySem.Challenge.pw_aliasfold_k53_code_is_well_made.main.body.getD i (.Pass ⟨0, 0, 0, 0⟩)
abbrev sMixed : Stmt := top 17
abbrev sTake : Stmt := top 18
abbrev sState : Stmt := top 19
/-- names of builtins that no module name hides -/
structure Blt (mg : Str → Option Value) : Prop where
  int : mg "int" = none
  abs : mg "abs" = none
  len : mg "len" = none
  range : mg "range" = none
  str : mg "str" = none
  isinstance : mg "isinstance" = none
  all : mg "all" = none
  list : mg "list" = none
  tuple : mg "tuple" = none
  bool : mg "bool" = none
section
variable {P : Program} {w : World} {K : PySem.W.Frag} {mg : Str → Option Value} {base : Heap}
theorem scMixed : FnScope ["cell", "seed", "number", "k"] ["cell"] (defScope sMixed) := ⟨rfl, rfl, rfl, by decide +kernel, rfl, by decide +kernel, by decide +kernel⟩
theorem ok_mixed {f : Addr} {fd : FuncData} (F : Fun K "_law_mixed" "_law_mixed" sMixed f fd) (B : Blt mg) : FnOk P w K mg base CX0 1 f fd ["cell"] spMixed := by
  refine F.ok scMixed (fun vs H Q E h => ?_) (fun cdv A outer s H vs Q E hr h => ?_)
  · obtain ⟨c, rfl, _⟩ := h
    rfl
  obtain ⟨c, rfl, q⟩ := h
  have M : (0 : Int) < 1000000007 := by decide
  refine ⟨_, pss_cons (ps_set (i := 1) scMixed.nd rfl (Or.inl rfl) (pe_op op_mod (pe_callTy call_int1 (by rfl) B.int (by decide +kernel) (pa_cons (pv 0) pa_nil)) pe_int))
    (pss_cons (ps_set (i := 2) scMixed.nd rfl (Or.inl rfl) pe_int)
    (pss_cons (ps_for PassesOwn.never rfl (pi_range1 (by rfl) B.range (pa_cons pe_int pa_nil)) (pg_name (i := 3) scMixed.nd rfl (Or.inl rfl))
      (pss_cons (ps_set (i := 1) scMixed.nd rfl (Or.inl rfl) (pe_op op_mod (pe_callTy call_int1 (by rfl) B.int (by decide +kernel)
          (pa_cons (pe_op op_add (pe_op op_add (pe_op op_mul (pv 1) pe_int) pe_int) (pe_op op_mul pe_int (pv 3))) pa_nil)) pe_int))
      (pss_one (ps_set (i := 2) scMixed.nd rfl (Or.inl rfl) (pe_op op_add (pe_op op_mul (pv 2) pe_int) (pv 1))))))
    (pss_one (ps_ret (pv 2))))), ?_⟩
  refine ⟨_, rfl, .inl ⟨_, rfl, _, _, rfl, rfl, M, ?_⟩⟩
  refine ⟨6, rfl, by decide, by decide, for_range (n := 6) (fun i σ H' => ∃ (sd nb : Int) (v : Option V), σ = [some (.int c), some (.int sd), some (.int nb), v] ∧ 0 ≤ nb ∧ H' = H)
    ⟨_, 0, none, rfl, by omega, rfl⟩ ?_ ?_⟩
  · rintro i σ H' hi ⟨sd, nb, v, rfl, h0, rfl⟩
    refine ⟨_, rfl, _, _, rfl, rfl, .inr ⟨by decide, by decide⟩, _, _, rfl, rfl, _, rfl, _, _, rfl, rfl, .inl ⟨by decide, by decide⟩, _, _, rfl, rfl, .inl ⟨_, rfl, _, _, rfl, rfl, M, ?_⟩⟩
    refine ⟨_, rfl, _, _, rfl, rfl, .inr ⟨by decide, by decide⟩, _, rfl, _, _, rfl, rfl, _, _, _, rfl, ?_, rfl⟩
    have := Int.emod_nonneg (sd * 48271 + 12820163 + 7 * (0 + (i : Int))) (b := 1000000007) (by decide)
    omega
  · rintro σ H' ⟨sd, nb, v, rfl, h0, rfl⟩
    exact ⟨_, rfl, q nb h0⟩
end
end My
namespace My
open PySem PySem.Spec PyProof.Rows L2 He
abbrev dd (i : Nat) (x : Str) : DefD := ⟨(x, none), x, x, defArgs (top i), defBody (top i), defScope (top i), [], []⟩
abbrev dc (i j : Nat) (x m q : Str) : DefD := ⟨(x, some m), m, q, defArgs (inClass (top i) j), defBody (inClass (top i) j), defScope (inClass (top i) j), [], []⟩
def fnK : List DefD := [dc 4 0 "Draft" "__init__" "Draft.__init__", dc 4 1 "Draft" "new_places" "Draft.new_places", dc 4 2 "Draft" "new_label" "Draft.new_label", dd 1 "bound_numbers", dd 2 "inner_trees", dd 5 "outer_numbers",
  dd 6 "draft_function", dd 7 "leaf_pieces", dd 8 "let_pieces", dd 9 "if_pieces", dd 10 "call_pieces", dd 11 "tree_pieces",
  dd 12 "write_draft", dd 13 "final_instruction", dd 14 "final_code", dd 15 "compile_core", dd 17 "_law_mixed", dd 18 "_law_take",
  dd 19 "_law_state", dd 20 "_law_locals", dd 21 "_law_numbers", dd 22 "_law_small", dd 23 "_law_function", dd 24 "_law_strange",
  dd 25 "_law_let", dd 26 "_law_part", dd 27 "_law_program", dd 28 "_law_free", dd 29 "_law_functions", dd 30 "_law_codes",
  dd 31 "_law_taken", dd 32 "_law_row_right", dd 33 "_law_code_right", dd 34 "law"]
def faK : List Fa := [.glo "Draft", .glo "bound_numbers", .glo "inner_trees", .glo "outer_numbers", .glo "draft_function", .glo "leaf_pieces",
  .glo "let_pieces", .glo "if_pieces", .glo "call_pieces", .glo "tree_pieces", .glo "write_draft", .glo "final_instruction",
  .glo "final_code", .glo "compile_core", .glo "_law_mixed", .glo "_law_take", .glo "_law_state", .glo "_law_locals",
  .glo "_law_numbers", .glo "_law_small", .glo "_law_function", .glo "_law_strange", .glo "_law_let", .glo "_law_part",
  .glo "_law_program", .glo "_law_free", .glo "_law_functions", .glo "_law_codes", .glo "_law_taken", .glo "_law_row_right",
  .glo "_law_code_right", .glo "law", .cls "Draft", .mkr "Draft", .noat "Draft" "parameters", .noat "Draft" "places",
  .noat "Draft" "body", .noat "Draft" "scope", .noat "Draft" "instructions", .noat "Draft" "targets", .meth "Draft" "new_places", .meth "Draft" "new_label",
  .free "ValueError", .free "abs", .free "all", .free "bool", .free "dict", .free "enumerate",
  .free "int", .free "isinstance", .free "len", .free "list", .free "max", .free "range",
  .free "reversed", .free "set", .free "sorted", .free "str", .free "tuple", .free "zip"]
def tfK : List Defn := []
def tsK : List Tab := []
/-- an exception's class over own ones and ValueError -/
def excB (K : PySem.W.Frag) (C : Addr) : Bool := match K.lookup C with
  | some ⟨.type "type", _, .cls cd, sl⟩ => (match cd.mro, sl.toList with
    | .ref C' :: bm, [_, _, _, _, some (.builtin n), _] => C' == C && (n == "ValueError.__new__" && (!cd.hasDel && (cd.hasDict && PySem.HandSPX.refsVE bm)))
    | _, _ => false)
  | _ => false
/-- all that is asked of one exception class with fields at -/
def excAll (K : PySem.W.Frag) (x : Str) : Bool :=
  excB K (ga K x) && (eqO (PySem.W.findIn K (.ref (ga K x)) "__setattr__") (some (some (.builtin "object.__setattr__"))) &&
  (decide (PySem.W.subIn K (.ref (ga K x)) (.type "BaseException") = some true) && (decide (PySem.W.typeIn K (.ref (ga K x)) = some (.type "type")) && (PySem.W.keepIn K (.ref (ga K x)) &&
  (eqO (PySem.W.findIn K (.ref (ga K x)) "__getattribute__") (some (some (.builtin "BaseException.__getattribute__"))) && (eqO (PySem.W.findIn K (.ref (ga K x)) "__getattr__") (some none) &&
  (PySem.W.hasDictIn K (ga K x) && (eqO (PySem.W.findIn K (.ref (ga K x)) "__class__") (some (some (.builtin "object.__class__"))) && (decide (PySem.W.mroIn K (ga K x) (.type "object") = some true) &&
  eqO (PySem.W.findIn K (.ref (ga K x)) "outcome") (some none))))))))))
def iniB (K : PySem.W.Frag) (x : Str) : Bool := eqO (PySem.W.findIn K (.ref (ga K x)) "__init__") (some (some (.ref (ma K (ga K x) "__init__")))) && decide (PySem.W.typeIn K (.ref (ma K (ga K x) "__init__")) = some (.type "function"))
def valB (r : Option PySem.W.CFound) (n : String) : Bool := match r with
  | some (.val (.builtin m)) => m == n
  | _ => false
theorem valB_ok {r : Option PySem.W.CFound} {n : String} (h : valB r n = true) : r = some (.val (.builtin n)) := by
  unfold valB at h
  split at h
  · rw [eq_of_beq h]
  · cases h
def refB (r : Option PySem.W.CFound) (f : Addr) : Bool := match r with
  | some (.val (.ref g)) => g == f
  | _ => false
theorem refB_ok {r : Option PySem.W.CFound} {f : Addr} (h : refB r f = true) : r = some (.val (.ref f)) := by
  unfold refB at h
  split at h
  · rw [eq_of_beq h]
  · cases h
def methI (K : PySem.W.Frag) (x y m : Str) : Bool := eqO (PySem.W.findIn K (.ref (ga K x)) m) (some (some (.ref (ma K (ga K y) m)))) && (PySem.W.isFn K (.ref (ma K (ga K y) m)) && PySem.W.keepIn K (.ref (ma K (ga K y) m)))
theorem methI_ok {K : PySem.W.Frag} {x y m : Str} (h : methI K x y m = true) : Meth K (ga K x) m (ma K (ga K y) m) := by
  obtain ⟨a, h⟩ := ba h
  obtain ⟨b, c⟩ := ba h
  exact ⟨eqO_ok a, b, c⟩
def exL (K : PySem.W.Frag) : List Bool := [true]
def exK (K : PySem.W.Frag) : Bool := (exL K).all fun b => b
theorem ex_at {K : PySem.W.Frag} {b : Bool} (h : exK K = true) (i : Nat) (e : (exL K)[i]? = some b) : b = true := List.all_eq_true.mp h b (List.mem_of_getElem? e)
theorem mem_at {α : Type} {l : List α} {x : α} (i : Nat) (e : l[i]? = some x) : x ∈ l := List.mem_of_getElem? e
/-! ### the hook: what the module's names reach, and the statics -/
def addA (z : List Addr × Nat) (a : Addr) : List Addr × Nat := match Nat.beq ((z.2 >>> a) % 2) 1 with
  | true => z
  | false => (a :: z.1, z.2 ||| (1 <<< a))
def stepA (g : Addr → Option Obj) (fr : List Addr) (m : Nat) : List Addr × Nat := fr.foldl (fun z a => match g a with
  | some o => (refsD o).foldl addA z
  | none => z) ([], m)
def bfsA (g : Addr → Option Obj) : Nat → List Addr → Nat → List Addr
  | 0, fr, _ => fr
  | n + 1, fr, m => match stepA g fr m with
    | (new, m2) => fr ++ bfsA g n new m2
def reach (g : Addr → Option Obj) : List Addr := cStatics :: bfsA g 4 [mainGlobals] (1 <<< mainGlobals)
theorem says_of {fa : List Fa} {fn : List DefD} {ts : List Tab} {tf : List Defn} {ex : PySem.W.Frag → Bool} {w : World} {h : Heap} {as : List Addr} (e1 : obsT fa fn ts (frT h.get? as) = valT fn ts w)
    (e2 : (ex (frT h.get? as) && tabsB h.get? tf (frT h.get? as)) = true) : SaysX fa fn ts tf ex w h (frT h.get? as) := by
  obtain ⟨x1, x2⟩ := ba e2
  have key : ∀ p ∈ tf, PySem.W.codeHdIn (frT h.get? as) (cT (frT h.get? as) p).1 (cT (frT h.get? as) p).2 = true ∧ ∃ o, h.get? (cT (frT h.get? as) p).2 = some o ∧ emptyTab o = true := by
    intro p hp
    obtain ⟨y1, y2⟩ := ba (List.all_eq_true.mp x2 p hp)
    cases q : h.get? (cT (frT h.get? as) p).2 with
    | none => rw [q] at y2; cases y2
    | some o => rw [q] at y2; exact ⟨y1, o, rfl, y2⟩
  refine ⟨e1, x1, fun p hp => (key p hp).1, fun p hp => ?_, fun p hp => ?_⟩
  · obtain ⟨_, o, q, z⟩ := key p hp
    exact frT_none q z
  · obtain ⟨_, o, q, z⟩ := key p hp
    rw [q, emptyTab_eq z]
abbrev AlY : Type := AlT × Bool
def obsY (fa : List Fa) (fn : List DefD) (tf : List Defn) (ex : PySem.W.Frag → Bool) (g : Addr → Option Obj) : AlY := (obsT fa fn tsK (frT g (reach g)), ex (frT g (reach g)) && tabsB g tf (frT g (reach g)))
def hookY (fa : List Fa) (fn : List DefD) (tf : List Defn) (ex : PySem.W.Frag → Bool) : PySem.W.Hook where
  α := AlY
  obs := fun s => obsY fa fn tf ex s.heap.get?
  val := fun w => (valT fn tsK w, true)
  says := fun w h => ∃ K : PySem.W.Frag, K.In h ∧ SaysX fa fn tsK tf ex w h K
  of := fun _ _ e => ⟨_, frT_in, says_of (congrArg (fun z : AlY => z.1) e) (congrArg (fun z : AlY => z.2) e)⟩
  keeps := fun _ _ _ ⟨K, hK, c⟩ k => ⟨K, PySem.W.Frag.In.keeps hK k, ⟨c.t, c.more, c.hd, c.out, fun p hp => k _ _ (c.empty p hp)⟩⟩
abbrev R : PySem.W.OpenRow := PySem.W.OpenLaw.row PySem.Challenge.rw_aliasfold_k53_code_is_well_made
abbrev hk : PySem.W.Hook := hookY faK fnK tfK exK
def ob (s : PySem.W.SharedT) : AlY := obsY faK fnK tfK exK (HandSHeadRun.getT s)
theorem ob_eq (s : PySem.W.SharedT) : ob s = hk.obs s.abs := by
  have e : HandSHeadRun.getT s = s.abs.heap.get? := funext (HandSHeadRun.getT_eq s)
  unfold ob
  rw [e] <;> rfl
def loose : List Str := [("Draft" : Str), ("bound_numbers" : Str), ("inner_trees" : Str), ("outer_numbers" : Str), ("draft_function" : Str), ("leaf_pieces" : Str),
  ("let_pieces" : Str), ("if_pieces" : Str), ("call_pieces" : Str), ("tree_pieces" : Str), ("write_draft" : Str), ("final_instruction" : Str),
  ("final_code" : Str), ("compile_core" : Str), ("_law_mixed" : Str), ("_law_take" : Str), ("_law_state" : Str), ("_law_locals" : Str),
  ("_law_numbers" : Str), ("_law_small" : Str), ("_law_function" : Str), ("_law_strange" : Str), ("_law_let" : Str), ("_law_part" : Str),
  ("_law_program" : Str), ("_law_free" : Str), ("_law_functions" : Str), ("_law_codes" : Str), ("_law_taken" : Str), ("_law_row_right" : Str),
  ("_law_code_right" : Str)]
theorem headRunF (w : World) : HandSHeadRun.RunEq R (PySem.W.view R.prog [34]) hk ob 9000 loose (w.withFollow "special-get-raises" false) := by
  intro os
  kernel_rfl
theorem headRunT (w : World) : HandSHeadRun.RunEq R (PySem.W.view R.prog [34]) hk ob 9000 loose (w.withFollow "special-get-raises" true) := by
  intro os
  kernel_rfl
theorem headRun (w : World) : HandSHeadRun.RunEq R (PySem.W.view R.prog [34]) hk ob 9000 loose w := PySem.W.byRow2 "special-get-raises" (P := fun w => HandSHeadRun.RunEq R (PySem.W.view R.prog [34]) hk ob 9000 loose w) headRunF headRunT w
end My
namespace My
open PySem PySem.Spec PyProof.Rows L2
/-! ### {**a, **b} -/
section
variable {prog : Program} {w : World} {Kk : Type} [DecidableEq Kk] {knd : KeyKind prog w Kk} {A : Around} {E : Value → Shared → Prop} {s : Shared}
theorem wpAny_dictPut_pairs {d : Addr} {kvs : List (Kk × Value)} {k : Kk} {key v : Value} {Q : Unit → Shared → Prop} (hkey : knd.is k key = true) (hm : s.heap.DictOf knd d kvs)
    (hQ : ∀ h', h'.DictOf knd d (stored kvs k v) → Heap.SameBut d s.heap h' → Q () { s with heap := h' })
    (hsz : kvs.length ≤ sizeLine) : wpAny (model prog w) A (dictPut d (knd.hash k) key v) Q E s := by
  obtain ⟨o, es, ep, ho, hc, hd, hk, hp, hn⟩ := hm
  have hes : es.size ≤ sizeLine := by have e1 := hp.length; have e2 : es.toList.length = es.size := by simp
                                      omega
  unfold dictPut
  refine wpAny_bind (wpAny_dictFind_of hkey ho hd hk ?_)
  have hidx : (es.findIdx? fun e => knd.is k e.key) = kvs.findIdx? fun kv => decide (kv.1 = k) := by
    rw [← hp.findIdx k]; obtain ⟨l⟩ := es; simp
  cases hi : es.findIdx? fun e => knd.is k e.key with
  | some i =>
    refine wpAny_updateDict ho hd (hQ _ ⟨_, _, ep, Heap.get?_update_self _ ho (Obj.isFreed_of_dict (Obj.data_mapDict hd _)),
      hc.mapDict _, Obj.data_mapDict hd _, hk.modify _ _, ?_, ?_⟩ (Heap.SameBut.update ..))
    · rw [stored, if_pos (any_of_findIdx_some (hidx ▸ hi))]
      have hl : (es.toList.findIdx? fun e => knd.is k e.key) = some i := by rw [← hi]; obtain ⟨l⟩ := es; simp
      have := hp.modify hn hl v
      obtain ⟨l⟩ := es
      simpa using this
    · rw [stored, if_pos (any_of_findIdx_some (hidx ▸ hi)), keys_map_store]; exact hn
  | none =>
    have hnot : k ∉ kvs.map (·.1) := not_mem_of_findIdx_none (hidx ▸ hi)
    have hany : ¬ (kvs.any fun kv => decide (kv.1 = k)) = true := by
      rw [List.any_eq_true]; rintro ⟨kv, hkv, he⟩
      exact hnot (List.mem_map.mpr ⟨kv, hkv, of_decide_eq_true he⟩)
    refine wpAny_updateDictKeys (hz := hes) ho hd (hQ _ ⟨_, _, ep + 1, Heap.get?_update_self _ ho (Obj.isFreed_of_dict (Obj.data_mapDictKeys hd _)),
      hc.mapDictKeys _, Obj.data_mapDictKeys hd _, hk.push hkey _, ?_, ?_⟩ (Heap.SameBut.update ..))
    · rw [stored, if_neg hany]
      have := hp.append hkey (knd.hash k) v
      obtain ⟨l⟩ := es
      simpa using this
    · rw [stored, if_neg hany, List.map_append, List.nodup_append]
      refine ⟨hn, by simp, ?_⟩
      intro a ha b hb
      simp only [List.map_cons, List.map_nil, List.mem_singleton] at hb
      subst hb
      exact fun e => hnot (e ▸ ha)
theorem wpAny_mergeMapping {d o : Addr} {kvs more : List (Kk × Value)} {Q : Unit → Shared → Prop} (hdo : d ≠ o) (hoS : (o == sysModules) = false)
    (hd : s.heap.DictOf knd d kvs) (ho : s.heap.DictOf knd o more)
    (hQ : ∀ h', h'.DictOf knd d (merged kvs more) → h'.DictOf knd o more → Heap.SameBut d s.heap h' → Q () { s with heap := h' })
    (hsz : kvs.length + more.length ≤ sizeLine) :
    wpAny (model prog w) A (mergeMapping d (.ref o) false) Q E s := by
  obtain ⟨od, esd, epd, hod, hcd, hdd, hkd, hpd, hnd⟩ := id hd
  obtain ⟨oo, eso, epo, hoo, hco, hdo', hko, hpo, hno⟩ := id ho
  have hlen : more.length = eso.size := by rw [← hpo.length]; simp
  unfold mergeMapping
  refine wpAny_bind (wpAny_isInstance (U := "dict") (b := true) ho.typeIs (by kernel_rfl) ?_)
  dsimp only
  rw [if_pos rfl]
  refine wpAny_bind (wpAny_specialOf ho.typeIs PySem.F.slot_dict_iter.lookup ?_)
  rw [show (some (Value.builtin "dict.__iter__") == some (Value.builtin "dict.__iter__")) = true from by decide +kernel]
  refine wpAny_bind (wpAny_pure ?_)
  dsimp only
  rw [if_neg (by rw [hoS]; exact Bool.false_ne_true)]
  refine wpAny_bind (wpAny_dictEntries hod hdd ?_)
  have loop : wpAny (model prog w) A (do
      let l ← dictEntries o
      let epoch ← dictEpoch o
      forIn (List.range l.size) PUnit.unit fun i (_ : PUnit) => (do
          let l' ← dictEntries o
          match l'[i]? with
            | some e => do
              holding [e.key, e.val] (dictPut d e.hash e.key e.val)
              let ep' ← dictEpoch o
              if (ep' != epoch) = true then do
                  (unsupported "dict.changed-during-merge" : Sem PUnit)
                  pure (ForInStep.yield PUnit.unit)
                else pure (ForInStep.yield PUnit.unit)
            | _ => do
              (unsupported "dict.changed-during-merge" : Sem PUnit)
              pure (ForInStep.yield PUnit.unit) : Sem (ForInStep PUnit))
      pure ()) Q E s := by
    refine wpAny_bind (wpAny_dictEntries hoo hdo' ?_)
    refine wpAny_bind (wpAny_dictEpoch hoo hdo' ?_)
    refine wpAny_bind ?_
    rw [List.range_eq_range']
    refine wpAny_forIn_list _
      (fun rest _ s' => ∃ h' i, s' = { s with heap := h' } ∧ rest = List.range' i (eso.size - i) ∧ i ≤ eso.size ∧ h'.DictOf knd d (merged kvs (more.take i)) ∧ h'.get? o = some oo ∧ Heap.SameBut d s.heap h')
      _ ?_ ?_ _ _ ⟨s.heap, 0, rfl, by simp, Nat.zero_le _, by simpa [merged] using hd, hoo, Heap.SameBut.refl _ _⟩
    · rintro x rest b s' ⟨h', i, rfl, hr, hi, hd', hoo', hs'⟩
      have hlt : i < eso.size := by
        rcases Nat.lt_or_ge i eso.size with h | h
        · exact h
        · rw [Nat.sub_eq_zero_of_le h] at hr; simp at hr
      obtain ⟨rfl, hrest⟩ : x = i ∧ rest = List.range' (i + 1) (eso.size - (i + 1)) := by
        have e : eso.size - i = (eso.size - (i + 1)) + 1 := by omega
        rw [e, List.range'_succ] at hr
        injection hr with h1 h2
        exact ⟨h1, h2⟩
      refine wpAny_bind (wpAny_dictEntries hoo' hdo' ?_)
      rw [Array.getElem?_eq_getElem hlt]
      obtain ⟨kv, hkv⟩ : ∃ kv, more[x]? = some kv := ⟨more[x]'(by rw [hlen]; exact hlt), List.getElem?_eq_getElem _⟩
      obtain ⟨k, v⟩ := kv
      obtain ⟨hkey, hval⟩ := hpo.get? (e := eso[x]) (by simp [hlt]) hkv
      obtain ⟨k', hkey', hhash⟩ := hko eso[x] (Array.getElem_mem hlt)
      obtain rfl : k' = k := knd.inj _ _ _ hkey' hkey
      show wpAny _ _ (holding [eso[x].key, eso[x].val] (dictPut d eso[x].hash eso[x].key eso[x].val) >>= _) _ _ _
      rw [hhash, hval]
      have hmx : (merged kvs (more.take x)).length ≤ sizeLine := by
        have e1 := merged_length_le kvs (more.take x)
        have e2 : (more.take x).length ≤ more.length := by rw [List.length_take]; omega
        omega
      refine wpAny_bind (wpAny_holding (wpAny_dictPut_pairs (hsz := hmx) hkey hd' fun h'' hd'' hs'' => ?_))
      have hoo'' : h''.get? o = some oo := (hs''.2 o (Ne.symm hdo)).trans hoo'
      refine wpAny_bind (wpAny_dictEpoch hoo'' hdo' ?_)
      rw [if_neg (by simp)]
      exact wpAny_pure ⟨h'', x + 1, rfl, hrest, hlt, by rw [merged_take_succ kvs more x (k', v) hkv]; exact hd'', hoo'', hs'.trans hs''⟩
    · rintro b s' ⟨h', i, rfl, hr, hi, hd', hoo', hs'⟩
      have hin : i = eso.size := by
        rcases Nat.lt_or_ge i eso.size with h | h
        · have e : eso.size - i = (eso.size - (i + 1)) + 1 := by omega
          rw [e, List.range'_succ] at hr; exact nomatch hr
        · exact Nat.le_antisymm hi h
      refine wpAny_pure (hQ h' ?_ ⟨oo, eso, epo, hoo', hco, hdo', hko, hpo, hno⟩ hs')
      rw [hin, ← hlen, List.take_length] at hd'; exact hd'
  split
  · refine wpAny_bind (wpAny_dictEntries hoo hdo' ?_)
    refine wpAny_bind ?_
    rw [← Array.forIn_toList]
    refine wpAny_of_eq (a := PUnit.unit) (forIn_yield_id _ fun e he c => ?_) ?_
    · obtain ⟨k, hkey, _⟩ := hko e (Array.mem_toList_iff.mp he)
      have bv := knd.byValue k _ hkey
      split
      · rename_i heq
        rw [heq] at bv
        cases bv
      · rfl
    · exact loop
  · exact loop
end
end My
namespace My
open PySem PySem.Spec PyProof.Rows L2
section
variable {X : Cx}
def tMrg (ta tb : TE) : TE := fun σ H Q => ∀ d, H d = none → ta σ (upd H d (.dK [])) fun x H1 => ∃ a ks, x = .ref a ∧ a ≠ d ∧ H1 a = some (.dK ks) ∧ H1 d = some (.dK []) ∧
  tb σ (upd H1 d (.dK (mergeK [] ks))) fun y H2 => ∃ b ls ks1, y = .ref b ∧ b ≠ d ∧ H2 b = some (.dK ls) ∧ H2 d = some (.dK ks1) ∧ ks1.length + ls.length ≤ sizeLine ∧ Q (.ref d) (upd H2 d (.dK (mergeK ks1 ls)))
/-- one dict put into another -/
theorem merge_run {pins : List (Addr × Obj)} {σ : L2.St} {H : Hp} {s : Shared} {A : Around} {E : Value → Shared → Prop} {Q : Unit → Shared → Prop} {d a : Addr} {ks ls : List (Key × V)} (I : Inv X pins σ H s) (had : a ≠ d) (hd : H d = some (.dK ks)) (ha : H a = some (.dK ls))
    (hz : ks.length + ls.length ≤ sizeLine) (q : ∀ s', Inv X pins σ (upd H d (.dK (mergeK ks ls))) s' → Q () s') : wpAny (model X.prog X.w) A (mergeMapping d (.ref a) false) Q E s := by
  obtain ⟨zd, sd, vd, rd, dd⟩ := dk_of I.hok hd
  obtain ⟨za, sa, va, ra, da⟩ := dk_of I.hok ha
  refine wpAny_mergeMapping (Ne.symm had) sa dd da (fun h' hd' _ hs => q _ ?_) (by rw [← rd.length, ← ra.length]; exact hz)
  have he : ∃ q, h'.get? d = some q := let ⟨q, _, _, hq, _⟩ := hd'; ⟨q, hq⟩
  have hl : (mergeK ks ls).length ≤ sizeLine := Nat.le_trans (length_mergeK ls ks) hz
  exact d_write (t' := s.toks) I (by rw [hd]; exact True.intro) hs he (dk_new hl sd (KV.merge ra rd) hd')
theorem pe_dmerge {a b : Expr} {ta tb : TE} {pos : Pos} (ha : PE X a ta) (hb : PE X b tb) : PE X (.Dict [none, none] [a, b] pos) (tMrg ta tb) := by
  refine ⟨fun pins s σ H Q I h => ?_⟩
  rw [arm_eval_Dict]
  refine wpAny_bind (wpAny_standAt ?_)
  show wpAny _ _ (dictDisplay [(none, do let x ← eval a X.env; standAt pos; pure x), (none, do let x ← eval b X.env; standAt pos; pure x)]) _ _ _
  unfold dictDisplay
  simp only [List.forIn_cons, List.forIn_nil, List.isEmpty_nil, if_true, pure_bind]
  refine wpAny_bind (wpAny_bind (wpAny_bind (wpAny_alloc ?_)))
  have I1 : Inv X pins σ (upd H s.heap.objs.size (.dK [])) { s with heap := s.heap.push { cls := .type "dict", data := .dict #[] }, toks := s.toks } :=
    I.laid (a := s.heap.objs.size) (o := .dK []) (t' := s.toks) (fun _ _ q => Heap.get?_push_of_some _ q) (Nat.le_refl _) (dk_empty s.heap I.big)
  have hd0 : H s.heap.objs.size = none := I.hok.fresh (Nat.le_refl _)
  have h1 := h s.heap.objs.size hd0
  generalize s.heap.objs.size = d at I1 hd0 h1 ⊢
  refine wpAny_bind (wpAny_holding (wpAny_bind (thn (ha.run pins _ σ _ _ I1 h1) fun v s2 h2 => ?_)))
  obtain ⟨x, H2, I2, r2, p, ks, rfl, npd, hp, hd, h2⟩ := h2
  obtain rfl : v = Value.ref p := r2
  refine wpAny_bind (wpAny_standAt (wpAny_pure ?_))
  refine wpAny_bind (wpAny_onRaise (wpAny_tryCatch (wpAny_onRaise (wpAny_holding (merge_run I2 npd hd hp (by have := (dk_of I2.hok hp).1; simpa using this) fun s3 I3 => ?_)))))
  refine wpAny_pure ?_
  dsimp only
  refine wpAny_bind (wpAny_bind ?_)
  rw [if_pos (show ([] : List (Sem Value × Sem Value)).isEmpty = true from rfl)]
  refine wpAny_pure ?_
  dsimp only
  refine wpAny_bind (wpAny_holding (wpAny_bind (thn (hb.run pins _ σ _ _ I3 h2) fun v s4 h4 => ?_)))
  obtain ⟨y, H4, I4, r4, p2, ls, ks1, rfl, npd2, hp2, hd2, hz, h4⟩ := h4
  obtain rfl : v = Value.ref p2 := r4
  refine wpAny_bind (wpAny_standAt (wpAny_pure ?_))
  refine wpAny_bind (wpAny_onRaise (wpAny_tryCatch (wpAny_onRaise (wpAny_holding (merge_run I4 npd2 hd2 hp2 hz fun s5 I5 => ?_)))))
  refine wpAny_pure ?_
  dsimp only
  refine wpAny_pure ?_
  refine wpAny_bind ?_
  rw [if_pos (show ([] : List (Sem Value × Sem Value)).isEmpty = true from rfl)]
  refine wpAny_pure ?_
  exact wpAny_pure ⟨.ref d, _, I5, rfl, h4⟩
end
end My
namespace My
open PySem L2
section
variable {P : Program} {w : World} {K : PySem.W.Frag} {mg : Str → Option Value} {base : Heap}
theorem scTake : FnScope ["state", "limit", "cell", "digit"] ["state", "limit"] (defScope sTake) := ⟨rfl, rfl, rfl, by decide +kernel, rfl, by decide +kernel, by decide +kernel⟩
theorem at0 {α : Type} (x : α) (r : List α) : atI (x :: r) 0 = some x := atI_nat (xs := x :: r) (j := 0) rfl
theorem at1 {α : Type} (x y : α) (r : List α) : atI (x :: y :: r) 1 = some y := atI_nat (xs := x :: y :: r) (j := 1) rfl
theorem ok_take {f fM : Addr} {fd fdM : FuncData} (F : Fun K "_law_take" "_law_take" sTake f fd) (B : Blt mg) (FM : Fun K "_law_mixed" "_law_mixed" sMixed fM fdM) (gM : mg "_law_mixed" = some (.ref fM))
    (bM : Binds K fdM ["cell"] []) : FnOk P w K mg base CX0 2 f fd ["state", "limit"] spTake := by
  have GM : FnOk P w K mg base CX0 1 fM fdM ["cell"] spMixed := ok_mixed FM B
  refine F.ok scTake (fun vs H Q E h => ?_) (fun cdv A outer s H vs Q E hr h => ?_)
  · obtain ⟨S, L, n, rfl, _⟩ := h
    rfl
  obtain ⟨S, L, n, rfl, hL, n0, nb, q⟩ := h
  have hSL := hL.ne
  obtain ⟨cs, d, hS, hL', d0, l63⟩ := hL
  refine ⟨_, C8.pss_cut (ps_if (PW.pt (pw_and (pt_cmpR op_lt (pe_ix ix_list (pv 0) pe_int (fun _ _ => rfl)) (pv 1) (nomark _))
        (pw_and1 (pt_cmpR op_gt (pe_callB call_len_seq (by rfl) B.len PySem.boot_len (pa_cons (pe_ix ix_list (pv 0) pe_int (fun _ _ => rfl)) pa_nil)) pe_int (nomark _)))))
      (pss_cons (ps_set (i := 2) scTake.nd rfl (Or.inl rfl) (pe_callB call_abs (by rfl) B.abs (by decide +kernel) (pa_cons (pe_callTy call_int1 (by rfl) B.int (by decide +kernel)
          (pa_cons (pe_bm PySem.F.plainAttrs_list PySem.F.slot_list_pop PySem.F.type_list_pop mt_popAt (pe_ix ix_list (pv 0) pe_int (fun _ _ => rfl)) (pa_cons pe_int pa_nil)) pa_nil)) pa_nil)))
      (C8.pss_cut (ps_if (pt_cmpR op_lt (pv 2) (pe_op op_pow pe_int pe_int) (nomark _)) (pss_one (ps_set (i := 2) scTake.nd rfl (Or.inl rfl) (pe_call GM (hr.mono (by decide)) rfl gM FM.kp bM .nil pass0 (pa_cons (pv 2) pa_nil)))) pss_nil)
      (pss_one (ps_asg (pv 2) (pg_sub (pv 0) pe_int set_list))))) pss_nil)
    (pss_cons (ps_set (i := 3) scTake.nd rfl (Or.inl rfl) (pe_op op_mod (pe_callTy call_int1 (by rfl) B.int (by decide +kernel) (pa_cons (pe_ix ix_list (pv 0) pe_int (fun _ _ => rfl)) pa_nil)) (pv 1)))
    (pss_cons (ps_asg (pe_op op_fdivW (pe_ix ix_list (pv 0) pe_int (fun _ _ => rfl)) (pv 1)) (pg_sub (pv 0) pe_int set_list))
    (pss_one (ps_ret (pv 3))))), ?_⟩
  -- behind the first if
  refine ⟨fun σ H' => ∃ (v : Option V), σ = [some (.ref S), some (.int n), v, none] ∧ LS H' S L ∧ Sm (Two S L) H H', ?_, ?_⟩
  · refine ⟨_, rfl, S, _, _, _, rfl, rfl, SqL.of hS, at1 _ _ _, _, rfl, _, _, rfl, rfl, _, rfl, ?_⟩
    refine ite2 (fun c => ?_) (fun c => ?_)
    · refine ⟨_, rfl, S, _, _, _, rfl, rfl, SqL.of hS, at0 _ _, L, _, rfl, .inl (SqL.of hL'), _, _, rfl, rfl, _, rfl, ?_⟩
      refine ite2 (fun c2 => ?_) (fun c2 => ?_)
      · have c2' := of_decide_eq_true c2
        rw [List.length_map] at c2'
        cases cs with
        | nil => exact absurd c2' (by decide)
        | cons c0 cr =>
          refine ⟨_, rfl, S, _, _, _, rfl, rfl, SqL.of hS, at0 _ _, .inl ⟨rfl, _, SqL.of hL'⟩, L, _, 0, 0, _, rfl, rfl, hL', by decide, by decide, ?_, rfl, ?_⟩
          · unfold seqIndex?
            simp
          refine .inl ⟨_, rfl, _, rfl, ?_⟩
          refine ⟨fun σ H' => ∃ (m : Int), σ = [some (.ref S), some (.int n), some (.int m), none] ∧ 0 ≤ m ∧ H' = upd H L (.lst (cr.map V.int)), ?_, ?_⟩
          · refine ⟨_, rfl, _, _, rfl, rfl, ⟨by decide, by decide, by decide⟩, _, _, rfl, rfl, _, rfl, ?_⟩
            refine ite2 (fun _ => ?_) (fun _ => ?_)
            · exact ⟨_, rfl, _, rfl, fun m m0 => ⟨m, rfl, m0, rfl⟩⟩
            · refine ⟨_, rfl, ?_, rfl⟩
              by_cases hc : c0 < 0
              · rw [if_pos hc]; omega
              · rw [if_neg hc]; omega
          · rintro σ H' ⟨m, rfl, m0, rfl⟩
            have hS1 : upd H L (.lst (cr.map V.int)) S = some (.lst [.ref L, .int d]) := by rw [upd_ne hSL]; exact hS
            refine ⟨_, rfl, _, rfl, S, _, _, 1, rfl, rfl, hS1, rfl, ?_⟩
            refine ⟨_, rfl, ⟨cr, m, upd_same, by rw [upd_ne hSL.symm, upd_same], m0, by simp at l63; omega⟩, ?_⟩
            exact (Sm.set (.inr rfl) (ntbl_l hL')).trans (Sm.set (.inl rfl) (ntbl_l hS1))
      · exact ⟨_, rfl, ⟨_, d, hS, hL', d0, l63⟩, Sm.refl _ _⟩
    · exact ⟨_, rfl, ⟨_, d, hS, hL', d0, l63⟩, Sm.refl _ _⟩
  · rintro σ H' ⟨v, rfl, ⟨cs', d', h1, h2, d1, l1⟩, sm⟩
    refine ⟨_, rfl, S, _, _, _, rfl, rfl, SqL.of h1, at1 _ _ _, .inl ⟨_, rfl, _, rfl, _, _, rfl, rfl, n0, ?_⟩⟩
    refine ⟨_, rfl, S, _, _, _, rfl, rfl, SqL.of h1, at1 _ _ _, _, rfl, _, _, rfl, rfl, wide_div n0 nb (by decide) (by decide), ?_⟩
    refine ⟨_, rfl, S, _, _, 1, rfl, rfl, h1, rfl, _, rfl, ?_⟩
    refine q (d' % n) _ (Int.emod_nonneg _ (by omega)) (Int.emod_lt_of_pos _ n0) ⟨cs', d' / n, upd_same, by rw [upd_ne hSL.symm]; exact h2, Int.ediv_nonneg d1 (by omega), l1⟩ (sm.trans (Sm.set (.inl rfl) (ntbl_l h1)))
end
end My
namespace My
open PySem L2
section
variable {P : Program} {w : World} {K : PySem.W.Frag} {mg : Str → Option Value} {base : Heap}
theorem scState : FnScope ["script", "cell"] ["script"] (defScope sState) := ⟨rfl, rfl, rfl, by decide +kernel, rfl, by decide +kernel, by decide +kernel⟩
theorem map_at {xs : List Int} {i : Nat} {y : V} (h : (xs.map V.int)[i]? = some y) : ∃ z, xs[i]? = some z ∧ y = .int z := by
  rw [List.getElem?_map] at h
  cases e : xs[i]? with
  | none => rw [e] at h; cases h
  | some z => rw [e] at h; exact ⟨z, rfl, (Option.some.inj h).symm⟩
theorem take_more {α : Type} {l : List α} {i : Nat} {x : α} (h : l[i]? = some x) : l.take (i + 1) = l.take i ++ [x] := by
  rw [List.take_add_one, h]; rfl
theorem cutV_ints (ns : List Int) (k : Nat) : cutV (ns.map V.int) none (some (k : Int)) = ((ns.take k).map V.int) := by
  unfold cutV
  rw [HT.sIx_none, HT.sIx_nat, List.drop_zero, List.length_map, ← List.map_take]
  congr 1
  rw [show min k ns.length - 0 = min k ns.length by omega, List.take_eq_take_iff.mpr]
  omega
theorem line_of {n : Nat} (h : n ≤ 1000) : n < sizeLine := small1000 h
theorem ok_state {f : Addr} {fd : FuncData} (F : Fun K "_law_state" "_law_state" sState f fd) (B : Blt mg) : FnOk P w K mg base CX0 1 f fd ["script"] (spState K) := by
  refine F.ok scState (fun vs H Q E h => ?_) (fun cdv A outer s H vs Q E hr h => ?_)
  · obtain ⟨a, ns, rfl, _⟩ := h
    rfl
  obtain ⟨a, ns, rfl, hS, h63, q⟩ := h
  refine ⟨_, pss_one (ps_ret (pe_lst (pa_cons (pe_lc (own := [("cell", 1)]) (g := gName 1) (tt := tYes) rfl scState.nd (pi_list (pe_slice sl_list (pv 0) po_none (po_some pe_int)))
      (blkOk_by (N := ["script", "cell"]) (sc := defScope sState) (by decide +kernel)) (fun _ _ _ _ _ => pg_name (i := 1) scState.nd rfl (Or.inl rfl)) (fun _ _ _ _ _ => pts_nil)
      (fun _ _ _ _ _ => pe_callTy call_int1 (by rfl) B.int (by decide +kernel) (pa_cons (pv 1) pa_nil))) (pa_cons pe_int pa_nil)))), ?_⟩
  refine ⟨_, rfl, _, rfl, a, _, rfl, hS, fun p hp => ?_⟩
  have ec := cutV_ints ns 63
  rw [show ((63 : Nat) : Int) = 63 from rfl] at ec
  rw [ec]
  have len63 : (ns.take 63).length ≤ 63 := by rw [List.length_take]; omega
  refine ⟨p, rfl, ⟨_, SqL.of upd_same⟩, fun D hD => ?_⟩
  have npD : p ≠ D := ne_of_none upd_same hD
  have hD0 : H D = none := upd_dom _ hD
  refine lc_list (xs := (ns.take 63).map V.int) (fun i H' => H' D = some (.lst (((ns.take 63).take i).map V.int)) ∧ H' p = some (.lst ((ns.take 63).map V.int)) ∧ Sm No H H') ⟨?_, ?_, ?_⟩ (fun i H' _ h => SqL.of h.2.1) ?_ ?_
  · rw [List.take_zero]; exact upd_same
  · rw [upd_ne npD]; exact upd_same
  · exact ((Sm.refl No H).mut hp (fun ps z => by rw [hp] at z; cases z)).mut hD0 (fun ps z => by rw [hD] at z; cases z)
  · rintro i x H' hi ⟨h1, h2, sm⟩
    obtain ⟨z, hz, rfl⟩ := map_at hi
    have ln : i < 64 := by
      have := (List.getElem?_eq_some_iff.mp hz).1
      omega
    refine ⟨rfl, ?_⟩
    refine ⟨_, rfl, .inl ⟨_, rfl, _, h1, ?_, ?_, ?_, ?_⟩⟩
    · rw [List.length_map, List.length_take]
      exact line_of (by omega)
    · rw [upd_same, take_more hz, List.map_append]; rfl
    · rw [upd_ne npD]; exact h2
    · exact sm.mut hD0 (ntbl_l h1)
  · rintro H' ⟨h1, h2, sm⟩
    rw [List.length_map, List.take_length] at h1
    refine ⟨by show 2 ≤ sizeLine; decide, fun S hSn => ?_⟩
    have hS0 := sm.dom S hSn
    have nSD : D ≠ S := ne_of_none h1 hSn
    exact q S D _ hS0 hD0 ⟨_, 0, upd_same, by rw [upd_ne nSD]; exact h1, by decide, len63⟩ (sm.mut hS0 fun ps z => by rw [hSn] at z; cases z)
end
end My
namespace My
open PySem PySem.Spec PyProof.Rows L2 TL
def big : Nat := 1000000
/-! ### core trees -/
inductive Tr where
  | int (i : Int)
  | loc (n : Int)
  | glob (m x : Str)
  | prim (p : Str)
  | fn (ns : List Int) (b : Tr)
  | let_ (ns : List Int) (ts : List Tr) (b : Tr)
  | if_ (a b c : Tr)
  | call (f : Tr) (ts : List Tr)
/-! in the heap, where tuples never change -/
mutual
inductive RT (H : Hp) : V → Tr → Prop
  | int {a : Addr} {i : Int} (h : H a = some (.tup [.str "int", .int i])) : RT H (.ref a) (.int i)
  | loc {a : Addr} {n : Int} (h : H a = some (.tup [.str "local", .int n])) : RT H (.ref a) (.loc n)
  | glob {a : Addr} {m x : Str} (h : H a = some (.tup [.str "global", .str m, .str x])) : RT H (.ref a) (.glob m x)
  | prim {a : Addr} {p : Str} (h : H a = some (.tup [.str "prim", .str p])) : RT H (.ref a) (.prim p)
  | fn {a q : Addr} {v : V} {ns : List Int} {b : Tr} (h : H a = some (.tup [.str "fn", .ref q, v])) (hq : H q = some (.tup (ns.map V.int))) (r : RT H v b) : RT H (.ref a) (.fn ns b)
  | let_ {a q : Addr} {v : V} {vs : List V} {ns : List Int} {ts : List Tr} {b : Tr} (h : H a = some (.tup [.str "let", .ref q, v])) (hq : H q = some (.tup vs)) (rp : RTp H vs ns ts) (r : RT H v b) : RT H (.ref a) (.let_ ns ts b)
  | if_ {a : Addr} {x y z : V} {p q r : Tr} (h : H a = some (.tup [.str "if", x, y, z])) (rx : RT H x p) (ry : RT H y q) (rz : RT H z r) : RT H (.ref a) (.if_ p q r)
  | call {a q : Addr} {v : V} {vs : List V} {f : Tr} {ts : List Tr} (h : H a = some (.tup [.str "call", v, .ref q])) (hq : H q = some (.tup vs)) (r : RT H v f) (rs : RTs H vs ts) : RT H (.ref a) (.call f ts)
inductive RTs (H : Hp) : List V → List Tr → Prop
  | nil : RTs H [] []
  | cons {v : V} {t : Tr} {vs : List V} {ts : List Tr} (r : RT H v t) (rs : RTs H vs ts) : RTs H (v :: vs) (t :: ts)
inductive RTp (H : Hp) : List V → List Int → List Tr → Prop
  | nil : RTp H [] [] []
  | cons {q : Addr} {v : V} {n : Int} {t : Tr} {vs : List V} {ns : List Int} {ts : List Tr} (h : H q = some (.tup [.int n, v])) (r : RT H v t) (rs : RTp H vs ns ts) : RTp H (.ref q :: vs) (n :: ns) (t :: ts)
end
/-- tuples stay -/
def KpT (H H' : Hp) : Prop := ∀ a xs, H a = some (.tup xs) → H' a = some (.tup xs)
theorem KpT.trans {H H1 H2 : Hp} (a : KpT H H1) (b : KpT H1 H2) : KpT H H2 := fun c xs h => b c xs (a c xs h)
mutual
theorem RT.keep {H H' : Hp} (k : KpT H H') : ∀ {v : V} {t : Tr}, RT H v t → RT H' v t
  | _, _, .int h => .int (k _ _ h)
  | _, _, .loc h => .loc (k _ _ h)
  | _, _, .glob h => .glob (k _ _ h)
  | _, _, .prim h => .prim (k _ _ h)
  | _, _, .fn h hq r => .fn (k _ _ h) (k _ _ hq) (RT.keep k r)
  | _, _, .let_ h hq rp r => .let_ (k _ _ h) (k _ _ hq) (RTp.keep k rp) (RT.keep k r)
  | _, _, .if_ h rx ry rz => .if_ (k _ _ h) (RT.keep k rx) (RT.keep k ry) (RT.keep k rz)
  | _, _, .call h hq r rs => .call (k _ _ h) (k _ _ hq) (RT.keep k r) (RTs.keep k rs)
theorem RTs.keep {H H' : Hp} (k : KpT H H') : ∀ {vs : List V} {ts : List Tr}, RTs H vs ts → RTs H' vs ts
  | _, _, .nil => .nil
  | _, _, .cons r rs => .cons (RT.keep k r) (RTs.keep k rs)
theorem RTp.keep {H H' : Hp} (k : KpT H H') : ∀ {vs : List V} {ns : List Int} {ts : List Tr}, RTp H vs ns ts → RTp H' vs ns ts
  | _, _, _, .nil => .nil
  | _, _, _, .cons h r rs => .cons (k _ _ h) (RT.keep k r) (RTp.keep k rs)
end
theorem Sm.kpT {H H' : Hp} (s : Sm No H H') : KpT H H' := fun a xs h => s.keep a _ (fun z => z) rfl h
theorem RTs.len {H : Hp} : ∀ {vs : List V} {ts : List Tr}, RTs H vs ts → vs.length = ts.length
  | _, _, .nil => rfl
  | _, _, .cons _ r => congrArg (· + 1) (RTs.len r)
theorem RTs.get {H : Hp} : ∀ {vs : List V} {ts : List Tr} {i : Nat} {v : V}, RTs H vs ts → vs[i]? = some v → ∃ t, ts[i]? = some t ∧ RT H v t
  | _, _, _, _, .nil, e => by simp at e
  | _, _, 0, _, .cons r _, e => by cases e; exact ⟨_, rfl, r⟩
  | _, _, i + 1, _, .cons _ rs, e => by
    obtain ⟨t, h1, h2⟩ := RTs.get (i := i) rs (by simpa using e)
    exact ⟨t, by simpa using h1, h2⟩
theorem RTs.snoc {H : Hp} : ∀ {vs : List V} {ts : List Tr} {v : V} {t : Tr}, RTs H vs ts → RT H v t → RTs H (vs ++ [v]) (ts ++ [t])
  | _, _, _, _, .nil, h => .cons h .nil
  | _, _, _, _, .cons g r, h => .cons g (RTs.snoc r h)
theorem RTp.len {H : Hp} : ∀ {vs : List V} {ns : List Int} {ts : List Tr}, RTp H vs ns ts → vs.length = ns.length ∧ ts.length = ns.length
  | _, _, _, .nil => ⟨rfl, rfl⟩
  | _, _, _, .cons _ _ r => ⟨congrArg (· + 1) (RTp.len r).1, congrArg (· + 1) (RTp.len r).2⟩
theorem RTp.get {H : Hp} : ∀ {vs : List V} {ns : List Int} {ts : List Tr} {i : Nat} {v : V}, RTp H vs ns ts → vs[i]? = some v → ∃ q x n t, v = .ref q ∧ H q = some (.tup [.int n, x]) ∧ ns[i]? = some n ∧ ts[i]? = some t ∧ RT H x t
  | _, _, _, _, _, .nil, e => by simp at e
  | _, _, _, 0, _, .cons h r _, e => by cases e; exact ⟨_, _, _, _, rfl, h, rfl, rfl, r⟩
  | _, _, _, i + 1, _, .cons _ _ rs, e => by
    obtain ⟨q, x, n, t, h1, h2, h3, h4, h5⟩ := RTp.get (i := i) rs (by simpa using e)
    exact ⟨q, x, n, t, h1, h2, by simpa using h3, by simpa using h4, h5⟩
theorem RTp.snoc {H : Hp} : ∀ {vs : List V} {ns : List Int} {ts : List Tr} {q : Addr} {v : V} {n : Int} {t : Tr}, RTp H vs ns ts → H q = some (.tup [.int n, v]) → RT H v t → RTp H (vs ++ [.ref q]) (ns ++ [n]) (ts ++ [t])
  | _, _, _, _, _, _, _, .nil, h, r => .cons h r .nil
  | _, _, _, _, _, _, _, .cons g r rs, h, k => .cons g r (RTp.snoc rs h k)
/-- the word of a tree -/
def word : Tr → Str
  | .int _ => "int"
  | .loc _ => "local"
  | .glob _ _ => "global"
  | .prim _ => "prim"
  | .fn _ _ => "fn"
  | .let_ _ _ _ => "let"
  | .if_ _ _ _ => "if"
  | .call _ _ => "call"
theorem RT.head {H : Hp} {v : V} {t : Tr} (r : RT H v t) : ∃ (a : Addr) (xs : List V), v = .ref a ∧ H a = some (.tup (.str (word t) :: xs)) ∧ xs.length ≤ 3 := by
  cases r with
  | int h => exact ⟨_, _, rfl, h, by simp⟩
  | loc h => exact ⟨_, _, rfl, h, by simp⟩
  | glob h => exact ⟨_, _, rfl, h, by simp⟩
  | prim h => exact ⟨_, _, rfl, h, by simp⟩
  | fn h => exact ⟨_, _, rfl, h, by simp⟩
  | let_ h => exact ⟨_, _, rfl, h, by simp⟩
  | if_ h => exact ⟨_, _, rfl, h, by simp⟩
  | call h => exact ⟨_, _, rfl, h, by simp⟩
def bnd : Tr → List Int
  | .fn ns _ => ns
  | .let_ ns _ _ => ns
  | _ => []
def kids : Tr → List Int → List (Tr × List Int)
  | .if_ a b c, kn => [(a, kn), (b, kn), (c, kn)]
  | .call f ts, kn => (f, kn) :: ts.map fun t => (t, kn)
  | .fn ns b, kn => [(b, ns ++ kn)]
  | .let_ ns ts b, kn => (ts.map fun t => (t, kn)) ++ [(b, ns ++ kn)]
  | _, _ => []
/-! how many parts, and no row of more than 1000 -/
mutual
def szT : Tr → Nat
  | .fn _ b => szT b + 1
  | .let_ _ ts b => szTs ts + szT b + 1
  | .if_ a b c => szT a + szT b + szT c + 1
  | .call f ts => szT f + szTs ts + 1
  | _ => 1
def szTs : List Tr → Nat
  | [] => 0
  | t :: ts => szT t + szTs ts
end
mutual
def widT : Tr → Prop
  | .fn ns b => ns.length ≤ 1000 ∧ widT b
  | .let_ ns ts b => ns.length ≤ 1000 ∧ widTs ts ∧ widT b
  | .if_ a b c => widT a ∧ widT b ∧ widT c
  | .call f ts => ts.length ≤ 900 ∧ widT f ∧ widTs ts
  | .glob m x => m.length ≤ big ∧ x.length ≤ big
  | _ => True
def widTs : List Tr → Prop
  | [] => True
  | t :: ts => widT t ∧ widTs ts
end
theorem szT_pos (t : Tr) : 1 ≤ szT t := by
  cases t <;> (unfold szT; omega)
theorem widTs_mem : ∀ {ts : List Tr}, widTs ts → ∀ t ∈ ts, widT t
  | [], _, _, h => by cases h
  | x :: r, h, t, m => by
    unfold widTs at h
    rcases List.mem_cons.mp m with e | e
    · rw [e]; exact h.1
    · exact widTs_mem h.2 t e
def szK (l : List (Tr × List Int)) : Nat := (l.map fun p => szT p.1).sum
theorem szTs_sum (kn : List Int) : ∀ ts : List Tr, szK (ts.map fun t => (t, kn)) = szTs ts
  | [] => by unfold szTs szK; rfl
  | t :: ts => by
    have ih := szTs_sum kn ts
    unfold szTs
    unfold szK at ih ⊢
    rw [List.map_cons, List.map_cons, List.sum_cons, ih]
theorem szK_kids (t : Tr) (kn : List Int) : szK (kids t kn) + 1 = szT t := by
  cases t with
  | int i => unfold szT; rfl
  | loc i => unfold szT; rfl
  | glob i j => unfold szT; rfl
  | prim i => unfold szT; rfl
  | fn ns b => unfold szT; simp [kids, szK]
  | let_ ns ts b =>
    have := szTs_sum kn ts
    unfold szT kids
    unfold szK at this ⊢
    rw [List.map_append, List.sum_append, this]
    simp
  | if_ a b c => unfold szT; simp [kids, szK]; omega
  | call f ts =>
    have := szTs_sum kn ts
    unfold szT kids
    unfold szK at this ⊢
    rw [List.map_cons, List.sum_cons, this]
theorem wid_kids {t : Tr} {kn : List Int} (h : widT t) : ∀ p ∈ kids t kn, widT p.1 := by
  intro p hp
  cases t with
  | int i => cases hp
  | loc i => cases hp
  | glob i j => cases hp
  | prim i => cases hp
  | fn ns b =>
    unfold widT at h
    rw [List.mem_singleton.mp hp]
    exact h.2
  | let_ ns ts b =>
    unfold widT at h
    rcases List.mem_append.mp hp with m | m
    · obtain ⟨t, ht, e⟩ := List.mem_map.mp m
      rw [← e]
      exact widTs_mem h.2.1 t ht
    · rw [List.mem_singleton.mp m]
      exact h.2.2
  | if_ a b c =>
    unfold widT at h
    simp only [kids, List.mem_cons, List.mem_nil_iff, or_false] at hp
    rcases hp with e | e | e <;> rw [e]
    · exact h.1
    · exact h.2.1
    · exact h.2.2
  | call f ts =>
    unfold widT at h
    rcases List.mem_cons.mp hp with e | m
    · rw [e]; exact h.2.1
    · obtain ⟨t, ht, e⟩ := List.mem_map.mp m
      rw [← e]
      exact widTs_mem h.2.2 t ht
end My
namespace My
open PySem PySem.Spec PyProof.Rows L2 TL
structure Bl2 (mg : Str → Option Value) : Prop where
  dict : mg "dict" = none
  zip : mg "zip" = none
  enumerate : mg "enumerate" = none
  reversed : mg "reversed" = none
  max : mg "max" = none
structure Cal (P : Program) (w : World) (K : PySem.W.Frag) (mg : Str → Option Value) (base : Heap) (CX : CXT) (k : Nat) (x : Str) (ps : List Str) (sp : Sp) (f : Addr) (fd : FuncData) : Prop where
  ok : FnOk P w K mg base CX k f fd ps sp
  k : PySem.W.keepIn K (.ref f) = true
  g : mg x = some (.ref f)
  b : Binds K fd ps []
/-- a method: its class, where it stands, what it promises -/
structure MCal (P : Program) (w : World) (K : PySem.W.Frag) (mg : Str → Option Value) (base : Heap) (CX : CXT) (k : Nat) (C : Addr) (m : Str) (ps : List Str) (sp : Sp) (f : Addr) (fd : FuncData) : Prop where
  ok : FnOk P w K mg base CX k f fd ps sp
  c : Cls K C
  m : Meth K C m f
  b : Binds K fd ps []
/-! ### del xs[a:] -/
theorem keep_take {f : Nat → Bool} {a : Nat} : ∀ {xs : List Value} {i : Nat}, (∀ k, k < i + xs.length → f k = decide (a ≤ k)) → ((xs.zipIdx i).filterMap fun p => if f p.2 then none else some p.1) = xs.take (a - i)
  | [], i, h => by simp
  | x :: xs, i, h => by
    rw [List.zipIdx_cons, List.filterMap_cons]
    have ih := keep_take (f := f) (a := a) (xs := xs) (i := i + 1) fun k hk => h k (by rw [List.length_cons]; omega)
    rw [ih]
    have e := h i (by rw [List.length_cons]; omega)
    by_cases c : a ≤ i
    · rw [decide_eq_true c] at e
      simp only [e, if_true]
      rw [show a - (i + 1) = 0 by omega, show a - i = 0 by omega]
      rfl
    · rw [decide_eq_false c] at e
      simp only [e, Bool.false_eq_true, if_false]
      rw [show a - i = (a - (i + 1)) + 1 by omega, List.take_succ_cons]
theorem bounds_from {a n : Nat} (h : a ≤ n) : sliceBounds (some (a : Int)) none none n = ((a : Int), (n : Int), 1) := by
  simp only [sliceBounds, Option.getD_none]
  have h1 : ¬ ((a : Int) < 0) := by omega
  simp only [h1, if_false, show (1 : Int) > 0 by decide, if_true]
  congr 1
  omega
section
variable {prog : Program} {w : World} {A : Around} {E : Value → Shared → Prop} {s : Shared}
theorem delItem_from {l sl : Addr} {items : List Value} {n : Nat} {vl vu : Value} {a : Nat} {Q : Unit → Shared → Prop}
    (e : s.heap.get? l = some { cls := .type "list", data := .seq items.toArray n }) (hs : s.heap.IsSliceOf sl vl vu .none) (pl : IsPart vl (some (a : Int))) (pu : IsPart vu none) (ha : a ≤ items.length) (hsz : items.length ≤ sizeLine)
    (h : ∀ F : Array Value → Array Value, F items.toArray = (items.take a).toArray → Q () { s with heap := s.heap.update l (Obj.mapSeq F) }) :
    wpAny (model prog w) A (delItem (.ref l) (.ref sl)) Q E s := by
  have hl : s.heap.IsList l items.toArray := PySem.IsL.isList e
  obtain ⟨os, hos, hcs, hds⟩ := id hs
  have hTs : s.TypeIs (.ref sl) "slice" := ⟨os, hos, hcs⟩
  have hstep : ¬ ((rawPart none == rawInt 0) = true) := Bool.false_ne_true
  unfold delItem
  try with_reducible refine wpAny_holding ?_
  refine wpAny_bind (wpAny_sequenceKey hl.typeIs (by decide) ?_)
  refine wpAny_bind (wpAny_callSpecial?_slot (name := Str.ofString "__delitem__") hl.typeIs PySem.F.slot_list_delitem
    (wpAny_call_entry PySem.F.slot_list_delitem hl.typeIs PySem.F.entry_list_delitem ?_ (PySem.F.args_list_delitem_2 _ _)))
  show wpAny _ _ (Builtin.List.listSubscript? (.ref sl) >>= _) _ _ s
  refine wpAny_bind ?_
  unfold Builtin.List.listSubscript?
  refine wpAny_bind (wpAny_specialOf hTs slice_no_index ?_)
  simp only [Option.isNone_none, if_true]
  refine wpAny_pure ?_
  show wpAny _ _ (typeOf (.ref sl) >>= _) _ _ s
  refine wpAny_bind (wpAny_typeOf hTs ?_)
  first
    | rw [if_neg (by decide)]
    | refine PySem.W.KFB.if_not (by decide) ?_
  rw [listSliceParts_eq]
  refine wpAny_bind (wpAny_bind (wpAny_field hos hds (x := .none) rfl (wpAny_bind (wpAny_listPart .none ?_))))
  rw [if_neg hstep]
  refine wpAny_bind (wpAny_field hos hds (x := vl) rfl (wpAny_bind (wpAny_listPart pl ?_)))
  refine wpAny_bind (wpAny_field hos hds (x := vu) rfl (wpAny_bind (wpAny_listPart pu (wpAny_pure ?_))))
  unfold Builtin.List.listItems
  refine wpAny_bind (wpAny_bind (wpAny_seqItems e rfl (wpAny_pure ?_)))
  refine wpAny_bind (wpAny_of_eq ((sliceIndices_raw (some (a : Int)) none none items.toArray.size (by simp)).trans (congrArg (pure : Int × Int × Int → Sem (Int × Int × Int)) (bounds_from (by rw [List.size_toArray]; exact ha)))) ?_)
  refine wpAny_bind (wpAny_rule ?_)
  refine wpAny_bind (wpAny_updateSeq (hz := by rw [List.size_toArray]; exact hsz) (_hz' := ?hz) e rfl ?mn)
  case hz =>
    rw [List.size_toArray]
    refine Nat.le_trans (List.length_filterMap_le _ _) ?_
    rw [List.length_zipIdx, Array.length_toList, List.size_toArray]
    omega
  case mn =>
  refine wpAny_bind (wpAny_letGo ?_)
  have hF : ∀ F : Array Value → Array Value, F items.toArray = (items.take a).toArray → Q () { s with heap := s.heap.update l (Obj.mapSeq F) } := h
  refine (fun q => by
    first
      | exact wpAny_bind (wpAny_pure (wpAny_pure ⟨.none, rfl, wpAny_pure q⟩))
      | exact wpAny_pure ⟨.none, rfl, wpAny_pure q⟩) (hF _ ?_)
  apply congrArg List.toArray
  refine (keep_take (a := a) (i := 0) fun k hk => ?_).trans (by simp)
  have hk2 : k < items.length := by simpa using hk
  change (if (1 : Int) > 0 then ((decide ((a : Int) ≤ (k : Int)) && decide ((k : Int) < (items.toArray.size : Int))) && (((k : Int) - (a : Int)) % 1 == 0)) else ((decide ((items.toArray.size : Int) < (k : Int)) && decide ((k : Int) ≤ (a : Int))) && (((a : Int) - (k : Int)) % (-1) == 0))) = decide (a ≤ k)
  rw [if_pos (by decide), List.size_toArray, decide_eq_true (show (k : Int) < (items.length : Int) by omega), Bool.and_true, Int.emod_one]
  by_cases c : a ≤ k
  · rw [decide_eq_true c, decide_eq_true (show (a : Int) ≤ (k : Int) by omega)]; rfl
  · rw [decide_eq_false c, decide_eq_false (show ¬ (a : Int) ≤ (k : Int) by omega)]; rfl
end
/-- del xs[a:] -/
def tDelF (to : TE) (tl : TO) : TS := fun D σ H => to σ H fun x H1 => tl σ H1 fun o H2 => ∃ (l : Addr) (xs : List V) (a : Nat), x = .ref l ∧ o = some (a : Int) ∧ H2 l = some (.lst xs) ∧ a ≤ xs.length ∧ D.nx σ (upd H2 l (.lst (xs.take a)))
section
variable {X : Cx}
theorem ps_delF {o lo : Expr} {to ti : TE} {tpos p2 pos : Pos} (ho : PE X o to) (hl : PE X lo ti) : PS X (.Delete [.Subscript o (.Slice (some lo) none none p2) tpos] pos) (tDelF to (tPart ti)) := by
  refine ⟨fun pins s σ H D I h => ?_⟩
  refine wpAny_Delete (wpAny_deleteEach_cons (wpAny_delete_Subscript (thn (ho.run pins s σ H _ I h) fun u s1 ⟨x, H1, I1, rx, q1⟩ => ?_)))
  refine wpAny_Slice (thn ((po_some hl).run pins s1 σ H1 _ I1 q1) fun vl s2 ⟨y, H2, I2, pl, q2⟩ => ?_)
  rw [evalPart_none]
  refine wpAny_pure (wpAny_pure ?_)
  obtain ⟨l, xs, a, ex, ey, hH, ha, q⟩ := q2
  subst ex
  subst ey
  cases (show u = Value.ref l from rx)
  have I4 : Inv X pins σ H2 { s2 with heap := s2.heap.push { cls := .type "slice", data := .fields #[vl, .none, .none] } } := I2.kept (t' := s2.toks) fun b ob q => Heap.get?_push_of_some _ q
  obtain ⟨z, its, n, r, hln, e⟩ := I4.lstM hH
  refine delItem_from e (Heap.IsSliceOf.new ..) pl .none (by rw [← hln]; exact ha) (by omega) fun F hF => ?_
  refine wpAny_deleteEach_nil ⟨σ, _, I4.lset (its' := its.take a) (ys := xs.take a) (t' := s2.toks) hH e hF (r.take a) ?_, q⟩
  rw [List.length_take]
  omega
end
end My
namespace My
open PySem PySem.Spec PyProof.Rows L2 TL
/-! ### code, values -/
inductive Src where
  | place (n : Nat) | kept (n : Nat)
mutual
inductive Code where
  | mk (params places : Nat) (is : List Ins)
inductive Ins where
  | int (i : Int) | prim (p : Str) | glob (m x : Str) | src (s : Src) | fn (c : Code) (ss : List Src) | put (n : Nat) | jump (n : Nat) | unless (n : Nat) | call (n : Nat) | tail (n : Nat) | end_
end
def Code.params : Code → Nat
  | .mk p _ _ => p
def Code.places : Code → Nat
  | .mk _ p _ => p
def Code.is : Code → List Ins
  | .mk _ _ i => i
inductive Vl where
  | int (i : Int)
  | pair (a b : Vl)
  | prim (p : Str)
  | fnP (ns : List Int) (b : Tr) (env : List (Int × Vl))
  | fnM (c : Code) (kept : List Vl)
/-! in the heap -/
def srcV : Src → List V
  | .place n => [.str "place", .int n]
  | .kept n => [.str "kept", .int n]
def RSr (H : Hp) (v : V) (s : Src) : Prop := ∃ a, v = .ref a ∧ H a = some (.tup (srcV s))
inductive RSs (H : Hp) : List V → List Src → Prop
  | nil : RSs H [] []
  | cons {v : V} {s : Src} {vs : List V} {ss : List Src} (r : RSr H v s) (rs : RSs H vs ss) : RSs H (v :: vs) (s :: ss)
mutual
inductive RC (H : Hp) : V → Code → Prop
  | mk {a q : Addr} {p l : Nat} {vs : List V} {is : List Ins} (h : H a = some (.tup [.str "code", .int p, .int l, .ref q])) (hq : H q = some (.tup vs)) (rs : RIs H vs is) : RC H (.ref a) (.mk p l is)
inductive RI (H : Hp) : V → Ins → Prop
  | int {a : Addr} {i : Int} (h : H a = some (.tup [.str "int", .int i])) : RI H (.ref a) (.int i)
  | prim {a : Addr} {p : Str} (h : H a = some (.tup [.str "prim", .str p])) : RI H (.ref a) (.prim p)
  | glob {a : Addr} {m x : Str} (h : H a = some (.tup [.str "global", .str m, .str x])) : RI H (.ref a) (.glob m x)
  | src {a : Addr} {s : Src} (h : H a = some (.tup (srcV s))) : RI H (.ref a) (.src s)
  | fn {a q : Addr} {v : V} {vs : List V} {c : Code} {ss : List Src} (h : H a = some (.tup [.str "fn", v, .ref q])) (hq : H q = some (.tup vs)) (r : RC H v c) (rs : RSs H vs ss) : RI H (.ref a) (.fn c ss)
  | put {a : Addr} {n : Nat} (h : H a = some (.tup [.str "put", .int n])) : RI H (.ref a) (.put n)
  | jump {a : Addr} {n : Nat} (h : H a = some (.tup [.str "jump", .int n])) : RI H (.ref a) (.jump n)
  | unless {a : Addr} {n : Nat} (h : H a = some (.tup [.str "unless", .int n])) : RI H (.ref a) (.unless n)
  | call {a : Addr} {n : Nat} (h : H a = some (.tup [.str "call", .int n])) : RI H (.ref a) (.call n)
  | tail {a : Addr} {n : Nat} (h : H a = some (.tup [.str "tail", .int n])) : RI H (.ref a) (.tail n)
  | end_ {a : Addr} (h : H a = some (.tup [.str "end"])) : RI H (.ref a) .end_
inductive RIs (H : Hp) : List V → List Ins → Prop
  | nil : RIs H [] []
  | cons {v : V} {i : Ins} {vs : List V} {is : List Ins} (r : RI H v i) (rs : RIs H vs is) : RIs H (v :: vs) (i :: is)
end
theorem RSr.keep {H H' : Hp} (k : KpT H H') {v : V} {s : Src} (r : RSr H v s) : RSr H' v s := let ⟨a, e, h⟩ := r; ⟨a, e, k _ _ h⟩
theorem RSs.keep {H H' : Hp} (k : KpT H H') : ∀ {vs : List V} {ss : List Src}, RSs H vs ss → RSs H' vs ss
  | _, _, .nil => .nil
  | _, _, .cons r rs => .cons (r.keep k) (RSs.keep k rs)
mutual
theorem RC.keep {H H' : Hp} (k : KpT H H') : ∀ {v : V} {c : Code}, RC H v c → RC H' v c
  | _, _, .mk h hq rs => .mk (k _ _ h) (k _ _ hq) (RIs.keep k rs)
theorem RI.keep {H H' : Hp} (k : KpT H H') : ∀ {v : V} {i : Ins}, RI H v i → RI H' v i
  | _, _, .int h => .int (k _ _ h)
  | _, _, .prim h => .prim (k _ _ h)
  | _, _, .glob h => .glob (k _ _ h)
  | _, _, .src h => .src (k _ _ h)
  | _, _, .fn h hq r rs => .fn (k _ _ h) (k _ _ hq) (RC.keep k r) (rs.keep k)
  | _, _, .put h => .put (k _ _ h)
  | _, _, .jump h => .jump (k _ _ h)
  | _, _, .unless h => .unless (k _ _ h)
  | _, _, .call h => .call (k _ _ h)
  | _, _, .tail h => .tail (k _ _ h)
  | _, _, .end_ h => .end_ (k _ _ h)
theorem RIs.keep {H H' : Hp} (k : KpT H H') : ∀ {vs : List V} {is : List Ins}, RIs H vs is → RIs H' vs is
  | _, _, .nil => .nil
  | _, _, .cons r rs => .cons (RI.keep k r) (RIs.keep k rs)
end
/-- what one argument a primitive has -/
def arP (p : Str) : Int := if p = "first" ∨ p = "second" then 1 else 2
/-- where the classes of values stand -/
structure Cs where
  pa : Addr
  fu : Addr
  pr : Addr
/-- what stays but for the objects of X, and every tuple -/
structure Fr (X : Addr → Prop) (H H' : Hp) : Prop where
  sm : Sm X H H'
  tup : KpT H H'
theorem Fr.refl (X : Addr → Prop) (H : Hp) : Fr X H H := ⟨Sm.refl _ _, fun _ _ h => h⟩
theorem Fr.trans {X : Addr → Prop} {H H1 H2 : Hp} (a : Fr X H H1) (b : Fr X H1 H2) : Fr X H H2 := ⟨a.sm.trans b.sm, a.tup.trans b.tup⟩
theorem Fr.new {X : Addr → Prop} {H : Hp} {p : Addr} {o : HO} (h : H p = none) : Fr X H (upd H p o) := ⟨Sm.new h, fun a xs e => by rw [upd_ne (ne_of_none e h)]; exact e⟩
def isMut : HO → Bool
  | .tbl _ => false
  | .tup _ => false
  | _ => true
theorem Fr.set {X : Addr → Prop} {H : Hp} {p : Addr} {o u : HO} (h : X p) (e : H p = some u) (m : isMut u = true) : Fr X H (upd H p o) :=
  ⟨Sm.set h (fun ps z => by rw [e] at z; cases z; cases m), fun a xs q => by rw [upd_ne (fun z => by rw [z, e] at q; cases q; cases m)]; exact q⟩
/-- what H did not know may change -/
theorem Fr.mut {X : Addr → Prop} {H H' : Hp} {p : Addr} {o u : HO} (f : Fr X H H') (h : H p = none) (e : H' p = some u) (m : isMut u = true) : Fr X H (upd H' p o) :=
  ⟨f.sm.mut h (fun ps z => by rw [e] at z; cases z; cases m), fun a xs q => by rw [upd_ne (ne_of_none q h)]; exact f.tup _ _ q⟩
theorem Fr.wide {X Y : Addr → Prop} {H H' : Hp} (f : Fr X H H') (h : ∀ b, X b → Y b) : Fr Y H H' := ⟨f.sm.wide h, f.tup⟩
theorem Fr.keep {X : Addr → Prop} {H H' : Hp} {b : Addr} {o : HO} (f : Fr X H H') (n : ¬ X b) (t : isTbl o = false) (e : H b = some o) : H' b = some o := f.sm.keep b o n t e
theorem Fr.dom {X : Addr → Prop} {H H' : Hp} (f : Fr X H H') {b : Addr} (e : H' b = none) : H b = none := f.sm.dom b e
theorem Fr.no {X : Addr → Prop} {H H' : Hp} (f : Fr No H H') : Fr X H H' := f.wide fun _ z => z.elim
theorem Fr.of {H H' : Hp} (s : Sm No H H') : Fr No H H' := ⟨s, fun a xs h => s.keep a _ (fun z => z) rfl h⟩
mutual
inductive RV (C : Cs) (X : Addr → Prop) (H : Hp) : V → Vl → Prop
  | int (i : Int) (h : i.natAbs ≤ 10 ^ 60) : RV C X H (.int i) (.int i)
  | pair {a dx : Addr} {x y : V} {u v : Vl} (h : H a = some (.ins C.pa dx [("first", x), ("second", y)])) (n : ¬ X a) (r : RV C X H x u) (s : RV C X H y v) : RV C X H (.ref a) (.pair u v)
  | prim {a dx : Addr} {p : Str} (h : H a = some (.ins C.pr dx [("parameters", .int (arP p)), ("name", .str p)])) (n : ¬ X a) : RV C X H (.ref a) (.prim p)
  | fnP {a dx e : Addr} {c : V} {ns : List Int} {b : Tr} {kvs : List (Key × V)} {env : List (Int × Vl)} (h : H a = some (.ins C.fu dx [("parameters", .int ns.length), ("body", c), ("kept", .ref e)])) (n : ¬ X a) (rt : RT H c (.fn ns b)) (wt : widT (.fn ns b))
      (he : H e = some (.dK kvs)) (ne : ¬ X e) (re : REv C X H kvs env) : RV C X H (.ref a) (.fnP ns b env)
  | fnM {a dx e : Addr} {cv : V} {c : Code} {vs : List V} {ks : List Vl} (h : H a = some (.ins C.fu dx [("parameters", .int c.params), ("body", cv), ("kept", .ref e)])) (n : ¬ X a) (rc : RC H cv c)
      (he : H e = some (.lst vs)) (ne : ¬ X e) (rs : RVs C X H vs ks) : RV C X H (.ref a) (.fnM c ks)
inductive RVs (C : Cs) (X : Addr → Prop) (H : Hp) : List V → List Vl → Prop
  | nil : RVs C X H [] []
  | cons {v : V} {x : Vl} {vs : List V} {xs : List Vl} (r : RV C X H v x) (rs : RVs C X H vs xs) : RVs C X H (v :: vs) (x :: xs)
inductive REv (C : Cs) (X : Addr → Prop) (H : Hp) : List (Key × V) → List (Int × Vl) → Prop
  | nil : REv C X H [] []
  | cons {n : Int} {v : V} {x : Vl} {kvs : List (Key × V)} {env : List (Int × Vl)} (r : RV C X H v x) (rs : REv C X H kvs env) : REv C X H ((.inl n, v) :: kvs) ((n, x) :: env)
end
section
variable {C : Cs}
mutual
/-- another heap, another X: what a value is made of must stand there and be outside -/
theorem RV.mv {X Y : Addr → Prop} {H H' : Hp} (k : ∀ a o, isTbl o = false → H a = some o → ¬ X a → H' a = some o ∧ ¬ Y a) (t : KpT H H') : ∀ {v : V} {x : Vl}, RV C X H v x → RV C Y H' v x
  | _, _, .int i h => .int i h
  | _, _, .pair h n r s => .pair (k _ _ rfl h n).1 (k _ _ rfl h n).2 (RV.mv k t r) (RV.mv k t s)
  | _, _, .prim h n => .prim (k _ _ rfl h n).1 (k _ _ rfl h n).2
  | _, _, .fnP h n rt wt he ne re => .fnP (k _ _ rfl h n).1 (k _ _ rfl h n).2 (rt.keep t) wt (k _ _ rfl he ne).1 (k _ _ rfl he ne).2 (REv.mv k t re)
  | _, _, .fnM h n rc he ne rs => .fnM (k _ _ rfl h n).1 (k _ _ rfl h n).2 (rc.keep t) (k _ _ rfl he ne).1 (k _ _ rfl he ne).2 (RVs.mv k t rs)
theorem RVs.mv {X Y : Addr → Prop} {H H' : Hp} (k : ∀ a o, isTbl o = false → H a = some o → ¬ X a → H' a = some o ∧ ¬ Y a) (t : KpT H H') : ∀ {vs : List V} {xs : List Vl}, RVs C X H vs xs → RVs C Y H' vs xs
  | _, _, .nil => .nil
  | _, _, .cons r rs => .cons (RV.mv k t r) (RVs.mv k t rs)
theorem REv.mv {X Y : Addr → Prop} {H H' : Hp} (k : ∀ a o, isTbl o = false → H a = some o → ¬ X a → H' a = some o ∧ ¬ Y a) (t : KpT H H') : ∀ {kvs : List (Key × V)} {env : List (Int × Vl)}, REv C X H kvs env → REv C Y H' kvs env
  | _, _, .nil => .nil
  | _, _, .cons r rs => .cons (RV.mv k t r) (REv.mv k t rs)
end
variable {X Y : Addr → Prop} {H H' : Hp}
theorem Fr.kk (f : Fr X H H') : ∀ a o, isTbl o = false → H a = some o → ¬ X a → H' a = some o ∧ ¬ X a := fun a o t e n => ⟨f.keep n t e, n⟩
theorem RV.fr (f : Fr X H H') {v : V} {x : Vl} (r : RV C X H v x) : RV C X H' v x := r.mv f.kk f.tup
theorem RVs.fr (f : Fr X H H') {vs : List V} {xs : List Vl} (r : RVs C X H vs xs) : RVs C X H' vs xs := r.mv f.kk f.tup
theorem REv.fr (f : Fr X H H') {kvs : List (Key × V)} {env : List (Int × Vl)} (r : REv C X H kvs env) : REv C X H' kvs env := r.mv f.kk f.tup
/-- more may change, if it was not there -/
theorem grow_kk (g : ∀ a, Y a → X a ∨ H a = none) : ∀ a o, isTbl o = false → H a = some o → ¬ X a → H a = some o ∧ ¬ Y a := fun a o _ e n => ⟨e, fun z => (g a z).elim n fun q => by rw [e] at q; cases q⟩
theorem RV.grow (g : ∀ a, Y a → X a ∨ H a = none) {v : V} {x : Vl} (r : RV C X H v x) : RV C Y H v x := r.mv (grow_kk g) fun _ _ h => h
theorem RVs.grow (g : ∀ a, Y a → X a ∨ H a = none) {vs : List V} {xs : List Vl} (r : RVs C X H vs xs) : RVs C Y H vs xs := r.mv (grow_kk g) fun _ _ h => h
theorem RVs.len : ∀ {vs : List V} {xs : List Vl}, RVs C X H vs xs → vs.length = xs.length
  | _, _, .nil => rfl
  | _, _, .cons _ r => congrArg (· + 1) (RVs.len r)
theorem RVs.app : ∀ {vs ws : List V} {xs ys : List Vl}, RVs C X H vs xs → RVs C X H ws ys → RVs C X H (vs ++ ws) (xs ++ ys)
  | _, _, _, _, .nil, s => s
  | _, _, _, _, .cons r rs, s => .cons r (RVs.app rs s)
theorem RVs.one {v : V} {x : Vl} (r : RV C X H v x) : RVs C X H [v] [x] := .cons r .nil
theorem RVs.get : ∀ {vs : List V} {xs : List Vl} {i : Nat} {v : V}, RVs C X H vs xs → vs[i]? = some v → ∃ x, xs[i]? = some x ∧ RV C X H v x
  | _, _, _, _, .nil, e => by simp at e
  | _, _, 0, _, .cons r _, e => by cases e; exact ⟨_, rfl, r⟩
  | _, _, i + 1, _, .cons _ rs, e => by
    obtain ⟨t, h1, h2⟩ := RVs.get (i := i) rs (by simpa using e)
    exact ⟨t, by simpa using h1, h2⟩
theorem RVs.get2 : ∀ {vs : List V} {xs : List Vl} {i : Nat} {x : Vl}, RVs C X H vs xs → xs[i]? = some x → ∃ v, vs[i]? = some v ∧ RV C X H v x
  | _, _, _, _, .nil, e => by simp at e
  | _, _, 0, _, .cons r _, e => by cases e; exact ⟨_, rfl, r⟩
  | _, _, i + 1, _, .cons _ rs, e => by
    obtain ⟨t, h1, h2⟩ := RVs.get2 (i := i) rs (by simpa using e)
    exact ⟨t, by simpa using h1, h2⟩
theorem RVs.take : ∀ {vs : List V} {xs : List Vl} (n : Nat), RVs C X H vs xs → RVs C X H (vs.take n) (xs.take n)
  | _, _, 0, _ => .nil
  | _, _, _ + 1, .nil => .nil
  | _, _, n + 1, .cons r rs => .cons r (RVs.take n rs)
theorem RVs.drop : ∀ {vs : List V} {xs : List Vl} (n : Nat), RVs C X H vs xs → RVs C X H (vs.drop n) (xs.drop n)
  | _, _, 0, r => r
  | _, _, _ + 1, .nil => .nil
  | _, _, n + 1, .cons _ rs => RVs.drop n rs
theorem RVs.rev {vs : List V} {xs : List Vl} (r : RVs C X H vs xs) : RVs C X H vs.reverse xs.reverse := by
  induction vs generalizing xs with
  | nil => cases r; exact .nil
  | cons v vs ih =>
    cases r with
    | cons r rs =>
      rw [List.reverse_cons, List.reverse_cons]
      exact (ih rs).app (.one r)
theorem REv.len : ∀ {kvs : List (Key × V)} {env : List (Int × Vl)}, REv C X H kvs env → kvs.length = env.length
  | _, _, .nil => rfl
  | _, _, .cons _ r => congrArg (· + 1) (REv.len r)
/-- a name's value -/
def evGet (n : Int) : List (Int × Vl) → Option Vl
  | [] => none
  | (m, x) :: r => if m = n then some x else evGet n r
def evHas (n : Int) (env : List (Int × Vl)) : Bool := env.any fun p => decide (p.1 = n)
def evPut (n : Int) (y : Vl) (env : List (Int × Vl)) : List (Int × Vl) := if evHas n env = true then env.map (fun p => if p.1 = n then (p.1, y) else p) else env ++ [(n, y)]
def evPuts : List Int → List Vl → List (Int × Vl) → List (Int × Vl)
  | n :: ns, y :: ys, env => evPuts ns ys (evPut n y env)
  | _, _, env => env
theorem REv.app : ∀ {kvs lvs : List (Key × V)} {env env' : List (Int × Vl)}, REv C X H kvs env → REv C X H lvs env' → REv C X H (kvs ++ lvs) (env ++ env')
  | _, _, _, _, .nil, s => s
  | _, _, _, _, .cons r rs, s => .cons r (REv.app rs s)
theorem REv.get {n : Int} : ∀ {kvs : List (Key × V)} {env : List (Int × Vl)} {x : Vl}, REv C X H kvs env → evGet n env = some x → ∃ v, valV kvs (.inl n) = some v ∧ RV C X H v x
  | _, _, _, .nil, e => by cases e
  | _, _, x, .cons (n := m) (v := v) (x := x') (kvs := kvs) (env := env) r rs, e => by
    unfold evGet at e
    by_cases c : m = n
    · rw [if_pos c] at e
      cases e
      exact ⟨v, valV_pos (by rw [c]), r⟩
    · rw [if_neg c] at e
      obtain ⟨u, h1, h2⟩ := REv.get rs e
      exact ⟨u, by rw [valV_neg (fun z => c (Sum.inl.inj z))]; exact h1, h2⟩
theorem REv.has {n : Int} : ∀ {kvs : List (Key × V)} {env : List (Int × Vl)}, REv C X H kvs env → (kvs.any fun kv => decide (kv.1 = .inl n)) = evHas n env
  | _, _, .nil => rfl
  | _, _, .cons (n := m) (v := v) (x := x') (kvs := kvs) (env := env) r rs => by
    unfold evHas
    rw [List.any_cons, List.any_cons, REv.has rs]
    show (decide ((Sum.inl m : Key) = Sum.inl n) || evHas n env) = (decide (m = n) || evHas n env)
    rw [decide_eq_decide.mpr (show (Sum.inl m : Key) = Sum.inl n ↔ m = n from ⟨Sum.inl.inj, fun h => by rw [h]⟩)]
theorem REv.map {n : Int} {w : V} {y : Vl} (rw' : RV C X H w y) : ∀ {kvs : List (Key × V)} {env : List (Int × Vl)}, REv C X H kvs env → REv C X H (kvs.map fun kv => if kv.1 = .inl n then (kv.1, w) else kv) (env.map fun p => if p.1 = n then (p.1, y) else p)
  | _, _, .nil => .nil
  | _, _, .cons (n := m) (v := v) (x := x') (kvs := kvs) (env := env) r rs => by
    rw [List.map_cons, List.map_cons]
    by_cases c : m = n
    · have c2 : (Sum.inl m : Key) = .inl n := by rw [c]
      simp only [c2, c, if_true]
      exact .cons rw' (REv.map rw' rs)
    · have c2 : ¬ (Sum.inl m : Key) = .inl n := fun z => c (Sum.inl.inj z)
      simp only [c2, c, if_false]
      exact .cons r (REv.map rw' rs)
theorem REv.put {n : Int} {w : V} {y : Vl} {kvs : List (Key × V)} {env : List (Int × Vl)} (r : REv C X H kvs env) (rw' : RV C X H w y) : REv C X H (putK kvs (.inl n) w) (evPut n y env) := by
  unfold putK evPut
  rw [r.has]
  by_cases c : evHas n env = true
  · rw [if_pos c, if_pos c]; exact r.map rw'
  · rw [if_neg c, if_neg c]; exact r.app (.cons rw' .nil)
theorem evPut_len (n : Int) (y : Vl) (env : List (Int × Vl)) : (evPut n y env).length ≤ env.length + 1 := by
  unfold evPut
  split
  · rw [List.length_map]; omega
  · rw [List.length_append]; exact Nat.le_refl _
theorem evPuts_snoc : ∀ (ns : List Int) (ys : List Vl) (n : Int) (y : Vl) (env : List (Int × Vl)), ns.length = ys.length → evPuts (ns ++ [n]) (ys ++ [y]) env = evPut n y (evPuts ns ys env)
  | [], [], n, y, env, _ => rfl
  | a :: ns, b :: ys, n, y, env, e => by
    show evPuts (ns ++ [n]) (ys ++ [y]) (evPut a b env) = evPut n y (evPuts ns ys (evPut a b env))
    exact evPuts_snoc ns ys n y _ (by simpa using e)
theorem evPuts_len : ∀ (ns : List Int) (ys : List Vl) (env : List (Int × Vl)), (evPuts ns ys env).length ≤ env.length + ns.length
  | [], _, env => by cases ‹List Vl› <;> exact Nat.le_refl _
  | n :: ns, [], env => by unfold evPuts; omega
  | n :: ns, y :: ys, env => by
    have h1 := evPuts_len ns ys (evPut n y env)
    have h2 := evPut_len n y env
    unfold evPuts
    rw [List.length_cons]
    omega
end
end My
namespace My
open PySem PySem.Spec PyProof.Rows L2 TL
/-! ### the error that ends a program -/
structure BaseC (K : PySem.W.Frag) (mg : Str → Option Value) (F : Addr) : Prop where
  g : mg "FoldError" = some (.ref F)
  rd : PySem.W.readsIn K F (.type "type") = true
  ga : PySem.W.specialIn K (.ref F) "__getattribute__" = some (some (.builtin "type.__getattribute__"))
  ini : PySem.W.findCls K (.ref F) (.type "type") "__init__" = some (.val (.builtin "ValueError.__init__"))
theorem pe_baseInit {X : Cx} {e : Expr} {es : List Expr} {ta : TA} {p1 p2 pos : Pos} {F : Addr} {pl : Sem Bool} (B : BaseC X.K X.mg F) (hg : Gl X "FoldError") (ha : PA X (e :: es) ta)
    (hc : eval (.Call (.Attribute (.Name "FoldError" p1) "__init__" p2) (e :: es) [] pos) X.env = (do
      let ov ← eval (.Name "FoldError" p1) X.env
      standAt p2.atName
      let (f, first) ← holding [ov] (getMethod ov "__init__" pl)
      callWith pos f first (backTo pos (starEach (e :: es) X.env)) (backToKw pos (keywordEach [] X.env))) := by rfl)
    (he : starEach (e :: es) X.env = (false, eval e X.env) :: starEach es X.env := by rfl) (hpl : (backTo pos (starEach es X.env)).any (·.1) = false := by rfl) :
    PE X (.Call (.Attribute (.Name "FoldError" p1) "__init__" p2) (e :: es) [] pos) (tVeI X.K ta) := by
  refine ⟨fun pins s σ H Q I h => PySem.W.methodCall_KW (ld_glob I hg B.g ?_) hc⟩
  refine PySem.W.method_cls I.kIn B.ga (PySem.W.cls_value I.kIn B.rd B.ini rfl ?_)
  show wpAny _ _ (callWith pos (Value.builtin "ValueError.__init__") [] (backTo pos (starEach (e :: es) X.env)) []) _ _ _
  refine PyProof.Rows.callWith_method1 (thn (ha.run pos pins _ σ H _ (I.tok _) h) fun us s1 hh => ?_) he hpl
  obtain ⟨vs, H1, J, rv, a, C, ws, ev, hl, T, ea, q⟩ := hh
  subst ev
  cases rv with
  | @cons _ u0 _ ur r0 rr =>
    have eu : u0 = Value.ref a := r0
    subst eu
    refine oinit_ok T J ea ?_ fun s' J' => ⟨.non, H1, J', rfl, q⟩
    rw [← Paired.length rr]
    exact Nat.le_of_lt (small1000 hl)
/-- Cls.__init__(..) of a class of the program's own -/
structure InitC (P : Program) (w : World) (K : PySem.W.Frag) (mg : Str → Option Value) (base : Heap) (k : Nat) (x : Str) (ps : List Str) (sp : Sp) (R f : Addr) (fd : FuncData) : Prop where
  g : mg x = some (.ref R)
  rd : PySem.W.readsIn K R (.type "type") = true
  ga : PySem.W.specialIn K (.ref R) "__getattribute__" = some (some (.builtin "type.__getattribute__"))
  ini : PySem.W.findCls K (.ref R) (.type "type") "__init__" = some (.val (.ref f))
  ok : FnOk P w K mg base CX0 k f fd ps sp
  k : PySem.W.keepIn K (.ref f) = true
  b : Binds K fd ps []
def tInitC (sp : Sp) (ta : TA) : TE := fun σ H Q => ta σ H fun vs H1 => sp vs H1 Q (fun _ _ _ => False)
theorem pe_initC {X : Cx} {k : Nat} {x : Str} {e : Expr} {es : List Expr} {ta : TA} {p1 p2 pos : Pos} {R f : Addr} {fd : FuncData} {ps : List Str} {sp : Sp} {pl : Sem Bool} (B : InitC X.prog X.w X.K X.mg X.base k x ps sp R f fd) (hr : Room k X.A) (hg : Gl X x) (ha : PA X (e :: es) ta) (hdb : (x == ("__debug__" : Str)) = false := by decide)
    (hc : eval (.Call (.Attribute (.Name x p1) "__init__" p2) (e :: es) [] pos) X.env = (do
      let ov ← eval (.Name x p1) X.env
      standAt p2.atName
      let (f, first) ← holding [ov] (getMethod ov "__init__" pl)
      callWith pos f first (backTo pos (starEach (e :: es) X.env)) (backToKw pos (keywordEach [] X.env))) := by rfl)
    (he : starEach (e :: es) X.env = (false, eval e X.env) :: starEach es X.env := by rfl) (hpl : (backTo pos (starEach es X.env)).any (·.1) = false := by rfl) :
    PE X (.Call (.Attribute (.Name x p1) "__init__" p2) (e :: es) [] pos) (tInitC sp ta) := by
  refine ⟨fun pins s σ H Q I h => PySem.W.methodCall_KW (ld_glob I hg B.g ?_ hdb) hc⟩
  refine PySem.W.method_cls I.kIn B.ga (PySem.W.cls_value I.kIn B.rd B.ini rfl ?_)
  refine PySem.W.callWith_K (first := []) (h₀ := X.base) I.ok.mod.kin B.k (thn (ha.run pos pins _ σ H _ (I.tok _) h) fun us s1 ⟨vs, H1, I1, r, q⟩ => ⟨I1.kIn, ?_⟩) he hpl
  have q2 : sp (vs ++ []) H1 Q (fun _ _ _ => False) := by rw [List.append_nil]; exact q
  exact run_fn (us := us) (vs := vs) (dvs := []) (ds := []) B.ok hr B.b .nil pass0 I1 r q2
/-- __init__(self, outcome) -/
def spIniO (C : Addr) : Sp := fun vs H Q _ => ∃ (a : Addr) (v : V), vs = [.ref a, v] ∧ H a = some (exo a C none) ∧
  ∀ d, H d = none → d ≠ a → Q .non (upd (upd H d (exd d [("outcome", v)])) a (exo a C (some d)))
structure ErrO (P : Program) (w : World) (K : PySem.W.Frag) (mg : Str → Option Value) (base : Heap) (C fI : Addr) (fdI : FuncData) : Prop where
  o : OexC K C
  g : mg "Ended" = some (.ref C)
  iC : PySem.W.findIn K (.ref C) "__init__" = some (some (.ref fI))
  tI : PySem.W.typeIn K (.ref fI) = some (.type "function")
  f : FnOk P w K mg base CX0 1 fI fdI ["self", "outcome"] (spIniO C)
  b : Binds K fdI ["self", "outcome"] []
/-- the program ends with this outcome -/
def erX (X : Addr → Prop) (C : Addr) (ws : List Str) (H : Hp) (E : XK) : Prop := ∀ H' d t, Fr X H H' → H d = none → H' d = some (.xd [("outcome", .ref t)]) → H' t = some (.tup (ws.map .str)) → E (.ref C) (some d) H'
theorem erX.fr {X : Addr → Prop} {C : Addr} {ws : List Str} {H H1 : Hp} {E : XK} (f : Fr X H H1) (h : erX X C ws H E) : erX X C ws H1 E := fun H' d t f2 hd e1 e2 => h H' d t (f.trans f2) (f.dom hd) e1 e2
theorem mkO_er {X : Addr → Prop} {C t : Addr} {H H0 : Hp} {ws : List Str} {Q : XK} {ta : TA} {σ : L2.St} (ht : H t = some (.tup (ws.map .str))) (h : ∀ Q' : List V → Hp → Prop, Q' [.ref t] H → ta σ H0 Q')
    (f : Fr X H0 H) (q : erX X C ws H0 Q) : tMkO C (spIniO C) [] ta σ H0 Q := by
  refine h _ ⟨by show 1 ≤ 1000; decide, fun a ha => ?_⟩
  refine ⟨a, .ref t, rfl, upd_same, fun d hd hda => ⟨rfl, d, [("outcome", .ref t)], upd_same, ?_, ?_, ?_⟩⟩
  · rw [upd_ne hda, upd_same]
  · rw [upd_ne hda] at hd; exact hd
  have hd0 : H d = none := by rw [upd_ne hda] at hd; exact hd
  have ne_a : ∀ {b : Addr} {o : HO}, H b = some o → b ≠ a := fun {b o} e z => by rw [z, ha] at e; cases e
  have ne_d : ∀ {b : Addr} {o : HO}, H b = some o → b ≠ d := fun {b o} e z => by rw [z, hd0] at e; cases e
  have val : ∀ {b : Addr} {o : HO}, H b = some o → (upd (L2.del (upd (upd (upd H a (exo a C none)) d (exd d [("outcome", V.ref t)])) a (exo a C (some d))) a) d (.xd [("outcome", .ref t)])) b = some o := fun {b o} e => by
    rw [upd_ne (ne_d e), del_ne (ne_a e), upd_ne (ne_a e), upd_ne (ne_d e), upd_ne (ne_a e)]
    exact e
  refine q _ d t (f.trans ⟨⟨fun b o _ _ e => val e, fun Z ⟨ps, z1, z2⟩ => ⟨ps, val z1, z2⟩, fun b e => ?_⟩, fun a xs e => val e⟩) (f.dom hd0) upd_same (val ht)
  cases q : H b with
  | none => rfl
  | some o => rw [val q] at e; cases e
/-- .. of an outcome that is written where it is raised -/
theorem mkO_ws {X : Addr → Prop} {C : Addr} {H0 : Hp} {ws : List Str} {Q : XK} {ta : TA} {σ : L2.St} (h : ∀ Q' : List V → Hp → Prop, (∀ t, H0 t = none → Q' [.ref t] (upd H0 t (.tup (ws.map .str)))) → ta σ H0 Q') (q : erX X C ws H0 Q) : tMkO C (spIniO C) [] ta σ H0 Q := by
  refine h _ fun t ht => ?_
  have z := mkO_er (X := X) (C := C) (t := t) (H := upd H0 t (.tup (ws.map .str))) (H0 := H0) (ws := ws) (Q := Q) (ta := fun _ _ Q' => Q' [.ref t] (upd H0 t (.tup (ws.map .str)))) (σ := σ) upd_same (fun _ z => z) (Fr.new ht) q
  exact z
theorem mkO_1 {X : Addr → Prop} {C : Addr} {H0 : Hp} {a : Str} {Q : XK} {σ : L2.St} (q : erX X C [a] H0 Q) : tMkO C (spIniO C) [] (tCons (tTup (tCons (tC (.str a)) tNil)) tNil) σ H0 Q :=
  mkO_ws (ws := [a]) (fun Q' h => ⟨by show 1 ≤ sizeLine; decide, fun t ht => h t ht⟩) q
theorem mkO_2 {X : Addr → Prop} {C : Addr} {H0 : Hp} {a b : Str} {Q : XK} {σ : L2.St} (q : erX X C [a, b] H0 Q) : tMkO C (spIniO C) [] (tCons (tTup (tCons (tC (.str a)) (tCons (tC (.str b)) tNil))) tNil) σ H0 Q :=
  mkO_ws (ws := [a, b]) (fun Q' h => ⟨by show 2 ≤ sizeLine; decide, fun t ht => h t ht⟩) q
/-! ### classes -/
/-- a class whose objects have these fields -/
structure FldC (K : PySem.W.Frag) (C : Addr) (fs : List Str) : Prop where
  c : Cls K C
  n : ∀ f ∈ fs, NoAttr K C f
/-- what an object is to isinstance -/
structure InsC (K : PySem.W.Frag) (C : Addr) : Prop where
  ha : PySem.W.findIn K (.ref C) "__class__" = some (some (.builtin "object.__class__"))
  hm : PySem.W.mroIn K C (.type "object") = some true
structure ObC (K : PySem.W.Frag) : Prop where
  hn : PySem.W.specialIn K (.builtin "object.__class__") "__get__" = some (some (.builtin "getset_descriptor.__get__"))
  ht : PySem.W.takesIn K (.builtin "object.__class__") = some true
theorem ty_ins {K : PySem.W.Frag} {H : Hp} {a C dx : Addr} {fs : List (Str × V)} (O : ObC K) (c : Cls K C) (i : InsC K C) (e : H a = some (.ins C dx fs)) : TyX K H (.ref a) (.ref C) := .base (.ins e c i.ha O.hn O.ht i.hm)
/-- C(..): how an object is made -/
structure MkC (P : Program) (w : World) (K : PySem.W.Frag) (mg : Str → Option Value) (base : Heap) (k : Nat) (x : Str) (ps : List Str) (sp : Sp) (C f : Addr) (fd : FuncData) : Prop where
  m : Mk K C f
  ok : FnOk P w K mg base CX0 k f fd ps sp
  g : mg x = some (.ref C)
  b : Binds K fd ps []
/-- __init__ that only stores: the object then has these fields -/
def spIni (C : Addr) (n : Nat) (mkF : List V → List (Str × V)) : Sp := fun vs H Q _ => ∃ (x dx : Addr) (us : List V), vs = .ref x :: us ∧ us.length = n ∧ H x = some (.ins C dx []) ∧ Q .non (upd H x (.ins C dx (mkF us)))
end My
namespace My
open PySem PySem.Spec PyProof.Rows L2 GxR
theorem ad_lt {b N m : Nat} (e : b = N) (h : N + 1 ≤ m) : b < m := by omega
theorem ad_ltlt {b N m : Nat} (e : b < N) (h : N + 1 ≤ m) : b < m := by omega
theorem ad_no {b N : Nat} (e : b = N) (h : b < N) : False := by omega
theorem ad_no2 {b N m : Nat} (e : b = m) (h : b < N) (h2 : N + 1 ≤ m) : False := by omega
/-- the element of a generator expression over signs, where it may read the module's names -/
def EltG (prog : Program) (w : World) (mg : Str → Option Value) (sc : Scope) (x : Str) (e : Expr) (pb : Nat → Bool) : Prop :=
  ∀ (ce : Env) (A' : Around) (E' : Value → Shared → Prop) (c : Nat) (t : Tok) (z : Shared) (m : Str → Option Value),
    ce.scope = sc → ce.globals = mainGlobals → z.heap.Ns mainGlobals mg → z.heap.Ns ce.locals m → m x = some (.str ⟨#[c]⟩ t) →
    wpAny (model prog w) A' (eval e ce) (fun y z' => y = .bool (pb c) ∧ Keeps z z') E' z
/-- x in NAME, NAME a text of the module -/
theorem elt_inG {prog : Program} {w : World} {mg : Str → Option Value} {sc : Scope} {x g : Str} {k : Str} {tk : Tok} {p1 p2 p3 : Pos} (hk : sc.kind = .function)
    (hl : sc.names.lookup x = some .local) (hgl : sc.names.lookup g = some .globalImplicit) (hm : mg g = some (.str k tk))
    (hd : (x == ("__debug__" : Str)) = false := by decide) (hd2 : (g == ("__debug__" : Str)) = false := by decide) :
    EltG prog w mg sc x (.Compare (.Name x p1) [.In] [.Name g p2] p3) (fun c => decide (c ∈ k.cps.toList)) := by
  intro ce A' E' c t z m hs hg hG hn hx
  refine wpAny_Compare1 ?_
  refine wpAny_Name (wpAny_loadName_local (by rw [hs]; exact hk) (show ce.scope.names.lookup x = some .local by rw [hs]; exact hl) hn hx ?_) hd
  refine Calls.Name_function_global (by rw [hs]; exact hk) (show ce.scope.names.lookup g = some .globalImplicit by rw [hs]; exact hgl) (Calls.loadGlobal_global (by rw [hg]; exact hG) hm ?_) hd2
  exact PyProof.Rows.in_str ⟨congrArg Value.bool (PySem.StrLaws.found_one k c), keeps_refl _⟩
section
variable {X : Cx} {pins : List (Addr × Obj)} {σ : L2.St} {H : Hp} {s : Shared}
theorem genG {c P : Addr} {elt iter : Expr} {x : Str} {px gpos : Pos} {scope : Scope} {pb : Nat → Bool} {te : TE} {k : Nat} {Q' : Value → Shared → Prop} {R : Str → Hp → Prop}
    (hr : Room k X.A) (TB : TabB X.base X.mg c P) (hcode : X.env.code = .ref c) (S : GenS X.env scope x) (hi : PE X iter te)
    (hel : EltG X.prog X.w X.mg scope x elt pb) (hs : ∀ v, genFold iter X.env v = pure v) (I : Inv X pins σ H s)
    (h : te σ H fun v H1 => ∃ a : Str, v = .str a ∧ TabG H1 P ∧ R a H1)
    (hQ : ∀ a H1 g s5, R a H1 → Ready X pins σ H1 P a pb g s5 → Q' (.ref g) s5) :
    wpAny (model X.prog X.w) X.A (eval (.GeneratorExp elt [⟨.Name x px, iter, [], 0⟩] scope gpos) X.env) Q' X.xe s := by
  refine wpAny_GeneratorExp_walksQ hr.hd S.co (closure_ok S.free) S.cell S.dot S.loc S.kind hr.depth ?_ hs
  refine thn (hi.run pins s σ H _ I h) fun xv s1 hx => ?_
  obtain ⟨v, H1, J, rv, a, ev, ⟨ps, tP, tOk⟩, hR⟩ := hx
  subst ev
  obtain ⟨t, et⟩ := (show ∃ t, xv = Value.str a t from rv)
  subst et
  refine wpAny_pyIter_str fun o St W st0 => ?_
  generalize hN : s1.heap.objs.size = N at W st0 ⊢
  have gP : s1.heap.get? P = some { cls := .none, data := .fields ps } := J.hok P _ tP
  have ltP : P < N := by rw [← hN]; exact Heap.lt_size gP
  have szO : (s1.heap.push o).objs.size = N + 1 := by rw [Heap.size_push, hN]
  have kO : ∀ b u, s1.heap.get? b = some u → (s1.heap.push o).get? b = some u := fun b u e => Heap.get?_push_of_some _ e
  have codeO : PySem.W.CodeHd (s1.heap.push o) c P := TB.code.keeps fun b u e => kO b u (J.bk b u e)
  have limO : (s1.heap.push o).NoLimit := J.nolimit.push o
  have statics : cStatics < N := by
    obtain ⟨_, hn, _⟩ := J.nolimit
    rw [← hN]
    exact hn.lt
  have staticsP : cStatics ≠ P := fun e => by
    obtain ⟨_, hn, _⟩ := J.nolimit
    obtain ⟨q, _, _, hq, hqd, _⟩ := hn
    rw [e, gP] at hq
    cases hq
    cases hqd
  refine ⟨limO, ?_⟩
  have main : ∀ (code : Value) (h3 : Heap) (tk : Nat) (ps' : Array Value), Heap.ExtBut P (s1.heap.push o) h3 → N + 1 ≤ h3.objs.size →
      h3.get? P = some { cls := .none, data := .fields ps' } → (∃ more, ps' = ps ++ more) → TriplesOk ps'.toList →
      wpAny (model X.prog X.w) X.A (builtinsFor X.env.globals X.env.builtins) (fun bi s₄ =>
        ∃ Ia fp wr n₀ Pf St₀ pz F, Value.ref N = .ref Ia ∧ (∀ A' : Around, A'.handled = none → Walks X.prog X.w A' Ia fp wr n₀ Pf St₀) ∧ St₀ 0 s₄.heap ∧
          (∀ b ∈ fp, b < s₄.heap.objs.size) ∧ s₄.heap.NoLimit ∧ cStatics ∉ wr ∧
          (∀ href : Heap, (∀ b o, s₄.heap.get? b = some o → href.get? b = some o) →
            QuietGen X.prog X.w (genEnv scope (cloFrom X.env.cells scope.names []) s₄.heap.objs.size code bi X.env) x [] elt (List.range s₄.heap.objs.size) wr Pf pz F href) ∧
          (∀ a h₅ tk gs, gs.bare = true → s₄.heap.objs.size < a → h₅.objs.size = a + 1 → (∀ b o, s₄.heap.get? b = some o → h₅.get? b = some o) →
            WalksS X.prog X.w X.A.in4 a (a :: s₄.heap.objs.size :: List.range s₄.heap.objs.size) (s₄.heap.objs.size :: wr) (GenOnlyQ s₄.gens.size) (passing pz n₀ 0).length
              (fun j y => ∃ i, (passing pz n₀ 0)[j]? = some i ∧ F i y) (GenAt X.prog X.w X.A.in4 a s₄.gens.size s₄.heap.objs.size (List.range s₄.heap.objs.size) wr pz n₀ F) →
            GenAt X.prog X.w X.A.in4 a s₄.gens.size s₄.heap.objs.size (List.range s₄.heap.objs.size) wr pz n₀ F 0 { s₄ with gens := s₄.gens.push gs, toks := tk, heap := h₅ } →
            Q' (.ref a) { s₄ with gens := s₄.gens.push gs, toks := tk, heap := h₅ })) X.xe { s1 with heap := h3, toks := tk } := by
    intro code h3 tk ps' hx hsz hP3 hmore ht3
    have k3 : ∀ b u, b ≠ P → s1.heap.get? b = some u → h3.get? b = some u := fun b u hb e => hx b u hb (kO b u e)
    have glob3 : h3.Ns mainGlobals X.mg := ((J.mod.glob.keeps J.bk).push o).extBut hx TB.gP
    obtain ⟨bm, ob, b1, b2, b3, b4, b5, b6, b7, b8⟩ := TB.bm
    refine wpAny_builtinsFor (m := X.mg) (by rw [J.ok.glob]; exact glob3) b1 b2 (k3 _ _ b4 (J.bk _ _ b5)) b6 b7 b8 ?_
    refine ⟨N, [N], [N], a.cps.size, SignAt a, St, (fun _ => true), (fun i y => ∃ q, a.cps[i]? = some q ∧ y = .bool (pb q)), rfl, W, ?_, ?_, limO.extBut hx staticsP, ?_, ?_, ?_⟩
    · refine (W X.A hr.hd).frame _ _ _ st0 fun b hb u e => hx b u (fun z => ?_) e
      have eb : b = N := by simpa using hb
      exact ad_no (z.symm.trans eb) ltP
    · intro b hb
      have eb : b = N := by simpa using hb
      exact ad_lt eb hsz
    · intro z
      have eb : cStatics = N := by simpa using z
      rw [eb] at statics
      exact Nat.lt_irrefl _ statics
    · intro href keepH
      have ltG : mainGlobals < N := by
        obtain ⟨q, _, _, hq, _⟩ := J.mod.glob.keeps J.bk
        rw [← hN]
        exact Heap.lt_size hq
      refine ⟨fun A' E' i v z m hA hv hn hm hk => ?_, fun A' E' i v z m hA hv hp hn hm hk => ?_⟩
      · simp only [List.forIn_nil]
        exact wpAny_pure ⟨rfl, keeps_refl _⟩
      · obtain ⟨q, u, hq, ev⟩ := hv
        subst ev
        have globZ : z.heap.Ns mainGlobals X.mg := by
          obtain ⟨og, es, ep, ho, hrest⟩ := glob3
          refine ⟨og, es, ep, hk mainGlobals (List.mem_range.mpr ?_) (fun hw => ?_) og (keepH _ _ ho), hrest⟩
          · exact ad_ltlt ltG hsz
          · have eb : mainGlobals = N := by simpa using hw
            exact ad_no eb ltG
        exact wpAny_mono (hel _ A' E' q u z m rfl J.ok.glob globZ hn hm) (fun y z' r => ⟨⟨q, hq, r.1⟩, r.2⟩) fun _ _ e => e
    · intro g h5 tk5 gs hgb hag hsz5 hk5 W5 at0
      simp only [GxR.passing_true, List.length_range] at W5
      refine hQ a H1 g _ hR ⟨_, _, _, _, _, W5.in4_1, at0, ?_, fun s' mv => ?_⟩
      · rintro j y sj Qj Ej ⟨i, hij, q, hq, rfl⟩ hQj
        obtain ⟨hj, ej⟩ := List.getElem?_eq_some_iff.mp hij
        rw [List.getElem_range] at ej
        subst ej
        have e9 : a.cps.toList[j]? = some q := by rw [Array.getElem?_toList]; exact hq
        have hQ2 : Qj (trF pb a.cps.toList j) sj := hQj
        rw [trF_some e9] at hQ2
        exact wpAny_truthy_bool hQ2
      · obtain ⟨more, em⟩ := hmore
        have nwr : ∀ b u, s1.heap.get? b = some u → b ∉ h3.objs.size :: [N] := fun b u e hb => by
          have hl : b < N := by rw [← hN]; exact Heap.lt_size e
          rcases List.mem_cons.mp hb with z | z
          · exact ad_no2 z hl hsz
          · have eb : b = N := by simpa using z
            exact ad_no eb hl
        have K2 := inv_tab (more := more) (h' := s'.heap) (g' := s'.gens) (d' := s'.drawn) (t' := s'.toks) J tP
          (fun b u hb e => mv.heap b u (nwr b u e) (hk5 b u (k3 b u hb e))) (by rw [← em]; exact mv.heap P _ (nwr P _ gP) (hk5 P _ hP3)) (AllBare.movedS (J.bare.push hgb) mv)
        rw [sh_eta s1 s' mv.os] at K2
        exact ⟨upd H1 P (.tbl (ps ++ more)), ⟨⟨ps ++ more, upd_same, by rw [← em]; exact ht3⟩, fun b hb => upd_ne hb⟩, K2⟩
  cases hf : codeAmong gpos ps.toList with
  | none =>
    refine wpAny_genexprCodeX hcode (codeO.code (kO _ _ gP) tOk) (codeO.tab (kO _ _ gP)) hf fun c' h' tk hx hge hlt hco' _ htab' _ => ?_
    obtain ⟨o1, vs, f1, tf, fl, tg, inF, tx, tt, op, _, _, _, _, _, _, _, _, _, htr, _⟩ := hco'
    refine main _ h' tk _ hx ?_ htab'.2 ⟨_, rfl⟩ htr
    rw [szO] at hge
    exact Nat.le_trans hge (Nat.le_of_lt hlt)
  | some cv =>
    refine wpAny_genexprCode_hit hcode (codeO.code (kO _ _ gP) tOk) hf ?_
    exact main cv (s1.heap.push o) s1.toks ps (Heap.ExtBut.refl _ _) (Nat.le_of_eq szO.symm) (kO _ _ gP) ⟨#[], by simp⟩ tOk
/-- all(test for x in e), e a text -/
theorem pe_allG {c P : Addr} {elt iter : Expr} {x : Str} {px p pos gpos : Pos} {scope : Scope} {pb : Nat → Bool} {te : TE} {k : Nat}
    (hr : Room k X.A) (hg : Gl X "all") (hm : X.mg "all" = none) (hb : bootBuiltins "all" = some (.builtin "all")) (TB : TabB X.base X.mg c P) (hcode : X.env.code = .ref c) (S : GenS X.env scope x)
    (hi : PE X iter te) (hel : EltG X.prog X.w X.mg scope x elt pb) (hs : ∀ v, genFold iter X.env v = pure v)
    (he : starEach [.GeneratorExp elt [⟨.Name x px, iter, [], 0⟩] scope gpos] X.env = (false, eval (.GeneratorExp elt [⟨.Name x px, iter, [], 0⟩] scope gpos) X.env) :: starEach [] X.env := by rfl) :
    PE X (.Call (.Name "all" p) [.GeneratorExp elt [⟨.Name x px, iter, [], 0⟩] scope gpos] [] pos) (tAllS P pb te) := by
  refine ⟨fun pins s σ H Q I h => wpAny_Call_Name_kw (ld_blt I hg hm hb (PyProof.Rows.callWith_builtin1 ?_ he (by rfl)))⟩
  rw [he]
  show wpAny _ _ (spliced ((false, eval (.GeneratorExp elt [⟨.Name x px, iter, [], 0⟩] scope gpos) X.env) :: backTo pos (starEach [] X.env))) _ _ s
  refine Calls.spliced_cons (genG (R := fun a H1 => ∀ H2, Tabbed P H1 H2 → Q (.bl (a.cps.toList.all pb)) H2) hr TB hcode S hi hel hs I h fun a H1 g z hR rdy => Calls.spliced_nil ?_)
  obtain ⟨fp, wr, G, F, St, W, st0, tru, back⟩ := rdy
  refine call_all_walkS (W.self 0 _ _ _ st0 ⟨g, fp, wr, G, _, F, St, _, rfl, W, st0, tru, fun z' mv => ?_⟩)
  obtain ⟨H2, tb, K2⟩ := back z' mv
  have q := hR H2 tb
  rw [← all_signs a pb] at q
  exact ⟨.bl _, H2, K2, rfl, q⟩
end
end My
namespace My
open PySem PySem.Spec PyProof.Rows L2 TL GxR
/-! ### all(isinstance(x, int) for x in xs): xs a list of ints and of objects of own classes -/
def KU (K : PySem.W.Frag) (h : Heap) (u : Value) (b : Bool) : Prop := ∃ (t : Value) (Z : Heap → Prop), PySem.W.KitX K u t Z ∧ Z h ∧ u ≠ .builtin "__main__.__loader__#opaque" ∧ PySem.W.kitOne K t (.type "int") = some b
def KI (K : PySem.W.Frag) (H : Hp) (v : V) (b : Bool) : Prop := (∃ i, v = .int i ∧ b = true) ∨ (∃ (a C dx : Addr) (fs : List (Str × V)), v = .ref a ∧ H a = some (.ins C dx fs) ∧ Cls K C ∧ InsC K C ∧ ObC K ∧ PySem.W.kitOne K (.ref C) (.type "int") = some false ∧ b = false)
def KIs (K : PySem.W.Frag) (H : Hp) (vs : List V) (bs : List Bool) : Prop := bs.length = vs.length ∧ ∀ (i : Nat) (v : V), vs[i]? = some v → ∃ b, bs[i]? = some b ∧ KI K H v b
theorem ku_of {X : Cx} {pins : List (Addr × Obj)} {σ : L2.St} {H : Hp} {s : Shared} {v : V} {u : Value} {b : Bool} {P : Addr} {ps : Array Value} (I : Inv X pins σ H s) (r : RelV v u) (q : KI X.K H v b) (tP : H P = some (.tbl ps)) {z : Heap} (old : ∀ q u, q ≠ P → s.heap.get? q = some u → z.get? q = some u) : KU X.K z u b := by
  rcases q with ⟨i, rfl, rfl⟩ | ⟨a, C, dx, fs, rfl, ea, cl, ic, O', hk, rfl⟩
  · obtain ⟨t, e⟩ := (show ∃ t, u = Value.int i t from r)
    cases e
    exact ⟨_, _, PySem.W.kitx_int, True.intro, (fun z => nomatch z), kit_ty (show kitB "int" "int" = some true by decide +kernel)⟩
  · cases (show u = Value.ref a from r)
    obtain ⟨mA, O, _, _, _, hdx⟩ := ins_get I.hok ea
    obtain ⟨od, J, _⟩ := O.look
    refine ⟨_, _, PySem.W.kitx_own (ox := PySem.W.instObj C dx) (od := od) (cl.get _) cl.hd ic.ha O'.hn O'.ht ic.hm, ⟨old _ _ (fun z => ?_) J.at_, rfl, rfl, old _ _ (fun z => ?_) J.dict⟩, (fun z => nomatch z), hk⟩
    · rw [z, tP] at ea; cases ea
    · rw [z, tP] at hdx; cases hdx
theorem vals_at {xs : List V} {us : List Value} (r : Vals xs us) {i : Nat} {u : Value} (e : us[i]? = some u) : ∃ v, xs[i]? = some v ∧ RelV v u := by
  cases h : xs[i]? with
  | none => rw [r.none_of h] at e; cases e
  | some v =>
    obtain ⟨u', e', q⟩ := r.get h
    rw [e] at e'
    cases e'
    exact ⟨v, rfl, q⟩
/-- the element, where what s1 held but P is held -/
def EltI (X : Cx) (sc : Scope) (x : Str) (e : Expr) (D U : Nat) (P : Addr) (s1 : Shared) : Prop :=
  ∀ (ce : Env) (A' : Around) (E' : Value → Shared → Prop) (v : Value) (b : Bool) (z : Shared) (m : Str → Option Value), ce.scope = sc → ce.globals = mainGlobals → ce.builtins = builtinsNs → ce.cells = cloFrom X.env.cells sc.names [] → A'.handled = none → A'.depth ≤ D → A'.units ≤ U →
    (∀ q o, q ≠ P → s1.heap.get? q = some o → z.heap.get? q = some o) → z.heap.Ns ce.locals m → m x = some v → KU X.K z.heap v b → wpAny (model X.prog X.w) A' (eval e ce) (fun y z' => y = .bool b ∧ Keeps z z') E' z
def trB (bs : List Bool) (j : Nat) : Bool := trF (fun n => n == 1) (bs.map fun b => if b = true then 1 else 0) j
theorem trB_some {bs : List Bool} {j : Nat} {b : Bool} (h : bs[j]? = some b) : trB bs j = b := by
  unfold trB
  rw [trF_some (b := if b = true then 1 else 0) (by rw [List.getElem?_map, h]; rfl)]
  cases b <;> rfl
theorem all_trB (bs : List Bool) : (List.range bs.length).all (trB bs) = bs.all id := by
  have := all_trF (bs.map fun b => if b = true then 1 else 0) (fun n => n == 1)
  rw [List.length_map] at this
  show (List.range bs.length).all (trF _ _) = _
  rw [this, List.all_map]
  congr 1
  funext b
  cases b <;> rfl
theorem any_trB (bs : List Bool) : (List.range bs.length).any (trB bs) = bs.any id := by
  have := any_trF (bs.map fun b => if b = true then 1 else 0) (fun n => n == 1)
  rw [List.length_map] at this
  show (List.range bs.length).any (trF _ _) = _
  rw [this, List.any_map]
  congr 1
  funext b
  cases b <;> rfl
def ReadyB (X : Cx) (pins : List (Addr × Obj)) (σ : L2.St) (H1 : Hp) (P : Addr) (bs : List Bool) (g : Addr) (s5 : Shared) : Prop :=
  ∃ (fp wr : List Addr) (G : Array GenState → Array GenState → Prop) (F : Nat → Value → Prop) (St : Nat → Shared → Prop), WalksS X.prog X.w X.A.in1 g fp wr G bs.length F St ∧ St 0 s5 ∧ TruthOf X.prog X.w X.A.in1 F (trB bs) ∧
    ∀ s', Moved wr G s5 s' → ∃ H2, Tabbed P H1 H2 ∧ Inv X pins σ H2 s'
section
variable {X : Cx} {pins : List (Addr × Obj)} {σ : L2.St} {H : Hp} {s : Shared}
theorem genI {c P : Addr} {elt iter : Expr} {x : Str} {px gpos : Pos} {scope : Scope} {te : TE} {k : Nat} {Q' : Value → Shared → Prop} {R : List Bool → Hp → Prop} {G0 : L2.St → Hp → Prop}
    (hr : Room k X.A) (TB : TabB X.base X.mg c P) (hcode : X.env.code = .ref c) (S : GenS X.env scope x) (hi : PE X iter te)
    (hel : ∀ (pins : List (Addr × Obj)) (s1 : Shared) (H1 : Hp), Inv X pins σ H1 s1 → G0 σ H1 → TabG H1 P → EltI X scope x elt (X.A.depth + 1) (X.A.units + 8) P s1) (hs : ∀ v, genFold iter X.env v = pure v) (I : Inv X pins σ H s)
    (h : te σ H fun v H1 => ∃ (l : Addr) (vs : List V) (bs : List Bool), v = .ref l ∧ H1 l = some (.lst vs) ∧ KIs X.K H1 vs bs ∧ TabG H1 P ∧ G0 σ H1 ∧ R bs H1)
    (hQ : ∀ bs H1 g s5, R bs H1 → ReadyB X pins σ H1 P bs g s5 → Q' (.ref g) s5) :
    wpAny (model X.prog X.w) X.A (eval (.GeneratorExp elt [⟨.Name x px, iter, [], 0⟩] scope gpos) X.env) Q' X.xe s := by
  refine wpAny_GeneratorExp_walksQD hr.hd S.co (closure_ok S.free) S.cell S.dot S.loc S.kind hr.depth (thn (hi.run pins s σ H _ I h) fun xv s1 hx => ?_) hs
  obtain ⟨v, H1, J, rv, l, vs, bs, ev, hl, ⟨lbs, al⟩, ⟨ps, tP, tOk⟩, hG, hR⟩ := hx
  subst ev
  obtain rfl : xv = Value.ref l := rv
  have EL := hel pins s1 H1 J hG ⟨ps, tP, tOk⟩
  obtain ⟨its, rits, pl, _⟩ := J.list (SqL.of hl)
  have isl := pl.isList
  have szI : its.toArray.size = bs.length := by rw [List.size_toArray, ← rits.length, lbs]
  refine wpAny_pyIter_list isl ?_
  generalize hN : s1.heap.objs.size = N
  generalize ho : ({ cls := .type "list_iterator", data := .fields #[.ref l, .int 0 0] } : Obj) = o
  have isit : (s1.heap.push o).IsListIter N l 0 := by rw [← ho, ← hN]; exact ⟨_, Heap.get?_push_size _ rfl, rfl, rfl⟩
  have gP : s1.heap.get? P = some { cls := .none, data := .fields ps } := J.hok P _ tP
  have ltP : P < N := by rw [← hN]; exact Heap.lt_size gP
  have ltl : l < N := by rw [← hN]; obtain ⟨q, e, _⟩ := isl; exact Heap.lt_size e
  have szO : (s1.heap.push o).objs.size = N + 1 := by rw [Heap.size_push, hN]
  have kO : ∀ b u, s1.heap.get? b = some u → (s1.heap.push o).get? b = some u := fun b u e => Heap.get?_push_of_some _ e
  have codeO : PySem.W.CodeHd (s1.heap.push o) c P := TB.code.keeps fun b u e => kO b u (J.bk b u e)
  have limO : (s1.heap.push o).NoLimit := J.nolimit.push o
  have nPl : l ≠ P := fun e => by rw [e, tP] at hl; cases hl
  have stLt : cStatics < N := by
    obtain ⟨_, hn, _⟩ := J.nolimit
    rw [← hN]
    exact hn.lt
  have stP : cStatics ≠ P := fun e => by
    obtain ⟨_, hn, _⟩ := J.nolimit
    obtain ⟨q, _, _, hq, hqd, _⟩ := hn
    rw [e, gP] at hq
    cases hq
    cases hqd
  refine ⟨limO, ?_⟩
  have main : ∀ (code : Value) (h3 : Heap) (tk : Nat) (ps' : Array Value), Heap.ExtBut P (s1.heap.push o) h3 → N + 1 ≤ h3.objs.size →
      h3.get? P = some { cls := .none, data := .fields ps' } → (∃ more, ps' = ps ++ more) → TriplesOk ps'.toList →
      wpAny (model X.prog X.w) X.A (builtinsFor X.env.globals X.env.builtins) (fun bi s₄ =>
        ∃ Ia fp wr n₀ Pf St₀ pz F, Value.ref N = .ref Ia ∧ (∀ A' : Around, A'.handled = none → Walks X.prog X.w A' Ia fp wr n₀ Pf St₀) ∧ St₀ 0 s₄.heap ∧
          (∀ b ∈ fp, b < s₄.heap.objs.size) ∧ s₄.heap.NoLimit ∧ cStatics ∉ wr ∧
          (∀ href : Heap, (∀ b o, s₄.heap.get? b = some o → href.get? b = some o) →
            QuietGenD X.prog X.w (genEnv scope (cloFrom X.env.cells scope.names []) s₄.heap.objs.size code bi X.env) x [] elt (List.range s₄.heap.objs.size) wr Pf pz F href (X.A.depth + 1) (X.A.units + 8)) ∧
          (∀ a h₅ tk gs, gs.bare = true → s₄.heap.objs.size < a → h₅.objs.size = a + 1 → (∀ b o, s₄.heap.get? b = some o → h₅.get? b = some o) →
            WalksS X.prog X.w X.A.in4 a (a :: s₄.heap.objs.size :: List.range s₄.heap.objs.size) (s₄.heap.objs.size :: wr) (GenOnlyQ s₄.gens.size) (passing pz n₀ 0).length
              (fun j y => ∃ i, (passing pz n₀ 0)[j]? = some i ∧ F i y) (GenAt X.prog X.w X.A.in4 a s₄.gens.size s₄.heap.objs.size (List.range s₄.heap.objs.size) wr pz n₀ F) →
            GenAt X.prog X.w X.A.in4 a s₄.gens.size s₄.heap.objs.size (List.range s₄.heap.objs.size) wr pz n₀ F 0 { s₄ with gens := s₄.gens.push gs, toks := tk, heap := h₅ } →
            Q' (.ref a) { s₄ with gens := s₄.gens.push gs, toks := tk, heap := h₅ })) X.xe { s1 with heap := h3, toks := tk } := by
    intro code h3 tk ps' hx hsz hP3 hmore ht3
    have k3 : ∀ b u, b ≠ P → s1.heap.get? b = some u → h3.get? b = some u := fun b u hb e => hx b u hb (kO b u e)
    have glob3 : h3.Ns mainGlobals X.mg := ((J.mod.glob.keeps J.bk).push o).extBut hx TB.gP
    obtain ⟨bm, ob, b1, b2, b3, b4, b5, b6, b7, b8⟩ := TB.bm
    refine wpAny_builtinsFor (m := X.mg) (by rw [J.ok.glob]; exact glob3) b1 b2 (k3 _ _ b4 (J.bk _ _ b5)) b6 b7 b8 ?_
    have isl3 : h3.IsList l its.toArray := by
      obtain ⟨q, e, r⟩ := isl
      exact ⟨q, k3 _ _ nPl e, r⟩
    have isit3 : h3.IsListIter N l 0 := by
      obtain ⟨q, e, r⟩ := isit
      exact ⟨q, hx _ _ (fun z => Nat.lt_irrefl _ (z ▸ ltP)) e, r⟩
    refine ⟨N, [N, l], [N], its.toArray.size, _, _, (fun _ => true), (fun i y => ∃ b, bs[i]? = some b ∧ y = .bool b), rfl, (fun A' hA => Walks.list hA N l (Nat.ne_of_lt ltl) its.toArray), ⟨isit3, isl3⟩, ?_, limO.extBut hx stP, ?_, ?_, ?_⟩
    · intro b hb
      rcases List.mem_cons.mp hb with e | e
      · exact ad_lt e hsz
      · exact ad_ltlt ((List.mem_singleton.mp e) ▸ ltl) hsz
    · intro z
      have eb : cStatics = N := by simpa using z
      rw [eb] at stLt
      exact Nat.lt_irrefl _ stLt
    · intro href keepH
      refine ⟨fun A' E' i v z m hA hD hU hv hn hm hk => ?_, fun A' E' i v z m hA hD hU hv hp hn hm hk => ?_⟩
      · simp only [List.forIn_nil]
        exact wpAny_pure ⟨rfl, keeps_refl _⟩
      · have hv2 : its[i]? = some v := by simpa using hv
        obtain ⟨vv, hvv, q1⟩ := vals_at rits hv2
        obtain ⟨b, hd, rd⟩ := al i vv hvv
        have old : ∀ q u, q ≠ P → s1.heap.get? q = some u → z.heap.get? q = some u := fun q u hq e => by
          have lq : q < N := by rw [← hN]; exact Heap.lt_size e
          refine hk q (List.mem_range.mpr (ad_ltlt lq hsz)) (fun hw => ?_) u (keepH _ _ (k3 q u hq e))
          have eb : q = N := by simpa using hw
          exact Nat.lt_irrefl _ (eb ▸ lq)
        have nvz : KU X.K z.heap v b := ku_of J q1 rd tP old
        exact wpAny_mono (EL _ A' E' v _ z m rfl J.ok.glob rfl rfl hA hD hU old hn hm nvz) (fun y z' r => ⟨⟨_, hd, r.1⟩, r.2⟩) fun _ _ e => e
    · intro g h5 tk5 gs hgb hag hsz5 hk5 W5 at0
      rw [szI] at W5 at0
      simp only [GxR.passing_true, List.length_range] at W5
      refine hQ bs H1 g _ hR ⟨_, _, _, _, _, W5.in4_1, at0, ?_, fun s' mv => ?_⟩
      · rintro j y sj Qj Ej ⟨i, hij, b, hb, rfl⟩ hQj
        obtain ⟨hj, ej⟩ := List.getElem?_eq_some_iff.mp hij
        rw [List.getElem_range] at ej
        subst ej
        have hQ2 : Qj (trB bs j) sj := hQj
        rw [trB_some hb] at hQ2
        exact wpAny_truthy_bool hQ2
      · obtain ⟨more, em⟩ := hmore
        have nwr : ∀ b u, s1.heap.get? b = some u → b ∉ h3.objs.size :: [N] := fun b u e hb => by
          have hl : b < N := by rw [← hN]; exact Heap.lt_size e
          rcases List.mem_cons.mp hb with z | z
          · exact ad_no2 z hl hsz
          · have eb : b = N := by simpa using z
            exact ad_no eb hl
        have K2 := inv_tab (more := more) (h' := s'.heap) (g' := s'.gens) (d' := s'.drawn) (t' := s'.toks) J tP
          (fun b u hb e => mv.heap b u (nwr b u e) (hk5 b u (k3 b u hb e))) (by rw [← em]; exact mv.heap P _ (nwr P _ gP) (hk5 P _ hP3)) (AllBare.movedS (J.bare.push hgb) mv)
        rw [sh_eta s1 s' mv.os] at K2
        exact ⟨upd H1 P (.tbl (ps ++ more)), ⟨⟨ps ++ more, upd_same, by rw [← em]; exact ht3⟩, fun b hb => upd_ne hb⟩, K2⟩
  cases hf : codeAmong gpos ps.toList with
  | none =>
    refine wpAny_genexprCodeX hcode (codeO.code (kO _ _ gP) tOk) (codeO.tab (kO _ _ gP)) hf fun c' h' tk hx hge hlt hco' _ htab' _ => ?_
    obtain ⟨o1, vs1, f1, tf, fl, tg, inF, tx, tt, op, _, _, _, _, _, _, _, _, _, htr, _⟩ := hco'
    refine main _ h' tk _ hx ?_ htab'.2 ⟨_, rfl⟩ htr
    rw [szO] at hge
    exact Nat.le_trans hge (Nat.le_of_lt hlt)
  | some cv =>
    refine wpAny_genexprCode_hit hcode (codeO.code (kO _ _ gP) tOk) hf ?_
    exact main cv (s1.heap.push o) s1.toks ps (Heap.ExtBut.refl _ _) (Nat.le_of_eq szO.symm) (kO _ _ gP) ⟨#[], by simp⟩ tOk
def tGenI (K : PySem.W.Frag) (P : Addr) (G0 : L2.St → Hp → Prop) (te : TE) (f : List Bool → Bool) : TE := fun σ H Q => te σ H fun v H1 => ∃ (l : Addr) (vs : List V) (bs : List Bool), v = .ref l ∧ H1 l = some (.lst vs) ∧ KIs K H1 vs bs ∧ TabG H1 P ∧ G0 σ H1 ∧ ∀ H2, Tabbed P H1 H2 → Q (.bl (f bs)) H2
/-- all(test for x in e), e a list -/
theorem pe_allI {c P : Addr} {elt iter : Expr} {x : Str} {px p pos gpos : Pos} {scope : Scope} {te : TE} {k : Nat} {G0 : L2.St → Hp → Prop}
    (hr : Room k X.A) (hg : Gl X "all") (hm : X.mg "all" = none) (hb : bootBuiltins "all" = some (.builtin "all")) (TB : TabB X.base X.mg c P) (hcode : X.env.code = .ref c) (S : GenS X.env scope x)
    (hi : PE X iter te) (hel : ∀ (σ : L2.St) (pins : List (Addr × Obj)) (s1 : Shared) (H1 : Hp), Inv X pins σ H1 s1 → G0 σ H1 → TabG H1 P → EltI X scope x elt (X.A.depth + 1) (X.A.units + 8) P s1) (hs : ∀ v, genFold iter X.env v = pure v)
    (he : starEach [.GeneratorExp elt [⟨.Name x px, iter, [], 0⟩] scope gpos] X.env = (false, eval (.GeneratorExp elt [⟨.Name x px, iter, [], 0⟩] scope gpos) X.env) :: starEach [] X.env := by rfl) :
    PE X (.Call (.Name "all" p) [.GeneratorExp elt [⟨.Name x px, iter, [], 0⟩] scope gpos] [] pos) (tGenI X.K P G0 te fun bs => bs.all id) := by
  refine ⟨fun pins s σ H Q I h => wpAny_Call_Name_kw (ld_blt I hg hm hb (PyProof.Rows.callWith_builtin1 ?_ he (by rfl)))⟩
  rw [he]
  show wpAny _ _ (spliced ((false, eval (.GeneratorExp elt [⟨.Name x px, iter, [], 0⟩] scope gpos) X.env) :: backTo pos (starEach [] X.env))) _ _ s
  refine Calls.spliced_cons (genI (R := fun bs H1 => ∀ H2, Tabbed P H1 H2 → Q (.bl (bs.all id)) H2) hr TB hcode S hi (hel σ) hs I h fun bs H1 g z hR rdy => Calls.spliced_nil ?_)
  obtain ⟨fp, wr, G, F, St, W, st0, tru, back⟩ := rdy
  refine call_all_walkS (W.self 0 _ _ _ st0 ⟨g, fp, wr, G, _, F, St, _, rfl, W, st0, tru, fun z' mv => ?_⟩)
  obtain ⟨H2, tb, K2⟩ := back z' mv
  have q := hR H2 tb
  rw [← all_trB] at q
  exact ⟨.bl _, H2, K2, rfl, q⟩
/-- isinstance(x, int) -/
theorem elt_int {pins : List (Addr × Obj)} {s1 : Shared} {H1 : Hp} {sc : Scope} {x : Str} {p1 p2 p3 p4 : Pos} {P : Addr} {D U : Nat} (J : Inv X pins σ H1 s1) (tg : TabG H1 P) (mI : X.mg "isinstance" = none) (mN : X.mg "int" = none) (hk : sc.kind = .function)
    (hl : sc.names.lookup x = some .local) (hgi : sc.names.lookup ("isinstance" : Str) = some .globalImplicit) (hgn : sc.names.lookup ("int" : Str) = some .globalImplicit) (hd : (x == ("__debug__" : Str)) = false := by decide) :
    EltI X sc x (.Call (.Name "isinstance" p1) [.Name x p2, .Name "int" p3] [] p4) D U P s1 := by
  intro ce A' E' v b z m hs hg hbi hc hA hDA hUA old hn hx nv
  have M := J.mod
  obtain ⟨ps, tP, _⟩ := tg
  have bk : ∀ b o, X.base.get? b = some o → z.heap.get? b = some o := fun b o e => old b o (fun q => by
    have := (J.bs b o e).2
    rw [q, tP] at this
    cases this) (J.bk b o e)
  have gl : z.heap.Ns ce.globals X.mg := by rw [hg]; exact M.glob.keeps bk
  obtain ⟨mb, m1, m2⟩ := M.blt
  have bl : z.heap.Ns ce.builtins mb := by rw [hbi]; exact m1.keeps bk
  have kd : ce.scope.kind = .function := by rw [hs]; exact hk
  have kx : ce.kindOf x = some .local := by show ce.scope.names.lookup x = some .local; rw [hs]; exact hl
  have ki : ce.kindOf "isinstance" = some .globalImplicit := by show ce.scope.names.lookup _ = some .globalImplicit; rw [hs]; exact hgi
  have kn : ce.kindOf "int" = some .globalImplicit := by show ce.scope.names.lookup _ = some .globalImplicit; rw [hs]; exact hgn
  have isbI : bootBuiltins "isinstance" = some (.builtin "isinstance") := by decide +kernel
  have isbN : bootBuiltins "int" = some (.type "int") := by decide +kernel
  obtain ⟨t, Z, hZ, hz, nop, hc2⟩ := nv
  refine wpAny_Call_Name_kw (Calls.Name_function_global kd ki (Calls.loadGlobal_builtin gl mI bl ((m2 "isinstance" (by decide)).trans isbI) ?_))
  refine PyProof.Rows.callWith_builtin1 (PyProof.Rows.args_cons (wpAny_Name (wpAny_loadName_local kd kx hn hx (PyProof.Rows.args_cons ?_)) hd)) rfl rfl
  refine Calls.Name_function_global kd kn (Calls.loadGlobal_builtin gl mN bl ((m2 "int" (by decide)).trans isbN) ?_)
  refine PyProof.Rows.args_nil ?_
  exact PySem.W.kia_one hZ (M.kin.keeps bk) hz hc2 nop fun tk2 => ⟨rfl, keeps_tok _ _⟩
end
end My
namespace My
open PySem PySem.Spec PyProof.Rows L2 TL
theorem inV_strs (x : Str) : ∀ l : List Str, inV (.str x) (l.map V.str) = decide (x ∈ l)
  | [] => rfl
  | y :: r => by
    have ih := inV_strs x r
    unfold inV at ih ⊢
    rw [List.map_cons, List.any_cons, ih]
    show (decide (y = x) || decide (x ∈ r)) = _
    by_cases h : y = x
    · rw [decide_eq_true h, Bool.true_or, decide_eq_true (by rw [h]; exact List.mem_cons_self)]
    · rw [decide_eq_false h, Bool.false_or]
      exact decide_eq_decide.mpr ⟨fun z => List.mem_cons_of_mem _ z, fun z => (List.mem_cons.mp z).resolve_left fun e => h e.symm⟩
/-- the classes of values -/
structure ValC (K : PySem.W.Frag) (mg : Str → Option Value) (C : Cs) : Prop where
  gp : mg "Pair" = some (.ref C.pa)
  gf : mg "Function" = some (.ref C.fu)
  gr : mg "Primitive" = some (.ref C.pr)
  fp : FldC K C.pa ["first", "second"]
  ff : FldC K C.fu ["parameters", "body", "kept"]
  fr : FldC K C.pr ["parameters", "name"]
  ip : InsC K C.pa
  if_ : InsC K C.fu
  ir : InsC K C.pr
  O : ObC K
  kip : PySem.W.kitOne K (.type "int") (.ref C.pa) = some false
  kif : PySem.W.kitOne K (.type "int") (.ref C.fu) = some false
  kir : PySem.W.kitOne K (.type "int") (.ref C.pr) = some false
  kpi : PySem.W.kitOne K (.ref C.pa) (.type "int") = some false
  kfi : PySem.W.kitOne K (.ref C.fu) (.type "int") = some false
  kri : PySem.W.kitOne K (.ref C.pr) (.type "int") = some false
  kpp : PySem.W.kitOne K (.ref C.pa) (.ref C.pa) = some true
  kpf : PySem.W.kitOne K (.ref C.pa) (.ref C.fu) = some false
  kpr : PySem.W.kitOne K (.ref C.pa) (.ref C.pr) = some false
  kfp : PySem.W.kitOne K (.ref C.fu) (.ref C.pa) = some false
  kff : PySem.W.kitOne K (.ref C.fu) (.ref C.fu) = some true
  kfr : PySem.W.kitOne K (.ref C.fu) (.ref C.pr) = some false
  krp : PySem.W.kitOne K (.ref C.pr) (.ref C.pa) = some false
  krf : PySem.W.kitOne K (.ref C.pr) (.ref C.fu) = some false
  krr : PySem.W.kitOne K (.ref C.pr) (.ref C.pr) = some true
def tyVl (C : Cs) : Vl → Value
  | .int _ => .type "int"
  | .pair _ _ => .ref C.pa
  | .prim _ => .ref C.pr
  | .fnP _ _ _ => .ref C.fu
  | .fnM _ _ => .ref C.fu
theorem RV.ty {K : PySem.W.Frag} {mg : Str → Option Value} {C : Cs} {X : Addr → Prop} {H : Hp} {v : V} {x : Vl} (c : ValC K mg C) (r : RV C X H v x) : TyX K H v (tyVl C x) := by
  cases r with
  | int i _ => exact .base (.int i)
  | pair h => exact ty_ins c.O c.fp.c c.ip h
  | prim h => exact ty_ins c.O c.fr.c c.ir h
  | fnP h => exact ty_ins c.O c.ff.c c.if_ h
  | fnM h => exact ty_ins c.O c.ff.c c.if_ h
def isI : Vl → Bool
  | .int _ => true
  | _ => false
def isP : Vl → Bool
  | .pair _ _ => true
  | _ => false
def isR : Vl → Bool
  | .prim _ => true
  | _ => false
def isF : Vl → Bool
  | .fnP _ _ _ => true
  | .fnM _ _ => true
  | _ => false
section
variable {K : PySem.W.Frag} {mg : Str → Option Value} {C : Cs}
theorem ValC.int (c : ValC K mg C) (x : Vl) : PySem.W.kitOne K (tyVl C x) (.type "int") = some (isI x) := by
  cases x with
  | int i => exact kit_ty (show kitB "int" "int" = some true by decide +kernel)
  | pair a b => exact c.kpi
  | prim p => exact c.kri
  | fnP _ _ _ => exact c.kfi
  | fnM _ _ => exact c.kfi
theorem ValC.pair (c : ValC K mg C) (x : Vl) : PySem.W.kitOne K (tyVl C x) (.ref C.pa) = some (isP x) := by
  cases x with
  | int i => exact c.kip
  | pair a b => exact c.kpp
  | prim p => exact c.krp
  | fnP _ _ _ => exact c.kfp
  | fnM _ _ => exact c.kfp
theorem ValC.prim (c : ValC K mg C) (x : Vl) : PySem.W.kitOne K (tyVl C x) (.ref C.pr) = some (isR x) := by
  cases x with
  | int i => exact c.kir
  | pair a b => exact c.kpr
  | prim p => exact c.krr
  | fnP _ _ _ => exact c.kfr
  | fnM _ _ => exact c.kfr
theorem ValC.fn (c : ValC K mg C) (x : Vl) : PySem.W.kitOne K (tyVl C x) (.ref C.fu) = some (isF x) := by
  cases x with
  | int i => exact c.kif
  | pair a b => exact c.kpf
  | prim p => exact c.krf
  | fnP _ _ _ => exact c.kff
  | fnM _ _ => exact c.kff
theorem ValC.call (c : ValC K mg C) (x : Vl) : PySem.W.kitAny K (tyVl C x) [.ref C.fu, .ref C.pr] = some (isF x || isR x) := by
  refine kitAny_cons (c.fn x) (fun h => kitAny_cons (c.prim x) (fun h2 => ?_) fun h2 => ?_) fun h => ?_
  · rw [h, h2]; rfl
  · rw [h2]; simp
  · rw [h]; rfl
end
def two (a b : Str) : List V → List (Str × V)
  | [x, y] => [(a, x), (b, y)]
  | _ => []
def three (a b c : Str) : List V → List (Str × V)
  | [x, y, z] => [(a, x), (b, y), (c, z)]
  | _ => []
/-- Primitive.__init__ -/
def spPri (C : Addr) : Sp := fun vs H Q _ => ∃ (x dx : Addr) (p : Str), vs = [.ref x, .str p] ∧ H x = some (.ins C dx []) ∧ ∀ H', Fr No H H' → Q .non (upd H' x (.ins C dx [("parameters", .int (arP p)), ("name", .str p)]))
section
variable {P : Program} {w : World} {K : PySem.W.Frag} {mg : Str → Option Value} {base : Heap}
end
end My
namespace My
open PySem PySem.Spec PyProof.Rows L2 TL
theorem v_str {a b : Str} (h : decide (V.str a = V.str b) = true) : a = b := V.str.inj (of_decide_eq_true h)
theorem v_int {a b : Int} (h : decide (V.int a = V.int b) = true) : a = b := V.int.inj (of_decide_eq_true h)
theorem cut_lo {xs : List V} {k : Nat} (h : k ≤ xs.length) : cutV xs (some (k : Int)) none = xs.drop k := by
  unfold cutV
  rw [HT.sIx_nat, HT.sIx_none, Nat.min_eq_left h, List.take_of_length_le]
  rw [List.length_drop]
  exact Nat.le_refl _
/-! ### steps, stacks, calls -/
/-- count_step: R a run at the class C with `steps` and `most` -/
def spCnt (C En : Addr) : Sp := fun vs H Q E => ∃ (R dx : Addr) (fs : List (Str × V)) (n m : Nat), vs = [.ref R] ∧ H R = some (.ins C dx fs) ∧ fs.lookup ("steps" : Str) = some (V.int n) ∧ fs.lookup ("most" : Str) = some (V.int m) ∧ fs.length < 1000 ∧
  (n < m → Q .non (upd H R (.ins C dx (putF "steps" (.int (n + 1 : Nat)) fs)))) ∧ (m ≤ n → erX No En ["steps"] H E)
def spTak : Sp := fun vs H Q _ => ∃ (a : Addr) (xs : List V) (n : Nat), vs = [.ref a, .int n] ∧ H a = some (.lst xs) ∧ n ≤ xs.length ∧
  ∀ p, H p = none → Q (.ref p) (upd (upd H p (.lst (xs.drop (xs.length - n)))) a (.lst (xs.take (xs.length - n))))
def parN : Vl → Int
  | .prim p => arP p
  | .fnP ns _ _ => ns.length
  | .fnM c _ => c.params
  | _ => 0
def chkF (f : Vl) (n : Nat) : Option (List Str) := if (isF f || isR f) = true then (if parN f = n then none else some ["error", "count"]) else some ["error", "kind"]
theorem chk_par {f : Vl} {n : Nat} (h : chkF f n = none) : parN f = (n : Int) := by
  unfold chkF at h
  split at h
  · split at h
    · assumption
    · cases h
  · cases h
def spChk (C : Cs) (En : Addr) : Sp := fun vs H Q E => ∃ (X : Addr → Prop) (v : V) (x : Vl) (a : Addr) (xs : List V), vs = [v, .ref a] ∧ RV C X H v x ∧ H a = some (.lst xs) ∧
  (chkF x xs.length = none → ∀ H', Fr No H H' → Q .non H') ∧ (∀ ws, chkF x xs.length = some ws → erX No En ws H E)
def halF (p : Str) : Vl → Except (List Str) Vl
  | .pair a b => .ok (if p = "first" then a else b)
  | _ => .error ["error", "kind"]
def spHal (C : Cs) (En : Addr) : Sp := fun vs H Q E => ∃ (X : Addr → Prop) (p : Str) (v : V) (x : Vl), vs = [.str p, v] ∧ RV C X H v x ∧
  (∀ y, halF p x = .ok y → ∀ u, RV C X H u y → Q u H) ∧ (∀ ws, halF p x = .error ws → erX No En ws H E)
section
variable {P : Program} {w : World} {K : PySem.W.Frag} {mg : Str → Option Value} {base : Heap}
end
end My
namespace My
open PySem PySem.Spec PyProof.Rows L2 TL GxR
structure FunC (K : PySem.W.Frag) (x : Str) (st : Stmt) (f : Addr) (fd : FuncData) (c : Addr) : Prop where
  ex : ∃ (oc : Value) (od : Option Addr) (kV doc pm : Value) (an : Option Addr) (ct : Value) (osl : Array (Option Value)),
    fd = PySem.W.fnOf x x (defArgs st) (defBody st) (defScope st) .none kV doc pm an (.ref c) ct ∧ K.lookup f = some ⟨oc, od, .func fd, osl⟩ ∧ PySem.W.codeIn K (.ref c) x = true
  kp : PySem.W.keepIn K (.ref f) = true
section
variable {P : Program} {w : World} {K : PySem.W.Frag} {mg : Str → Option Value} {base : Heap}
theorem FunC.okX {x : Str} {st : Stmt} {f c : Addr} {fd : FuncData} {N ps : List Str} {k : Nat} {sp : Sp} (F : FunC K x st f fd c) (S : FnScope N ps (defScope st)) (len : ∀ vs H Q E, sp vs H Q E → vs.length = ps.length)
    (hb : ∀ (A : Around) (outer : List Env) (s : Shared) (H : Hp) (vs : List V) (Q : VK) (E : XK), Room k (A.deeper (PyProof.Rows.envOfC x (defScope st) s.heap.objs.size f (.ref c))) → sp vs H Q E →
      ∃ t, PSs (cxOf (L2.CX P w) P w K mg base N x (defScope st) f (.ref c) A outer s H E) (defBody st) t ∧ t { nx := fun _ H' => Q .non H', rt := Q } (start N vs) H) : FnOk P w K mg base (L2.CX P w) (k + 1) f fd ps sp := by
  obtain ⟨oc, od, kV, doc, pm, an, ct, osl, e, lk, hcd⟩ := F.ex
  subst e
  exact fn_of lk hcd S len fun A outer s H vs Q E hr hsp => hb A outer s H vs Q E hr hsp
end
theorem genS_of {env : Env} {sc : Scope} {x : Str} (a : sc.kind = .function) (b : sc.isCoroutine = false) (c : ∀ y ∈ sc.names, y.2 ≠ .cell) (d : sc.names.lookup (".0" : Str) = some NameKind.local) (e : sc.names.lookup x = some .local)
    (n : ∀ y ∈ sc.names, y.2 ≠ .free) : GxR.GenS env sc x := ⟨a, b, c, d, e, fun y hy z => absurd z (n y hy)⟩
/-! ### primitives -/
abbrev big60 : Int := 10 ^ 60
def opF (p : Str) (l r : Int) : Int := if p = "+" then l + r else if p = "-" then l - r else l * r
def reckF (p : Str) (l r : Int) : Except (List Str) Int :=
  if p = "<" then .ok (if l < r then 1 else 0) else if p = "=" then .ok (if l = r then 1 else 0) else if (if opF p l r < 0 then -(opF p l r) else opF p l r) > big60 then .error ["error", "size"] else .ok (opF p l r)
theorem reckF_le {p : Str} {l r z : Int} (h : reckF p l r = .ok z) : z.natAbs ≤ 10 ^ 60 := by
  unfold reckF at h
  have b60 : (big60 : Int) = ((10 ^ 60 : Nat) : Int) := by decide +kernel
  split at h
  · cases h
    split <;> decide +kernel
  split at h
  · cases h
    split <;> decide +kernel
  generalize opF p l r = o at h
  by_cases c : (if o < 0 then -o else o) > big60
  · rw [if_pos c] at h; cases h
  · rw [if_neg c] at h
    cases h
    rw [b60] at c
    generalize (10 ^ 60 : Nat) = B at c ⊢
    split at c <;> omega
def spRck (En : Addr) : Sp := fun vs H Q E => ∃ (p : Str) (l r : Int), vs = [.str p, .int l, .int r] ∧ l.natAbs ≤ 10 ^ 60 ∧ r.natAbs ≤ 10 ^ 60 ∧
  (∀ z, reckF p l r = .ok z → Q (.int z) H) ∧ (∀ ws, reckF p l r = .error ws → erX No En ws H E)
def primF (p : Str) (ys : List Vl) : Except (List Str) Vl :=
  if p = "pair" then (match ys with | [x, y] => .ok (.pair x y) | _ => .error []) else if p = "first" ∨ p = "second" then (match ys with | [x] => halF p x | _ => .error []) else
  if ys.all isI = true then (match ys with | [.int l, .int r] => (match reckF p l r with | .ok z => .ok (.int z) | .error ws => .error ws) | _ => .error []) else .error ["error", "kind"]
def spPrm (C : Cs) (En P1 : Addr) : Sp := fun vs H Q E => ∃ (X : Addr → Prop) (p : Str) (a : Addr) (xs : List V) (ys : List Vl), vs = [.str p, .ref a] ∧ H a = some (.lst xs) ∧ RVs C X H xs ys ∧ (ys.length : Int) = arP p ∧ TabG H P1 ∧ (∀ b, X b → H b ≠ none) ∧
  (∀ y, primF p ys = .ok y → ∀ u H', Fr No H H' → RV C X H' u y → Q u H') ∧ (∀ ws, primF p ys = .error ws → erX No En ws H E)
theorem mk_fr {X : Addr → Prop} {H : Hp} {x dx : Addr} {o : HO} (hx : H x = none) (hd : H dx = none) (ne : dx ≠ x) : Fr X H (upd (upd H dx (.own x)) x o) :=
  (Fr.new hd).trans (Fr.new (by rw [upd_ne (Ne.symm ne)]; exact hx))
section
variable {P : Program} {w : World} {K : PySem.W.Frag} {mg : Str → Option Value} {base : Heap}
end
end My
namespace My
open PySem PySem.Spec PyProof.Rows L2 TL
abbrev sBn : Stmt := top 1
abbrev NBn : List Str := ["core", "number", "part"]
/-! which tree it is, by its word -/
theorem word_int {t : Tr} (h : word t = "int") : ∃ i, t = .int i := by
  cases t with
  | int i => exact ⟨i, rfl⟩
  | loc n => exact absurd (show ("local" : Str) = "int" from h) (by decide +kernel)
  | glob m x => exact absurd (show ("global" : Str) = "int" from h) (by decide +kernel)
  | prim p => exact absurd (show ("prim" : Str) = "int" from h) (by decide +kernel)
  | fn ns b => exact absurd (show ("fn" : Str) = "int" from h) (by decide +kernel)
  | let_ ns ts b => exact absurd (show ("let" : Str) = "int" from h) (by decide +kernel)
  | if_ a b c => exact absurd (show ("if" : Str) = "int" from h) (by decide +kernel)
  | call f ts => exact absurd (show ("call" : Str) = "int" from h) (by decide +kernel)
theorem word_local {t : Tr} (h : word t = "local") : ∃ n, t = .loc n := by
  cases t with
  | int i => exact absurd (show ("int" : Str) = "local" from h) (by decide +kernel)
  | loc n => exact ⟨n, rfl⟩
  | glob m x => exact absurd (show ("global" : Str) = "local" from h) (by decide +kernel)
  | prim p => exact absurd (show ("prim" : Str) = "local" from h) (by decide +kernel)
  | fn ns b => exact absurd (show ("fn" : Str) = "local" from h) (by decide +kernel)
  | let_ ns ts b => exact absurd (show ("let" : Str) = "local" from h) (by decide +kernel)
  | if_ a b c => exact absurd (show ("if" : Str) = "local" from h) (by decide +kernel)
  | call f ts => exact absurd (show ("call" : Str) = "local" from h) (by decide +kernel)
theorem word_global {t : Tr} (h : word t = "global") : ∃ m x, t = .glob m x := by
  cases t with
  | int i => exact absurd (show ("int" : Str) = "global" from h) (by decide +kernel)
  | loc n => exact absurd (show ("local" : Str) = "global" from h) (by decide +kernel)
  | glob m x => exact ⟨m, x, rfl⟩
  | prim p => exact absurd (show ("prim" : Str) = "global" from h) (by decide +kernel)
  | fn ns b => exact absurd (show ("fn" : Str) = "global" from h) (by decide +kernel)
  | let_ ns ts b => exact absurd (show ("let" : Str) = "global" from h) (by decide +kernel)
  | if_ a b c => exact absurd (show ("if" : Str) = "global" from h) (by decide +kernel)
  | call f ts => exact absurd (show ("call" : Str) = "global" from h) (by decide +kernel)
theorem word_prim {t : Tr} (h : word t = "prim") : ∃ p, t = .prim p := by
  cases t with
  | int i => exact absurd (show ("int" : Str) = "prim" from h) (by decide +kernel)
  | loc n => exact absurd (show ("local" : Str) = "prim" from h) (by decide +kernel)
  | glob m x => exact absurd (show ("global" : Str) = "prim" from h) (by decide +kernel)
  | prim p => exact ⟨p, rfl⟩
  | fn ns b => exact absurd (show ("fn" : Str) = "prim" from h) (by decide +kernel)
  | let_ ns ts b => exact absurd (show ("let" : Str) = "prim" from h) (by decide +kernel)
  | if_ a b c => exact absurd (show ("if" : Str) = "prim" from h) (by decide +kernel)
  | call f ts => exact absurd (show ("call" : Str) = "prim" from h) (by decide +kernel)
theorem word_fn {t : Tr} (h : word t = "fn") : ∃ ns b, t = .fn ns b := by
  cases t with
  | int i => exact absurd (show ("int" : Str) = "fn" from h) (by decide +kernel)
  | loc n => exact absurd (show ("local" : Str) = "fn" from h) (by decide +kernel)
  | glob m x => exact absurd (show ("global" : Str) = "fn" from h) (by decide +kernel)
  | prim p => exact absurd (show ("prim" : Str) = "fn" from h) (by decide +kernel)
  | fn ns b => exact ⟨ns, b, rfl⟩
  | let_ ns ts b => exact absurd (show ("let" : Str) = "fn" from h) (by decide +kernel)
  | if_ a b c => exact absurd (show ("if" : Str) = "fn" from h) (by decide +kernel)
  | call f ts => exact absurd (show ("call" : Str) = "fn" from h) (by decide +kernel)
theorem word_let {t : Tr} (h : word t = "let") : ∃ ns ts b, t = .let_ ns ts b := by
  cases t with
  | int i => exact absurd (show ("int" : Str) = "let" from h) (by decide +kernel)
  | loc n => exact absurd (show ("local" : Str) = "let" from h) (by decide +kernel)
  | glob m x => exact absurd (show ("global" : Str) = "let" from h) (by decide +kernel)
  | prim p => exact absurd (show ("prim" : Str) = "let" from h) (by decide +kernel)
  | fn ns b => exact absurd (show ("fn" : Str) = "let" from h) (by decide +kernel)
  | let_ ns ts b => exact ⟨ns, ts, b, rfl⟩
  | if_ a b c => exact absurd (show ("if" : Str) = "let" from h) (by decide +kernel)
  | call f ts => exact absurd (show ("call" : Str) = "let" from h) (by decide +kernel)
theorem word_if {t : Tr} (h : word t = "if") : ∃ a b c, t = .if_ a b c := by
  cases t with
  | int i => exact absurd (show ("int" : Str) = "if" from h) (by decide +kernel)
  | loc n => exact absurd (show ("local" : Str) = "if" from h) (by decide +kernel)
  | glob m x => exact absurd (show ("global" : Str) = "if" from h) (by decide +kernel)
  | prim p => exact absurd (show ("prim" : Str) = "if" from h) (by decide +kernel)
  | fn ns b => exact absurd (show ("fn" : Str) = "if" from h) (by decide +kernel)
  | let_ ns ts b => exact absurd (show ("let" : Str) = "if" from h) (by decide +kernel)
  | if_ a b c => exact ⟨a, b, c, rfl⟩
  | call f ts => exact absurd (show ("call" : Str) = "if" from h) (by decide +kernel)
theorem word_call {t : Tr} (h : word t = "call") : ∃ f ts, t = .call f ts := by
  cases t with
  | int i => exact absurd (show ("int" : Str) = "call" from h) (by decide +kernel)
  | loc n => exact absurd (show ("local" : Str) = "call" from h) (by decide +kernel)
  | glob m x => exact absurd (show ("global" : Str) = "call" from h) (by decide +kernel)
  | prim p => exact absurd (show ("prim" : Str) = "call" from h) (by decide +kernel)
  | fn ns b => exact absurd (show ("fn" : Str) = "call" from h) (by decide +kernel)
  | let_ ns ts b => exact absurd (show ("let" : Str) = "call" from h) (by decide +kernel)
  | if_ a b c => exact absurd (show ("if" : Str) = "call" from h) (by decide +kernel)
  | call f ts => exact ⟨f, ts, rfl⟩
theorem bnd_nil {t : Tr} (h1 : word t ≠ "fn") (h2 : word t ≠ "let") : bnd t = [] := by
  cases t with
  | fn ns b => exact absurd rfl h1
  | let_ ns ts b => exact absurd rfl h2
  | _ => rfl
theorem ev_head {K : PySem.W.Frag} {σ : L2.St} {H : Hp} {i : Nat} {v : V} {t : Tr} {w : Str} {Q : Bool → Hp → Prop} (h : σ[i]? = some (some v)) (r : RT H v t) (q : Q (decide (word t = w)) H) : tTest (tOp rEq (tOp (rIxT K) (tVar i) (tC (.int 0))) (tC (.str w))) σ H Q := by
  obtain ⟨a, xs, rfl, ha, _⟩ := r.head
  refine ⟨_, h, a, _, 0, _, rfl, rfl, SqT.of ha, at0 _ _, rfl, _, rfl, ?_⟩
  have e : decide (V.str (word t) = V.str w) = decide (word t = w) := decide_eq_decide.mpr ⟨fun z => V.str.inj z, fun z => by rw [z]⟩
  rw [e]
  exact q
theorem ev_eqs {σ : L2.St} {H : Hp} {i : Nat} {x w : Str} {Q : Bool → Hp → Prop} (h : σ[i]? = some (some (.str x))) (q : Q (decide (x = w)) H) : tTest (tOp rEq (tVar i) (tC (.str w))) σ H Q := by
  refine ⟨_, h, rfl, _, rfl, ?_⟩
  have e : decide (V.str x = V.str w) = decide (x = w) := decide_eq_decide.mpr ⟨fun z => V.str.inj z, fun z => by rw [z]⟩
  rw [e]
  exact q
theorem inV_ints (x : Int) : ∀ l : List Int, inV (.int x) (l.map V.int) = decide (x ∈ l)
  | [] => rfl
  | y :: r => by
    have ih := inV_ints x r
    unfold inV at ih ⊢
    rw [List.map_cons, List.any_cons, ih]
    show (decide (y = x) || decide (x ∈ r)) = _
    by_cases h : y = x
    · rw [decide_eq_true h, Bool.true_or, decide_eq_true (by rw [h]; exact List.mem_cons_self)]
    · rw [decide_eq_false h, Bool.false_or]
      exact decide_eq_decide.mpr ⟨fun z => List.mem_cons_of_mem _ z, fun z => (List.mem_cons.mp z).resolve_left fun e => h e.symm⟩
theorem flat_map {α : Type} (f : α → V) (h : ∀ a, flatV (f a) = true) (l : List α) : (l.map f).all flatV = true := by
  rw [List.all_map, List.all_eq_true]
  exact fun a _ => h a
theorem bnd_len {t : Tr} (h : widT t) : (bnd t).length ≤ 1000 := by
  cases t with
  | fn ns b => unfold widT at h; exact h.1
  | let_ ns ts b => unfold widT at h; exact h.1
  | _ => exact Nat.zero_le _
def spBn : Sp := fun vs H Q _ => ∃ (v : V) (t : Tr), vs = [v] ∧ RT H v t ∧ widT t ∧ ∀ L H', H L = none → H' L = some (.lst ((bnd t).map V.int)) → Sm No H H' → Q (.ref L) H'
section
variable {P : Program} {w : World} {K : PySem.W.Frag} {mg : Str → Option Value} {base : Heap}
theorem scBn : FnScope NBn ["core"] (defScope sBn) := ⟨rfl, rfl, rfl, by decide +kernel, rfl, by decide +kernel, by decide +kernel⟩
theorem ok_bn {f : Addr} {fd : FuncData} (F : Fun K "bound_numbers" "bound_numbers" sBn f fd) (B : Blt mg) : FnOk P w K mg base CX0 1 f fd ["core"] spBn := by
  refine F.ok scBn (fun vs H Q E h => ?_) (fun cdv A outer s H vs Q E hr h => ?_)
  · obtain ⟨v, t, rfl, _⟩ := h
    rfl
  obtain ⟨v, t, rfl, rt, wt, q⟩ := h
  have nd := scBn.nd
  refine ⟨_, (pss_cons (ps_if (pt_cmpR op_eq (pe_ix (r := rIxT K) ix_tup (pv 0) pe_int (fun _ _ => rfl)) pe_str (nomark _)) (pss_one (ps_ret (pe_callTy call_list_of (by rfl) B.list (by decide +kernel) (pa_cons (pe_ix (r := rIxT K) ix_tup (pv 0) pe_int (fun _ _ => rfl)) pa_nil)))) pss_nil)
    (pss_cons (ps_if (pt_cmpR op_eq (pe_ix (r := rIxT K) ix_tup (pv 0) pe_int (fun _ _ => rfl)) pe_str (nomark _)) (pss_one (ps_ret (pe_lc (own := [("number", 1), ("part", 2)]) (g := gTup K 2 (gCons (gName 1) (gCons (gName 2) gNil))) (tt := tYes) rfl nd (pi_tup (pe_ix (r := rIxT K) ix_tup (pv 0) pe_int (fun _ _ => rfl))) (blkOk_by (N := NBn) (sc := defScope sBn) (by decide +kernel)) (fun _ _ _ _ _ => (pg_tup rfl (pgs_cons (pg_name (i := 1) nd rfl (Or.inl rfl) (hf := Or.inr rfl)) (pgs_cons (pg_name (i := 2) nd rfl (Or.inl rfl) (hf := Or.inr rfl)) pgs_nil)))) (fun _ _ _ _ _ => pts_nil) (fun _ _ _ _ _ => (pv 1))))) pss_nil)
    (pss_one (ps_ret (pe_lst pa_nil))))), ?_⟩
  refine ev_head rfl rt ?_
  refine ite2 (fun c => ?_) (fun c => ?_)
  · obtain ⟨ns, b, rfl⟩ := word_fn (of_decide_eq_true c)
    cases rt with
    | @fn a p x _ _ ha hp rb =>
    refine ⟨_, rfl, a, _, 1, _, rfl, rfl, SqT.of ha, at1 _ _ _, p, _, rfl, .inr (SqT.of hp), fun L hL => ?_⟩
    exact q L _ hL upd_same (Sm.new hL)
  · refine ev_head rfl rt ?_
    refine ite2 (fun c2 => ?_) (fun c2 => ?_)
    · obtain ⟨ns, ts, b, rfl⟩ := word_let (of_decide_eq_true c2)
      cases rt with
      | @let_ a p x vs _ _ _ ha hp rp rb =>
      have ⟨l1, l2⟩ := rp.len
      unfold widT at wt
      refine ⟨_, rfl, a, _, 1, _, rfl, rfl, SqT.of ha, at1 _ _ _, p, rfl, ⟨_, SqT.of hp⟩, fun D hD => ?_⟩
      refine lc_tup (xs := vs) (fun i H' => H' D = some (.lst ((ns.take i).map V.int)) ∧ Sm No H H') ⟨upd_same, Sm.new hD⟩ (fun i H' _ h => SqT.of (h.2.kpT _ _ hp)) ?_ ?_
      · rintro i y H' hi ⟨h1, h2⟩
        obtain ⟨e, x1, n, t1, rfl, he, hn, ht1, _⟩ := rp.get hi
        have he' := h2.kpT _ _ he
        have il : i < ns.length := (List.getElem?_eq_some_iff.mp hn).1
        refine ⟨e, _, rfl, SqT.of he', rfl, _, _, rfl, ?_⟩
        refine ⟨_, _, rfl, rfl, rfl, ?_⟩
        refine ⟨_, rfl, _, h1, ?_, ?_, h2.mut hD (ntbl_l h1)⟩
        · rw [List.length_map, List.length_take]
          exact line_of (by omega)
        · rw [upd_same, take_more hn, List.map_append]; rfl
      · rintro H' ⟨h1, h2⟩
        rw [l1, List.take_length] at h1
        exact q D H' hD h1 h2
    · refine ⟨by show 0 ≤ sizeLine; decide, fun L hL => ?_⟩
      refine q L _ hL ?_ (Sm.new hL)
      rw [bnd_nil (fun z => c (decide_eq_true z)) (fun z => c2 (decide_eq_true z)), upd_same]
      rfl
end
end My
namespace My
open PySem PySem.Spec PyProof.Rows L2 TL
/-- a dict of variables that are known: kn; no more than M -/
def DK (H : Hp) (d : Addr) (kn : List Int) (M : Nat) : Prop := ∃ kvs : List (Key × V), H d = some (.dK kvs) ∧ kvs.length ≤ M ∧ ∀ n : Int, (valV kvs (Sum.inl n)).isSome = decide (n ∈ kn)
theorem DK.sm {H H' : Hp} {d : Addr} {kn : List Int} {M : Nat} (h : DK H d kn M) (s : Sm No H H') : DK H' d kn M := by
  obtain ⟨kvs, h1, h2, h3⟩ := h
  exact ⟨kvs, s.keep _ _ (fun z => z) rfl h1, h2, h3⟩
theorem DK.wide {H : Hp} {d : Addr} {kn : List Int} {M N : Nat} (h : DK H d kn M) (l : M ≤ N) : DK H d kn N := by
  obtain ⟨kvs, h1, h2, h3⟩ := h
  exact ⟨kvs, h1, Nat.le_trans h2 l, h3⟩
theorem merge_mem (n : Int) : ∀ (ls ks : List (Key × V)), (valV (mergeK ks ls) (Sum.inl n)).isSome = ((valV ks (Sum.inl n)).isSome || (valV ls (Sum.inl n)).isSome)
  | [], ks => by show (valV ks _).isSome = _; rw [valV_nil]; simp
  | p :: r, ks => by
    show (valV (mergeK (putK ks p.1 p.2) r) (Sum.inl n)).isSome = _
    rw [merge_mem n r, valV_put]
    by_cases h : (Sum.inl n : Key) = p.1
    · rw [if_pos h, valV_pos h.symm]
      simp
    · rw [if_neg h, valV_neg fun z => h z.symm]
theorem put_mem (n k : Int) (v : V) (ks : List (Key × V)) (kn : List Int) (h : ∀ m : Int, (valV ks (Sum.inl m)).isSome = decide (m ∈ kn)) : (valV (putK ks (Sum.inl k) v) (Sum.inl n)).isSome = decide (n ∈ kn ++ [k]) := by
  rw [valV_put]
  by_cases e : (Sum.inl n : Key) = Sum.inl k
  · rw [if_pos e]
    have e2 : n = k := Sum.inl.inj e
    rw [e2]
    exact (decide_eq_true (List.mem_append_right _ (List.mem_singleton.mpr rfl))).symm
  · rw [if_neg e, h]
    refine decide_eq_decide.mpr ⟨fun z => List.mem_append_left _ z, fun z => ?_⟩
    rcases List.mem_append.mp z with z | z
    · exact z
    · exact absurd (congrArg Sum.inl (List.mem_singleton.mp z)) e
/-- one part with its dict -/
def PairR (N : Addr → Prop) (H : Hp) (M : Nat) (v : V) (p : Tr × List Int) : Prop := ∃ q x d, v = .ref q ∧ H q = some (.tup [x, .ref d]) ∧ RT H x p.1 ∧ DK H d p.2 M ∧ N d
inductive PairsR (N : Addr → Prop) (H : Hp) (M : Nat) : List V → List (Tr × List Int) → Prop
  | nil : PairsR N H M [] []
  | cons {v : V} {p : Tr × List Int} {vs : List V} {ps : List (Tr × List Int)} (h : PairR N H M v p) (r : PairsR N H M vs ps) : PairsR N H M (v :: vs) (p :: ps)
theorem PairR.sm {N : Addr → Prop} {H H' : Hp} {M : Nat} {v : V} {p : Tr × List Int} (h : PairR N H M v p) (s : Sm No H H') : PairR N H' M v p := by
  obtain ⟨q, x, d, h1, h2, h3, h4, h5⟩ := h
  exact ⟨q, x, d, h1, s.kpT _ _ h2, h3.keep s.kpT, h4.sm s, h5⟩
theorem PairR.wide {N : Addr → Prop} {H : Hp} {M M2 : Nat} {v : V} {p : Tr × List Int} (h : PairR N H M v p) (l : M ≤ M2) : PairR N H M2 v p := by
  obtain ⟨q, x, d, h1, h2, h3, h4, h5⟩ := h
  exact ⟨q, x, d, h1, h2, h3, h4.wide l, h5⟩
theorem PairsR.sm {N : Addr → Prop} {H H' : Hp} {M : Nat} (s : Sm No H H') : ∀ {vs : List V} {ps : List (Tr × List Int)}, PairsR N H M vs ps → PairsR N H' M vs ps
  | _, _, .nil => .nil
  | _, _, .cons h r => .cons (h.sm s) (PairsR.sm s r)
theorem PairsR.wide {N : Addr → Prop} {H : Hp} {M M2 : Nat} (l : M ≤ M2) : ∀ {vs : List V} {ps : List (Tr × List Int)}, PairsR N H M vs ps → PairsR N H M2 vs ps
  | _, _, .nil => .nil
  | _, _, .cons h r => .cons (h.wide l) (PairsR.wide l r)
theorem PairsR.snoc {N : Addr → Prop} {H : Hp} {M : Nat} : ∀ {vs : List V} {ps : List (Tr × List Int)} {v : V} {p : Tr × List Int}, PairsR N H M vs ps → PairR N H M v p → PairsR N H M (vs ++ [v]) (ps ++ [p])
  | _, _, _, _, .nil, h => .cons h .nil
  | _, _, _, _, .cons g r, h => .cons g (PairsR.snoc r h)
theorem PairsR.len {N : Addr → Prop} {H : Hp} {M : Nat} : ∀ {vs : List V} {ps : List (Tr × List Int)}, PairsR N H M vs ps → vs.length = ps.length
  | _, _, .nil => rfl
  | _, _, .cons _ r => congrArg (· + 1) (PairsR.len r)
theorem PairsR.get {N : Addr → Prop} {H : Hp} {M : Nat} : ∀ {vs : List V} {ps : List (Tr × List Int)} {i : Nat} {v : V}, PairsR N H M vs ps → vs[i]? = some v → ∃ p, ps[i]? = some p ∧ PairR N H M v p
  | _, _, _, _, .nil, e => by simp at e
  | _, _, 0, _, .cons h _, e => by cases e; exact ⟨_, rfl, h⟩
  | _, _, i + 1, _, .cons _ r, e => by
    obtain ⟨p, h1, h2⟩ := PairsR.get (i := i) r (by simpa using e)
    exact ⟨p, by simpa using h1, h2⟩
/-- a dict comprehension over a list that stays -/
theorem dc_lst {K : PySem.W.Frag} {a : Addr} {xs : List V} {g : TG} {tt : TT} {tk tv : TE} {vs : List Nat} {σ : L2.St} {H1 : Hp} {D : Addr} {Qd : Hp → Prop} (Pv : Nat → Hp → Prop) (h0 : Pv 0 (upd H1 D (.dK []))) (hl : ∀ i H, i ≤ xs.length → Pv i H → SqL K H a xs)
    (hs : ∀ i x H, xs[i]? = some x → Pv i H → g x (wipe σ vs) H fun σ2 H2 => wipe σ2 vs = wipe σ vs ∧ tt σ2 H2 fun b H3 =>
      if b = true then tk σ2 H3 fun y H4 => tv σ2 H4 fun z H5 => ∃ kvs k, y = kV k ∧ H5 D = some (.dK kvs) ∧ kvs.length < sizeLine ∧ Pv (i + 1) (upd H5 D (.dK (putK kvs k z))) else Pv (i + 1) H3) (hd : ∀ H, Pv xs.length H → Qd H) :
    ∃ W : Nat → Nat → Hp → Prop, (∃ m, W 0 m (upd H1 D (.dK []))) ∧ ∀ i m H, W i m H →
      ((Itl K a).stop i H ∧ Qd H) ∨ ((Itl K a).go i H ∧ ∃ Nx : Hp → Prop, (∀ H', Nx H' → ∃ m', m' < m ∧ W (i + 1) m' H') ∧ ∀ x H', (Itl K a).yld i H x H' → g x (wipe σ vs) H' fun σ2 H2 => wipe σ2 vs = wipe σ vs ∧ tt σ2 H2 fun b H3 =>
        if b = true then tk σ2 H3 fun y H4 => tv σ2 H4 fun z H5 => ∃ kvs k, y = kV k ∧ H5 D = some (.dK kvs) ∧ kvs.length < sizeLine ∧ Nx (upd H5 D (.dK (putK kvs k z))) else Nx H3) := by
  refine ⟨fun i m H => m + i = xs.length ∧ Pv i H, ⟨xs.length, rfl, h0⟩, fun i m H w => ?_⟩
  obtain ⟨em, p⟩ := w
  have sq := hl i H (by omega) p
  by_cases lt : i < xs.length
  · refine .inr ⟨⟨xs, xs[i], sq, by simp [lt]⟩, Pv (i + 1), fun H' p' => ⟨m - 1, by omega, by omega, p'⟩, fun x H' y => ?_⟩
    obtain ⟨eH, y⟩ := y
    subst eH
    exact hs i x _ (y xs sq) p
  · have e : i = xs.length := by omega
    subst e
    exact .inl ⟨⟨xs, sq, Nat.le_refl _⟩, hd H p⟩
abbrev sInner : Stmt := top 2
abbrev NIn : List Str := ["core", "known", "word", "inside", "outer", "part", "number"]
def spInner : Sp := fun vs H Q _ => ∃ (v : V) (t : Tr) (d : Addr) (kn : List Int) (M : Nat) (N : Addr → Prop), vs = [v, .ref d] ∧ N d ∧ (∀ b, H b = none → N b) ∧ RT H v t ∧ widT t ∧ DK H d kn M ∧ M ≤ 1000000 ∧
  ∀ L us H', H L = none → H' L = some (.lst us) → PairsR N H' (M + 1000) us (kids t kn) → Sm No H H' → Q (.ref L) H'
section
variable {P : Program} {w : World} {K : PySem.W.Frag} {mg : Str → Option Value} {base : Heap}
theorem scInner : FnScope NIn ["core", "known"] (defScope sInner) := ⟨rfl, rfl, rfl, by decide +kernel, rfl, by decide +kernel, by decide +kernel⟩
theorem ok_inner {f fB : Addr} {fd dB : FuncData} (F : Fun K "inner_trees" "inner_trees" sInner f fd) (B : Blt mg) (GB : Cal P w K mg base CX0 1 "bound_numbers" ["core"] spBn fB dB) : FnOk P w K mg base CX0 2 f fd ["core", "known"] spInner := by
  refine F.ok scInner (fun vs H Q E h => ?_) (fun cdv A outer s H vs Q E hr h => ?_)
  · obtain ⟨v, t, d, kn, M, N, rfl, _⟩ := h
    rfl
  obtain ⟨v, t, d, kn, M, N, rfl, Nd, Nn, rt, wt, dk, hM, q⟩ := h
  have nd := scInner.nd
  refine ⟨_, (pss_cons (ps_set (i := 2) nd rfl (Or.inl rfl) (pe_ix (r := rIxT K) ix_tup (pv 0) pe_int (fun _ _ => rfl)))
    (pss_cons (ps_if (pt_cmpR op_eq (pv 2) pe_str (nomark _)) (pss_one (ps_ret (pe_lc (own := [("part", 5)]) (g := gName 5) (tt := tYes) rfl nd (pi_tup (pe_slice sl_tup (pv 0) (po_some pe_int) po_none)) (blkOk_by (N := NIn) (sc := defScope sInner) (by decide +kernel)) (fun _ _ _ _ _ => (pg_name (i := 5) nd rfl (Or.inl rfl) (hf := Or.inr rfl))) (fun _ _ _ _ _ => pts_nil) (fun _ _ _ _ _ => (pe_tup (pa_cons (pv 5) (pa_cons (pv 1) pa_nil))))))) pss_nil)
    (pss_cons (ps_if (pt_cmpR op_eq (pv 2) pe_str (nomark _)) (pss_one (ps_ret (pe_lc (own := [("part", 5)]) (g := gName 5) (tt := tYes) rfl nd (pi_tup (pe_tup (pa_cons (pe_ix (r := rIxT K) ix_tup (pv 0) pe_int (fun _ _ => rfl)) (StX.pa_star (pe_ix (r := rIxT K) ix_tup (pv 0) pe_int (fun _ _ => rfl)) pa_nil)))) (blkOk_by (N := NIn) (sc := defScope sInner) (by decide +kernel)) (fun _ _ _ _ _ => (pg_name (i := 5) nd rfl (Or.inl rfl) (hf := Or.inr rfl))) (fun _ _ _ _ _ => pts_nil) (fun _ _ _ _ _ => (pe_tup (pa_cons (pv 5) (pa_cons (pv 1) pa_nil))))))) pss_nil)
    (pss_cons (ps_if (pt_cmpR op_notIn_seq (pv 2) (pe_tup (pa_cons pe_str (pa_cons pe_str pa_nil))) (by rfl)) (pss_one (ps_ret (pe_lst pa_nil))) pss_nil)
    (pss_cons (ps_set (i := 3) nd rfl (Or.inl rfl) (pe_dmerge (pv 1) (pe_dc (own := [("number", 6)]) (g := gName 6) (tt := tYes) rfl nd (pi_list (pe_call GB.ok hr rfl GB.g GB.k GB.b .nil pass0 (pa_cons (pv 0) pa_nil))) (blkOk_by (N := NIn) (sc := defScope sInner) (by decide +kernel)) (fun _ _ _ _ _ => (pg_name (i := 6) nd rfl (Or.inl rfl) (hf := Or.inr rfl))) (fun _ _ _ _ _ => pts_nil) (fun _ _ _ _ _ => (pv 6)) (fun _ _ _ _ _ => pe_bl))))
    (pss_cons (ps_set (i := 4) nd rfl (Or.inl rfl) (pe_ifExp (pt_cmpR op_eq (pv 2) pe_str (nomark _)) (pe_lc (own := [("number", 6), ("part", 5)]) (g := gTup K 2 (gCons (gName 6) (gCons (gName 5) gNil))) (tt := tYes) rfl nd (pi_tup (pe_ix (r := rIxT K) ix_tup (pv 0) pe_int (fun _ _ => rfl))) (blkOk_by (N := NIn) (sc := defScope sInner) (by decide +kernel)) (fun _ _ _ _ _ => (pg_tup rfl (pgs_cons (pg_name (i := 6) nd rfl (Or.inl rfl) (hf := Or.inr rfl)) (pgs_cons (pg_name (i := 5) nd rfl (Or.inl rfl) (hf := Or.inr rfl)) pgs_nil)))) (fun _ _ _ _ _ => pts_nil) (fun _ _ _ _ _ => (pe_tup (pa_cons (pv 5) (pa_cons (pv 1) pa_nil))))) (pe_lst pa_nil)))
    (pss_one (ps_ret (pe_op op_cat (pv 4) (pe_lst (pa_cons (pe_tup (pa_cons (pe_ix (r := rIxT K) ix_tup (pv 0) pe_int (fun _ _ => rfl)) (pa_cons (pv 3) pa_nil))) pa_nil))))))))))), ?_⟩
  obtain ⟨a0, xs0, rfl, ha0, _⟩ := rt.head
  obtain ⟨kvs, hdk, lkv, memk⟩ := dk
  have dk : DK H d kn M := ⟨kvs, hdk, lkv, memk⟩
  -- a row of parts, each with the known variables
  have step : ∀ {Hb H' : Hp} {D q : Addr} {x : V} {t1 : Tr} {us : List V} {ps : List (Tr × List Int)}, Sm No H H' → Sm No Hb H' → H' D = some (.lst us) → Hb D = none → PairsR N H' M us ps → RT H x t1 → H' q = none →
      PairsR N (upd (upd H' q (.tup [x, .ref d])) D (.lst (us ++ [.ref q]))) M (us ++ [.ref q]) (ps ++ [(t1, kn)]) ∧ Sm No Hb (upd (upd H' q (.tup [x, .ref d])) D (.lst (us ++ [.ref q]))) := by
    intro Hb H' D q x t1 us ps sm smb hD' hD pr rx hq
    have nqD : D ≠ q := fun z => by rw [z, hq] at hD'; cases hD'
    have s1 : Sm No H' (upd H' q (.tup [x, .ref d])) := Sm.new hq
    have hD1 : upd H' q (.tup [x, .ref d]) D = some (.lst us) := by rw [upd_ne nqD]; exact hD'
    have s2 : Sm (fun b => b = D) (upd H' q (.tup [x, .ref d])) (upd (upd H' q (.tup [x, .ref d])) D (.lst (us ++ [.ref q]))) := Sm.set rfl (ntbl_l hD1)
    have kt : ∀ {b : Addr} {o : HO}, b ≠ D → isTbl o = false → upd H' q (.tup [x, .ref d]) b = some o → upd (upd H' q (.tup [x, .ref d])) D (.lst (us ++ [.ref q])) b = some o := fun {b o} n t e => by rw [upd_ne n]; exact e
    have kT : KpT H' (upd (upd H' q (.tup [x, .ref d])) D (.lst (us ++ [.ref q]))) := fun b ys e => kt (fun z => by rw [z, hD'] at e; cases e) rfl (s1.kpT _ _ e)
    have keepD : ∀ {e : Addr} {kn' : List Int} {M' : Nat}, DK H' e kn' M' → DK (upd (upd H' q (.tup [x, .ref d])) D (.lst (us ++ [.ref q]))) e kn' M' := fun {e kn' M'} k => by
      obtain ⟨ks, k1, k2, k3⟩ := k
      exact ⟨ks, kt (fun z => by rw [z, hD'] at k1; cases k1) rfl (s1.keep _ _ (fun z => z) rfl k1), k2, k3⟩
    have keepP : ∀ {vs : List V} {qs : List (Tr × List Int)}, PairsR N H' M vs qs → PairsR N (upd (upd H' q (.tup [x, .ref d])) D (.lst (us ++ [.ref q]))) M vs qs := fun {vs qs} r => by
      induction r with
      | nil => exact .nil
      | cons h r ih =>
        obtain ⟨q', x', d', e1, e2, e3, e4, e5⟩ := h
        exact .cons ⟨q', x', d', e1, kT _ _ e2, e3.keep kT, keepD e4, e5⟩ ih
    refine ⟨(keepP pr).snoc ⟨q, x, d, rfl, kt (fun z => nqD z.symm) rfl upd_same, (rx.keep sm.kpT).keep kT, keepD (dk.sm sm), Nd⟩, ?_⟩
    exact (smb.trans s1).mut hD (ntbl_l hD1)
  refine ⟨_, rfl, a0, _, 0, _, rfl, rfl, SqT.of ha0, at0 _ _, ?_⟩
  refine ev_eqs rfl ?_
  refine ite2 (fun c => ?_) (fun c => ?_)
  · obtain ⟨ta, tb, tc, rfl⟩ := word_if (of_decide_eq_true c)
    cases rt with
    | @if_ _ x y z _ _ _ ha rx ry rz =>
    refine ⟨_, rfl, _, rfl, a0, _, rfl, SqT.of ha, (fun z => absurd (show HT.sIx 4 0 (some 1) = 0 from z.1) (by decide)), fun T hT => ?_⟩
    have ec : cutV [V.str "if", x, y, z] (some 1) none = [x, y, z] := rfl
    rw [ec]
    have sT : Sm No H (upd H T (.tup [x, y, z])) := Sm.new hT
    have hT1 : upd H T (.tup [x, y, z]) T = some (.tup [x, y, z]) := upd_same
    generalize upd H T (.tup [x, y, z]) = H1 at sT hT1 ⊢
    refine ⟨T, rfl, ⟨_, SqT.of hT1⟩, fun D hD => ?_⟩
    have hD0 : H D = none := sT.dom D hD
    have rs : RTs H [x, y, z] [ta, tb, tc] := .cons rx (.cons ry (.cons rz .nil))
    refine lc_tup (xs := [x, y, z]) (fun i H' => ∃ us, H' D = some (.lst us) ∧ us.length = i ∧ H' T = some (.tup [x, y, z]) ∧ PairsR N H' M us (([ta, tb, tc].take i).map fun t => (t, kn)) ∧ Sm No H H') ⟨[], upd_same, rfl, (Sm.new (X := No) hD).kpT _ _ hT1, .nil, sT.trans (Sm.new hD)⟩ (fun i H' _ ⟨us, _, _, h, _⟩ => SqT.of h) ?_ ?_
    · rintro i x1 H' hi ⟨us, h1, h2, h3, h4, h5⟩
      obtain ⟨t1, e1, r1⟩ := rs.get hi
      refine ⟨rfl, _, rfl, _, rfl, by show 2 ≤ sizeLine; decide, fun q1 hq1 => ?_⟩
      have nqD : D ≠ q1 := fun z => by rw [z, hq1] at h1; cases h1
      obtain ⟨g1, g2⟩ := step (Hb := H) h5 h5 h1 hD0 h4 r1 hq1
      have il : i < 3 := (List.getElem?_eq_some_iff.mp hi).1
      refine ⟨us, by rw [upd_ne nqD]; exact h1, by rw [h2]; exact line_of (by omega), us ++ [.ref q1], upd_same, by simp [h2], ?_, ?_, g2⟩
      · have nTD : T ≠ D := fun z => by rw [z, h1] at h3; cases h3
        have nTq : T ≠ q1 := fun z => by rw [z, hq1] at h3; cases h3
        rw [upd_ne nTD, upd_ne nTq]; exact h3
      · rw [take_more e1, List.map_append]
        exact g1
    · rintro H' ⟨us, h1, h2, h3, h4, h5⟩
      exact q D us H' hD0 h1 (h4.wide (by omega)) h5
  refine ev_eqs rfl ?_
  refine ite2 (fun c2 => ?_) (fun c2 => ?_)
  · obtain ⟨tf, ts, rfl⟩ := word_call (of_decide_eq_true c2)
    unfold widT at wt
    cases rt with
    | @call _ p x vs _ _ ha hp rf rs0 =>
    refine ⟨_, rfl, a0, _, 1, _, rfl, rfl, SqT.of ha, at1 _ _ _, _, rfl, a0, _, 2, _, rfl, rfl, SqT.of ha, atI_nat (j := 2) rfl, p, _, rfl, .inl (SqT.of hp), ?_, fun T hT => ?_⟩
    · show (x :: (vs ++ [])).length ≤ sizeLine
      rw [List.append_nil, List.length_cons, rs0.len]
      exact Nat.le_trans (show ts.length + 1 ≤ 1001 by omega) (by decide)
    have ec : (x :: (vs ++ [])) = x :: vs := by rw [List.append_nil]
    rw [ec]
    have sT : Sm No H (upd H T (.tup (x :: vs))) := Sm.new hT
    have hT1 : upd H T (.tup (x :: vs)) T = some (.tup (x :: vs)) := upd_same
    generalize upd H T (.tup (x :: vs)) = H1 at sT hT1 ⊢
    refine ⟨T, rfl, ⟨_, SqT.of hT1⟩, fun D hD => ?_⟩
    have hD0 : H D = none := sT.dom D hD
    have rs : RTs H (x :: vs) (tf :: ts) := .cons rf rs0
    have lrs := rs.len
    refine lc_tup (xs := x :: vs) (fun i H' => ∃ us, H' D = some (.lst us) ∧ us.length = i ∧ H' T = some (.tup (x :: vs)) ∧ PairsR N H' M us (((tf :: ts).take i).map fun t => (t, kn)) ∧ Sm No H H') ⟨[], upd_same, rfl, (Sm.new (X := No) hD).kpT _ _ hT1, .nil, sT.trans (Sm.new hD)⟩ (fun i H' _ ⟨us, _, _, h, _⟩ => SqT.of h) ?_ ?_
    · rintro i x1 H' hi ⟨us, h1, h2, h3, h4, h5⟩
      obtain ⟨t1, e1, r1⟩ := rs.get hi
      refine ⟨rfl, _, rfl, _, rfl, by show 2 ≤ sizeLine; decide, fun q1 hq1 => ?_⟩
      have nqD : D ≠ q1 := fun z => by rw [z, hq1] at h1; cases h1
      obtain ⟨g1, g2⟩ := step (Hb := H) h5 h5 h1 hD0 h4 r1 hq1
      have il : i < (tf :: ts).length := (List.getElem?_eq_some_iff.mp e1).1
      rw [List.length_cons] at il
      refine ⟨us, by rw [upd_ne nqD]; exact h1, by rw [h2]; exact Nat.lt_of_lt_of_le (show i < 1001 by omega) (by decide), us ++ [.ref q1], upd_same, by simp [h2], ?_, ?_, g2⟩
      · have nTD : T ≠ D := fun z => by rw [z, h1] at h3; cases h3
        have nTq : T ≠ q1 := fun z => by rw [z, hq1] at h3; cases h3
        rw [upd_ne nTD, upd_ne nTq]; exact h3
      · rw [take_more e1, List.map_append]
        exact g1
    · rintro H' ⟨us, h1, h2, h3, h4, h5⟩
      rw [lrs, List.take_length] at h4
      exact q D us H' hD0 h1 (h4.wide (by omega)) h5
  refine ⟨_, rfl, by show 2 ≤ sizeLine; decide, fun p0 hp0 => ?_⟩
  refine ⟨p0, _, rfl, .inr (SqT.of upd_same), rfl, rfl, _, rfl, ?_⟩
  have s0 : Sm No H (upd H p0 (.tup [.str "fn", .str "let"])) := Sm.new hp0
  generalize upd H p0 (.tup [.str "fn", .str "let"]) = H0 at s0 ⊢
  have ein : inV (.str (word t)) [.str "fn", .str "let"] = decide (word t ∈ (["fn", "let"] : List Str)) := inV_strs (word t) ["fn", "let"]
  rw [if_pos rfl, ein]
  refine ite2 (fun c3 => ?_) (fun c3 => ?_)
  · have n3 : ¬ word t ∈ (["fn", "let"] : List Str) := by simpa using c3
    refine ⟨by show 0 ≤ sizeLine; decide, fun L hL => ?_⟩
    have ek : kids t kn = [] := by
      cases t with
      | int i => rfl
      | loc i => rfl
      | glob i j => rfl
      | prim i => rfl
      | fn ns b => exact absurd (List.mem_cons_self) n3
      | let_ ns ts b => exact absurd (List.mem_cons_of_mem _ List.mem_cons_self) n3
      | if_ a b c' => exact absurd (decide_eq_true rfl) c
      | call f ts => exact absurd (decide_eq_true rfl) c2
    refine q L [] _ (s0.dom L hL) upd_same (by rw [ek]; exact .nil) (s0.trans (Sm.new hL))
  have n3 : word t ∈ (["fn", "let"] : List Str) := by
    by_cases hx : word t ∈ (["fn", "let"] : List Str)
    · exact hx
    · exact absurd (by rw [decide_eq_false hx]; rfl) c3
  intro D0 hD0
  have hdk0 := s0.keep d _ (fun z => z) rfl hdk
  have ndD : d ≠ D0 := ne_of_none hdk0 hD0
  have s1 : Sm No H0 (upd H0 D0 (.dK [])) := Sm.new hD0
  refine ⟨_, rfl, d, kvs, rfl, ndD, s1.keep d _ (fun z => z) rfl hdk0, upd_same, ?_⟩
  have hD1 : upd (upd H0 D0 (.dK [])) D0 (.dK (mergeK [] kvs)) D0 = some (.dK (mergeK [] kvs)) := upd_same
  have s2 : Sm No H (upd (upd H0 D0 (.dK [])) D0 (.dK (mergeK [] kvs))) := (s0.trans s1).mut (s0.dom D0 hD0) (fun ps z => by rw [upd_same] at z; cases z)
  generalize upd (upd H0 D0 (.dK [])) D0 (.dK (mergeK [] kvs)) = H2 at hD1 s2 ⊢
  have hD00 : H D0 = none := s0.dom D0 hD0
  refine ⟨_, rfl, _, t, rfl, rt.keep s2.kpT, wt, fun L H3 hL hL3 s3 => ?_⟩
  refine ⟨L, rfl, ⟨_, SqL.of hL3⟩, fun D hD => ?_⟩
  have lb := bnd_len wt
  refine dc_lst (xs := (bnd t).map V.int) (fun i H' => ∃ ls, H' D = some (.dK ls) ∧ ls.length ≤ i ∧ (∀ n : Int, (valV ls (Sum.inl n)).isSome = decide (n ∈ (bnd t).take i)) ∧ Sm No H3 H') ⟨[], upd_same, Nat.le_refl _, (fun n => by rw [valV_nil]; rfl), Sm.new hD⟩ (fun i H' _ ⟨ls, _, _, _, k⟩ => SqL.of (k.lst0 hL3)) ?_ ?_
  · rintro i x H' hi ⟨ls, h1, h2, h3, h4⟩
    obtain ⟨n, hn, rfl⟩ := map_at hi
    have il : i < (bnd t).length := (List.getElem?_eq_some_iff.mp hn).1
    refine ⟨rfl, _, rfl, ls, Sum.inl n, rfl, h1, Nat.lt_of_le_of_lt h2 (line_of (by omega)), putK ls (Sum.inl n) (.bl true), upd_same, ?_, fun m => ?_, ?_⟩
    · have := length_putK ls (Sum.inl n) (.bl true)
      omega
    · rw [take_more hn]
      exact put_mem m n _ ls _ h3
    · exact h4.mut hD (fun ps z => by rw [h1] at z; cases z)
  rintro H4 ⟨ls, h1, h2, h3, h4⟩
  rw [List.length_map] at h2 h3
  rw [List.take_length] at h3
  have s24 : Sm No H2 H4 := s3.trans h4
  have hD4 := s24.keep D0 _ (fun z => z) rfl hD1
  have nDD : D ≠ D0 := fun z => by
    have : H3 D = some (.dK (mergeK [] kvs)) := by rw [z]; exact s3.keep D0 _ (fun z => z) rfl hD1
    rw [hD] at this
    cases this
  have lm : (mergeK [] kvs).length ≤ M := by
    have := length_mergeK kvs []
    simp at this
    omega
  refine ⟨D, ls, mergeK [] kvs, rfl, nDD, h1, hD4, Nat.le_trans (show (mergeK [] kvs).length + ls.length ≤ 1001000 by omega) (by decide), ?_⟩
  have s5 : Sm No H (upd H4 D0 (.dK (mergeK (mergeK [] kvs) ls))) := (s2.trans s24).mut hD00 (fun ps z => by rw [hD4] at z; cases z)
  have dkI : DK (upd H4 D0 (.dK (mergeK (mergeK [] kvs) ls))) D0 (bnd t ++ kn) (M + 1000) := by
    refine ⟨_, upd_same, ?_, fun n => ?_⟩
    · have := length_mergeK ls (mergeK [] kvs)
      omega
    · rw [merge_mem, merge_mem, valV_nil, memk, h3]
      show (false || decide (n ∈ kn) || decide (n ∈ bnd t)) = _
      rw [Bool.false_or]
      by_cases a : n ∈ kn
      · rw [decide_eq_true a, Bool.true_or, decide_eq_true (List.mem_append_right _ a)]
      · by_cases b : n ∈ bnd t
        · rw [decide_eq_true b, Bool.or_true, decide_eq_true (List.mem_append_left _ b)]
        · rw [decide_eq_false a, decide_eq_false b, decide_eq_false fun z => (List.mem_append.mp z).elim b a]; rfl
  generalize upd H4 D0 (.dK (mergeK (mergeK [] kvs) ls)) = H5 at s5 dkI ⊢
  clear h1 h2 h3 h4 hD4 lm hD hL3 s24 s3 hD1 hdk0 ndD s1
  refine ev_eqs rfl ?_
  refine ite2 (fun c4 => ?_) (fun c4 => ?_)
  · obtain ⟨ns, ts, tb, rfl⟩ := word_let (of_decide_eq_true c4)
    cases rt with
    | @let_ _ p x vs _ _ _ ha hp rp rb =>
    unfold widT at wt
    have ⟨l1, l2⟩ := rp.len
    have ha5 := s5.kpT _ _ ha
    refine ⟨_, rfl, a0, _, 1, _, rfl, rfl, SqT.of ha5, at1 _ _ _, p, rfl, ⟨_, SqT.of (s5.kpT _ _ hp)⟩, fun O hO => ?_⟩
    have hO0 : H O = none := s5.dom O hO
    refine lc_tup (xs := vs) (fun i H' => ∃ us, H' O = some (.lst us) ∧ us.length = i ∧ PairsR N H' M us ((ts.take i).map fun t => (t, kn)) ∧ Sm No H5 H') ⟨[], upd_same, rfl, .nil, Sm.new hO⟩ (fun i H' _ ⟨us, _, _, _, k⟩ => SqT.of ((s5.trans k).kpT _ _ hp)) ?_ ?_
    · rintro i y H' hi ⟨us, h1, h2, h3, h4⟩
      obtain ⟨e, x1, n, t1, rfl, he, hn, ht1, r1⟩ := rp.get hi
      have il : i < ns.length := (List.getElem?_eq_some_iff.mp hn).1
      refine ⟨e, _, rfl, SqT.of ((s5.trans h4).kpT _ _ he), rfl, _, _, rfl, ?_⟩
      refine ⟨_, _, rfl, rfl, rfl, ?_⟩
      refine ⟨_, rfl, _, rfl, by show 2 ≤ sizeLine; decide, fun q1 hq1 => ?_⟩
      have nqO : O ≠ q1 := fun z => by rw [z, hq1] at h1; cases h1
      obtain ⟨g1, g2⟩ := step (Hb := H5) (s5.trans h4) h4 h1 hO h3 r1 hq1
      refine ⟨us, by rw [upd_ne nqO]; exact h1, by rw [h2]; exact line_of (by omega), us ++ [.ref q1], upd_same, by simp [h2], ?_, g2⟩
      rw [take_more ht1, List.map_append]
      exact g1
    · rintro H6 ⟨us, h1, h2, h3, h4⟩
      rw [l1, ← l2, List.take_length] at h3
      have s6 := s5.trans h4
      refine ⟨_, rfl, _, rfl, a0, _, 2, _, rfl, rfl, SqT.of (s6.kpT _ _ ha), atI_nat (j := 2) rfl, _, rfl, by show 2 ≤ sizeLine; decide, fun q2 hq2 => ⟨by show 1 ≤ sizeLine; decide, fun l3 hl3 => ?_⟩⟩
      have s7 : Sm No H6 (upd H6 q2 (.tup [x, .ref D0])) := Sm.new hq2
      have s8 := s7.trans (Sm.new (X := No) (o := .lst [V.ref q2]) hl3)
      refine ⟨O, l3, _, _, rfl, rfl, s8.lst0 h1, upd_same, ?_, fun l5 hl5 => ?_⟩
      · show us.length + 1 ≤ sizeLine
        rw [h2, l1]
        exact Nat.le_trans (show ns.length + 1 ≤ 1001 by omega) (by decide)
      · have s9 := s8.trans (Sm.new (X := No) (o := .lst (us ++ [V.ref q2])) hl5)
        have s29 := (Sm.new (X := No) (o := .lst [V.ref q2]) hl3).trans (Sm.new (X := No) (o := .lst (us ++ [V.ref q2])) hl5)
        exact q l5 _ _ ((s6.trans s8).dom l5 hl5) upd_same (((h3.sm s9).wide (by omega)).snoc ⟨q2, x, D0, rfl, s29.kpT _ _ upd_same, rb.keep (s6.trans s9).kpT, dkI.sm (h4.trans s9), Nn D0 hD00⟩) (s6.trans s9)
  · obtain ⟨ns, tb, rfl⟩ : ∃ ns b, t = .fn ns b := by
      rcases List.mem_cons.mp n3 with e | e
      · exact word_fn e
      · exact absurd (decide_eq_true (List.mem_singleton.mp e)) c4
    cases rt with
    | @fn _ p x _ _ ha hp rb =>
    refine ⟨by show 0 ≤ sizeLine; decide, fun O hO => ?_⟩
    have h4 : Sm No H5 (upd H5 O (.lst [])) := Sm.new hO
    have h1 : upd H5 O (.lst []) O = some (.lst []) := upd_same
    generalize upd H5 O (.lst []) = H6 at h4 h1 ⊢
    have s6 := s5.trans h4
    refine ⟨_, rfl, _, rfl, a0, _, 2, _, rfl, rfl, SqT.of (s6.kpT _ _ ha), atI_nat (j := 2) rfl, _, rfl, by show 2 ≤ sizeLine; decide, fun q2 hq2 => ⟨by show 1 ≤ sizeLine; decide, fun l3 hl3 => ?_⟩⟩
    have s7 : Sm No H6 (upd H6 q2 (.tup [x, .ref D0])) := Sm.new hq2
    have s8 := s7.trans (Sm.new (X := No) (o := .lst [V.ref q2]) hl3)
    refine ⟨O, l3, _, _, rfl, rfl, s8.lst0 h1, upd_same, by show 1 ≤ sizeLine; decide, fun l5 hl5 => ?_⟩
    have s9 := s8.trans (Sm.new (X := No) (o := .lst ([] ++ [V.ref q2])) hl5)
    have s29 := (Sm.new (X := No) (o := .lst [V.ref q2]) hl3).trans (Sm.new (X := No) (o := .lst ([] ++ [V.ref q2])) hl5)
    exact q l5 _ _ ((s6.trans s8).dom l5 hl5) upd_same (.cons ⟨q2, x, D0, rfl, s29.kpT _ _ upd_same, rb.keep (s6.trans s9).kpT, dkI.sm (h4.trans s9), Nn D0 hD00⟩ .nil) (s6.trans s9)
end
end My
namespace My
open PySem PySem.Spec PyProof.Rows L2 TL
/-! ### with_variables -/
def spWv (C : Cs) : Sp := fun vs H Q _ => ∃ (X : Addr → Prop) (e a b : Addr) (kvs : List (Key × V)) (env : List (Int × Vl)) (ns : List Int) (us : List V) (ys : List Vl), vs = [.ref e, .ref a, .ref b] ∧ H e = some (.dK kvs) ∧ REv C X H kvs env ∧ H a = some (.lst (ns.map V.int)) ∧
  H b = some (.lst us) ∧ RVs C X H us ys ∧ ns.length = ys.length ∧ ns.length ≤ 1000 ∧ env.length ≤ 1000000 ∧
  ∀ p H' lvs, Fr No H H' → H p = none → H' p = some (.dK lvs) → REv C X H' lvs (evPuts ns ys env) → Q (.ref p) H'
section
variable {P : Program} {w : World} {K : PySem.W.Frag} {mg : Str → Option Value} {base : Heap}
end
end My
namespace My
open PySem PySem.Spec PyProof.Rows L2 TL
/-! ### an object of an own class is no integer: x == 0 -/
structure CmpO (K : PySem.W.Frag) (C : Addr) : Prop where
  eq : PySem.W.findIn K (.ref C) "__eq__" = some (some (.builtin "object.__eq__"))
  sub : PySem.W.subIn K (.type "int") (.ref C) = some false
  sup : PySem.W.subIn K (.ref C) (.type "int") = some false
  obj : PySem.W.mroIn K C (.type "object") = some true
section
open PySem.W
variable {prog : Program} {w : World} {A : Around} {E : Value → Shared → Prop} {s : Shared} {K : Frag} {x C : Addr} {ox : Obj} {od : Option Obj}
theorem call_objEq_int {i : Int} {t : Tok} {Q : Value → Shared → Prop} (X : K.In s.heap) (I : InstAt s.heap x ox C od) (hm : mroIn K C (.type "object") = some true) (h : Q .notImplemented s) :
    wpAny (model prog w) A (call (.builtin "object.__eq__") [.ref x, .int i t]) Q E s := by
  obtain ⟨hh, g, dr, tk, os⟩ := s
  have L0 := I.type (M := model prog w)
  have L1 := looks_mroIn (M := model prog w) X hm
  refine wpAny_call (codeAny_call_builtin F.cmp_object.eq.plain F.cmpEntry_eq ?_)
  simp only [checkBuiltinCall, F.cmpKind_eq, F.cmpSplit_eq]
  unfold isInstance
  repeat lk
  exact h
theorem call_intEq_obj {dx : Addr} {i : Int} {t : Tok} {Q : Value → Shared → Prop} (X : K.In s.heap) (I : InstAt s.heap x (instObj C dx) C od) (hm : subIn K (.ref C) (.type "int") = some false) (h : Q .notImplemented s) :
    wpAny (model prog w) A (call (.builtin "int.__eq__") [.int i t, .ref x]) Q E s := by
  obtain ⟨hh, g, dr, tk, os⟩ := s
  have L0 := I.type (M := model prog w)
  have L1 := looks_subIn (M := model prog w) X hm
  refine wpAny_call (codeAny_call_builtin F.slot_int_eq.plain F.entry_int_eq (F.slot_int_eq.check _ _ _ _ _ _ _ _ (typeIs_int _ _ _) (F.args_int_eq_2 _ _) ?_))
  unfold Builtin.«int.__eq__»
  repeat lk
  refine wpAny_loadPart (part := none) I.at_ ?_
  repeat lk
  exact h
theorem ifBound_B {M : Model} {id owner : String} {name : Str} {args : List Value} {Q : Option Value → Shared → Prop} (X : K.In s.heap) (I : InstAt s.heap x ox C od) (hs : findIn K (.ref C) name = some (some (.builtin id))) (S : Slot owner name id)
    (h : wpAny M A (call (.builtin id) (.ref x :: args)) (fun v => Q (some v)) E s) : wpAny M A (callSpecialIfBound? (.ref x) name args) Q E s := by
  simp only [callSpecialIfBound?, bindSpecialIfBound?]
  refine wpAny_holding (wpAny_bind (wpAny_bind (wpAny_bind (I.type.here ((looks_findIn X hs).here ?_)))))
  simp only [S.bind]
  refine wpAny_bind (wpAny_askSetting (wpAny_ite ?_))
  have fin : wpAny M A (call (.builtin id) ([.ref x] ++ args) >>= fun v => pure (some v)) Q E s := wpAny_bind (wpAny_mono h (fun v s' h' => wpAny_pure h') fun _ _ h' => h')
  split
  · exact wpAny_bind (wpAny_pure (wpAny_pure fin))
  · exact wpAny_tryCatch (wpAny_bind (wpAny_pure (wpAny_pure fin)))
theorem eq_obj_int {dx : Addr} {i : Int} {t : Tok} {Q : Value → Shared → Prop} (hu : A.units < cLine) (X : K.In s.heap) (I : InstAt s.heap x (instObj C dx) C od) (c : CmpO K C) (h : Q (.bool false) s) : wpAny (model prog w) A (richCompare .Eq (.ref x) (.int i t)) Q E s := by
  have one : wpAny (model prog w) A (tryCompare (.ref x) "__eq__" (.int i t)) (fun r s' => r = none ∧ s' = s) E s := by
    unfold tryCompare
    exact wpAny_bind (ifBound_B X I c.eq F.cmp_object.eq (call_objEq_int X I c.obj (wpAny_pure ⟨rfl, rfl⟩)))
  have two : wpAny (model prog w) A (tryCompare (.int i t) "__eq__" (.ref x)) (fun r s' => r = none ∧ s' = s) E s :=
    wpAny_tryCompare_declines (typeIs_int _ _ _) F.slot_int_eq (call_intEq_obj X I c.sup ⟨rfl, rfl, rfl⟩)
  unfold richCompare
  simp only [oneThing_ref, cmpInfo_Eq]
  refine wpAny_holding (wpAny_bind (wpAny_cRoomFor hu ?_))
  refine wpAny_bind (I.type.here (wpAny_bind (wpAny_typeOf (typeIs_int _ _ _) ?_)))
  rw [if_pos (show (Value.ref C != Value.type "int") = true from rfl)]
  refine wpAny_bind ((looks_subIn X c.sub).here ?_)
  simp only [Bool.false_eq_true, if_false]
  refine wpAny_bind (wpAny_mono one (fun r s' z => ?_) fun _ _ e => e)
  obtain ⟨rfl, rfl⟩ := z
  refine wpAny_bind (wpAny_mono two (fun r s' z => ?_) fun _ _ e => e)
  obtain ⟨rfl, rfl⟩ := z
  exact wpAny_bind (wpAny_rule (wpAny_bind (wpAny_isSame_plain rfl (wpAny_pure h))))
end
theorem rm0 {k : Nat} {A : Around} (r : Room k A) : A.units < cLine := by have := r.un; omega
/-- x == i of an integer, or of an object of an own class -/
def rEqI (K : PySem.W.Frag) : R2 := fun x y H Q => rEq x y H Q ∨ ∃ (a C dx : Addr) (fs : List (Str × V)) (i : Int), x = .ref a ∧ y = .int i ∧ H a = some (.ins C dx fs) ∧ CmpO K C ∧ Q (.bl false) H
theorem op_eqI {X : Cx} (hu : X.A.units < cLine) : OpR X (compareOp .Eq) (rEqI X.K) := by
  intro pins s σ H x y v u Q I rx ry h
  rcases h with h | ⟨a, C, dx, fs, i, rfl, rfl, ha, c, q⟩
  · exact op_eq pins s σ H x y v u Q I rx ry h
  · cases (show v = Value.ref a from rx)
    obtain ⟨t, e⟩ := (show ∃ t, u = Value.int i t from ry)
    cases e
    obtain ⟨mA, O, _, _, _, hdx⟩ := ins_get I.hok ha
    obtain ⟨od, J, _⟩ := O.look
    exact eq_obj_int hu I.kIn J c ⟨.bl false, H, I, rfl, q⟩
/-- the three classes of values are no integers -/
structure CmpV (K : PySem.W.Frag) (C : Addr × Addr × Addr) : Prop where
  pa : CmpO K C.1
  fu : CmpO K C.2.1
  pr : CmpO K C.2.2
end My
namespace My
open PySem PySem.Spec PyProof.Rows L2 TL
/-! ### lists, item by item -/
inductive Als {α : Type} (R : V → α → Prop) : List V → List α → Prop
  | nil : Als R [] []
  | cons {v : V} {x : α} {vs : List V} {xs : List α} (r : R v x) (rs : Als R vs xs) : Als R (v :: vs) (x :: xs)
section
variable {α : Type} {R S : V → α → Prop}
theorem Als.mono (h : ∀ v x, R v x → S v x) : ∀ {vs : List V} {xs : List α}, Als R vs xs → Als S vs xs
  | _, _, .nil => .nil
  | _, _, .cons r rs => .cons (h _ _ r) (Als.mono h rs)
theorem Als.app : ∀ {vs ws : List V} {xs ys : List α}, Als R vs xs → Als R ws ys → Als R (vs ++ ws) (xs ++ ys)
  | _, _, _, _, .nil, s => s
  | _, _, _, _, .cons r rs, s => .cons r (Als.app rs s)
theorem Als.one {v : V} {x : α} (r : R v x) : Als R [v] [x] := .cons r .nil
theorem Als.len : ∀ {vs : List V} {xs : List α}, Als R vs xs → vs.length = xs.length
  | _, _, .nil => rfl
  | _, _, .cons _ r => congrArg (· + 1) (Als.len r)
theorem Als.split : ∀ {vs : List V} {xs ys : List α}, Als R vs (xs ++ ys) → ∃ v1 v2, vs = v1 ++ v2 ∧ Als R v1 xs ∧ Als R v2 ys
  | vs, [], ys, h => ⟨[], vs, rfl, .nil, h⟩
  | _, _ :: xs, ys, .cons r rs => by
    obtain ⟨v1, v2, e, h1, h2⟩ := Als.split (xs := xs) rs
    exact ⟨_ :: v1, v2, by rw [e]; rfl, .cons r h1, h2⟩
theorem Als.last {vs : List V} {xs : List α} {x : α} (h : Als R vs (x :: xs).reverse) : ∃ v ws, vs = ws ++ [v] ∧ R v x ∧ Als R ws xs.reverse := by
  rw [List.reverse_cons] at h
  obtain ⟨v1, v2, e, h1, h2⟩ := h.split
  cases h2 with
  | cons r h3 =>
    cases h3
    exact ⟨_, v1, e, r, h1⟩
end
theorem RVs.split {C : Cs} {X : Addr → Prop} {H : Hp} : ∀ {vs : List V} {xs ys : List Vl}, RVs C X H vs (xs ++ ys) → ∃ v1 v2, vs = v1 ++ v2 ∧ RVs C X H v1 xs ∧ RVs C X H v2 ys
  | vs, [], ys, h => ⟨[], vs, rfl, .nil, h⟩
  | _, _ :: xs, ys, .cons r rs => by
    obtain ⟨v1, v2, e, h1, h2⟩ := RVs.split (xs := xs) rs
    exact ⟨_ :: v1, v2, by rw [e]; rfl, .cons r h1, h2⟩
theorem RVs.last {C : Cs} {X : Addr → Prop} {H : Hp} {vs : List V} {xs : List Vl} {x : Vl} (h : RVs C X H vs (x :: xs).reverse) : ∃ v ws, vs = ws ++ [v] ∧ RV C X H v x ∧ RVs C X H ws xs.reverse := by
  rw [List.reverse_cons] at h
  obtain ⟨v1, v2, e, h1, h2⟩ := h.split
  cases h2 with
  | cons r h3 =>
    cases h3
    exact ⟨_, v1, e, r, h1⟩
/-! ### the plain run -/
inductive Act where
  | begin | endLet | endIf | endCall
structure Tk where
  act : Act
  t : Tr
  env : List (Int × Vl)
/-- where the actions stand -/
structure Acts where
  bg : Addr
  el : Addr
  ei : Addr
  ec : Addr
def Acts.at (F : Acts) : Act → Addr
  | .begin => F.bg
  | .endLet => F.el
  | .endIf => F.ei
  | .endCall => F.ec
structure Pn where
  R : Addr
  dx : Addr
  T : Addr
  S : Addr
  D : Addr
/-- the greatest number of steps, and the definitions -/
abbrev Gl := List ((Str × Str) × Vl)
structure Wd where
  m : Nat
  gl : Gl
def glGet (k : Str × Str) : Gl → Option Vl
  | [] => none
  | (j, x) :: r => if j = k then some x else glGet k r
def glHas (k : Str × Str) (gl : Gl) : Bool := gl.any fun p => decide (p.1 = k)
def glPut (k : Str × Str) (y : Vl) (gl : Gl) : Gl := if glHas k gl = true then gl.map (fun p => if p.1 = k then (p.1, y) else p) else gl ++ [(k, y)]
def glK (k : Str × Str) : List Key := [.inr k.1, .inr k.2]
theorem glK_inj {j k : Str × Str} : glK j = glK k ↔ j = k := by
  constructor
  · intro h
    obtain ⟨a, b⟩ := j
    obtain ⟨c, d⟩ := k
    injection h with h1 h2
    injection h2 with h2 _
    have e1 : a = c := Sum.inr.inj h1
    have e2 : b = d := Sum.inr.inj h2
    rw [e1, e2]
  · intro h; rw [h]
inductive RGl (C : Cs) (X : Addr → Prop) (H : Hp) : List (List Key × V) → Gl → Prop
  | nil : RGl C X H [] []
  | cons {k : Str × Str} {v : V} {x : Vl} {kvs : List (List Key × V)} {gl : Gl} (r : RV C X H v x) (rs : RGl C X H kvs gl) : RGl C X H ((glK k, v) :: kvs) ((k, x) :: gl)
section
variable {C : Cs} {X Y : Addr → Prop} {H H' : Hp}
theorem RGl.mv (k : ∀ a o, isTbl o = false → H a = some o → ¬ X a → H' a = some o ∧ ¬ Y a) (t : KpT H H') : ∀ {kvs : List (List Key × V)} {gl : Gl}, RGl C X H kvs gl → RGl C Y H' kvs gl
  | _, _, .nil => .nil
  | _, _, .cons r rs => .cons (r.mv k t) (RGl.mv k t rs)
theorem RGl.fr (f : Fr X H H') {kvs : List (List Key × V)} {gl : Gl} (r : RGl C X H kvs gl) : RGl C X H' kvs gl := r.mv f.kk f.tup
theorem RGl.grow (g : ∀ a, Y a → X a ∨ H a = none) {kvs : List (List Key × V)} {gl : Gl} (r : RGl C X H kvs gl) : RGl C Y H kvs gl := r.mv (grow_kk g) fun _ _ h => h
theorem RGl.len : ∀ {kvs : List (List Key × V)} {gl : Gl}, RGl C X H kvs gl → kvs.length = gl.length
  | _, _, .nil => rfl
  | _, _, .cons _ r => congrArg (· + 1) (RGl.len r)
theorem RGl.app : ∀ {kvs lvs : List (List Key × V)} {gl gm : Gl}, RGl C X H kvs gl → RGl C X H lvs gm → RGl C X H (kvs ++ lvs) (gl ++ gm)
  | _, _, _, _, .nil, s => s
  | _, _, _, _, .cons r rs, s => .cons r (RGl.app rs s)
theorem RGl.get {k : Str × Str} : ∀ {kvs : List (List Key × V)} {gl : Gl}, RGl C X H kvs gl → (∀ x, glGet k gl = some x → ∃ v, valV kvs (glK k) = some v ∧ RV C X H v x) ∧ (glGet k gl = none → valV kvs (glK k) = none)
  | _, _, .nil => ⟨fun x e => (by cases e), fun _ => rfl⟩
  | _, _, .cons (k := j) (v := v) (x := x') (kvs := kvs) (gl := gl) r rs => by
    obtain ⟨h1, h2⟩ := RGl.get (k := k) rs
    unfold glGet
    by_cases c : j = k
    · rw [if_pos c]
      exact ⟨fun x e => (by cases e; exact ⟨v, valV_pos (by rw [c]), r⟩), fun e => (by cases e)⟩
    · rw [if_neg c]
      have ne : ¬ glK j = glK k := fun z => c (glK_inj.mp z)
      exact ⟨fun x e => (by obtain ⟨u, a, b⟩ := h1 x e; exact ⟨u, by rw [valV_neg ne]; exact a, b⟩), fun e => (by rw [valV_neg ne]; exact h2 e)⟩
theorem RGl.has {k : Str × Str} : ∀ {kvs : List (List Key × V)} {gl : Gl}, RGl C X H kvs gl → (kvs.any fun kv => decide (kv.1 = glK k)) = glHas k gl
  | _, _, .nil => rfl
  | _, _, .cons (k := j) r rs => by
    unfold glHas
    rw [List.any_cons, List.any_cons, RGl.has rs]
    show (decide (glK j = glK k) || glHas k _) = (decide (j = k) || glHas k _)
    rw [decide_eq_decide.mpr glK_inj]
theorem RGl.map {k : Str × Str} {w : V} {y : Vl} (rw' : RV C X H w y) : ∀ {kvs : List (List Key × V)} {gl : Gl}, RGl C X H kvs gl → RGl C X H (kvs.map fun kv => if kv.1 = glK k then (kv.1, w) else kv) (gl.map fun p => if p.1 = k then (p.1, y) else p)
  | _, _, .nil => .nil
  | _, _, .cons (k := j) r rs => by
    rw [List.map_cons, List.map_cons]
    by_cases c : j = k
    · have c2 : glK j = glK k := by rw [c]
      simp only [c2, c, if_true]
      exact .cons rw' (RGl.map rw' rs)
    · have c2 : ¬ glK j = glK k := fun z => c (glK_inj.mp z)
      simp only [c2, c, if_false]
      exact .cons r (RGl.map rw' rs)
theorem RGl.put {k : Str × Str} {w : V} {y : Vl} {kvs : List (List Key × V)} {gl : Gl} (r : RGl C X H kvs gl) (rw' : RV C X H w y) : RGl C X H (putK kvs (glK k) w) (glPut k y gl) := by
  unfold putK glPut
  rw [r.has]
  by_cases c : glHas k gl = true
  · rw [if_pos c, if_pos c]; exact r.map rw'
  · rw [if_neg c, if_neg c]; exact r.app (.cons rw' .nil)
end
/-- the definitions' dict -/
def RDf (C : Cs) (X : Addr → Prop) (H : Hp) (D : Addr) (gl : Gl) : Prop := ∃ kvs, H D = some (.dT kvs) ∧ RGl C X H kvs gl
def REn (C : Cs) (X : Addr → Prop) (H : Hp) (e : Addr) (env : List (Int × Vl)) : Prop := ∃ kvs, H e = some (.dK kvs) ∧ ¬ X e ∧ REv C X H kvs env ∧ env.length ≤ 1000000
def RTk (F : Acts) (C : Cs) (X : Addr → Prop) (H : Hp) (v : V) (k : Tk) : Prop := ∃ (a : Addr) (c : V) (e : Addr), v = .ref a ∧ H a = some (.tup [.ref (F.at k.act), c, .ref e]) ∧ RT H c k.t ∧ widT k.t ∧ REn C X H e k.env
def flds (p : Pn) (m : Wd) (n : Nat) : List (Str × V) := [("most", .int m.m), ("steps", .int n), ("defined", .ref p.D), ("todo", .ref p.T), ("results", .ref p.S)]
structure PRn (CP : Addr) (F : Acts) (C : Cs) (X : Addr → Prop) (H : Hp) (p : Pn) (m : Wd) (n : Nat) (todo : List Tk) (res : List Vl) : Prop where
  r : H p.R = some (.ins CP p.dx (flds p m n))
  t : ∃ ts, H p.T = some (.lst ts) ∧ Als (RTk F C X H) ts todo.reverse
  s : ∃ rs, H p.S = some (.lst rs) ∧ RVs C X H rs res.reverse
  xr : X p.R
  xt : X p.T
  xs : X p.S
  d : RDf C X H p.D m.gl
  ne : p.T ≠ p.S
  dom : ∀ b, X b → H b ≠ none
section
variable {CP : Addr} {F : Acts} {C : Cs} {X : Addr → Prop} {H H' : Hp} {p : Pn} {m : Wd} {n : Nat} {todo : List Tk} {res : List Vl}
theorem REn.fr (f : Fr X H H') {e : Addr} {env : List (Int × Vl)} (h : REn C X H e env) : REn C X H' e env := by
  obtain ⟨kvs, h1, h2, h3, h4⟩ := h
  exact ⟨kvs, f.keep h2 rfl h1, h2, h3.fr f, h4⟩
theorem RTk.fr (f : Fr X H H') {v : V} {k : Tk} (h : RTk F C X H v k) : RTk F C X H' v k := by
  obtain ⟨a, c, e, h1, h2, h3, h4, h5⟩ := h
  exact ⟨a, c, e, h1, f.tup _ _ h2, h3.keep f.tup, h4, h5.fr f⟩
theorem Fr.dom' (f : Fr X H H') {b : Addr} (h : H b ≠ none) : H' b ≠ none := fun z => h (f.dom z)
theorem RDf.fr {D : Addr} {gl : Gl} {W : Addr → Prop} (f : Fr W H H') (hw : ∀ b, W b → X b) (n : ¬ W D) (h : RDf C X H D gl) : RDf C X H' D gl := by
  obtain ⟨kvs, h1, h2⟩ := h
  exact ⟨kvs, f.keep n rfl h1, h2.fr (f.wide hw)⟩
theorem PRn.fr (f : Fr No H H') (h : PRn CP F C X H p m n todo res) : PRn CP F C X H' p m n todo res := by
  obtain ⟨ts, t1, t2⟩ := h.t
  obtain ⟨rs, s1, s2⟩ := h.s
  exact ⟨f.keep (fun z => z) rfl h.r, ⟨ts, f.keep (fun z => z) rfl t1, t2.mono fun _ _ r => r.fr f.no⟩, ⟨rs, f.keep (fun z => z) rfl s1, s2.fr f.no⟩, h.xr, h.xt, h.xs, h.d.fr f (fun _ z => z.elim) (fun z => z), h.ne, fun b x => f.dom' (h.dom b x)⟩
theorem PRn.neRT (h : PRn CP F C X H p m n todo res) : p.R ≠ p.T := by
  obtain ⟨ts, t1, _⟩ := h.t
  exact ne_of h.r t1 fun z => by cases z
theorem PRn.neRS (h : PRn CP F C X H p m n todo res) : p.R ≠ p.S := by
  obtain ⟨ts, t1, _⟩ := h.s
  exact ne_of h.r t1 fun z => by cases z
theorem PRn.neRD (h : PRn CP F C X H p m n todo res) : p.D ≠ p.R := by
  obtain ⟨ts, t1, _⟩ := h.d
  exact ne_of t1 h.r fun z => by cases z
theorem PRn.neTD (h : PRn CP F C X H p m n todo res) : p.D ≠ p.T := by
  obtain ⟨ts, t1, _⟩ := h.d
  obtain ⟨us, u1, _⟩ := h.t
  exact ne_of t1 u1 fun z => by cases z
theorem PRn.neSD (h : PRn CP F C X H p m n todo res) : p.D ≠ p.S := by
  obtain ⟨ts, t1, _⟩ := h.d
  obtain ⟨us, u1, _⟩ := h.s
  exact ne_of t1 u1 fun z => by cases z
/-- a step is counted -/
theorem PRn.step (h : PRn CP F C X H p m n todo res) : PRn CP F C X (upd H p.R (.ins CP p.dx (flds p m (n + 1)))) p m (n + 1) todo res ∧ Fr X H (upd H p.R (.ins CP p.dx (flds p m (n + 1)))) := by
  have f : Fr X H (upd H p.R (.ins CP p.dx (flds p m (n + 1)))) := Fr.set h.xr h.r rfl
  obtain ⟨ts, t1, t2⟩ := h.t
  obtain ⟨rs, s1, s2⟩ := h.s
  exact ⟨⟨upd_same, ⟨ts, by rw [upd_ne (Ne.symm h.neRT)]; exact t1, t2.mono fun _ _ r => r.fr f⟩, ⟨rs, by rw [upd_ne (Ne.symm h.neRS)]; exact s1, s2.fr f⟩, h.xr, h.xt, h.xs, h.d.fr (Fr.set (X := fun b => b = p.R) rfl h.r rfl) (fun b z => by rw [z]; exact h.xr) (fun z => h.neRD z), h.ne, fun b x => f.dom' (h.dom b x)⟩, f⟩
/-- the tasks are set anew -/
theorem PRn.setT {ts : List V} {todo' : List Tk} (h : PRn CP F C X H p m n todo res) (r : Als (RTk F C X H) ts todo'.reverse) : PRn CP F C X (upd H p.T (.lst ts)) p m n todo' res ∧ Fr X H (upd H p.T (.lst ts)) := by
  obtain ⟨ts0, t1, t2⟩ := h.t
  obtain ⟨rs, s1, s2⟩ := h.s
  have f : Fr X H (upd H p.T (.lst ts)) := Fr.set h.xt t1 rfl
  exact ⟨⟨by rw [upd_ne h.neRT]; exact h.r, ⟨ts, upd_same, r.mono fun _ _ r => r.fr f⟩, ⟨rs, by rw [upd_ne (Ne.symm h.ne)]; exact s1, s2.fr f⟩, h.xr, h.xt, h.xs, h.d.fr (Fr.set (X := fun b => b = p.T) rfl t1 rfl) (fun b z => by rw [z]; exact h.xt) (fun z => h.neTD z), h.ne, fun b x => f.dom' (h.dom b x)⟩, f⟩
/-- the results are set anew -/
theorem PRn.setS {rs : List V} {res' : List Vl} (h : PRn CP F C X H p m n todo res) (r : RVs C X H rs res'.reverse) : PRn CP F C X (upd H p.S (.lst rs)) p m n todo res' ∧ Fr X H (upd H p.S (.lst rs)) := by
  obtain ⟨ts, t1, t2⟩ := h.t
  obtain ⟨rs0, s1, s2⟩ := h.s
  have f : Fr X H (upd H p.S (.lst rs)) := Fr.set h.xs s1 rfl
  exact ⟨⟨by rw [upd_ne h.neRS]; exact h.r, ⟨ts, by rw [upd_ne h.ne]; exact t1, t2.mono fun _ _ r => r.fr f⟩, ⟨rs, upd_same, r.fr f⟩, h.xr, h.xt, h.xs, h.d.fr (Fr.set (X := fun b => b = p.S) rfl s1 rfl) (fun b z => by rw [z]; exact h.xs) (fun z => h.neSD z), h.ne, fun b x => f.dom' (h.dom b x)⟩, f⟩
end
inductive PRes where
  | stuck
  | err (ws : List Str) (n : Nat)
  | ok (n : Nat) (todo : List Tk) (res : List Vl)
def many : Nat := 1000000
def bgs (ts : List Tr) (env : List (Int × Vl)) : List Tk := ts.map fun t => ⟨.begin, t, env⟩
/-- what begin does with a part, its step counted -/
def partF (gl : Gl) (t : Tr) (env : List (Int × Vl)) (n : Nat) (todo : List Tk) (res : List Vl) : PRes :=
  if many ≤ todo.length ∨ many ≤ res.length then .stuck else
  match t with
  | .int i => if i.natAbs ≤ 10 ^ 60 then .ok n todo (.int i :: res) else .stuck
  | .loc x => match evGet x env with
    | some v => .ok n todo (v :: res)
    | none => .stuck
  | .glob a b => match glGet (a, b) gl with
    | some v => .ok n todo (v :: res)
    | none => .err ["error", "early"] n
  | .prim q => .ok n todo (.prim q :: res)
  | .fn ns b => .ok n todo (.fnP ns b env :: res)
  | .let_ ns ts b => .ok n (bgs ts env ++ ⟨.endLet, .let_ ns ts b, env⟩ :: todo) res
  | .if_ a b c => .ok n (⟨.begin, a, env⟩ :: ⟨.endIf, .if_ a b c, env⟩ :: todo) res
  | .call f ts => .ok n (⟨.begin, f, env⟩ :: (bgs ts env ++ ⟨.endCall, .call f ts, env⟩ :: todo)) res
def endLetF (t : Tr) (env : List (Int × Vl)) (n : Nat) (todo : List Tk) (res : List Vl) : PRes :=
  match t with
  | .let_ ns ts b => if ts.length ≤ res.length ∧ ns.length = ts.length ∧ env.length + ns.length ≤ 1000000 ∧ todo.length < many then .ok n (⟨.begin, b, evPuts ns (res.take ts.length).reverse env⟩ :: todo) (res.drop ts.length) else .stuck
  | _ => .stuck
/-- is it the integer 0 -/
def zeroV : Vl → Bool
  | .int i => decide (i = 0)
  | _ => false
def endIfF (t : Tr) (env : List (Int × Vl)) (n : Nat) (todo : List Tk) (res : List Vl) : PRes :=
  match t, res with
  | .if_ _ b c, x :: res => if todo.length < many then .ok n (⟨.begin, if zeroV x = true then c else b, env⟩ :: todo) res else .stuck
  | _, _ => .stuck
def endCallF (t : Tr) (n : Nat) (todo : List Tk) (res : List Vl) : PRes :=
  match t with
  | .call _ ts => match res.drop ts.length with
    | called :: res' => if ts.length ≤ 900 ∧ todo.length < many ∧ res.length < many then (match chkF called ts.length with
      | some ws => .err ws n
      | none => match called with
        | .prim q => (match primF q (res.take ts.length).reverse with
          | .ok y => .ok n todo (y :: res')
          | .error ws => .err ws n)
        | .fnP ns b env => if env.length + ns.length ≤ 1000000 then .ok n (⟨.begin, b, evPuts ns (res.take ts.length).reverse env⟩ :: todo) res' else .stuck
        | _ => .stuck) else .stuck
    | [] => .stuck
  | _ => .stuck
def beginF (m : Wd) (t : Tr) (env : List (Int × Vl)) (n : Nat) (todo : List Tk) (res : List Vl) : PRes := if m.m ≤ n then .err ["steps"] n else partF m.gl t env (n + 1) todo res
def actF (m : Wd) (k : Tk) (n : Nat) (todo : List Tk) (res : List Vl) : PRes := match k.act with
  | .begin => beginF m k.t k.env n todo res
  | .endLet => endLetF k.t k.env n todo res
  | .endIf => endIfF k.t k.env n todo res
  | .endCall => endCallF k.t n todo res
/-- an action keeps what `go` says -/
def spA (CP : Addr) (F : Acts) (C : Cs) (En P1 : Addr) (ok : Tr → Prop) (go : Wd → Tr → List (Int × Vl) → Nat → List Tk → List Vl → PRes) : Sp := fun vs H Q E => ∃ (X : Addr → Prop) (p : Pn) (m : Wd) (n : Nat) (todo : List Tk) (res : List Vl) (c : V) (t : Tr) (e : Addr) (env : List (Int × Vl)),
  vs = [.ref p.R, c, .ref e] ∧ PRn CP F C X H p m n todo res ∧ RT H c t ∧ widT t ∧ ok t ∧ REn C X H e env ∧ GxR.TabG H P1 ∧ go m t env n todo res ≠ .stuck ∧
  (∀ n' todo' res', go m t env n todo res = .ok n' todo' res' → ∀ H', Fr X H H' → PRn CP F C X H' p m n' todo' res' → Q .non H') ∧
  (∀ ws n', go m t env n todo res = .err ws n' → ∀ H1, Fr X H H1 → H1 p.R = some (.ins CP p.dx (flds p m n')) → erX No En ws H1 E)
theorem eqI_zero {K : PySem.W.Frag} {C : Cs} {X : Addr → Prop} {H : Hp} {v : V} {x : Vl} {Q : VK} (CO : CmpV K (C.pa, C.fu, C.pr)) (r : RV C X H v x) (q : Q (.bl (zeroV x)) H) : rEqI K v (.int 0) H Q := by
  cases r with
  | int i h =>
    refine .inl ⟨rfl, ?_⟩
    rw [show decide (V.int i = V.int 0) = zeroV (.int i) from decide_eq_decide.mpr ⟨fun z => V.int.inj z, fun z => by rw [z]⟩]
    exact q
  | pair h n r s => exact .inr ⟨_, _, _, _, 0, rfl, rfl, h, CO.pa, q⟩
  | prim h n => exact .inr ⟨_, _, _, _, 0, rfl, rfl, h, CO.pr, q⟩
  | fnP h n rt wt he ne re => exact .inr ⟨_, _, _, _, 0, rfl, rfl, h, CO.fu, q⟩
  | fnM h n rc he ne rs => exact .inr ⟨_, _, _, _, 0, rfl, rfl, h, CO.fu, q⟩
end My
namespace My
open PySem PySem.Spec PyProof.Rows L2 TL
abbrev fR5 : List Str := ["most", "steps", "defined", "todo", "results"]
def goP : Wd → Tr → List (Int × Vl) → Nat → List Tk → List Vl → PRes := fun m t env n todo res => partF m.gl t env n todo res
theorem many_line {n : Nat} (h : ¬ many ≤ n) : n < sizeLine := Nat.lt_of_lt_of_le (Nat.lt_of_not_le h) (by decide)
theorem partF_lim {gl : Gl} {t : Tr} {env : List (Int × Vl)} {n : Nat} {todo : List Tk} {res : List Vl} (h : partF gl t env n todo res ≠ .stuck) : ¬ many ≤ todo.length ∧ ¬ many ≤ res.length := by
  unfold partF at h
  by_cases c : many ≤ todo.length ∨ many ≤ res.length
  · rw [if_pos c] at h; exact absurd rfl h
  · exact ⟨fun z => c (.inl z), fun z => c (.inr z)⟩
theorem partF_at {gl : Gl} {t : Tr} {env : List (Int × Vl)} {n : Nat} {todo : List Tk} {res : List Vl} (h : partF gl t env n todo res ≠ .stuck) : ¬ (many ≤ todo.length ∨ many ≤ res.length) := fun c => by
  rcases c with c | c
  · exact (partF_lim h).1 c
  · exact (partF_lim h).2 c
section
variable {P : Program} {w : World} {K : PySem.W.Frag} {mg : Str → Option Value} {base : Heap} {CP En P1 : Addr} {F : Acts} {C : Cs}
/-- a value is pushed -/
theorem PRn.pushV {X : Addr → Prop} {H : Hp} {p : Pn} {m : Wd} {n : Nat} {todo : List Tk} {res : List Vl} {rs : List V} {v : V} {x : Vl} (h : PRn CP F C X H p m n todo res) (hs : H p.S = some (.lst rs)) (r : RVs C X H rs res.reverse) (rv : RV C X H v x) :
    PRn CP F C X (upd H p.S (.lst (rs ++ [v]))) p m n todo (x :: res) ∧ Fr X H (upd H p.S (.lst (rs ++ [v]))) :=
  h.setS (res' := x :: res) (by rw [List.reverse_cons]; exact r.app (.one rv))
end
end My
namespace My
open PySem PySem.Spec PyProof.Rows L2 TL HT
/-! ### t[::-1], t a tuple -/
theorem fm_congr {α β : Type} {f g : α → Option β} : ∀ {l : List α}, (∀ k ∈ l, f k = g k) → l.filterMap f = l.filterMap g
  | [], _ => rfl
  | x :: r, h => by
    rw [List.filterMap_cons, List.filterMap_cons, h x List.mem_cons_self, fm_congr fun k m => h k (List.mem_cons_of_mem _ m)]
theorem adj_rev (n : Nat) : Builtin.Slice.sliceAdjust none none (-1) (n : Int) = ((n : Int) - 1, -1) := by
  unfold Builtin.Slice.sliceAdjust
  have h1 : (-1 : Int) < 0 := by omega
  simp only [h1, if_true]
theorem plc_rev (n : Nat) : Builtin.Slice.slicePlaces ((n : Int) - 1) (-1) (-1) = n := by
  unfold Builtin.Slice.slicePlaces
  have h1 : ¬ ((-1 : Int) > 0) := by omega
  simp only [h1, if_false, Int.neg_neg, Int.ediv_one]
  split <;> omega
theorem pick_rev (xs : List Value) : (List.range xs.length).filterMap (fun (k : Nat) => xs.toArray[(((xs.length : Int) - 1) + (k : Int) * (-1)).toNat]?) = xs.reverse := by
  have e : (List.range xs.length).filterMap (fun (k : Nat) => xs.toArray[(((xs.length : Int) - 1) + (k : Int) * (-1)).toNat]?) = (List.range xs.length).filterMap (fun k => xs.reverse[k]?) := by
    refine fm_congr fun k hk => ?_
    have hk := List.mem_range.mp hk
    rw [List.getElem?_reverse hk]
    rw [show (((xs.length : Int) - 1) + (k : Int) * (-1)).toNat = xs.length - 1 - k by omega]
    simp
  rw [e]
  have e2 : ∀ ys : List Value, (List.range ys.length).filterMap (fun k => ys[k]?) = ys := by
    intro ys
    induction ys with
    | nil => rfl
    | cons y r ih =>
      rw [List.length_cons, List.range_succ_eq_map, List.filterMap_cons]
      simp only [List.getElem?_cons_zero]
      rw [List.filterMap_map]
      congr 1
  have := e2 xs.reverse
  rw [List.length_reverse] at this
  exact this
section
variable {prog : Program} {w : World} {A : Around} {E : Value → Shared → Prop} {s : Shared}
theorem getItem_tuple_rev {t sl : Addr} {items : List Value} {vl vu : Value} {k : Tok} {Q : Value → Shared → Prop} (ht : IsTup s.heap t items.toArray) (hs : s.heap.IsSliceOf sl vl vu (.int (-1) k)) (pl : IsPart vl none) (pu : IsPart vu none)
    (h : Q (.ref s.heap.objs.size) { s with heap := s.heap.push { cls := .type "tuple", data := .seq items.reverse.toArray } })
    (hsz : items.length ≤ sizeLine) : wpAny (model prog w) A (getItem (.ref t) (.ref sl)) Q E s := by
  have htake : sizeOk (.seq items.reverse.toArray) := by
    show items.reverse.toArray.size ≤ sizeLine
    rw [List.size_toArray, List.length_reverse]
    exact hsz
  obtain ⟨os, hos, hcs, hds⟩ := id hs
  have hTs : s.TypeIs (.ref sl) "slice" := ⟨os, hos, hcs⟩
  unfold getItem
  try with_reducible refine wpAny_holding ?_
  first | refine wpAny_bind (wpAny_pure ?_) | skip
  refine wpAny_bind (wpAny_sequenceKey ht.typeIs (by decide) ?_)
  refine wpAny_bind (wpAny_callSpecial?_slot (name := Str.ofString "__getitem__") ht.typeIs PyProof.Rows.slot_tuple_getitem
    (wpAny_call_entry PyProof.Rows.slot_tuple_getitem ht.typeIs entry_tuple_getitem ?_ (args_tuple_getitem _ _)))
  show wpAny _ _ (Builtin.Tuple.tupleItemsOf (.ref t) >>= _) _ _ s
  refine wpAny_bind (tupleItemsOf_ ht ?_)
  refine wpAny_bind (wpAny_typeOf hTs ?_)
  rw [if_pos (by decide)]
  refine wpAny_bind ?_
  unfold Builtin.Slice.sliceApplied Builtin.Slice.sliceFields
  refine wpAny_bind (wpAny_bind (wpAny_field hos hds (x := vl) rfl (wpAny_bind (wpAny_field hos hds (x := vu) rfl (wpAny_bind (wpAny_field hos hds (x := .int (-1) k) rfl (wpAny_pure ?_)))))))
  refine wpAny_bind (slicePart_int ?_)
  show wpAny _ _ (if ((-1 : Int) == 0) = true then _ else _) _ _ s
  rw [if_neg (by decide)]
  refine wpAny_bind (slicePart_ pl (wpAny_bind (slicePart_ pu (wpAny_bind (wpAny_pure ?_)))))
  show wpAny _ _ (match Builtin.Slice.sliceAdjust none none (-1) (items.toArray.size : Int) with | (lo, hi) => pure (lo, (-1 : Int), Builtin.Slice.slicePlaces lo hi (-1))) _ _ s
  rw [adj_rev, List.size_toArray]
  show wpAny _ _ (pure ((items.length : Int) - 1, (-1 : Int), Builtin.Slice.slicePlaces ((items.length : Int) - 1) (-1) (-1))) _ _ s
  rw [plc_rev]
  refine wpAny_pure ?_
  have hno : ¬ ((((items.length : Int) - 1) == 0 && (-1 : Int) == 1 && items.length == items.length) = true) := by
    rw [show ((-1 : Int) == 1) = false from rfl, Bool.and_false, Bool.false_and]
    exact Bool.false_ne_true
  show wpAny _ _ (if (((items.length : Int) - 1) == 0 && (-1 : Int) == 1 && items.length == items.length) = true then _ else _) _ _ s
  rw [if_neg hno, pick_rev]
  first
    | exact wpAny_bind (m := Builtin.Tuple.tupleExact _) (wpAny_newObj_type (wpAny_pure ⟨_, rfl, wpAny_pure h⟩) htake)
    | exact wpAny_bind (m := Builtin.Tuple.tupleExact _) (wpAny_newObj_type (wpAny_bind (wpAny_pure (wpAny_pure ⟨_, rfl, wpAny_pure h⟩))) htake)
end
section
variable {X : Cx}
def tRevT (K : PySem.W.Frag) (te : TE) : TE := fun σ H Q => te σ H fun x H1 => ∃ a xs, x = .ref a ∧ SqT K H1 a xs ∧ ∀ p, H1 p = none → Q (.ref p) (upd H1 p (.tup xs.reverse))
theorem pe_revT {e : Expr} {te : TE} {k : Nat} {p1 p2 p3 pos : Pos} (he : PE X e te) : PE X (.Subscript e (.Slice none none (some (.UnaryOp .USub (.Constant (.int 1) k p1) p2)) p3) pos) (tRevT X.K te) := by
  refine ⟨fun pins s σ H Q I h => ?_⟩
  refine Subscript_ (thn (he.run pins s σ H _ I h) fun v s1 ⟨x, H1, I1, r1, q1⟩ => ?_)
  obtain ⟨a, xs, ex, hx, q⟩ := q1
  subst ex
  cases r1
  have hst : PO X (some (.UnaryOp .USub (.Constant (.int 1) k p1) p2)) (tPart (tUn (rU fun i => .int (-i)) (tC (.int 1)))) := po_some (pe_un un_neg pe_int)
  refine wpAny_Slice (thn (po_none.run pins s1 σ H1 (fun o H2 => o = none ∧ H2 = H1) I1 ⟨rfl, rfl⟩) fun vl s2 ⟨l, H2, I2, pl, el, e2⟩ => ?_)
  subst el e2
  refine thn (po_none.run pins s2 σ H2 (fun o H3 => o = none ∧ H3 = H2) I2 ⟨rfl, rfl⟩) fun vu s3 ⟨u, H3, I3, pu, eu, e3⟩ => ?_
  subst eu e3
  refine thn (hst.run pins s3 σ H3 (fun o H4 => o = some (-1) ∧ H4 = H3) I3 ⟨1, rfl, -1, rfl, rfl, rfl⟩) fun vs s4 ⟨o, H4, I4, ps, eo, e4⟩ => ?_
  subst eo e4
  obtain ⟨kk, rfl⟩ : ∃ kk, vs = .int (-1) kk := by
    cases ps with
    | int i t => exact ⟨t, rfl⟩
  have I5 : Inv X pins σ H4 { s4 with heap := s4.heap.push { cls := .type "slice", data := .fields #[vl, vu, .int (-1) kk] } } := I4.kept (t' := s4.toks) fun b ob q => Heap.get?_push_of_some _ q
  obtain ⟨its, r, ht, hz⟩ := I5.tuple hx
  have hlen := r.length
  show wpAny (model X.prog X.w) X.A (subscriptTail e (.Slice none none (some (.UnaryOp .USub (.Constant (.int 1) k p1) p2)) p3) (.ref a) (.ref s4.heap.objs.size)) (EP X pins σ Q) X.xe { s4 with heap := s4.heap.push { cls := .type "slice", data := .fields #[vl, vu, .int (-1) kk] } }
  refine tail_any (ops := [.ref a, .ref s4.heap.objs.size]) ht.typeIs (PyProof.Rows.slot_tuple_getitem.lookup) ?_ (by with_unfolding_all rfl)
  refine getItem_tuple_rev ht (Heap.IsSliceOf.new _ vl vu _) pl pu ?_ (by rw [← hlen]; exact hz)
  refine ⟨.ref _, _, I5.laid (t' := s4.toks) (o := .tup xs.reverse) (fun b ob q => Heap.get?_push_of_some _ q) (Nat.le_refl _) ?_, rfl, q _ (I5.hok.fresh (Nat.le_refl _))⟩
  exact ⟨by rw [List.length_reverse]; exact hz, _, r.reverse, IsTup.new _ _⟩
end
end My
namespace My
open PySem PySem.Spec PyProof.Rows L2 TL
/-- begin with each of these parts, as tuples that were just laid -/
def BgT (F : Acts) (e : Addr) (Hb H' : Hp) (v : V) (t : Tr) : Prop := ∃ (a : Addr) (c : V), v = .ref a ∧ H' a = some (.tup [.ref F.bg, c, .ref e]) ∧ RT Hb c t
theorem BgT.keep {F : Acts} {e : Addr} {Hb H1 H2 : Hp} {v : V} {t : Tr} (k : KpT H1 H2) (h : BgT F e Hb H1 v t) : BgT F e Hb H2 v t := by
  obtain ⟨a, c, h1, h2, h3⟩ := h
  exact ⟨a, c, h1, k _ _ h2, h3⟩
theorem bgs_done {F : Acts} {C : Cs} {X : Addr → Prop} {e : Addr} {Hb H' : Hp} {env : List (Int × Vl)} (f : Fr X Hb H') (re : REn C X Hb e env) : ∀ {us : List V} {ts : List Tr}, Als (BgT F e Hb H') us ts → (∀ t ∈ ts, widT t) → Als (RTk F C X H') us (bgs ts env)
  | _, _, .nil, _ => .nil
  | _, _, .cons (x := t) ⟨a, c, h1, h2, h3⟩ rs, w => .cons ⟨a, c, e, h1, h2, h3.keep f.tup, w t List.mem_cons_self, re.fr f⟩ (bgs_done f re rs fun t m => w t (List.mem_cons_of_mem _ m))
theorem bgs_rev (ts : List Tr) (env : List (Int × Vl)) : bgs ts.reverse env = (bgs ts env).reverse := by
  unfold bgs
  rw [List.map_reverse]
theorem RTs.app {H : Hp} : ∀ {vs ws : List V} {ts us : List Tr}, RTs H vs ts → RTs H ws us → RTs H (vs ++ ws) (ts ++ us)
  | _, _, _, _, .nil, s => s
  | _, _, _, _, .cons r rs, s => .cons r (RTs.app rs s)
theorem RTs.rev {H : Hp} : ∀ {vs : List V} {ts : List Tr}, RTs H vs ts → RTs H vs.reverse ts.reverse
  | _, _, .nil => .nil
  | _, _, .cons r rs => by
    rw [List.reverse_cons, List.reverse_cons]
    exact (RTs.rev rs).app (.cons r .nil)
structure ActG (mg : Str → Option Value) (F : Acts) : Prop where
  bg : mg "begin" = some (.ref F.bg)
  el : mg "end_let" = some (.ref F.el)
  ei : mg "end_if" = some (.ref F.ei)
  ec : mg "end_call" = some (.ref F.ec)
section
variable {P : Program} {w : World} {K : PySem.W.Frag} {mg : Str → Option Value} {base : Heap} {CP En P1 : Addr} {F : Acts} {C : Cs}
/-- a task is pushed -/
theorem PRn.pushT {X : Addr → Prop} {H : Hp} {p : Pn} {m : Wd} {n : Nat} {todo : List Tk} {res : List Vl} {ts : List V} {t0 e : Addr} {c : V} {act : Act} {t : Tr} {env : List (Int × Vl)} (h : PRn CP F C X H p m n todo res) (hT : H p.T = some (.lst ts)) (al : Als (RTk F C X H) ts todo.reverse)
    (ht : H t0 = none) (rt : RT H c t) (wt : widT t) (re : REn C X H e env) :
    (upd H t0 (.tup [.ref (F.at act), c, .ref e])) p.T = some (.lst ts) ∧ PRn CP F C X (upd (upd H t0 (.tup [.ref (F.at act), c, .ref e])) p.T (.lst (ts ++ [.ref t0]))) p m n (⟨act, t, env⟩ :: todo) res ∧
      Fr X H (upd (upd H t0 (.tup [.ref (F.at act), c, .ref e])) p.T (.lst (ts ++ [.ref t0]))) := by
  have f : Fr No H (upd H t0 (.tup [.ref (F.at act), c, .ref e])) := Fr.new ht
  have h1 := h.fr f
  have g := h1.setT (ts := ts ++ [.ref t0]) (todo' := ⟨act, t, env⟩ :: todo) (by
    rw [List.reverse_cons]
    exact (al.mono fun _ _ r => r.fr f.no).app (.one ⟨t0, c, e, rfl, upd_same, rt.keep f.tup, wt, re.fr f.no⟩))
  exact ⟨f.keep (fun z => z) rfl hT, g.1, f.no.trans g.2⟩
end
end My
namespace My
open PySem PySem.Spec PyProof.Rows L2 TL
/-- a pair (number, part) -/
def NuP (H : Hp) (v : V) (t : Tr) : Prop := ∃ (q : Addr) (x : V) (n : Int), v = .ref q ∧ H q = some (.tup [.int n, x]) ∧ RT H x t
theorem RTp.nu {H : Hp} : ∀ {vs : List V} {ns : List Int} {ts : List Tr}, RTp H vs ns ts → Als (NuP H) vs ts
  | _, _, _, .nil => .nil
  | _, _, _, .cons h r rs => .cons ⟨_, _, _, rfl, h, r⟩ (RTp.nu rs)
section
variable {α : Type} {R : V → α → Prop}
theorem Als.rev : ∀ {vs : List V} {xs : List α}, Als R vs xs → Als R vs.reverse xs.reverse
  | _, _, .nil => .nil
  | _, _, .cons r rs => by
    rw [List.reverse_cons, List.reverse_cons]
    exact (Als.rev rs).app (.one r)
theorem Als.get : ∀ {vs : List V} {xs : List α} {i : Nat} {v : V}, Als R vs xs → vs[i]? = some v → ∃ x, xs[i]? = some x ∧ R v x
  | _, _, _, _, .nil, e => by simp at e
  | _, _, 0, _, .cons r _, e => by cases e; exact ⟨_, rfl, r⟩
  | _, _, i + 1, _, .cons _ rs, e => by
    obtain ⟨t, h1, h2⟩ := Als.get (i := i) rs (by simpa using e)
    exact ⟨t, by simpa using h1, h2⟩
end
section
variable {P : Program} {w : World} {K : PySem.W.Frag} {mg : Str → Option Value} {base : Heap} {CP En P1 : Addr} {F : Acts} {C : Cs}
end
end My
namespace My
open PySem PySem.Spec PyProof.Rows L2 TL
theorem rev_cut {α : Type} (xs : List α) (k : Nat) (h : k ≤ xs.length) : xs.reverse.take (xs.length - k) = (xs.drop k).reverse ∧ xs.reverse.drop (xs.length - k) = (xs.take k).reverse := by
  have e : xs.reverse = (xs.drop k).reverse ++ (xs.take k).reverse := by rw [← List.reverse_append, List.take_append_drop]
  have l : (xs.drop k).reverse.length = xs.length - k := by rw [List.length_reverse, List.length_drop]
  rw [e, ← l]
  exact ⟨List.take_left, List.drop_left⟩
section
variable {P : Program} {w : World} {K : PySem.W.Frag} {mg : Str → Option Value} {base : Heap} {CP En P1 : Addr} {F : Acts} {C : Cs}
/-- the last k results are taken -/
theorem PRn.takeS {X : Addr → Prop} {H : Hp} {p : Pn} {m : Wd} {n k : Nat} {todo : List Tk} {res : List Vl} {rs : List V} {q : Addr} (h : PRn CP F C X H p m n todo res) (hs : H p.S = some (.lst rs)) (r : RVs C X H rs res.reverse) (hk : k ≤ res.length) (hq : H q = none) :
    k ≤ rs.length ∧ PRn CP F C X (upd (upd H q (.lst (rs.drop (rs.length - k)))) p.S (.lst (rs.take (rs.length - k)))) p m n todo (res.drop k) ∧ Fr X H (upd (upd H q (.lst (rs.drop (rs.length - k)))) p.S (.lst (rs.take (rs.length - k)))) ∧
      (upd (upd H q (.lst (rs.drop (rs.length - k)))) p.S (.lst (rs.take (rs.length - k)))) q = some (.lst (rs.drop (rs.length - k))) ∧ RVs C X (upd (upd H q (.lst (rs.drop (rs.length - k)))) p.S (.lst (rs.take (rs.length - k)))) (rs.drop (rs.length - k)) (res.take k).reverse ∧ ¬ X q := by
  have lr : rs.length = res.length := by rw [r.len, List.length_reverse]
  obtain ⟨c1, c2⟩ := rev_cut res k hk
  have f : Fr No H (upd H q (.lst (rs.drop (rs.length - k)))) := Fr.new hq
  have h1 := h.fr f
  have r1 := r.fr f.no
  have ra := r1.take (rs.length - k)
  have rb := r1.drop (rs.length - k)
  have ra' : RVs C X (upd H q (.lst (rs.drop (rs.length - k)))) (rs.take (rs.length - k)) (res.drop k).reverse := by rw [← c1, ← lr]; exact ra
  have rb' : RVs C X (upd H q (.lst (rs.drop (rs.length - k)))) (rs.drop (rs.length - k)) (res.take k).reverse := by rw [← c2, ← lr]; exact rb
  have g := h1.setS ra'
  have nq : q ≠ p.S := fun z => by rw [z, hs] at hq; cases hq
  exact ⟨by omega, g.1, f.no.trans g.2, by rw [upd_ne nq]; exact upd_same, rb'.fr g.2, fun z => h.dom q z hq⟩
def goEl : Wd → Tr → List (Int × Vl) → Nat → List Tk → List Vl → PRes := fun _ t env n todo res => endLetF t env n todo res
def goEc : Wd → Tr → List (Int × Vl) → Nat → List Tk → List Vl → PRes := fun _ t _ n todo res => endCallF t n todo res
end
end My
namespace My
open PySem PySem.Spec PyProof.Rows L2 TL
/-! ### a local name that holds one of several defs, which may raise -/
structure HeldX (P : Program) (w : World) (K : PySem.W.Frag) (mg : Str → Option Value) (base : Heap) (k : Nat) (f : Addr) (sp : Sp) : Prop where
  ex : ∃ (fd : FuncData) (ps : List Str), FnOk P w K mg base (L2.CX P w) k f fd ps sp ∧ PySem.W.keepIn K (.ref f) = true ∧ Binds K fd ps []
def tCallAX (i : Nat) (S : Addr → Sp → Prop) (E : XK) (t : TA) : TE := fun σ H Q => ∃ f sp, σ[i]? = some (some (.ref f)) ∧ S f sp ∧ t σ H fun vs H1 => sp vs H1 Q E
section
variable {X : Cx} {k i : Nat} {E : XK} {x : Str} {p pos : Pos} {e : Expr} {es : List Expr} {t : TA}
theorem pe_callAX {S : Addr → Sp → Prop} (A : ∀ f sp, S f sp → HeldX X.prog X.w X.K X.mg X.base k f sp) (hr : Room k X.A) (hN : X.N[i]? = some x) (hv : Vis X.env.scope x) (hx : Passes (L2.CX X.prog X.w) X E) (ha : PA X (e :: es) t)
    (hdb : (x == ("__debug__" : Str)) = false := by decide) (hcd : (x == ("__classdict__" : Str)) = false := by decide)
    (he : starEach (e :: es) X.env = (false, eval e X.env) :: starEach es X.env := by rfl) (hpl : (backTo pos (starEach es X.env)).any (·.1) = false := by rfl) : PE X (.Call (.Name x p) (e :: es) [] pos) (tCallAX i S E t) := by
  refine ⟨fun pins s σ H Q I h => ?_⟩
  obtain ⟨f, sp, hs, hS, ht⟩ := h
  obtain ⟨fd, ps, F, hk, hb⟩ := (A f sp hS).ex
  refine (pe_callL (i := i) (f := f) (sp := sp) (dvs := []) (E := E) F hr hN hv hk hb .nil hx ha hdb hcd he hpl).run pins s σ H Q I ⟨hs, ?_⟩
  have e0 : (fun (vs : List V) (H1 : Hp) => sp (vs ++ []) H1 Q E) = fun vs H1 => sp vs H1 Q E := by
    funext vs H1
    rw [List.append_nil]
  show t σ H (fun vs H1 => sp (vs ++ []) H1 Q E)
  rw [e0]
  exact ht
end

/-- definition(self, module, name) -/
def spDfn (CR : Addr) (C : Cs) (En : Addr) : Sp := fun vs H Q E => ∃ (X : Addr → Prop) (R dx D : Addr) (fs : List (Str × V)) (a b : Str) (gl : Gl), vs = [.ref R, .str a, .str b] ∧ H R = some (.ins CR dx fs) ∧ fs.lookup ("defined" : Str) = some (.ref D) ∧ RDf C X H D gl ∧
  (∀ x, glGet (a, b) gl = some x → ∀ u H', Fr No H H' → RV C X H' u x → Q u H') ∧ (glGet (a, b) gl = none → erX No En ["error", "early"] H E)
def goEi : Wd → Tr → List (Int × Vl) → Nat → List Tk → List Vl → PRes := fun _ t env n todo res => endIfF t env n todo res
def goB : Wd → Tr → List (Int × Vl) → Nat → List Tk → List Vl → PRes := fun m t env n todo res => beginF m t env n todo res
def begW : List Str := ["int", "local", "global", "prim", "fn", "let", "if", "call"]
section
variable {P : Program} {w : World} {K : PySem.W.Frag} {mg : Str → Option Value} {base : Heap} {CP En P1 : Addr} {F : Acts} {C : Cs}
end
end My
namespace My
open PySem PySem.Spec PyProof.Rows L2 TL
/-! ### shown values -/
inductive Sh where
  | int (i : Int) | fn | more | pair (a b : Sh)
inductive RSh (H : Hp) : V → Sh → Prop
  | int (i : Int) : RSh H (.int i) (.int i)
  | fn : RSh H (.str "fn") .fn
  | more : RSh H (.str "more") .more
  | pair {a : Addr} {x y : V} {u v : Sh} (h : H a = some (.tup [.str "pair", x, y])) (r : RSh H x u) (s : RSh H y v) : RSh H (.ref a) (.pair u v)
theorem RSh.keep {H H' : Hp} (k : KpT H H') : ∀ {v : V} {s : Sh}, RSh H v s → RSh H' v s
  | _, _, .int i => .int i
  | _, _, .fn => .fn
  | _, _, .more => .more
  | _, _, .pair h r s => .pair (k _ _ h) (RSh.keep k r) (RSh.keep k s)
def showF : Vl → Nat → Nat → Sh × Nat
  | .int i, _, c => (.int i, c)
  | .pair a b, ar, c => if 59 < ar ∨ c = 300 then (.more, c) else (.pair (showF a (ar + 1) (c + 1)).1 (showF b (ar + 1) (showF a (ar + 1) (c + 1)).2).1, (showF b (ar + 1) (showF a (ar + 1) (c + 1)).2).2)
  | _, _, c => (.fn, c)
def spShI (CS : Addr) : Sp := fun vs H Q _ => ∃ (x dx : Addr), vs = [.ref x] ∧ H x = some (.ins CS dx []) ∧ Q .non (upd H x (.ins CS dx [("pairs", .int 0)]))
def spSho (C : Cs) (CS : Addr) : Nat → Sp
  | 0 => fun _ _ _ _ => False
  | d + 1 => fun vs H Q _ => ∃ (X : Addr → Prop) (s dx : Addr) (v : V) (x : Vl) (ar c : Nat), vs = [.ref s, v, .int ar] ∧ H s = some (.ins CS dx [("pairs", .int c)]) ∧ RV C X H v x ∧ X s ∧ 60 ≤ ar + d ∧
    ∀ u H', Fr (fun b => b = s) H H' → H' s = some (.ins CS dx [("pairs", .int (showF x ar c).2)]) → RSh H' u (showF x ar c).1 → Q u H'
def spShn (C : Cs) : Sp := fun vs H Q _ => ∃ (X : Addr → Prop) (v : V) (x : Vl), vs = [v] ∧ RV C X H v x ∧ ∀ u H', Fr No H H' → RSh H' u (showF x 0 0).1 → Q u H'
/-- what was new may have changed -/
theorem Fr.drop {Y : Addr → Prop} {H H1 H' : Hp} (a : Fr No H H1) (b : Fr Y H1 H') (h : ∀ q, Y q → H q = none) : Fr No H H' := by
  refine ⟨⟨fun q o _ t e => b.keep (fun z => by rw [h q z] at e; cases e) t (a.keep (fun z => z) t e), fun P t => b.sm.tab P (a.sm.tab P t), fun q e => a.dom (b.dom e)⟩, fun q xs e => b.tup _ _ (a.tup _ _ e)⟩
section
variable {P : Program} {w : World} {K : PySem.W.Frag} {mg : Str → Option Value} {base : Heap} {C : Cs} {CS : Addr}
theorem fn_none {CX : CXT} {k : Nat} {f : Addr} {fd : FuncData} {ps : List Str} : FnOk P w K mg base CX k f fd ps (fun _ _ _ _ => False) := ⟨fun _ _ _ _ h => h.elim, fun _ _ _ _ _ _ _ _ _ _ _ _ _ h => h.elim⟩
end
end My
namespace My
open PySem PySem.Spec PyProof.Rows L2 TL
/-! ### a method's call within a try -/
section
variable {X : Cx} {CX : CXT} {k : Nat} {f C : Addr} {fd : FuncData} {ps : List Str} {sp : Sp} {E : L2.St → XK} {m : Str} {o e : Expr} {es : List Expr} {ta : TE} {t : TA} {apos pos : Pos}
def tMethT (C : Addr) (m : Str) (sp : Sp) (E : L2.St → XK) (ta : TE) (t : TA) : TE := fun σ H Q => ta σ H fun x H1 => ∃ a dx fs, x = .ref a ∧ H1 a = some (.ins C dx fs) ∧ fs.lookup m = none ∧ t σ H1 fun vs H2 => sp (x :: vs) H2 Q (E σ)
theorem pe_methT {pl : Sem Bool} (he : PE X o ta) (c : Cls X.K C) (hm : Meth X.K C m f) (F : FnOk X.prog X.w X.K X.mg X.base CX k f fd ps sp) (hr : Room k X.A) (hb : Binds X.K fd ps []) (hx : ∀ σ, PassesAt CX X σ (E σ)) (ha : PA X (e :: es) t)
    (hst : starEach (e :: es) X.env = (false, eval e X.env) :: starEach es X.env := by rfl) (hpl : (backTo pos (starEach es X.env)).any (·.1) = false := by rfl)
    (ht : eval (.Call (.Attribute o m apos) (e :: es) [] pos) X.env = (do
      let ov ← eval o X.env
      standAt apos.atName
      let (f, first) ← holding [ov] (getMethod ov m pl)
      callWith pos f first (backTo pos (starEach (e :: es) X.env)) (backToKw pos (keywordEach [] X.env))) := by rfl) :
    PE X (.Call (.Attribute o m apos) (e :: es) [] pos) (tMethT C m sp E ta t) := by
  refine ⟨fun pins s σ H Q I h => ?_⟩
  refine PySem.W.methodCall_KW (pl := pl) (thn (he.run pins s σ H _ I h) fun u s1 ⟨x, H1, I1, rx, a, dx, fs, ex, ea, l, q⟩ => ?_) ht
  subst ex
  obtain rfl : u = Value.ref a := rx
  refine getmeth_ok I1 ea c hm l ?_
  refine PySem.W.callWith_K (first := [.ref a]) (h₀ := X.base) I.ok.mod.kin hm.kp (thn (ha.run pos pins s1 σ H1 _ I1 q) fun us s2 ⟨vs, H2, I2, r, q2⟩ => ⟨I2.kIn, ?_⟩) hst hpl
  exact run_fnS (us := .ref a :: us) (vs := .ref a :: vs) F hr hb (hx σ) I2 (.cons rfl r) q2
end
theorem seq_of {t u : TS} {D : Ends} {σ : L2.St} {H : Hp} (h : t { D with nx := u D } σ H) : tSeq t u D σ H := h
theorem while_n {c : TT} {tb : TS} {D : Ends} {σ : L2.St} {H : Hp} (Pv : Nat → L2.St → Hp → Prop) (m0 : Nat) (h0 : Pv m0 σ H)
    (hs : ∀ m σ H, Pv m σ H → c σ H fun b H1 => if b = true then tb { D with nx := fun σ' H' => ∃ m', m' < m ∧ Pv m' σ' H', ct := fun σ' H' => ∃ m', m' < m ∧ Pv m' σ' H', bk := D.nx } σ H1 else D.nx σ H1)
    (mono : ∀ σ H Q Q', (∀ b H1, Q b H1 → Q' b H1) → c σ H Q → c σ H Q') : tWhile c tb D σ H := by
  refine ⟨Pv, ⟨m0, h0⟩, fun m σ H p => mono σ H _ _ (fun b H1 q => ?_) (hs m σ H p)⟩
  cases b with
  | true => exact ⟨_, fun σ' H' z => z, q⟩
  | false => exact q
def spRin (C : Addr) : Sp := fun vs H Q _ => ∃ (x dx : Addr) (m : Int), vs = [.ref x, .int m] ∧ H x = some (.ins C dx []) ∧
  ∀ D H', H D = none → Fr (fun b => b = x) H H' → H' D = some (.dT []) → H' x = some (.ins C dx [("most", .int m), ("steps", .int 0), ("defined", .ref D)]) → Q .non H'
def spPin (CP : Addr) : Sp := fun vs H Q _ => ∃ (x dx : Addr) (m : Int), vs = [.ref x, .int m] ∧ H x = some (.ins CP dx []) ∧
  ∀ D T S H', H D = none → H T = none → H S = none → T ≠ S → Fr (fun b => b = x) H H' → H' D = some (.dT []) → H' T = some (.lst []) → H' S = some (.lst []) → H' x = some (.ins CP dx [("most", .int m), ("steps", .int 0), ("defined", .ref D), ("todo", .ref T), ("results", .ref S)]) → Q .non H'
/-- the loop -/
def runF : Nat → Wd → Nat → List Tk → List Vl → Option (Except (List Str × Nat) (Nat × List Vl))
  | 0, _, _, _, _ => none
  | _ + 1, _, n, [], res => some (.ok (n, res))
  | k + 1, m, n, tk :: todo, res => match actF m tk n todo res with
    | .stuck => none
    | .err ws n' => some (.error (ws, n'))
    | .ok n' todo' res' => runF k m n' todo' res'
def spCar (CP : Addr) (F : Acts) (C : Cs) (En P1 : Addr) : Sp := fun vs H Q E => ∃ (X : Addr → Prop) (p : Pn) (m : Wd) (n : Nat) (c : V) (t : Tr) (k : Nat), vs = [.ref p.R, c] ∧ PRn CP F C X H p m n [] [] ∧ RT H c t ∧ widT t ∧ GxR.TabG H P1 ∧
  (match runF k m n [⟨.begin, t, []⟩] [] with
  | some (.ok (n', [v])) => ∀ u H', Fr X H H' → PRn CP F C X H' p m n' [] [] → RV C X H' u v → Q u H'
  | some (.error (ws, n')) => ∀ H1, Fr X H H1 → H1 p.R = some (.ins CP p.dx (flds p m n')) → erX No En ws H1 E
  | _ => False)
section
variable {P : Program} {w : World} {K : PySem.W.Frag} {mg : Str → Option Value} {base : Heap} {CP En P1 : Addr} {F : Acts} {C : Cs}
end
end My
namespace My
open PySem PySem.Spec PyProof.Rows L2 TL
/-! ### readings that name K -/
section
variable {X : Cx} {K : PySem.W.Frag}
theorem pe_fldK {e : Expr} {ta : TE} {f : Str} {pos : Pos} (hK : X.K = K) (he : PE X e ta) (hb : attributeBase e f X.env (eval e X.env) = eval e X.env) : PE X (.Attribute e f pos) (tFld K ta f) := by
  subst hK; exact pe_fld he hb
theorem pi_listK {tg e : Expr} {ta : TE} (hK : X.K = K) (he : PE X e ta) : PI X tg e (iList K ta) := by
  subst hK; exact pi_list he
end
/-! ### the program: its definitions, then the last part -/
structure EndC (K : PySem.W.Frag) (mg : Str → Option Value) (En : Addr) : Prop where
  g : mg "Ended" = some (.ref En)
  x : XfC K En
  n : PySem.W.findIn K (.ref En) "outcome" = some none
  te : PySem.W.exmOne K (.ref En) (.ref En) = some true
/-- what a run is: its states between two parts that are carried out -/
structure CoD (C : Cs) (CR : Addr) where
  σ : Type
  β : Type
  self : Addr
  D : Addr
  RB : Hp → V → β → Prop
  run : Gl → σ → β → Option (Except (List Str × σ) (σ × Vl))
  I : (Addr → Prop) → Hp → σ → Gl → Prop
  J : Hp → σ → Prop
  keepB : ∀ {H H' : Hp} {v : V} {b : β}, KpT H H' → RB H v b → RB H' v b
  noI : ∀ {X : Addr → Prop} {H H' : Hp} {s : σ} {gl : Gl}, Fr No H H' → I X H s gl → I X H' s gl
  noJ : ∀ {H H' : Hp} {s : σ}, Fr No H H' → J H s → J H' s
  obj : ∀ {X : Addr → Prop} {H : Hp} {s : σ} {gl : Gl}, I X H s gl → ∃ dx fs, H self = some (.ins CR dx fs) ∧ fs.lookup ("carry_out" : Str) = none ∧ fs.lookup ("defined" : Str) = some (.ref D)
  df : ∀ {X : Addr → Prop} {H : Hp} {s : σ} {gl : Gl}, I X H s gl → RDf C X H D gl ∧ X D
  put : ∀ {X : Addr → Prop} {H : Hp} {s : σ} {gl : Gl} {kvs : List (List Key × V)} {k : Str × Str} {v : V} {x : Vl}, I X H s gl → H D = some (.dT kvs) → RV C X H v x → I X (upd H D (.dT (putK kvs (glK k) v))) s (glPut k x gl)
  toJ : ∀ {X : Addr → Prop} {H : Hp} {s : σ} {gl : Gl}, I X H s gl → J H s
  grow : ∀ {X : Addr → Prop} {H : Hp} {s : σ} {gl : Gl}, I X H s gl → ∀ b, X b → H b ≠ none
section
variable {C : Cs} {CR : Addr}
/-- what follows a part -/
def coPost (En : Addr) (cd : CoD C CR) (X : Addr → Prop) (H : Hp) (gl : Gl) (Q : VK) (E : XK) : Option (Except (List Str × cd.σ) (cd.σ × Vl)) → Prop
  | some (.ok (s', x)) => ∀ (X' : Addr → Prop) u H', Fr X H H' → (∀ b, X b → X' b) → (∀ b, X' b → X b ∨ H b = none) → cd.I X' H' s' gl → RV C X' H' u x → Q u H'
  | some (.error (ws, s')) => ∀ H1, Fr X H H1 → cd.J H1 s' → erX No En ws H1 E
  | none => False
def spCo {ι : Type} (En P1 : Addr) (cd : ι → CoD C CR) : Sp := fun vs H Q E => ∃ (i : ι) (X : Addr → Prop) (s : (cd i).σ) (gl : Gl) (v : V) (b : (cd i).β), vs = [.ref (cd i).self, v] ∧ (cd i).I X H s gl ∧ (cd i).RB H v b ∧ GxR.TabG H P1 ∧ coPost En (cd i) X H gl Q E ((cd i).run gl s b)
/-- the definitions one by one, then the last part -/
def progF (cd : CoD C CR) : List ((Str × Str) × cd.β) → cd.β → Gl → cd.σ → Option (Except (List Str × cd.σ) (cd.σ × Vl))
  | [], b, gl, s => cd.run gl s b
  | (k, d) :: ds, b, gl, s => match cd.run gl s d with
    | some (.ok (s', x)) => progF cd ds b (glPut k x gl) s'
    | some (.error e) => some (.error e)
    | none => none
/-- a definition as it stands in the list -/
def RDn (cd : CoD C CR) (H : Hp) (v : V) (d : (Str × Str) × cd.β) : Prop := ∃ (a : Addr) (c : V), v = .ref a ∧ H a = some (.tup [.str d.1.1, .str d.1.2, c]) ∧ cd.RB H c d.2
theorem RDn.keep {cd : CoD C CR} {H H' : Hp} (k : KpT H H') {v : V} {d : (Str × Str) × cd.β} (h : RDn cd H v d) : RDn cd H' v d := by
  obtain ⟨a, c, e, h1, h2⟩ := h
  exact ⟨a, c, e, k _ _ h1, cd.keepB k h2⟩
def spCop {ι : Type} (En P1 : Addr) (cd : ι → CoD C CR) : Sp := fun vs H Q _ => ∃ (i : ι) (X : Addr → Prop) (s : (cd i).σ) (l : Addr) (us : List V) (ds : List ((Str × Str) × (cd i).β)) (v : V) (b : (cd i).β), vs = [.ref (cd i).self, .ref l, v] ∧ (cd i).I X H s [] ∧ H l = some (.lst us) ∧ ¬ X l ∧ Als (RDn (cd i) H) us ds ∧ ds.length ≤ 1000 ∧ (cd i).RB H v b ∧ GxR.TabG H P1 ∧
  (match progF (cd i) ds b [] s with
  | some (.ok (s', x)) => ∀ t u H', Fr X H H' → (cd i).J H' s' → H' t = some (.tup [.str "value", u]) → RSh H' u (showF x 0 0).1 → Q (.ref t) H'
  | some (.error (ws, s')) => ∀ o H', Fr X H H' → (cd i).J H' s' → H' o = some (.tup (ws.map .str)) → Q (.ref o) H'
  | none => False)
end
theorem Fr.drop2 {X Y : Addr → Prop} {H H1 H' : Hp} (a : Fr X H H1) (b : Fr Y H1 H') (h : ∀ q, Y q → X q ∨ H q = none) : Fr X H H' := by
  refine ⟨⟨fun c o n t e => ?_, fun P z => b.sm.tab P (a.sm.tab P z), fun c e => a.dom (b.dom e)⟩, fun c xs e => b.tup _ _ (a.tup _ _ e)⟩
  exact b.keep (fun z => (h c z).elim n fun q => by rw [q] at e; cases e) t (a.keep n t e)
section
variable {P : Program} {w : World} {K : PySem.W.Frag} {mg : Str → Option Value} {base : Heap} {CP En P1 : Addr} {F : Acts} {C : Cs}
theorem glPut_len (k : Str × Str) (y : Vl) (gl : Gl) : (glPut k y gl).length ≤ gl.length + 1 := by
  unfold glPut
  split
  · rw [List.length_map]; omega
  · rw [List.length_append]; exact Nat.le_refl _
end
end My
namespace My
open PySem PySem.Spec PyProof.Rows L2 TL
/-! ### run_plain -/
theorem FnOk.imp {P : Program} {w : World} {K : PySem.W.Frag} {mg : Str → Option Value} {base : Heap} {CX : CXT} {k : Nat} {f : Addr} {fd : FuncData} {ps : List Str} {sp sp' : Sp} (F : FnOk P w K mg base CX k f fd ps sp) (h : ∀ vs H Q E, sp' vs H Q E → sp vs H Q E) : FnOk P w K mg base CX k f fd ps sp' :=
  ⟨fun vs H Q E z => F.1 vs H Q E (h _ _ _ _ z), fun a b c d e f g i j k l m n z => F.2 a b c d e f g i j k l m n (h _ _ _ _ z)⟩
def plRun (k m : Nat) (gl : Gl) (n : Nat) (t : Tr) : Option (Except (List Str × Nat) (Nat × Vl)) := match runF k ⟨m, gl⟩ n [⟨.begin, t, []⟩] [] with
  | some (.ok (n', [v])) => some (.ok (n', v))
  | some (.error e) => some (.error e)
  | _ => none
structure IxP where
  p : Pn
  m : Nat
  k : Nat
section
variable {CP : Addr} {F : Acts} {C : Cs}
theorem PRn.put {X : Addr → Prop} {H : Hp} {p : Pn} {m n : Nat} {gl : Gl} {kvs : List (List Key × V)} {k : Str × Str} {v : V} {x : Vl} (h : PRn CP F C X H p ⟨m, gl⟩ n [] []) (XD : X p.D) (hD : H p.D = some (.dT kvs)) (rv : RV C X H v x) :
    PRn CP F C X (upd H p.D (.dT (putK kvs (glK k) v))) p ⟨m, glPut k x gl⟩ n [] [] := by
  obtain ⟨ts, t1, t2⟩ := h.t
  obtain ⟨rs, s1, s2⟩ := h.s
  obtain ⟨kvs', d1, d2⟩ := h.d
  rw [hD] at d1
  cases d1
  have f : Fr X H (upd H p.D (.dT (putK kvs (glK k) v))) := Fr.set XD hD rfl
  refine ⟨by rw [upd_ne (Ne.symm h.neRD)]; exact h.r, ⟨ts, by rw [upd_ne (Ne.symm h.neTD)]; exact t1, t2.mono fun _ _ r => r.fr f⟩, ⟨rs, by rw [upd_ne (Ne.symm h.neSD)]; exact s1, s2.fr f⟩, h.xr, h.xt, h.xs, ⟨_, upd_same, (d2.fr f).put (rv.fr f)⟩, h.ne, fun b z => f.dom' (h.dom b z)⟩
def cdP (CP : Addr) (F : Acts) (C : Cs) (i : IxP) : CoD C CP where
  σ := Nat
  β := Tr
  self := i.p.R
  D := i.p.D
  RB := fun H v t => RT H v t ∧ widT t
  run := plRun i.k i.m
  I := fun X H n gl => PRn CP F C X H i.p ⟨i.m, gl⟩ n [] [] ∧ X i.p.D
  J := fun H n => H i.p.R = some (.ins CP i.p.dx (flds i.p ⟨i.m, []⟩ n))
  keepB := fun k h => ⟨h.1.keep k, h.2⟩
  noI := fun f h => ⟨h.1.fr f, h.2⟩
  noJ := fun f h => f.keep (fun z => z) rfl h
  obj := fun h => ⟨_, _, h.1.r, rfl, rfl⟩
  df := fun h => ⟨h.1.d, h.2⟩
  put := fun h hD rv => ⟨h.1.put h.2 hD rv, h.2⟩
  toJ := fun h => h.1.r
  grow := fun h b z => h.1.dom b z
theorem car_co {En P1 : Addr} : ∀ vs H Q E, spCo En P1 (cdP CP F C) vs H Q E → spCar CP F C En P1 vs H Q E := by
  rintro vs H Q E ⟨⟨p, m, k⟩, X, n, gl, c, t, rfl, ⟨st, xD⟩, ⟨rt, wt⟩, tg, q⟩
  refine ⟨X, p, ⟨m, gl⟩, n, c, t, k, rfl, st, rt, wt, tg, ?_⟩
  have q : coPost En (cdP CP F C ⟨p, m, k⟩) X H gl Q E (plRun k m gl n t) := q
  unfold plRun at q
  generalize runF k ⟨m, gl⟩ n [⟨.begin, t, []⟩] [] = r at q ⊢
  match r, q with
  | some (.ok (n', [v])), q => exact fun u H' f st' rv => q X u H' f (fun b z => z) (fun b z => .inl z) ⟨st', xD⟩ rv
  | some (.error (ws, n')), q => exact fun H1 f e => q H1 f e
end
/-- a definition as it is handed in -/
def RDp (H : Hp) (v : V) (d : (Str × Str) × Tr) : Prop := ∃ (a : Addr) (c : V), v = .ref a ∧ H a = some (.tup [.str d.1.1, .str d.1.2, c]) ∧ RT H c d.2 ∧ widT d.2
theorem RDp.keep {H H' : Hp} (k : KpT H H') {v : V} {d : (Str × Str) × Tr} (h : RDp H v d) : RDp H' v d := by
  obtain ⟨a, c, e, h1, h2, h3⟩ := h
  exact ⟨a, c, e, k _ _ h1, h2.keep k, h3⟩
/-- the program by the plain run: steps and value, or the outcome -/
def plainF (k m : Nat) : List ((Str × Str) × Tr) → Tr → Gl → Nat → Option (Except (List Str × Nat) (Nat × Vl))
  | [], t, gl, n => plRun k m gl n t
  | (key, d) :: ds, t, gl, n => match plRun k m gl n d with
    | some (.ok (n', x)) => plainF k m ds t (glPut key x gl) n'
    | some (.error e) => some (.error e)
    | none => none
theorem progF_cons {C : Cs} {CR : Addr} (cd : CoD C CR) (key : Str × Str) (d : cd.β) (ds : List ((Str × Str) × cd.β)) (t : cd.β) (gl : Gl) (n : cd.σ) : progF cd ((key, d) :: ds) t gl n = (match cd.run gl n d with
    | some (.ok (s', x)) => progF cd ds t (glPut key x gl) s'
    | some (.error e) => some (.error e)
    | none => none) := rfl
theorem plainF_cons (k m : Nat) (key : Str × Str) (d : Tr) (ds : List ((Str × Str) × Tr)) (t : Tr) (gl : Gl) (n : Nat) : plainF k m ((key, d) :: ds) t gl n = (match plRun k m gl n d with
    | some (.ok (n', x)) => plainF k m ds t (glPut key x gl) n'
    | some (.error e) => some (.error e)
    | none => none) := rfl
theorem plainF_prog (CP : Addr) (F : Acts) (C : Cs) (i : IxP) : ∀ (ds : List ((Str × Str) × Tr)) (t : Tr) (gl : Gl) (n : Nat), progF (cdP CP F C i) ds t gl n = plainF i.k i.m ds t gl n
  | [], _, _, _ => rfl
  | (key, d) :: ds, t, gl, n => by
    rw [plainF_cons]
    refine (progF_cons (cdP CP F C i) key d ds t gl n).trans ?_
    have e : (cdP CP F C i).run gl n d = plRun i.k i.m gl n d := rfl
    rw [e]
    generalize plRun i.k i.m gl n d = r
    match r with
    | none => rfl
    | some (.error e) => rfl
    | some (.ok (s', x)) => exact plainF_prog CP F C i ds t _ _
def rpPost (H : Hp) (Q : VK) : Option (Except (List Str × Nat) (Nat × Vl)) → Prop
  | some (.ok (n', v)) => ∀ a o u H', Fr No H H' → H' a = some (.tup [.ref o, .int (n' : Nat)]) → H' o = some (.tup [.str "value", u]) → RSh H' u (showF v 0 0).1 → Q (.ref a) H'
  | some (.error (ws, n')) => ∀ a o H', Fr No H H' → H' a = some (.tup [.ref o, .int (n' : Nat)]) → H' o = some (.tup (ws.map .str)) → Q (.ref a) H'
  | none => False
def spRp (P1 : Addr) : Sp := fun vs H Q _ => ∃ (l : Addr) (us : List V) (ds : List ((Str × Str) × Tr)) (c : V) (m : Nat) (t : Tr) (k : Nat), vs = [.ref l, c, .int m] ∧ H l = some (.lst us) ∧ Als (RDp H) us ds ∧ ds.length ≤ 1000 ∧ RT H c t ∧ widT t ∧ GxR.TabG H P1 ∧ rpPost H Q (plainF k m ds t [] 0)
section
variable {P : Program} {w : World} {K : PySem.W.Frag} {mg : Str → Option Value} {base : Heap} {CP En P1 : Addr} {F : Acts} {C : Cs}
end
end My
namespace My
open PySem PySem.Spec PyProof.Rows L2 TL
/-! ### drafts of code -/
inductive DIn where
  | int (i : Int) | prim (p : Str) | glob (m x : Str) | src (s : Src) | fn (k : Nat) (ss : List Src) | put (n : Nat) | jump (l : Nat) | unless (l : Nat) | call (n : Nat) | tail (n : Nat) | end_
inductive RDi (H : Hp) : V → DIn → Prop
  | int {a : Addr} {i : Int} (h : H a = some (.tup [.str "int", .int i])) : RDi H (.ref a) (.int i)
  | prim {a : Addr} {p : Str} (h : H a = some (.tup [.str "prim", .str p])) : RDi H (.ref a) (.prim p)
  | glob {a : Addr} {m x : Str} (h : H a = some (.tup [.str "global", .str m, .str x])) : RDi H (.ref a) (.glob m x)
  | src {a : Addr} {s : Src} (h : H a = some (.tup (srcV s))) : RDi H (.ref a) (.src s)
  | fn {a q : Addr} {k : Nat} {vs : List V} {ss : List Src} (h : H a = some (.tup [.str "fn", .int k, .ref q])) (hq : H q = some (.tup vs)) (rs : RSs H vs ss) : RDi H (.ref a) (.fn k ss)
  | put {a : Addr} {n : Nat} (h : H a = some (.tup [.str "put", .int n])) : RDi H (.ref a) (.put n)
  | jump {a : Addr} {n : Nat} (h : H a = some (.tup [.str "jump", .int n])) : RDi H (.ref a) (.jump n)
  | unless {a : Addr} {n : Nat} (h : H a = some (.tup [.str "unless", .int n])) : RDi H (.ref a) (.unless n)
  | call {a : Addr} {n : Nat} (h : H a = some (.tup [.str "call", .int n])) : RDi H (.ref a) (.call n)
  | tail {a : Addr} {n : Nat} (h : H a = some (.tup [.str "tail", .int n])) : RDi H (.ref a) (.tail n)
  | end_ {a : Addr} (h : H a = some (.tup [.str "end"])) : RDi H (.ref a) .end_
theorem RDi.keep {H H' : Hp} (k : KpT H H') {v : V} {d : DIn} (r : RDi H v d) : RDi H' v d := by
  cases r with
  | int h => exact .int (k _ _ h)
  | prim h => exact .prim (k _ _ h)
  | glob h => exact .glob (k _ _ h)
  | src h => exact .src (k _ _ h)
  | fn h hq rs => exact .fn (k _ _ h) (k _ _ hq) (rs.keep k)
  | put h => exact .put (k _ _ h)
  | jump h => exact .jump (k _ _ h)
  | «unless» h => exact .unless (k _ _ h)
  | call h => exact .call (k _ _ h)
  | tail h => exact .tail (k _ _ h)
  | end_ h => exact .end_ (k _ _ h)
/-- a scope: where each number's value is read -/
abbrev Sc := List (Int × Src)
inductive RSc (H : Hp) : List (Key × V) → Sc → Prop
  | nil : RSc H [] []
  | cons {n : Int} {v : V} {s : Src} {kvs : List (Key × V)} {sc : Sc} (r : RSr H v s) (rs : RSc H kvs sc) : RSc H ((.inl n, v) :: kvs) ((n, s) :: sc)
theorem RSc.keep {H H' : Hp} (k : KpT H H') : ∀ {kvs : List (Key × V)} {sc : Sc}, RSc H kvs sc → RSc H' kvs sc
  | _, _, .nil => .nil
  | _, _, .cons r rs => .cons (r.keep k) (RSc.keep k rs)
theorem RSc.len {H : Hp} : ∀ {kvs : List (Key × V)} {sc : Sc}, RSc H kvs sc → kvs.length = sc.length
  | _, _, .nil => rfl
  | _, _, .cons _ r => congrArg (· + 1) (RSc.len r)
theorem RSc.app {H : Hp} : ∀ {kvs lvs : List (Key × V)} {sc sd : Sc}, RSc H kvs sc → RSc H lvs sd → RSc H (kvs ++ lvs) (sc ++ sd)
  | _, _, _, _, .nil, s => s
  | _, _, _, _, .cons r rs, s => .cons r (RSc.app rs s)
def scGet (n : Int) : Sc → Option Src
  | [] => none
  | (m, x) :: r => if m = n then some x else scGet n r
def scHas (n : Int) (sc : Sc) : Bool := sc.any fun p => decide (p.1 = n)
def scPut (n : Int) (y : Src) (sc : Sc) : Sc := if scHas n sc = true then sc.map (fun p => if p.1 = n then (p.1, y) else p) else sc ++ [(n, y)]
theorem RSc.get {H : Hp} {n : Int} : ∀ {kvs : List (Key × V)} {sc : Sc} {x : Src}, RSc H kvs sc → scGet n sc = some x → ∃ v, valV kvs (.inl n) = some v ∧ RSr H v x
  | _, _, _, .nil, e => by cases e
  | _, _, x, .cons (n := m) (v := v) (s := x') (kvs := kvs) (sc := sc) r rs, e => by
    unfold scGet at e
    by_cases c : m = n
    · rw [if_pos c] at e
      cases e
      exact ⟨v, valV_pos (by rw [c]), r⟩
    · rw [if_neg c] at e
      obtain ⟨u, h1, h2⟩ := RSc.get rs e
      exact ⟨u, by rw [valV_neg (fun z => c (Sum.inl.inj z))]; exact h1, h2⟩
theorem RSc.has {H : Hp} {n : Int} : ∀ {kvs : List (Key × V)} {sc : Sc}, RSc H kvs sc → (kvs.any fun kv => decide (kv.1 = .inl n)) = scHas n sc
  | _, _, .nil => rfl
  | _, _, .cons (n := m) (sc := sc) r rs => by
    unfold scHas
    rw [List.any_cons, List.any_cons, RSc.has rs]
    show (decide ((Sum.inl m : Key) = Sum.inl n) || scHas n sc) = (decide (m = n) || scHas n sc)
    rw [decide_eq_decide.mpr (show (Sum.inl m : Key) = Sum.inl n ↔ m = n from ⟨Sum.inl.inj, fun h => by rw [h]⟩)]
theorem RSc.map {H : Hp} {n : Int} {w : V} {y : Src} (rw' : RSr H w y) : ∀ {kvs : List (Key × V)} {sc : Sc}, RSc H kvs sc → RSc H (kvs.map fun kv => if kv.1 = .inl n then (kv.1, w) else kv) (sc.map fun p => if p.1 = n then (p.1, y) else p)
  | _, _, .nil => .nil
  | _, _, .cons (n := m) r rs => by
    rw [List.map_cons, List.map_cons]
    by_cases c : m = n
    · have c2 : (Sum.inl m : Key) = .inl n := by rw [c]
      simp only [c2, c, if_true]
      exact .cons rw' (RSc.map rw' rs)
    · have c2 : ¬ (Sum.inl m : Key) = .inl n := fun z => c (Sum.inl.inj z)
      simp only [c2, c, if_false]
      exact .cons r (RSc.map rw' rs)
theorem RSc.put {H : Hp} {n : Int} {w : V} {y : Src} {kvs : List (Key × V)} {sc : Sc} (r : RSc H kvs sc) (rw' : RSr H w y) : RSc H (putK kvs (.inl n) w) (scPut n y sc) := by
  unfold putK scPut
  rw [r.has]
  by_cases c : scHas n sc = true
  · rw [if_pos c, if_pos c]; exact r.map rw'
  · rw [if_neg c, if_neg c]; exact r.app (.cons rw' .nil)
theorem scPut_len (n : Int) (y : Src) (sc : Sc) : (scPut n y sc).length ≤ sc.length + 1 := by
  unfold scPut
  split
  · rw [List.length_map]; omega
  · rw [List.length_append]; exact Nat.le_refl _
def SDk (X : Addr → Prop) (H : Hp) (e : Addr) (sc : Sc) : Prop := ∃ kvs, H e = some (.dK kvs) ∧ ¬ X e ∧ RSc H kvs sc ∧ sc.length ≤ 1000000
theorem SDk.fr {X : Addr → Prop} {H H' : Hp} (f : Fr X H H') {e : Addr} {sc : Sc} (h : SDk X H e sc) : SDk X H' e sc := by
  obtain ⟨kvs, h1, h2, h3, h4⟩ := h
  exact ⟨kvs, f.keep h2 rfl h1, h2, h3.keep f.tup, h4⟩
/-- what is still to be written of a draft -/
inductive Pc where
  | tree (t : Tr) (sc : Sc) (last : Bool)
  | write (d : DIn)
  | label (n : Nat)
inductive RPc (X : Addr → Prop) (H : Hp) : V → Pc → Prop
  | tree {a e : Addr} {c : V} {t : Tr} {sc : Sc} {last : Bool} (h : H a = some (.tup [.str "tree", c, .ref e, .bl last])) (rt : RT H c t) (wt : widT t) (sd : SDk X H e sc) : RPc X H (.ref a) (.tree t sc last)
  | write {a : Addr} {v : V} {d : DIn} (h : H a = some (.tup [.str "write", v])) (r : RDi H v d) : RPc X H (.ref a) (.write d)
  | label {a : Addr} {n : Nat} (h : H a = some (.tup [.str "label", .int n])) : RPc X H (.ref a) (.label n)
theorem RPc.fr {X : Addr → Prop} {H H' : Hp} (f : Fr X H H') {v : V} {p : Pc} (r : RPc X H v p) : RPc X H' v p := by
  cases r with
  | tree h rt wt sd => exact .tree (f.tup _ _ h) (rt.keep f.tup) wt (sd.fr f)
  | write h r => exact .write (f.tup _ _ h) (r.keep f.tup)
  | label h => exact .label (f.tup _ _ h)
def leafP (d : DIn) (last : Bool) : List Pc := if last = true then [.write d, .write .end_] else [.write d]
abbrev fD6 : List Str := ["parameters", "places", "body", "scope", "instructions", "targets"]
abbrev sDrI : Stmt := inClass (top 4) 0
abbrev sDrP : Stmt := inClass (top 4) 1
abbrev sDrL : Stmt := inClass (top 4) 2
abbrev sLea : Stmt := top 7
def dfl (p : Int) (l : Int) (c : V) (e L G : Addr) : List (Str × V) := [("parameters", .int p), ("places", .int l), ("body", c), ("scope", .ref e), ("instructions", .ref L), ("targets", .ref G)]
def spDrI (CD : Addr) : Sp := fun vs H Q _ => ∃ (x dx e : Addr) (p : Int) (c : V), vs = [.ref x, .int p, c, .ref e] ∧ H x = some (.ins CD dx []) ∧
  ∀ L G H', H L = none → H G = none → L ≠ G → Fr (fun b => b = x) H H' → H' L = some (.lst []) → H' G = some (.lst []) → H' x = some (.ins CD dx (dfl p p c e L G)) → Q .non H'
/-- new_places, new_label -/
def spDrP (CD : Addr) : Sp := fun vs H Q _ => ∃ (x dx e L G : Addr) (p l : Int) (k : Nat) (c : V), vs = [.ref x, .int k] ∧ H x = some (.ins CD dx (dfl p l c e L G)) ∧ Q (.int l) (upd H x (.ins CD dx (dfl p (l + k) c e L G)))
def spDrL (CD : Addr) : Sp := fun vs H Q _ => ∃ (x dx e L G : Addr) (p l : Int) (c : V) (gs : List V), vs = [.ref x] ∧ H x = some (.ins CD dx (dfl p l c e L G)) ∧ H G = some (.lst gs) ∧ gs.length ≤ 1000000 ∧ Q (.int gs.length) (upd H G (.lst (gs ++ [.non])))
def spLea : Sp := fun vs H Q _ => ∃ (X : Addr → Prop) (v : V) (d : DIn) (last : Bool), vs = [v, .bl last] ∧ RDi H v d ∧ ∀ a us H', Fr No H H' → H a = none → H' a = some (.lst us) → Als (RPc X H') us (leafP d last) → Q (.ref a) H'
section
variable {P : Program} {w : World} {K : PySem.W.Frag} {mg : Str → Option Value} {base : Heap} {CD : Addr}
theorem scDrI : FnScope ["self", "parameters", "body", "scope"] ["self", "parameters", "body", "scope"] (defScope sDrI) := ⟨rfl, rfl, rfl, by decide +kernel, rfl, by decide +kernel, by decide +kernel⟩
theorem ok_drI {f : Addr} {fd : FuncData} (Fn : Fun K "__init__" "Draft.__init__" sDrI f fd) (U : FldC K CD fD6) : FnOk P w K mg base CX0 1 f fd ["self", "parameters", "body", "scope"] (spDrI CD) := by
  refine Fn.ok scDrI (fun vs H Q E h => ?_) (fun cdv A outer s H vs Q E hr h => ?_)
  · obtain ⟨x, dx, e, p, c, rfl, _⟩ := h
    rfl
  obtain ⟨x, dx, e, p, c, rfl, hx, q⟩ := h
  have nd := scDrI.nd
  refine ⟨_, (pss_cons (ps_fld (pv 0) (pv 1) rfl)
    (pss_cons (ps_fld (pv 0) (pv 1) rfl)
    (pss_cons (ps_fld (pv 0) (pv 2) rfl)
    (pss_cons (ps_fld (pv 0) (pv 3) rfl)
    (pss_cons (ps_fld (pv 0) (pe_lst pa_nil) rfl)
    (pss_one (ps_fld (pv 0) (pe_lst pa_nil) rfl))))))), ?_⟩
  refine ⟨_, rfl, _, rfl, x, CD, dx, _, rfl, hx, U.c, U.n _ (by simp), by decide, ?_⟩
  refine ⟨_, rfl, _, rfl, x, CD, dx, _, rfl, upd_same, U.c, U.n _ (by simp), by show 1 < 1000; decide, ?_⟩
  refine ⟨_, rfl, _, rfl, x, CD, dx, _, rfl, upd_same, U.c, U.n _ (by simp), by show 2 < 1000; decide, ?_⟩
  refine ⟨_, rfl, _, rfl, x, CD, dx, _, rfl, upd_same, U.c, U.n _ (by simp), by show 3 < 1000; decide, ?_⟩
  rw [upd_upd, upd_upd, upd_upd]
  have ep : putF ("scope" : Str) (V.ref e) (putF ("body" : Str) c (putF ("places" : Str) (V.int p) (putF ("parameters" : Str) (V.int p) []))) = ([("parameters", .int p), ("places", .int p), ("body", c), ("scope", .ref e)] : List (Str × V)) := rfl
  rw [ep]
  have f1 : Fr (fun b => b = x) H (upd H x (.ins CD dx [("parameters", .int p), ("places", .int p), ("body", c), ("scope", .ref e)])) := Fr.set rfl hx rfl
  have x1 : upd H x (.ins CD dx [("parameters", .int p), ("places", .int p), ("body", c), ("scope", .ref e)]) x = some (.ins CD dx [("parameters", .int p), ("places", .int p), ("body", c), ("scope", .ref e)]) := upd_same
  generalize upd H x (.ins CD dx [("parameters", .int p), ("places", .int p), ("body", c), ("scope", .ref e)]) = H1 at f1 x1 ⊢
  refine ⟨by show 0 ≤ sizeLine; decide, fun L hL => ?_⟩
  have nL : x ≠ L := ne_of_none x1 hL
  have e2 : upd H1 L (.lst []) x = some (.ins CD dx [("parameters", .int p), ("places", .int p), ("body", c), ("scope", .ref e)]) := by rw [upd_ne nL]; exact x1
  refine ⟨_, rfl, x, CD, dx, _, rfl, e2, U.c, U.n _ (by simp), by show 4 < 1000; decide, ?_⟩
  have ep2 : putF ("instructions" : Str) (V.ref L) ([("parameters", .int p), ("places", .int p), ("body", c), ("scope", .ref e)] : List (Str × V)) = ([("parameters", .int p), ("places", .int p), ("body", c), ("scope", .ref e), ("instructions", .ref L)] : List (Str × V)) := rfl
  rw [ep2]
  have f2 : Fr (fun b => b = x) H1 (upd (upd H1 L (.lst [])) x (.ins CD dx [("parameters", .int p), ("places", .int p), ("body", c), ("scope", .ref e), ("instructions", .ref L)])) := (Fr.new hL).trans (Fr.set rfl e2 rfl)
  have t2 : upd (upd H1 L (.lst [])) x (.ins CD dx [("parameters", .int p), ("places", .int p), ("body", c), ("scope", .ref e), ("instructions", .ref L)]) L = some (.lst []) := by rw [upd_ne (Ne.symm nL)]; exact upd_same
  have x2 : upd (upd H1 L (.lst [])) x (.ins CD dx [("parameters", .int p), ("places", .int p), ("body", c), ("scope", .ref e), ("instructions", .ref L)]) x = some (.ins CD dx [("parameters", .int p), ("places", .int p), ("body", c), ("scope", .ref e), ("instructions", .ref L)]) := upd_same
  generalize upd (upd H1 L (.lst [])) x (.ins CD dx [("parameters", .int p), ("places", .int p), ("body", c), ("scope", .ref e), ("instructions", .ref L)]) = H2 at f2 t2 x2 ⊢
  refine ⟨by show 0 ≤ sizeLine; decide, fun G hG => ?_⟩
  have nG : x ≠ G := ne_of_none x2 hG
  have nLG : L ≠ G := ne_of_none t2 hG
  have e3 : upd H2 G (.lst []) x = some (.ins CD dx [("parameters", .int p), ("places", .int p), ("body", c), ("scope", .ref e), ("instructions", .ref L)]) := by rw [upd_ne nG]; exact x2
  refine ⟨_, rfl, x, CD, dx, _, rfl, e3, U.c, U.n _ (by simp), by show 5 < 1000; decide, ?_⟩
  refine q L G _ (f1.dom hL) (f1.dom (f2.dom hG)) nLG (f1.trans (f2.trans ((Fr.new hG).trans (Fr.set rfl e3 rfl)))) ?_ ?_ upd_same
  · rw [upd_ne (Ne.symm nL), upd_ne nLG]; exact t2
  · rw [upd_ne (Ne.symm nG)]; exact upd_same
theorem scDrP : FnScope ["self", "many", "first"] ["self", "many"] (defScope sDrP) := ⟨rfl, rfl, rfl, by decide +kernel, rfl, by decide +kernel, by decide +kernel⟩
theorem ok_drP {f : Addr} {fd : FuncData} (Fn : Fun K "new_places" "Draft.new_places" sDrP f fd) (U : FldC K CD fD6) : FnOk P w K mg base CX0 1 f fd ["self", "many"] (spDrP CD) := by
  refine Fn.ok scDrP (fun vs H Q E h => ?_) (fun cdv A outer s H vs Q E hr h => ?_)
  · obtain ⟨x, dx, e, L, G, p, l, k, c, rfl, _⟩ := h
    rfl
  obtain ⟨x, dx, e, L, G, p, l, k, c, rfl, hx, q⟩ := h
  have nd := scDrP.nd
  refine ⟨_, (pss_cons (ps_set (i := 2) nd rfl (Or.inl rfl) (pe_fld (pv 0) rfl))
    (pss_cons (ps_fldaug (pv 0) (pv 1) in_add)
    (pss_one (ps_ret (pv 2))))), ?_⟩
  refine ⟨_, rfl, x, CD, dx, _, _, rfl, hx, U.c, U.n _ (by simp), rfl, ?_⟩
  refine ⟨_, rfl, x, CD, dx, _, _, rfl, hx, U.c, U.n _ (by simp), rfl, _, rfl, _, _, rfl, rfl, _, _, hx, by show 6 < 1000; decide, _, rfl, ?_⟩
  exact q
theorem scDrL : FnScope ["self"] ["self"] (defScope sDrL) := ⟨rfl, rfl, rfl, by decide +kernel, rfl, by decide +kernel, by decide +kernel⟩
theorem ok_drL {f : Addr} {fd : FuncData} (Fn : Fun K "new_label" "Draft.new_label" sDrL f fd) (B : Blt mg) (U : FldC K CD fD6) : FnOk P w K mg base CX0 1 f fd ["self"] (spDrL CD) := by
  refine Fn.ok scDrL (fun vs H Q E h => ?_) (fun cdv A outer s H vs Q E hr h => ?_)
  · obtain ⟨x, dx, e, L, G, p, l, c, gs, rfl, _⟩ := h
    rfl
  obtain ⟨x, dx, e, L, G, p, l, c, gs, rfl, hx, hG, lg, q⟩ := h
  have nd := scDrL.nd
  refine ⟨_, (pss_cons (ps_expr (pe_bm PySem.F.plainAttrs_list PySem.F.slot_list_append PySem.F.type_list_append mt_append (pe_fld (pv 0) rfl) (pa_cons pe_non pa_nil)))
    (pss_one (ps_ret (pe_op op_sub (pe_callB call_len_seq (by rfl) B.len PySem.boot_len (pa_cons (pe_fld (pv 0) rfl) pa_nil)) pe_int)))), ?_⟩
  refine ⟨_, rfl, x, CD, dx, _, _, rfl, hx, U.c, U.n _ (by simp), rfl, .inl ⟨rfl, _, SqL.of hG⟩, G, _, _, rfl, rfl, hG, Nat.lt_of_le_of_lt lg (by decide), ?_⟩
  have nx : x ≠ G := ne_of hx hG fun z => by cases z
  have hx2 : upd H G (.lst (gs ++ [.non])) x = some (.ins CD dx (dfl p l c e L G)) := by rw [upd_ne nx]; exact hx
  refine ⟨_, rfl, x, CD, dx, _, _, rfl, hx2, U.c, U.n _ (by simp), rfl, G, _, rfl, .inl (SqL.of upd_same), _, _, rfl, rfl, ?_⟩
  dsimp only
  rw [List.length_append, show (((gs.length + [V.non].length : Nat) : Int) - 1) = (gs.length : Int) by show (((gs.length + 1 : Nat) : Int) - 1) = _; omega]
  exact q
theorem scLea : FnScope ["instruction", "last"] ["instruction", "last"] (defScope sLea) := ⟨rfl, rfl, rfl, by decide +kernel, rfl, by decide +kernel, by decide +kernel⟩
theorem ok_lea {f : Addr} {fd : FuncData} (Fn : Fun K "leaf_pieces" "leaf_pieces" sLea f fd) : FnOk P w K mg base CX0 1 f fd ["instruction", "last"] spLea := by
  refine Fn.ok scLea (fun vs H Q E h => ?_) (fun cdv A outer s H vs Q E hr h => ?_)
  · obtain ⟨X, v, d, last, rfl, _⟩ := h
    rfl
  obtain ⟨X, v, d, last, rfl, rd, q⟩ := h
  have nd := scLea.nd
  refine ⟨_, (pss_cons (ps_if (pt_val (pv 1)) (pss_one (ps_ret (pe_lst (pa_cons (pe_tup (pa_cons pe_str (pa_cons (pv 0) pa_nil))) (pa_cons (pe_tup (pa_cons pe_str (pa_cons (pe_tup (pa_cons pe_str pa_nil)) pa_nil))) pa_nil))))) pss_nil)
    (pss_one (ps_ret (pe_lst (pa_cons (pe_tup (pa_cons pe_str (pa_cons (pv 0) pa_nil))) pa_nil))))), ?_⟩
  unfold leafP at q
  refine ⟨_, rfl, last, rfl, ?_⟩
  cases last with
  | true =>
    refine iteT ?_
    refine ⟨_, rfl, by show 2 ≤ sizeLine; decide, fun a1 h1 => ⟨by show 1 ≤ sizeLine; decide, fun a2 h2 => ⟨by show 2 ≤ sizeLine; decide, fun a3 h3 => ⟨by show 2 ≤ sizeLine; decide, fun a4 h4 => ?_⟩⟩⟩⟩
    have f1 : Fr No H (upd H a1 (.tup [.str "write", v])) := Fr.new h1
    have f2 : Fr No _ (upd (upd H a1 (.tup [.str "write", v])) a2 (.tup [.str "end"])) := Fr.new h2
    have f3 : Fr No _ (upd (upd (upd H a1 (.tup [.str "write", v])) a2 (.tup [.str "end"])) a3 (.tup [.str "write", .ref a2])) := Fr.new h3
    have f4 := Fr.new (X := No) (o := .lst [V.ref a1, .ref a3]) h4
    have f24 := f2.trans (f3.trans f4)
    have ff := f1.trans f24
    refine q a4 _ _ ff (f1.dom (f2.dom (f3.dom h4))) upd_same (.cons (.write (f24.tup _ _ upd_same) (rd.keep ff.tup)) (.cons (.write (f4.tup _ _ upd_same) (.end_ ((f3.trans f4).tup _ _ upd_same))) .nil))
  | false =>
    refine iteF ?_
    refine ⟨_, rfl, by show 2 ≤ sizeLine; decide, fun a1 h1 => ⟨by show 1 ≤ sizeLine; decide, fun a2 h2 => ?_⟩⟩
    have f1 : Fr No H (upd H a1 (.tup [.str "write", v])) := Fr.new h1
    have f2 := Fr.new (X := No) (o := .lst [V.ref a1]) h2
    have ff := f1.trans f2
    refine q a2 _ _ ff (f1.dom h2) upd_same (.cons (.write (f2.tup _ _ upd_same) (rd.keep ff.tup)) .nil)
end
end My
namespace My
open PySem PySem.Spec PyProof.Rows L2 TL
/-! ### outer_numbers -/
mutual
def depT : Tr → Nat
  | .fn _ b => 1 + depT b
  | .let_ _ ts b => 1 + max (depTs ts) (depT b)
  | .if_ a b c => 1 + max (depT a) (max (depT b) (depT c))
  | .call f ts => 1 + max (depT f) (depTs ts)
  | _ => 1
def depTs : List Tr → Nat
  | [] => 0
  | t :: ts => max (depT t) (depTs ts)
end
theorem depTs_mem : ∀ {ts : List Tr} {t : Tr}, t ∈ ts → depT t ≤ depTs ts
  | [], _, h => by cases h
  | x :: r, t, h => by
    unfold depTs
    rcases List.mem_cons.mp h with e | e
    · rw [e]; exact Nat.le_max_left _ _
    · exact Nat.le_trans (depTs_mem e) (Nat.le_max_right _ _)
theorem dep_kids {t : Tr} {kn : List Int} : ∀ p ∈ kids t kn, depT p.1 + 1 ≤ depT t := by
  intro p hp
  cases t with
  | int i => cases hp
  | loc i => cases hp
  | glob i j => cases hp
  | prim i => cases hp
  | fn ns b =>
    rw [List.mem_singleton.mp hp]
    conv => rhs; unfold depT
    show depT b + 1 ≤ 1 + depT b
    omega
  | let_ ns ts b =>
    conv => rhs; unfold depT
    rcases List.mem_append.mp hp with m | m
    · obtain ⟨t, ht, e⟩ := List.mem_map.mp m
      rw [← e]
      have := depTs_mem ht
      show depT t + 1 ≤ _
      omega
    · rw [List.mem_singleton.mp m]
      show depT b + 1 ≤ _
      omega
  | if_ a b c =>
    conv => rhs; unfold depT
    simp only [kids, List.mem_cons, List.mem_nil_iff, or_false] at hp
    rcases hp with e | e | e <;> rw [e] <;> (show depT _ + 1 ≤ _; simp only []; omega)
  | call f ts =>
    conv => rhs; unfold depT
    rcases List.mem_cons.mp hp with e | e
    · rw [e]; show depT f + 1 ≤ _; omega
    · obtain ⟨t, ht, e⟩ := List.mem_map.mp e
      rw [← e]
      have := depTs_mem ht
      show depT t + 1 ≤ _
      omega
def insNew (n : Int) (found : List Int) : List Int := if n ∈ found then found else found ++ [n]
def outStep : Tr → List Int → List Int → List Int
  | .loc n, kn, found => if n ∈ kn then found else insNew n found
  | _, _, found => found
def outF : Nat → List (Tr × List Int) → List Int → List Int
  | 0, _, found => found
  | _ + 1, [], found => found
  | k + 1, (t, kn) :: rest, found => outF k (kids t kn ++ rest) (outStep t kn found)
/-- the numbers that a function keeps -/
def outT (t : Tr) : List Int := outF (szT t) [(t, [])] []
def fkv (found : List Int) : List (Key × V) := found.map fun n => (.inl n, .bl true)
theorem fkv_put (n : Int) (found : List Int) : putK (fkv found) (.inl n) (.bl true) = fkv (insNew n found) := by
  unfold putK insNew
  have ea : ((fkv found).any fun kv => decide (kv.1 = .inl n)) = decide (n ∈ found) := by
    unfold fkv
    induction found with
    | nil => rfl
    | cons m r ih =>
      rw [List.map_cons, List.any_cons, ih]
      show (decide ((Sum.inl m : Key) = .inl n) || decide (n ∈ r)) = decide (n ∈ m :: r)
      by_cases c : m = n
      · rw [decide_eq_true (show (Sum.inl m : Key) = .inl n by rw [c]), Bool.true_or, decide_eq_true (by rw [c]; exact List.mem_cons_self)]
      · rw [decide_eq_false (show ¬ (Sum.inl m : Key) = .inl n from fun z => c (Sum.inl.inj z)), Bool.false_or]
        exact decide_eq_decide.mpr ⟨fun z => List.mem_cons_of_mem _ z, fun z => (List.mem_cons.mp z).resolve_left fun e => c e.symm⟩
  rw [ea]
  by_cases c : n ∈ found
  · rw [decide_eq_true c, if_pos rfl, if_pos c]
    unfold fkv
    rw [List.map_map]
    apply List.map_congr_left
    intro m _
    show (if (Sum.inl m : Key) = .inl n then ((Sum.inl m : Key), V.bl true) else (.inl m, .bl true)) = (.inl m, .bl true)
    split <;> rfl
  · rw [decide_eq_false c, if_neg Bool.false_ne_true, if_neg c]
    unfold fkv
    rw [List.map_append]
    rfl
/-- an item of the pile -/
def OIt (Y : Addr → Prop) (H : Hp) (v : V) (p : Tr × List Int) : Prop := ∃ M, PairR (fun b => ¬ Y b) H M v p ∧ M + 1000 * depT p.1 ≤ 1000000 ∧ widT p.1
theorem OIt.fr {Y : Addr → Prop} {H H' : Hp} (f : Fr Y H H') {v : V} {p : Tr × List Int} (h : OIt Y H v p) : OIt Y H' v p := by
  obtain ⟨M, ⟨q, x, d, h1, h2, h3, ⟨kvs, k1, k2, k3⟩, h5⟩, h6, h7⟩ := h
  exact ⟨M, ⟨q, x, d, h1, f.tup _ _ h2, h3.keep f.tup, ⟨kvs, f.keep h5 rfl k1, k2, k3⟩, h5⟩, h6, h7⟩
theorem kids_oit {Y : Addr → Prop} {H : Hp} {M : Nat} : ∀ {us : List V} {ps : List (Tr × List Int)}, PairsR (fun b => ¬ Y b) H M us ps → (∀ p ∈ ps, M + 1000 * depT p.1 ≤ 1000000 ∧ widT p.1) → Als (OIt Y H) us ps
  | _, _, .nil, _ => .nil
  | _, _, .cons h r, w => .cons ⟨M, h, w _ List.mem_cons_self⟩ (kids_oit r fun p m => w p (List.mem_cons_of_mem _ m))
theorem szK_app (a b : List (Tr × List Int)) : szK (a ++ b) = szK a + szK b := by
  unfold szK
  rw [List.map_append, List.sum_append]
theorem len_szK : ∀ l : List (Tr × List Int), l.length ≤ szK l
  | [] => Nat.zero_le _
  | p :: r => by
    have h1 := len_szK r
    have h2 := szT_pos p.1
    have h3 : szK (p :: r) = szT p.1 + szK r := rfl
    rw [h3, List.length_cons]
    omega
theorem outF_nil (m : Nat) (found : List Int) : outF m [] found = found := by
  cases m <;> rfl
theorem insNew_len (n : Int) (found : List Int) : (insNew n found).length ≤ found.length + 1 := by
  unfold insNew
  split
  · omega
  · rw [List.length_append]; exact Nat.le_refl _
theorem outStep_loc (n : Int) (kn found : List Int) : outStep (.loc n) kn found = if n ∈ kn then found else insNew n found := rfl
theorem outStep_len (t : Tr) (kn found : List Int) : (outStep t kn found).length ≤ found.length + 1 := by
  unfold outStep
  split
  · split
    · omega
    · exact insNew_len _ _
  · omega
abbrev sOut : Stmt := top 5
abbrev NOut : List Str := ["core", "found", "rest", "tree", "bound"]
def spOut : Sp := fun vs H Q _ => ∃ (c : V) (t : Tr), vs = [c] ∧ RT H c t ∧ widT t ∧ depT t ≤ 900 ∧ szT t ≤ 1000000 ∧ ∀ a H', Fr No H H' → H a = none → H' a = some (.lst ((outT t).map V.int)) → Q (.ref a) H'
section
variable {P : Program} {w : World} {K : PySem.W.Frag} {mg : Str → Option Value} {base : Heap}
theorem scOut : FnScope NOut ["core"] (defScope sOut) := ⟨rfl, rfl, rfl, by decide +kernel, rfl, by decide +kernel, by decide +kernel⟩
theorem ok_out {f fI : Addr} {fd dI : FuncData} (Fn : Fun K "outer_numbers" "outer_numbers" sOut f fd) (B : Blt mg) (GI : Cal P w K mg base CX0 2 "inner_trees" ["core", "known"] spInner fI dI) : FnOk P w K mg base CX0 3 f fd ["core"] spOut := by
  refine Fn.ok scOut (fun vs H Q E h => ?_) (fun cdv A outer s H vs Q E hr h => ?_)
  · obtain ⟨c, t, rfl, _⟩ := h
    rfl
  obtain ⟨c, t, rfl, rt, wt, dt, zt, q⟩ := h
  have nd := scOut.nd
  have hu := hu_of hr
  refine ⟨_, (pss_cons (ps_set (i := 1) nd rfl (Or.inl rfl) pe_dnewK)
    (pss_cons (ps_set (i := 2) nd rfl (Or.inl rfl) (pe_lst (pa_cons (pe_tup (pa_cons (pv 0) (pa_cons pe_dnewK pa_nil))) pa_nil)))
    (pss_cons (ps_while PassesOwn.never (pt_truth (pv 2) (by intro _; rfl))
      (pss_cons (ps_asg (pe_bm0 PySem.F.plainAttrs_list PySem.F.slot_list_pop PySem.F.type_list_pop mt_pop (pv 2)) (pg_tup rfl (pgs_cons (pg_name (i := 3) nd rfl (Or.inl rfl)) (pgs_cons (pg_name (i := 4) nd rfl (Or.inl rfl)) pgs_nil))))
      (C8.pss_cut (ps_if (PW.pt (pw_and (pt_cmpR op_eq (pe_ix (r := rIxT K) ix_tup (pv 3) pe_int (fun _ _ => rfl)) pe_str (nomark _)) (pw_and1 (pt_cmp (pc_dnotin hu (pe_ix (r := rIxT K) ix_tup (pv 3) pe_int (fun _ _ => rfl)) (pv 4)))))) (pss_one (ps_dput hu (pv 1) (pe_ix (r := rIxT K) ix_tup (pv 3) pe_int (fun _ _ => rfl)) pe_bl rfl)) pss_nil)
      (pss_one (ps_expr (pe_bm PySem.F.plainAttrs_list PySem.F.slot_list_extend PySem.F.type_list_extend mt_extend (pv 2) (pa_cons (pe_revL (pe_call GI.ok hr rfl GI.g GI.k GI.b .nil pass0 (pa_cons (pv 3) (pa_cons (pv 4) pa_nil)))) pa_nil)))))))
    (pss_one (ps_ret (pe_callTy (call_listD rfl) (by rfl) B.list (by decide +kernel) (pa_cons (pv 1) pa_nil))))))), ?_⟩
  refine fun fd0 hfd => ?_
  refine ⟨_, rfl, fun d0 hd0 => ⟨by show 2 ≤ sizeLine; decide, fun q0 hq0 => ⟨by show 1 ≤ sizeLine; decide, fun R hR => ?_⟩⟩⟩
  have f1 : Fr No H (upd H fd0 (.dK [])) := Fr.new hfd
  have f2 : Fr No (upd H fd0 (.dK [])) (upd (upd H fd0 (.dK [])) d0 (.dK [])) := Fr.new hd0
  have f3 : Fr No (upd (upd H fd0 (.dK [])) d0 (.dK [])) (upd (upd (upd H fd0 (.dK [])) d0 (.dK [])) q0 (.tup [c, .ref d0])) := Fr.new hq0
  have f4 : Fr No _ (upd (upd (upd (upd H fd0 (.dK [])) d0 (.dK [])) q0 (.tup [c, .ref d0])) R (.lst [.ref q0])) := Fr.new hR
  have f24 := f2.trans (f3.trans f4)
  have f14 := f1.trans f24
  have e1 : upd (upd (upd (upd H fd0 (.dK [])) d0 (.dK [])) q0 (.tup [c, .ref d0])) R (.lst [.ref q0]) fd0 = some (.dK []) := f24.keep (fun z => z) rfl upd_same
  have e2 : upd (upd (upd (upd H fd0 (.dK [])) d0 (.dK [])) q0 (.tup [c, .ref d0])) R (.lst [.ref q0]) d0 = some (.dK []) := (f3.trans f4).keep (fun z => z) rfl upd_same
  have e3 : upd (upd (upd (upd H fd0 (.dK [])) d0 (.dK [])) q0 (.tup [c, .ref d0])) R (.lst [.ref q0]) q0 = some (.tup [c, .ref d0]) := f4.tup _ _ upd_same
  have e4 : upd (upd (upd (upd H fd0 (.dK [])) d0 (.dK [])) q0 (.tup [c, .ref d0])) R (.lst [.ref q0]) R = some (.lst [.ref q0]) := upd_same
  have hR0 : H R = none := f1.dom (f2.dom (f3.dom hR))
  have nd0 : d0 ≠ fd0 := fun z => by rw [z, upd_same] at hd0; cases hd0
  have ndR : d0 ≠ R := ne_of e2 e4 fun z => by cases z
  have nfR : fd0 ≠ R := ne_of e1 e4 fun z => by cases z
  generalize upd (upd (upd (upd H fd0 (.dK [])) d0 (.dK [])) q0 (.tup [c, .ref d0])) R (.lst [.ref q0]) = H1 at f14 e1 e2 e3 e4 ⊢
  let Y : Addr → Prop := fun b => b = fd0 ∨ b = R
  have it0 : OIt Y H1 (.ref q0) (t, []) := ⟨0, ⟨q0, c, d0, rfl, e3, rt.keep f14.tup, ⟨[], e2, Nat.le_refl _, fun n => rfl⟩, fun z => z.elim nd0 ndR⟩, by show 0 + 1000 * depT t ≤ 1000000; omega, wt⟩
  dsimp only
  refine seq_of (while_n (fun m σ H' => ∃ (us : List V) (rest : List (Tr × List Int)) (found : List Int) (x3 x4 : Option V), σ = [some c, some (.ref fd0), some (.ref R), x3, x4] ∧ H' R = some (.lst us) ∧ Als (OIt Y H') us rest.reverse ∧ H' fd0 = some (.dK (fkv found)) ∧ szK rest = m ∧ found.length + m ≤ 1000000 ∧ outF m rest found = outT t ∧ Fr No H H') (szT t)
    ⟨[.ref q0], [(t, [])], [], none, none, rfl, e4, .cons it0 .nil, e1, rfl, by show 0 + szT t ≤ 1000000; omega, rfl, f14⟩ ?_ ?_)
  · rintro m σ H' ⟨us, rest, found, x3, x4, rfl, g1, g2, g3, g4, g5, g6, g7⟩
    refine ⟨_, rfl, !us.isEmpty, .inl ⟨us, SqL.of g1, rfl⟩, ?_⟩
    cases rest with
    | nil =>
      cases g2
      refine iteF ?_
      rw [outF_nil] at g6
      refine ⟨_, rfl, fd0, _, rfl, .inl g3, fun p hp => ?_⟩
      have em : ((fkv found).map fun kv => kV kv.1) = (outT t).map V.int := by
        rw [← g6]
        unfold fkv
        rw [List.map_map]
        rfl
      rw [em]
      exact q p _ (g7.trans (Fr.new hp)) (g7.dom hp) upd_same
    | cons p rest =>
      obtain ⟨tt, kn⟩ := p
      obtain ⟨v, ws, rfl, ⟨M, ⟨q1, x, d, rfl, hq, rx, dk, nY⟩, bM, wx⟩, al⟩ := g2.last
      have ie : (!(ws ++ [V.ref q1]).isEmpty) = true := by cases ws <;> rfl
      rw [ie]
      refine iteT ?_
      refine ⟨_, rfl, .inl ⟨rfl, _, SqL.of g1⟩, R, _, .ref q1, rfl, rfl, g1, by simp, ?_⟩
      rw [List.dropLast_concat]
      have fY : Fr Y H' (upd H' R (.lst ws)) := Fr.set (.inr rfl) g1 rfl
      have fN : Fr No H (upd H' R (.lst ws)) := g7.mut hR0 g1 rfl
      have h1 : upd H' R (.lst ws) R = some (.lst ws) := upd_same
      have h3 : upd H' R (.lst ws) fd0 = some (.dK (fkv found)) := by rw [upd_ne nfR]; exact g3
      have hq2 := fY.tup _ _ hq
      have rx2 := rx.keep fY.tup
      obtain ⟨ks, k1, k2, k3⟩ := dk
      have k1 := fY.keep nY rfl k1
      have al2 := al.mono fun _ _ r => r.fr fY
      generalize upd H' R (.lst ws) = H2 at fY fN h1 h3 hq2 rx2 k1 al2 ⊢
      refine ⟨q1, _, rfl, SqT.of hq2, rfl, _, _, rfl, ?_⟩
      refine ⟨_, _, rfl, rfl, ?_⟩
      have zz : szK ((tt, kn) :: rest) = szT tt + szK rest := rfl
      have zk := szK_kids tt kn
      rw [zz] at g4
      have lf : found.length ≤ 1000000 := by omega
      refine ⟨fun σ' H'' => σ' = [some c, some (.ref fd0), some (.ref R), some x, some (.ref d)] ∧ H'' fd0 = some (.dK (fkv (outStep tt kn found))) ∧ Fr Y H2 H'' ∧ Fr No H H'' ∧ H'' R = some (.lst ws), ?_, ?_⟩
      · refine ev_head rfl rx2 ?_
        refine ite2 (fun c2 => ?_) (fun c2 => ?_)
        · obtain ⟨n, rfl⟩ := word_local (of_decide_eq_true c2)
          cases rx2 with
          | @loc a1 _ ha =>
          refine ⟨_, rfl, a1, _, 1, _, rfl, rfl, SqT.of ha, at1 _ _ _, _, rfl, d, _, rfl, DGet.k (k := Sum.inl n) k1, _, rfl, ?_⟩
          have hb := k3 n
          cases hv : (valV ks (Sum.inl n)).isSome with
          | false =>
            rw [hv] at hb
            have nk : ¬ n ∈ kn := fun z => by rw [decide_eq_true z] at hb; cases hb
            refine iteT ?_
            refine ⟨_, rfl, _, rfl, a1, _, 1, _, rfl, rfl, SqT.of ha, at1 _ _ _, fd0, _, rfl, DPut.k (k := .inl n) h3 (by unfold fkv; rw [List.length_map]; exact Nat.lt_of_le_of_lt lf (by decide)), ?_⟩
            refine ⟨rfl, ?_, Fr.set (.inl rfl) h3 rfl, fN.mut hfd h3 rfl, by rw [upd_ne (Ne.symm nfR)]; exact h1⟩
            rw [upd_same, fkv_put]
            rw [outStep_loc, if_neg nk]
          | true =>
            rw [hv] at hb
            have nk : n ∈ kn := of_decide_eq_true hb.symm
            refine iteF ?_
            refine ⟨rfl, ?_, Fr.refl _ _, fN, h1⟩
            rw [h3]
            rw [outStep_loc, if_pos nk]
        · refine ⟨rfl, ?_, Fr.refl _ _, fN, h1⟩
          rw [h3]
          cases tt with
          | loc n => exact absurd (decide_eq_true rfl) c2
          | _ => rfl
      rintro σ' H3 ⟨rfl, u1, fY3, fN3, u2⟩
      have newN : ∀ b, H3 b = none → ¬ Y b := fun b e z => by
        rcases z with z | z
        · rw [z, u1] at e; cases e
        · rw [z, u2] at e; cases e
      have hM : M ≤ 1000000 := by have := Nat.zero_le (1000 * depT tt); omega
      refine ⟨_, rfl, .inl ⟨rfl, _, SqL.of u2⟩, _, rfl, _, rfl, x, tt, d, kn, M, fun b => ¬ Y b, rfl, nY, newN, rx2.keep fY3.tup, wx, ⟨ks, fY3.keep nY rfl k1, k2, k3⟩, hM, fun L us' H4 hL hL4 pr s4 => ⟨L, us', rfl, SqL.of hL4, fun p hp => ?_⟩⟩
      have f4 : Fr No H3 H4 := Fr.of s4
      have f5 : Fr No H4 (upd H4 p (.lst us'.reverse)) := Fr.new hp
      have f35 := f4.trans f5
      have u5 := f35.keep (fun z => z) rfl u2
      have lk := pr.len
      have lw : ws.length = rest.length := by rw [al.len, List.length_reverse]
      have l1 := len_szK rest
      have l2 := len_szK (kids tt kn)
      refine ⟨R, p, _, _, rfl, rfl, u5, upd_same, ?_, ?_⟩
      · rw [List.length_reverse, lk, lw]
        exact Nat.le_trans (show rest.length + (kids tt kn).length ≤ 1000000 by omega) (by decide)
      have fY6 : Fr Y (upd H4 p (.lst us'.reverse)) (upd (upd H4 p (.lst us'.reverse)) R (.lst (ws ++ us'.reverse))) := Fr.set (.inr rfl) u5 rfl
      have bM2 : M + 1000 * depT tt ≤ 1000000 := bM
      have nk := kids_oit pr fun p m => ⟨by have := dep_kids p m; have e : 1000 * (depT p.1 + 1) ≤ 1000 * depT tt := Nat.mul_le_mul_left _ this; omega, wid_kids wx p m⟩
      have sl := outStep_len tt kn found
      refine ⟨szK (kids tt kn ++ rest), by rw [szK_app]; omega, ws ++ us'.reverse, kids tt kn ++ rest, outStep tt kn found, _, _, rfl, upd_same, ?_, ?_, rfl, ?_, ?_, (fN3.trans f35).mut hR0 u5 rfl⟩
      · rw [List.reverse_append]
        exact ((al2.mono fun _ _ r => r.fr (fY3.trans (f35.no.trans fY6)))).app ((nk.mono fun _ _ r => r.fr (f5.no.trans fY6)).rev)
      · rw [upd_ne nfR]
        exact f35.keep (fun z => z) rfl u1
      · rw [szK_app]; omega
      · rw [← g6, szK_app, ← g4, ← zk, show szK (kids tt kn) + 1 + szK rest = (szK (kids tt kn) + szK rest) + 1 by omega]
        rfl
  · rintro σ H0 Q1 Q2 hm ⟨x, e, kk, h6, h7⟩
    exact ⟨x, e, kk, h6, hm _ _ h7⟩
end
end My
namespace My
open PySem PySem.Spec PyProof.Rows L2 TL
/-! ### for i, x in enumerate(t), t a tuple -/
theorem meets_enum1 {v : Value} {o : Obj} {H : Heap → Prop} (B : Begins v o H) :
    Meets (Builtin.«enumerate.__new__» ⟨[.type "enumerate", v], []⟩) (fun _ R s => H s.heap ∧
      R (.ok (.ret (.ref (s.heap.push o).objs.size))) { s with heap := (s.heap.push o).push { cls := .type "enumerate", data := .fields #[.none, .bool false, .ref s.heap.objs.size, rawInt 0, .none, .none] } }) :=
  .of_wp fun prog w A R s h => by
    obtain ⟨hp, g, d, tk, os⟩ := s; obtain ⟨h1, h⟩ := h
    have hsub := sub_enumerate
    have q1 : ∀ {A' : Around} {E : Value → Shared → Prop} {Q : Value → Shared → Prop}, Q (.ref hp.objs.size) ⟨hp.push o, g, d, tk, os⟩ → wpAny (model prog w) A' (pyIter v) Q E ⟨hp, g, d, tk, os⟩ :=
      fun q => B.iter prog w _ _ ⟨hp, g, d, tk, os⟩ _ h1 q
    wp_walk using q1
    refine wpAny_stack_any fun st => wpAny_pure ?_
    split
    · rename_i c _ _ _ _ _
      cases (c == Value.type "enumerate")
      · wp_walk using q1
        exact ⟨_, rfl, h⟩
      · wp_walk using q1
        exact ⟨_, rfl, h⟩
    · wp_walk using q1
      exact ⟨_, rfl, h⟩
section
variable {prog : Program} {w : World} {A : Around} {E : Value → Shared → Prop} {s : Shared}
theorem call_enum_tup {t : Addr} {items : Array Value} {Q : Value → Shared → Prop} (hT : s.heap.IsTuple t items)
    (h : ∀ h', IsEnum h' (s.heap.objs.size + 1) s.heap.objs.size 0 .none → h'.IsTupleIter s.heap.objs.size t 0 → h'.objs.size = s.heap.objs.size + 2 →
      (∀ b o, s.heap.get? b = some o → h'.get? b = some o) → Q (.ref (s.heap.objs.size + 1)) { s with heap := h' }) :
    wpAny (model prog w) A (call (.type "enumerate") [.ref t]) Q E s := by
  refine callType_new F.called_enumerate (by decide) (F.typeCall_enumerate_1 _) (F.newCall_enumerate_1 _) (fun obj => F.args_object_init_2 obj _) F.entry_enumerate_new
    (meets_enum1 (begins_tuple t items)) ⟨hT, ?_⟩
  have hz : (s.heap.push { cls := .type "tuple_iterator", data := .fields #[.ref t, .int 0 0] }).objs.size = s.heap.objs.size + 1 := Heap.size_push ..
  show _ ∧ _
  rw [hz]
  have he : IsEnum ((s.heap.push { cls := .type "tuple_iterator", data := .fields #[.ref t, .int 0 0] }).push
      { cls := .type "enumerate", data := .fields #[.none, .bool false, .ref s.heap.objs.size, rawInt 0, .none, .none] }) (s.heap.objs.size + 1) s.heap.objs.size 0 .none := by
    have := Heap.get?_push_size (s.heap.push { cls := .type "tuple_iterator", data := .fields #[.ref t, .int 0 0] })
      (o := { cls := .type "enumerate", data := .fields #[.none, .bool false, .ref s.heap.objs.size, rawInt 0, .none, .none] }) rfl
    rw [hz] at this; exact this
  refine ⟨⟨_, he, rfl⟩, h _ he ⟨_, Heap.get?_push_of_some _ (Heap.get?_push_size _ rfl), rfl, rfl⟩ (by rw [Heap.size_push, hz]) fun b o x => Heap.get?_push_of_some _ (Heap.get?_push_of_some _ x)⟩
end
section
variable {prog : Program} {w : World} {A : Around} {E : Value → Shared → Prop} {s : Shared}
theorem next_enumT_end {e it l : Addr} {i : Int} {j : Nat} {items : Array Value} {old : Value} {Q : Option Value → Shared → Prop} (hh : A.handled = none)
    (he : IsEnum s.heap e it i old) (hit : s.heap.IsTupleIter it l j) (hl : s.heap.IsTuple l items) (hx : items[j]? = none)
    (hQ : ∀ h', Heap.ExtBut it s.heap h' → Q none { s with heap := h' }) : wpAny (model prog w) A (pyNext (.ref e)) Q E s := by
  have hT : s.TypeIs (.ref e) "enumerate" := ⟨_, he, rfl⟩
  unfold pyNext
  refine wpAny_bind (wpAny_attempt (wpAny_callSpecial?_slot (name := Str.ofString "__next__") hT F.slot_enumerate_next
    (wpAny_call_entry F.slot_enumerate_next hT F.entry_enumerate_next ?_ (F.args_enumerate_next_1 _))))
  show wpAny _ _ (field (.ref e) 2 >>= _) _ _ _
  refine wpAny_bind (wpAny_field he rfl (x := .ref it) rfl ?_)
  refine wpAny_bind (wpAny_nextOf_tuple_end hh hit hl hx fun h' x he' hx' => ?_)
  obtain ⟨o, ho, hc⟩ := hx'
  refine wpAny_bind (wpAny_isInstance (T := "StopIteration") (b := true) ⟨o, ho, hc⟩ isSubtype_stop ?_)
  exact wpAny_pure (hQ _ he')
end
def IteT (K : PySem.W.Frag) (a : Addr) : It :=
  ⟨fun i H => ∃ (xs : List V) (x : V), SqT K H a xs ∧ xs[i]? = some x, fun i H v H' => ∃ T x, v = .ref T ∧ H T = none ∧ H' = upd H T (.tup [.int (i : Nat), x]) ∧ ∀ xs, SqT K H a xs → xs[i]? = some x, fun i H => ∃ xs : List V, SqT K H a xs ∧ xs.length ≤ i⟩
theorem turn_enumT {P : Program} {w : World} {K : PySem.W.Frag} {elts : List Expr} {kk : Nat} {tpos : Pos} (a e it : Addr) (hai : a ≠ it) (hae : e ≠ a) :
    Turn P w K (.Tuple elts kk tpos) (IteT K a) [e, it] e (fun i h => (∃ old, IsEnum h e it ((i : Nat) : Int) old) ∧ h.IsTupleIter it a i ∧ e ≠ it) where
  mem := by simp
  obj := fun i h st b hb => by
    obtain ⟨⟨old, he⟩, ⟨o, ho, hc, hd⟩, _⟩ := st
    have e' : b = e ∨ b = it := by simpa using hb
    rcases e' with z | z
    · rw [z]; exact ⟨_, he, fun v q => nomatch q⟩
    · rw [z]; exact ⟨o, ho, fun v q => by rw [hd] at q; cases q⟩
  keep := fun i h h' st k => let ⟨⟨old, he⟩, hi, hne⟩ := st; ⟨⟨old, k e (by simp) _ he⟩, hi.at fun o q => k it (by simp) o q, hne⟩
  item := by
    intro X hP hw hK hc i pins s σ H E I hf st hg
    subst hP hw hK
    obtain ⟨⟨old, he⟩, hit, hne⟩ := st
    obtain ⟨xs, x, hq, hx⟩ := hg
    obtain ⟨its, rv, p, hz⟩ := I.tuple hq
    obtain ⟨u, hu, ru⟩ := rv.get hx
    have hel : e < s.heap.objs.size := Heap.lt_size he
    have hil : it < s.heap.objs.size := by obtain ⟨_, q, _⟩ := hit; exact Heap.lt_size q
    have ilt : i < its.toArray.size := by
      rw [List.size_toArray]
      exact (List.getElem?_eq_some_iff.mp hu).1
    refine wpAny_pyNext_enum_itemD (Draws.tuple (prog := X.prog) (w := X.w) (A := X.A.in1) (I.ok.hd hc) it a hai its.toArray) he ⟨hit, p⟩ ilt hne (by simp [hne, hae]) fun x' h' tk hP ho hst' hT hsz hk => ?_
    have ex : x' = u := by
      have : its.toArray[i]? = some x' := hP
      rw [show its.toArray[i]? = its[i]? by simp, hu] at this
      exact (Option.some.inj this).symm
    subst ex
    refine ⟨_, rfl, wpAny_letOwnedTupleGo_enum (s := { s with heap := h', toks := tk + 1 }) ho fun h'' he' sb => ?_⟩
    have hT2 : h''.get? s.heap.objs.size = some { cls := .type "tuple", data := .seq #[.int i tk, x'] } := (sb.2 _ (Nat.ne_of_gt hel)).trans hT
    have new : ObjOk X.prog X.w (upd H s.heap.objs.size (.tup [.int (i : Nat), x])) h'' s.heap.objs.size (.tup [.int (i : Nat), x]) :=
      ⟨by show 2 ≤ sizeLine; decide, [.int i tk, x'], .cons ⟨_, rfl⟩ (.cons ru .nil), ⟨_, hT2, rfl, _, rfl⟩⟩
    have I1 : Inv X pins σ (upd H s.heap.objs.size (.tup [.int (i : Nat), x])) { s with heap := h'', toks := tk + 1 } :=
      I.turnedNew (ch := [e, it]) (fun b ob hb q => (sb.2 b (fun z => hb (by simp [z]))).trans (hk b ob (fun z => hb (by simp [z])) (fun z => hb (by simp [z])) q)) hf (Nat.le_refl _) new
    refine ⟨.ref s.heap.objs.size, _, I1, rfl, ⟨_, x, rfl, I.hok.fresh (Nat.le_refl _), rfl, fun ys hy => by rw [I.tuple_inj hy hq]; exact hx⟩, ⟨⟨x', ?_⟩, hst'.1.at fun o q => (sb.2 it (Ne.symm hne)).trans q, hne⟩, fun b hb => ?_⟩
    · have e1 : ((i + 1 : Nat) : Int) = (i : Int) + 1 := by omega
      rw [e1]; exact he'
    · have hb' : b < s.heap.objs.size := by
        have e' : b = e ∨ b = it := by simpa using hb
        rcases e' with z | z
        · rw [z]; exact hel
        · rw [z]; exact hil
      rw [upd_ne (Nat.ne_of_lt hb')]
      exact (hf b hb).1
  done := by
    intro X hP hw hK hc i pins s σ H E I hf st hg
    subst hP hw hK
    obtain ⟨⟨old, he⟩, hit, hne⟩ := st
    obtain ⟨xs, hq, hx⟩ := hg
    obtain ⟨its, rv, p, hz⟩ := I.tuple hq
    obtain ⟨f0, f1, f2, f3, f4, f5⟩ := hf it (by simp)
    have hl := rv.length
    exact next_enumT_end (I.ok.hd hc) he hit p (by simp; omega) fun h' eb => ⟨rfl, I.turned (t' := s.toks) (fun b o hb q => eb b o hb q) f0 f1 f3 f4 f5⟩
  self := fun A i s Q E st h => let ⟨⟨_, he⟩, _⟩ := st; wpAny_pyIter_enum he h
def iEnumT (K : PySem.W.Frag) (ta : TA) : TI := fun σ H R => ta σ H fun vs H1 => ∃ a xs, vs = [.ref a] ∧ SqT K H1 a xs ∧ R (IteT K a) H1
theorem pi_enumT {X : Cx} {e : Expr} {ta : TA} {p pos tpos : Pos} {elts : List Expr} {kk : Nat} (hg : L2.Gl X "enumerate") (hm : X.mg "enumerate" = none) (ha : PA X [e] ta) (hs : starEach [e] X.env = [(false, eval e X.env)] := by rfl) :
    PI X (.Tuple elts kk tpos) (.Call (.Name "enumerate" p) [e] [] pos) (iEnumT X.K ta) := by
  refine ⟨fun pins s σ H R I h => ?_⟩
  refine Call_ (ld_blt I hg hm boot_enumerate (PyProof.Rows.callWith_type1 (thn (ha.run pos pins s σ H _ I h) fun us s1 ⟨vs, H1, I1, r1, q1⟩ => ?_) hs rfl))
  obtain ⟨a, xs, ex, hq, q⟩ := q1
  subst ex
  cases r1 with
  | cons r0 rr =>
    cases rr
    cases r0
    obtain ⟨its, rv, p', hz⟩ := I1.tuple hq
    have al : a < s1.heap.objs.size := by obtain ⟨_, e, _⟩ := p'; exact Heap.lt_size e
    refine call_enum_tup p' fun h' he hit hsz hk => wpAny_pyIter_enum he ?_
    have I2 : Inv X pins σ H1 { s1 with heap := h' } := I1.kept (t' := s1.toks) hk
    refine ⟨s1.heap.objs.size + 1, [s1.heap.objs.size + 1, s1.heap.objs.size], _, _, H1, rfl, I2, turn_enumT a (s1.heap.objs.size + 1) s1.heap.objs.size (Nat.ne_of_lt al) (Nat.ne_of_gt (Nat.lt_succ_of_lt al)), ⟨⟨.none, he⟩, hit, Nat.succ_ne_self _⟩, fun b hb => ?_, q⟩
    have e' : b = s1.heap.objs.size + 1 ∨ b = s1.heap.objs.size := by simpa using hb
    have hle : s1.heap.objs.size ≤ b := by
      rcases e' with z | z
      · rw [z]; exact Nat.le_add_right _ _
      · rw [z]; exact Nat.le_refl _
    exact I1.fpOk hle (I1.hok.fresh hle)
end My
namespace My
open PySem PySem.Spec PyProof.Rows L2 TL
theorem walk_enumT {K : PySem.W.Frag} {a : Addr} {xs : List V} : Walk (IteT K a) xs.length (fun H => SqT K H a xs) (YPair (fun i => some (.int (i : Nat))) (fun i => xs[i]?)) := by
  refine ⟨fun i _ hi q => ⟨xs, xs[i], q, by simp [hi]⟩, fun _ q => ⟨xs, q, Nat.le_refl _⟩, fun i H v H' _ q y => ?_⟩
  obtain ⟨T, x, h1, h2, h3, h4⟩ := y
  exact ⟨T, .int (i : Nat), x, h1, h2, h3, rfl, h4 xs q⟩
theorem RPc.mono {X Y : Addr → Prop} (h : ∀ b, Y b → X b) {H : Hp} {v : V} {p : Pc} (r : RPc X H v p) : RPc Y H v p := by
  cases r with
  | tree h1 rt wt sd =>
    obtain ⟨kvs, k1, k2, k3, k4⟩ := sd
    exact .tree h1 rt wt ⟨kvs, k1, fun z => k2 (h _ z), k3, k4⟩
  | write h1 r => exact .write h1 r
  | label h1 => exact .label h1
/-! ### let_pieces -/
def letSc : Nat → List Int → Sc → Sc
  | _, [], sc => sc
  | f, n :: ns, sc => letSc (f + 1) ns (scPut n (.place f) sc)
def letPs (sc : Sc) : Nat → List Tr → List Pc
  | _, [] => []
  | f, t :: ts => .tree t sc false :: .write (.put f) :: letPs sc (f + 1) ts
def letP (ns : List Int) (ts : List Tr) (b : Tr) (f : Nat) (sc : Sc) (last : Bool) : List Pc := letPs sc f ts ++ [.tree b (letSc f ns sc) last]
theorem letSc_snoc (n : Int) : ∀ (ns : List Int) (f : Nat) (sc : Sc), letSc f (ns ++ [n]) sc = scPut n (.place (f + ns.length)) (letSc f ns sc)
  | [], f, sc => rfl
  | m :: ns, f, sc => by
    show letSc (f + 1) (ns ++ [n]) (scPut m (.place f) sc) = scPut n (.place (f + (ns.length + 1))) (letSc (f + 1) ns (scPut m (.place f) sc))
    rw [letSc_snoc n ns (f + 1), show f + 1 + ns.length = f + (ns.length + 1) by omega]
theorem letPs_snoc (sc : Sc) (t : Tr) : ∀ (ts : List Tr) (f : Nat), letPs sc f (ts ++ [t]) = letPs sc f ts ++ [.tree t sc false, .write (.put (f + ts.length))]
  | [], f => rfl
  | u :: ts, f => by
    show .tree u sc false :: .write (.put f) :: letPs sc (f + 1) (ts ++ [t]) = .tree u sc false :: .write (.put f) :: (letPs sc (f + 1) ts ++ [.tree t sc false, .write (.put (f + (ts.length + 1)))])
    rw [letPs_snoc sc t ts (f + 1), show f + 1 + ts.length = f + (ts.length + 1) by omega]
theorem letPs_len (sc : Sc) : ∀ (ts : List Tr) (f : Nat), (letPs sc f ts).length = 2 * ts.length
  | [], _ => rfl
  | u :: ts, f => by
    show (letPs sc (f + 1) ts).length + 1 + 1 = 2 * (ts.length + 1)
    rw [letPs_len sc ts (f + 1)]; omega
theorem letSc_len : ∀ (ns : List Int) (f : Nat) (sc : Sc), (letSc f ns sc).length ≤ sc.length + ns.length
  | [], _, _ => Nat.le_refl _
  | n :: ns, f, sc => by
    have h1 := letSc_len ns (f + 1) (scPut n (.place f) sc)
    have h2 := scPut_len n (.place f) sc
    show (letSc (f + 1) ns (scPut n (.place f) sc)).length ≤ sc.length + (ns.length + 1)
    omega
abbrev sLet : Stmt := top 8
abbrev NLet : List Str := ["draft", "core", "scope", "last", "first", "inside", "pieces", "at", "number", "part"]
def spLet (CD : Addr) : Sp := fun vs H Q _ => ∃ (X : Addr → Prop) (x dx e e0 L G : Addr) (p : Int) (f : Nat) (cb c : V) (ns : List Int) (ts : List Tr) (b : Tr) (sc : Sc) (last : Bool), vs = [.ref x, c, .ref e, .bl last] ∧ H x = some (.ins CD dx (dfl p (f : Nat) cb e0 L G)) ∧ X x ∧
  (∀ q, X q → H q ≠ none) ∧ RT H c (.let_ ns ts b) ∧ widT (.let_ ns ts b) ∧ SDk X H e sc ∧ sc.length + ns.length ≤ 1000000 ∧
  ∀ a us H', Fr (fun q => q = x) H H' → H' x = some (.ins CD dx (dfl p (f + ns.length : Nat) cb e0 L G)) → H a = none → H' a = some (.lst us) → Als (RPc X H') us (letP ns ts b f sc last) → Q (.ref a) H'
section
variable {P : Program} {w : World} {K : PySem.W.Frag} {mg : Str → Option Value} {base : Heap} {CD : Addr}
theorem scLet : FnScope NLet ["draft", "core", "scope", "last"] (defScope sLet) := ⟨rfl, rfl, rfl, by decide +kernel, rfl, by decide +kernel, by decide +kernel⟩
theorem ok_let {f fP : Addr} {fd dP : FuncData} (Fn : Fun K "let_pieces" "let_pieces" sLet f fd) (B : Blt mg) (B2 : Bl2 mg) (MP : MCal P w K mg base CX0 1 CD "new_places" ["self", "many"] (spDrP CD) fP dP) : FnOk P w K mg base CX0 2 f fd ["draft", "core", "scope", "last"] (spLet CD) := by
  refine Fn.ok scLet (fun vs H Q E h => ?_) (fun cdv A outer s H vs Q E hr h => ?_)
  · obtain ⟨X, x, dx, e, e0, L, G, p, f, cb, c, ns, ts, b, sc, last, rfl, _⟩ := h
    rfl
  obtain ⟨X, x, dx, e, e0, L, G, p, f, cb, c, ns, ts, b, sc, last, rfl, hx, Xx, dom, rt, wt, sd, lsc, q⟩ := h
  have nd := scLet.nd
  have hu := hu_of hr
  unfold widT at wt
  cases rt with
  | @let_ a l y vs _ _ _ ha hl rs rb =>
  have ⟨l1, l2⟩ := rs.len
  refine ⟨_, (pss_cons (ps_set (i := 4) nd rfl (Or.inl rfl) (pe_meth (pv 0) MP.c MP.m MP.ok hr MP.b .nil pass0 (pa_cons (pe_callB call_len_seq (by rfl) B.len PySem.boot_len (pa_cons (pe_ix (r := rIxT K) ix_tup (pv 1) pe_int (fun _ _ => rfl)) pa_nil)) pa_nil)))
    (pss_cons (ps_set (i := 5) nd rfl (Or.inl rfl) (pe_callTy call_dictD (by rfl) B2.dict (by decide +kernel) (pa_cons (pv 2) pa_nil)))
    (pss_cons (ps_set (i := 6) nd rfl (Or.inl rfl) (pe_lst pa_nil))
    (pss_cons (ps_for PassesOwn.never rfl (pi_enumT (by rfl) B2.enumerate (pa_cons (pe_ix (r := rIxT K) ix_tup (pv 1) pe_int (fun _ _ => rfl)) pa_nil)) (pg_tup rfl (pgs_cons (pg_name (i := 7) nd rfl (Or.inl rfl)) (pgs_cons (pg_tup rfl (pgs_cons (pg_name (i := 8) nd rfl (Or.inl rfl)) (pgs_cons (pg_name (i := 9) nd rfl (Or.inl rfl)) pgs_nil))) pgs_nil)))
      (pss_cons (ps_dput hu (pv 5) (pv 8) (pe_tup (pa_cons pe_str (pa_cons (pe_op op_add (pv 4) (pv 7)) pa_nil))) rfl)
      (pss_cons (ps_expr (pe_bm PySem.F.plainAttrs_list PySem.F.slot_list_append PySem.F.type_list_append mt_append (pv 6) (pa_cons (pe_tup (pa_cons pe_str (pa_cons (pv 9) (pa_cons (pv 2) (pa_cons pe_bl pa_nil))))) pa_nil)))
      (pss_one (ps_expr (pe_bm PySem.F.plainAttrs_list PySem.F.slot_list_append PySem.F.type_list_append mt_append (pv 6) (pa_cons (pe_tup (pa_cons pe_str (pa_cons (pe_tup (pa_cons pe_str (pa_cons (pe_op op_add (pv 4) (pv 7)) pa_nil))) pa_nil))) pa_nil)))))))
    (pss_cons (ps_expr (pe_bm PySem.F.plainAttrs_list PySem.F.slot_list_append PySem.F.type_list_append mt_append (pv 6) (pa_cons (pe_tup (pa_cons pe_str (pa_cons (pe_ix (r := rIxT K) ix_tup (pv 1) pe_int (fun _ _ => rfl)) (pa_cons (pv 5) (pa_cons (pv 3) pa_nil))))) pa_nil)))
    (pss_one (ps_ret (pv 6)))))))), ?_⟩
  refine ⟨_, rfl, x, dx, _, rfl, hx, rfl, _, rfl, a, _, 1, _, rfl, rfl, SqT.of ha, at1 _ _ _, l, _, rfl, .inr (SqT.of hl), ?_⟩
  refine ⟨x, dx, e0, L, G, p, (f : Nat), vs.length, cb, rfl, hx, ?_⟩
  have hl' : ((f : Int) + (vs.length : Nat)) = ((f + ns.length : Nat) : Int) := by rw [l1]; rfl
  rw [hl']
  have fx : Fr (fun q => q = x) H (upd H x (.ins CD dx (dfl p (f + ns.length : Nat) cb e0 L G))) := Fr.set rfl hx rfl
  have wX : ∀ q : Addr, q = x → X q := fun q z => by rw [z]; exact Xx
  have x1 : upd H x (.ins CD dx (dfl p (f + ns.length : Nat) cb e0 L G)) x = some (.ins CD dx (dfl p (f + ns.length : Nat) cb e0 L G)) := upd_same
  have ha1 := fx.tup _ _ ha
  have hl1 := fx.tup _ _ hl
  have rs1 : RTp _ vs ns ts := rs.keep fx.tup
  have rb1 := rb.keep fx.tup
  have sd1 := sd.fr (fx.wide wX)
  generalize upd H x (.ins CD dx (dfl p (f + ns.length : Nat) cb e0 L G)) = H1 at fx x1 ha1 hl1 rs1 rb1 sd1 ⊢
  obtain ⟨kvs, k1, k2, k3, k4⟩ := sd1
  refine ⟨_, rfl, e, kvs, rfl, .inl k1, fun d hd => ⟨by show 0 ≤ sizeLine; decide, fun o ho => ?_⟩⟩
  have f2 : Fr No H1 (upd H1 d (.dK kvs)) := Fr.new hd
  have f3 : Fr No (upd H1 d (.dK kvs)) (upd (upd H1 d (.dK kvs)) o (.lst [])) := Fr.new ho
  have d2 : upd (upd H1 d (.dK kvs)) o (.lst []) d = some (.dK kvs) := f3.keep (fun z => z) rfl upd_same
  have o2 : upd (upd H1 d (.dK kvs)) o (.lst []) o = some (.lst []) := upd_same
  have f23 := f2.trans f3
  have ho1 : H1 o = none := f2.dom ho
  have ndo : d ≠ o := ne_of d2 o2 fun z => by cases z
  have ne_d : ∀ {q : Addr} {u : HO}, H1 q = some u → q ≠ d ∧ q ≠ o := fun {q u} z => ⟨ne_of_none z hd, ne_of_none z ho1⟩
  generalize upd (upd H1 d (.dK kvs)) o (.lst []) = H2 at f23 d2 o2 ⊢
  let X2 : Addr → Prop := fun q => X q ∨ q = d ∨ q = o
  have sd2 : SDk X2 H2 e sc := ⟨kvs, f23.keep (fun z => z) rfl k1, fun z => by
    rcases z with z | z | z
    · exact k2 z
    · exact (ne_d k1).1 z
    · exact (ne_d k1).2 z, k3.keep f23.tup, k4⟩
  refine ⟨_, rfl, a, _, 1, _, rfl, rfl, SqT.of (f23.tup _ _ ha1), at1 _ _ _, l, vs, rfl, SqT.of (f23.tup _ _ hl1), ?_⟩
  have w2 : ∀ q : Addr, (q = d ∨ q = o) → X2 q := fun q z => .inr z
  refine for_it (walk_enumT (K := K) (a := l) (xs := vs)) (fun i σ H' => ∃ (v7 v8 v9 : Option V) (lvs : List (Key × V)) (us : List V), σ = [some (.ref x), some (.ref a), some (.ref e), some (.bl last), some (.int (f : Nat)), some (.ref d), some (.ref o), v7, v8, v9] ∧ H' d = some (.dK lvs) ∧ RSc H' lvs (letSc f (ns.take i) sc) ∧
      H' o = some (.lst us) ∧ Als (RPc X2 H') us (letPs sc f (ts.take i)) ∧ SDk X2 H' e sc ∧ Fr No H1 H')
    ⟨none, none, none, kvs, [], rfl, d2, k3.keep f23.tup, o2, .nil, sd2, f23⟩ (fun i σ H' _ ⟨_, _, _, _, _, _, _, _, _, _, _, g⟩ => SqT.of (g.tup _ _ hl1)) ?_ ?_
  · rintro i v σ H' H3 hi ⟨v7, v8, v9, lvs, us, rfl, hd', rl, ho', al, sd', fN⟩ ⟨T, xx, yy, rfl, hT, rfl, exx, eyy⟩
    cases exx
    obtain ⟨q0, pv0, n, t1, rfl, hq0, hn, ht1, rt1⟩ := rs1.get eyy
    have il : i < ns.length := (List.getElem?_eq_some_iff.mp hn).1
    have tn : ns.take (i + 1) = ns.take i ++ [n] := take_more hn
    have tt : ts.take (i + 1) = ts.take i ++ [t1] := take_more ht1
    have lni : (ns.take i).length = i := by rw [List.length_take]; omega
    have lti : (ts.take i).length = i := by rw [List.length_take]; omega
    have fT : Fr No H' (upd H' T (.tup [.int (i : Nat), .ref q0])) := Fr.new hT
    refine ⟨T, _, rfl, SqT.of upd_same, rfl, _, _, rfl, ?_⟩
    refine ⟨_, _, rfl, q0, _, rfl, SqT.of ((fN.trans fT).tup _ _ hq0), rfl, _, _, rfl, ?_⟩
    refine ⟨_, _, rfl, rfl, rfl, ?_⟩
    have hd3 := fT.keep (fun z => z) rfl hd'
    have ho3 := fT.keep (fun z => z) rfl ho'
    generalize upd H' T (.tup [.int (i : Nat), .ref q0]) = H3 at fT hd3 ho3 ⊢
    refine ⟨_, rfl, _, rfl, _, _, rfl, rfl, by show 2 ≤ sizeLine; decide, fun s1 hs1 => ?_⟩
    have fs : Fr No H3 (upd H3 s1 (.tup (srcV (.place (f + i))))) := Fr.new hs1
    have es : upd H3 s1 (.tup (srcV (.place (f + i)))) s1 = some (.tup (srcV (.place (f + i)))) := upd_same
    have hd4 := fs.keep (fun z => z) rfl hd3
    have ho4 := fs.keep (fun z => z) rfl ho3
    have f4 := fT.trans fs
    have e4 : (upd H3 s1 (.tup [.str "place", .int ((f : Int) + (i : Int))])) = upd H3 s1 (.tup (srcV (.place (f + i)))) := rfl
    rw [show (upd H3 s1 (HO.tup [V.str "place", (fun i j => V.int (i + j)) (f : Int) (i : Int)])) = upd H3 s1 (.tup (srcV (.place (f + i)))) from rfl]
    generalize upd H3 s1 (.tup (srcV (.place (f + i)))) = H4 at fs es hd4 ho4 f4 ⊢
    have ll : lvs.length < sizeLine := by
      rw [rl.len]
      have h1 := letSc_len (ns.take i) f sc
      rw [lni] at h1
      exact Nat.lt_of_le_of_lt (show _ ≤ 1001000 by omega) (by decide)
    refine ⟨_, rfl, _, rfl, d, _, rfl, DPut.k (k := .inl n) hd4 ll, ?_⟩
    have f5 : Fr (fun q => q = d ∨ q = o) H4 (upd H4 d (.dK (putK lvs (.inl n) (.ref s1)))) := Fr.set (.inl rfl) hd4 rfl
    have n5 : Fr No H1 (upd H4 d (.dK (putK lvs (.inl n) (.ref s1)))) := (fN.trans f4).mut hd hd4 rfl
    have d5 : upd H4 d (.dK (putK lvs (.inl n) (.ref s1))) d = some (.dK (putK lvs (.inl n) (.ref s1))) := upd_same
    have o5 : upd H4 d (.dK (putK lvs (.inl n) (.ref s1))) o = some (.lst us) := by rw [upd_ne (Ne.symm ndo)]; exact ho4
    have es5 := f5.tup _ _ es
    generalize upd H4 d (.dK (putK lvs (.inl n) (.ref s1))) = H5 at f5 n5 d5 o5 es5 ⊢
    have lus : us.length = 2 * i := by rw [al.len, letPs_len, lti]
    refine ⟨_, rfl, .inl ⟨rfl, _, SqL.of o5⟩, _, rfl, _, rfl, by show 4 ≤ sizeLine; decide, fun s2 hs2 => ?_⟩
    have f6 : Fr No H5 (upd H5 s2 (.tup [.str "tree", pv0, .ref e, .bl false])) := Fr.new hs2
    have es6 : upd H5 s2 (.tup [.str "tree", pv0, .ref e, .bl false]) s2 = some (.tup [.str "tree", pv0, .ref e, .bl false]) := upd_same
    have d6 := f6.keep (fun z => z) rfl d5
    have o6 := f6.keep (fun z => z) rfl o5
    have n6 := n5.trans f6
    generalize upd H5 s2 (.tup [.str "tree", pv0, .ref e, .bl false]) = H6 at f6 es6 d6 o6 n6 ⊢
    refine ⟨o, _, _, rfl, rfl, o6, Nat.lt_of_le_of_lt (show us.length ≤ 2001 by omega) (by decide), ?_⟩
    have f7 : Fr (fun q => q = d ∨ q = o) H6 (upd H6 o (.lst (us ++ [.ref s2]))) := Fr.set (.inr rfl) o6 rfl
    have n7 : Fr No H1 (upd H6 o (.lst (us ++ [.ref s2]))) := n6.mut ho1 o6 rfl
    have d7 : upd H6 o (.lst (us ++ [.ref s2])) d = some (.dK (putK lvs (.inl n) (.ref s1))) := by rw [upd_ne ndo]; exact d6
    have o7 : upd H6 o (.lst (us ++ [.ref s2])) o = some (.lst (us ++ [.ref s2])) := upd_same
    generalize upd H6 o (.lst (us ++ [.ref s2])) = H7 at f7 n7 d7 o7 ⊢
    refine ⟨_, rfl, .inl ⟨rfl, _, SqL.of o7⟩, _, rfl, _, rfl, _, _, rfl, rfl, by show 2 ≤ sizeLine; decide, fun s3 hs3 => ⟨by show 2 ≤ sizeLine; decide, fun s4 hs4 => ?_⟩⟩
    have f8 : Fr No H7 (upd H7 s3 (.tup [.str "put", .int (f + i : Nat)])) := Fr.new hs3
    have f9 : Fr No (upd H7 s3 (.tup [.str "put", .int (f + i : Nat)])) (upd (upd H7 s3 (.tup [.str "put", .int (f + i : Nat)])) s4 (.tup [.str "write", .ref s3])) := Fr.new hs4
    have es8 := f9.tup _ _ (show upd H7 s3 (.tup [.str "put", .int (f + i : Nat)]) s3 = some (.tup [.str "put", .int (f + i : Nat)]) from upd_same)
    have es9 : upd (upd H7 s3 (.tup [.str "put", .int (f + i : Nat)])) s4 (.tup [.str "write", .ref s3]) s4 = some (.tup [.str "write", .ref s3]) := upd_same
    have f89 := f8.trans f9
    have d9 := f89.keep (fun z => z) rfl d7
    have o9 := f89.keep (fun z => z) rfl o7
    have n9 := n7.trans f89
    rw [show (upd (upd H7 s3 (HO.tup [V.str "put", (fun i j => V.int (i + j)) (f : Int) (i : Int)])) s4 (.tup [.str "write", .ref s3])) = (upd (upd H7 s3 (.tup [.str "put", .int (f + i : Nat)])) s4 (.tup [.str "write", .ref s3])) from rfl]
    generalize upd (upd H7 s3 (.tup [.str "put", .int (f + i : Nat)])) s4 (.tup [.str "write", .ref s3]) = H9 at f89 es8 es9 d9 o9 n9 ⊢
    refine ⟨o, _, _, rfl, rfl, o9, Nat.lt_of_le_of_lt (show (us ++ [V.ref s2]).length ≤ 2001 by rw [List.length_append]; show us.length + 1 ≤ 2001; omega) (by decide), ?_⟩
    have f10 : Fr (fun q => q = d ∨ q = o) H9 (upd H9 o (.lst (us ++ [.ref s2] ++ [.ref s4]))) := Fr.set (.inr rfl) o9 rfl
    have n10 : Fr No H1 (upd H9 o (.lst (us ++ [.ref s2] ++ [.ref s4]))) := n9.mut ho1 o9 rfl
    have d10 : upd H9 o (.lst (us ++ [.ref s2] ++ [.ref s4])) d = some (.dK (putK lvs (.inl n) (.ref s1))) := by rw [upd_ne ndo]; exact d9
    have o10 : upd H9 o (.lst (us ++ [.ref s2] ++ [.ref s4])) o = some (.lst (us ++ [.ref s2] ++ [.ref s4])) := upd_same
    generalize upd H9 o (.lst (us ++ [.ref s2] ++ [.ref s4])) = H10 at f10 n10 d10 o10 ⊢
    have g9 : Fr X2 H9 H10 := f10.wide w2
    have g6 : Fr X2 H6 H10 := (f7.wide w2).trans (f89.no.trans g9)
    have g5 : Fr X2 H5 H10 := f6.no.trans g6
    have g : Fr X2 H' H10 := f4.no.trans ((f5.wide w2).trans g5)
    have sdN := sd'.fr g
    refine ⟨_, _, _, putK lvs (.inl n) (.ref s1), us ++ [.ref s2] ++ [.ref s4], rfl, d10, ?_, o10, ?_, sdN, n10⟩
    · rw [tn, letSc_snoc, lni]
      exact (rl.keep g.tup).put ⟨s1, rfl, g5.tup _ _ es5⟩
    · rw [tt, letPs_snoc, lti, List.append_assoc]
      exact (al.mono fun _ _ r => r.fr g).app (.cons (.tree (g6.tup _ _ es6) (rt1.keep n10.tup) (widTs_mem wt.2.1 _ (List.mem_of_getElem? ht1)) sdN) (.cons (.write (g9.tup _ _ es9) (.put (g9.tup _ _ es8))) .nil))
  · rintro σ H' ⟨v7, v8, v9, lvs, us, rfl, hd', rl, ho', al, sd', fN⟩
    rw [l1, List.take_length] at rl
    rw [l1, ← l2, List.take_length] at al
    have lus : us.length = 2 * ts.length := by rw [al.len, letPs_len]
    refine ⟨_, rfl, .inl ⟨rfl, _, SqL.of ho'⟩, _, rfl, a, _, 2, _, rfl, rfl, SqT.of (fN.tup _ _ ha1), atI_nat (j := 2) rfl, _, rfl, _, rfl, by show 4 ≤ sizeLine; decide, fun s2 hs2 => ?_⟩
    have f6 : Fr No H' (upd H' s2 (.tup [.str "tree", y, .ref d, .bl last])) := Fr.new hs2
    have es6 : upd H' s2 (.tup [.str "tree", y, .ref d, .bl last]) s2 = some (.tup [.str "tree", y, .ref d, .bl last]) := upd_same
    have d6 := f6.keep (fun z => z) rfl hd'
    have o6 := f6.keep (fun z => z) rfl ho'
    have n6 := fN.trans f6
    generalize upd H' s2 (.tup [.str "tree", y, .ref d, .bl last]) = H6 at f6 es6 d6 o6 n6 ⊢
    refine ⟨o, _, _, rfl, rfl, o6, Nat.lt_of_le_of_lt (show us.length ≤ 2001 by omega) (by decide), ?_⟩
    have f7 : Fr (fun q => q = o) H6 (upd H6 o (.lst (us ++ [.ref s2]))) := Fr.set rfl o6 rfl
    have n7 : Fr No H1 (upd H6 o (.lst (us ++ [.ref s2]))) := n6.mut ho1 o6 rfl
    have d7 : upd H6 o (.lst (us ++ [.ref s2])) d = some (.dK lvs) := by rw [upd_ne ndo]; exact d6
    have o7 : upd H6 o (.lst (us ++ [.ref s2])) o = some (.lst (us ++ [.ref s2])) := upd_same
    generalize upd H6 o (.lst (us ++ [.ref s2])) = H7 at f7 n7 d7 o7 ⊢
    have g7 : Fr X2 H' H7 := f6.no.trans (f7.wide fun q z => .inr (.inr z))
    have hXd : ¬ X d := fun z => dom d z (fx.dom hd)
    refine ⟨_, rfl, q o (us ++ [.ref s2]) H7 (fx.trans n7.no) (n7.keep (fun z => z) rfl x1) (fx.dom ho1) o7 ?_⟩
    unfold letP
    refine ((al.mono fun _ _ r => (r.fr g7).mono fun q z => .inl z)).app (.one ?_)
    refine .tree (f7.tup _ _ es6) (rb1.keep n7.tup) wt.2.2 ⟨lvs, d7, hXd, (rl.keep f6.tup).keep f7.tup, ?_⟩
    have := letSc_len ns f sc
    omega
end
end My
namespace My
open PySem PySem.Spec PyProof.Rows L2 TL
/-! ### call_pieces -/
def callP (f : Tr) (ts : List Tr) (sc : Sc) (last : Bool) : List Pc := (f :: ts).map (fun t => .tree t sc false) ++ [.write (if last = true then .tail ts.length else .call ts.length)]
abbrev sCp : Stmt := top 10
abbrev NCp : List Str := ["core", "scope", "last", "word", "trees", "part"]
def spCp : Sp := fun vs H Q _ => ∃ (X : Addr → Prop) (e : Addr) (c : V) (f : Tr) (ts : List Tr) (sc : Sc) (last : Bool), vs = [c, .ref e, .bl last] ∧ RT H c (.call f ts) ∧ widT (.call f ts) ∧ SDk X H e sc ∧
  ∀ a us H', Fr No H H' → H a = none → H' a = some (.lst us) → Als (RPc X H') us (callP f ts sc last) → Q (.ref a) H'
section
variable {P : Program} {w : World} {K : PySem.W.Frag} {mg : Str → Option Value} {base : Heap}
theorem scCp : FnScope NCp ["core", "scope", "last"] (defScope sCp) := ⟨rfl, rfl, rfl, by decide +kernel, rfl, by decide +kernel, by decide +kernel⟩
theorem ok_cp {f : Addr} {fd : FuncData} (Fn : Fun K "call_pieces" "call_pieces" sCp f fd) (B : Blt mg) : FnOk P w K mg base CX0 1 f fd ["core", "scope", "last"] spCp := by
  refine Fn.ok scCp (fun vs H Q E h => ?_) (fun cdv A outer s H vs Q E hr h => ?_)
  · obtain ⟨X, e, c, f, ts, sc, last, rfl, _⟩ := h
    rfl
  obtain ⟨X, e, c, tf, ts, sc, last, rfl, rt, wt, sd, q⟩ := h
  have nd := scCp.nd
  unfold widT at wt
  cases rt with
  | @call a l x vs _ _ ha hl rf rs =>
  refine ⟨_, (pss_cons (ps_set (i := 3) nd rfl (Or.inl rfl) (pe_ifExp (pt_val (pv 2)) pe_str pe_str))
    (pss_cons (ps_setLc (i := 4) (own := [("part", 5)]) (g := gName 5) (tt := tYes) rfl nd rfl rfl (sw_true rfl rfl rfl (by decide +kernel)) (pi_tup (pe_tup (pa_cons (pe_ix (r := rIxT K) ix_tup (pv 0) pe_int (fun _ _ => rfl)) (StX.pa_star (pe_ix (r := rIxT K) ix_tup (pv 0) pe_int (fun _ _ => rfl)) pa_nil)))) (blkOk_by (N := NCp) (sc := defScope sCp) (by decide +kernel)) (fun _ _ _ _ _ => (pg_name (i := 5) nd rfl (Or.inl rfl) (hf := Or.inr rfl))) (fun _ _ _ _ _ => pts_nil) (fun _ _ _ _ _ => (pe_tup (pa_cons pe_str (pa_cons (pv 5) (pa_cons (pv 1) (pa_cons pe_bl pa_nil)))))))
    (pss_one (ps_ret (pe_op op_cat (pv 4) (pe_lst (pa_cons (pe_tup (pa_cons pe_str (pa_cons (pe_tup (pa_cons (pv 3) (pa_cons (pe_callB call_len_seq (by rfl) B.len PySem.boot_len (pa_cons (pe_ix (r := rIxT K) ix_tup (pv 0) pe_int (fun _ _ => rfl)) pa_nil)) pa_nil))) pa_nil))) pa_nil))))))), ?_⟩
  have lv : vs.length = ts.length := rs.len
  refine ⟨_, rfl, last, rfl, ?_⟩
  cases last with
  | true =>
    refine iteT ?_
    refine ⟨_, rfl, a, _, 1, _, rfl, rfl, SqT.of ha, at1 _ _ _, _, rfl, a, _, 2, _, rfl, rfl, SqT.of ha, atI_nat (j := 2) rfl, l, _, rfl, .inl (SqT.of hl), ?_, fun T hT => ?_⟩
    · show (x :: (vs ++ [])).length ≤ sizeLine
      rw [List.append_nil, List.length_cons, lv]
      exact Nat.le_trans (show ts.length + 1 ≤ 1001 by omega) (by decide)
    have ec : (x :: (vs ++ [])) = x :: vs := by rw [List.append_nil]
    rw [ec]
    have fT : Fr No H (upd H T (.tup (x :: vs))) := Fr.new hT
    have hT1 : upd H T (.tup (x :: vs)) T = some (.tup (x :: vs)) := upd_same
    generalize upd H T (.tup (x :: vs)) = H1 at fT hT1 ⊢
    have rs0 : RTs H (x :: vs) (tf :: ts) := .cons rf rs
    refine ⟨T, rfl, ⟨_, SqT.of hT1⟩, fun D hD => ?_⟩
    have hD0 : H D = none := fT.dom hD
    let X2 : Addr → Prop := fun q => X q ∨ q = D
    have sd1 : SDk X2 (upd H1 D (.lst [])) e sc := by
      obtain ⟨kvs, k1, k2, k3, k4⟩ := sd
      have f := fT.trans (Fr.new (X := No) (o := .lst []) hD)
      exact ⟨kvs, f.keep (fun z => z) rfl k1, fun z => z.elim k2 (ne_of_none k1 hD0), k3.keep f.tup, k4⟩
    refine lc_tup (xs := x :: vs) (fun i H' => ∃ us, H' D = some (.lst us) ∧ us.length = i ∧ Als (RPc X2 H') us (((tf :: ts).take i).map fun t => .tree t sc false) ∧ SDk X2 H' e sc ∧ H' T = some (.tup (x :: vs)) ∧ Fr No H H') ⟨[], upd_same, rfl, .nil, sd1, (Fr.new (X := No) hD).tup _ _ hT1, fT.trans (Fr.new hD)⟩ (fun i H' _ ⟨us, _, _, _, _, g, _⟩ => SqT.of g) ?_ ?_
    · rintro i x1 H' hi ⟨us, h1, h2, h3, h4, h6, h5⟩
      obtain ⟨t1, e1, r1⟩ := rs0.get hi
      refine ⟨rfl, _, rfl, _, rfl, by show 4 ≤ sizeLine; decide, fun q1 hq1 => ?_⟩
      have nqD : D ≠ q1 := fun z => by rw [z, hq1] at h1; cases h1
      have il : i < (tf :: ts).length := (List.getElem?_eq_some_iff.mp e1).1
      rw [List.length_cons] at il
      have e2 : upd H' q1 (.tup [.str "tree", x1, .ref e, .bl false]) D = some (.lst us) := by rw [upd_ne nqD]; exact h1
      have f1 : Fr No H' (upd H' q1 (.tup [.str "tree", x1, .ref e, .bl false])) := Fr.new hq1
      have f2 : Fr (fun q => q = D) (upd H' q1 (.tup [.str "tree", x1, .ref e, .bl false])) (upd (upd H' q1 (.tup [.str "tree", x1, .ref e, .bl false])) D (.lst (us ++ [.ref q1]))) := Fr.set rfl e2 rfl
      have fX : Fr X2 H' (upd (upd H' q1 (.tup [.str "tree", x1, .ref e, .bl false])) D (.lst (us ++ [.ref q1]))) := f1.no.trans (f2.wide fun q z => .inr z)
      have wt1 : widT t1 := by
        rcases List.mem_cons.mp (List.mem_of_getElem? e1) with z | z
        · rw [z]; exact wt.2.1
        · exact widTs_mem wt.2.2 t1 z
      have sd2 := h4.fr fX
      have fN : Fr No H (upd (upd H' q1 (.tup [.str "tree", x1, .ref e, .bl false])) D (.lst (us ++ [.ref q1]))) := (h5.trans f1).mut hD0 e2 rfl
      refine ⟨us, e2, Nat.lt_of_le_of_lt (show us.length ≤ 1001 by omega) (by decide), us ++ [.ref q1], upd_same, by simp [h2], ?_, sd2, fX.tup _ _ h6, fN⟩
      rw [take_more e1, List.map_append]
      exact (h3.mono fun _ _ r => r.fr fX).app (.one (.tree (f2.tup _ _ upd_same) (r1.keep fN.tup) wt1 sd2))
    · rintro H' ⟨us, h1, h2, h3, h4, h6, h5⟩
      have lxs : (x :: vs).length = (tf :: ts).length := rs0.len
      rw [lxs, List.take_length] at h3
      refine ⟨_, rfl, _, rfl, _, rfl, a, _, 2, _, rfl, rfl, SqT.of (h5.tup _ _ ha), atI_nat (j := 2) rfl, l, _, rfl, .inr (SqT.of (h5.tup _ _ hl)), by show 2 ≤ sizeLine; decide, fun s1 hs1 => ⟨by show 2 ≤ sizeLine; decide, fun s2 hs2 => ⟨by show 1 ≤ sizeLine; decide, fun s3 hs3 => ?_⟩⟩⟩
      have g1 : Fr No H' (upd H' s1 (.tup [.str "tail", .int (vs.length : Nat)])) := Fr.new hs1
      have g2 : Fr No (upd H' s1 (.tup [.str "tail", .int (vs.length : Nat)])) (upd (upd H' s1 (.tup [.str "tail", .int (vs.length : Nat)])) s2 (.tup [.str "write", .ref s1])) := Fr.new hs2
      have g3 : Fr No (upd (upd H' s1 (.tup [.str "tail", .int (vs.length : Nat)])) s2 (.tup [.str "write", .ref s1])) (upd (upd (upd H' s1 (.tup [.str "tail", .int (vs.length : Nat)])) s2 (.tup [.str "write", .ref s1])) s3 (.lst [.ref s2])) := Fr.new hs3
      have e1 := (g2.trans g3).tup _ _ (show upd H' s1 (.tup [.str "tail", .int (vs.length : Nat)]) s1 = some (.tup [.str "tail", .int (vs.length : Nat)]) from upd_same)
      have e2 := g3.tup _ _ (show upd (upd H' s1 (.tup [.str "tail", .int (vs.length : Nat)])) s2 (.tup [.str "write", .ref s1]) s2 = some (.tup [.str "write", .ref s1]) from upd_same)
      have g13 := g1.trans (g2.trans g3)
      have h1' := g13.keep (fun z => z) rfl h1
      refine ⟨D, s3, _, _, rfl, rfl, h1', upd_same, ?_, fun o ho => ?_⟩
      · show us.length + 1 ≤ sizeLine
        have : us.length = ts.length + 1 := by rw [h2, lxs]; rfl
        exact Nat.le_trans (show us.length + 1 ≤ 1002 by omega) (by decide)
      have g4 : Fr No _ (upd (upd (upd (upd H' s1 (.tup [.str "tail", .int (vs.length : Nat)])) s2 (.tup [.str "write", .ref s1])) s3 (.lst [.ref s2])) o (.lst (us ++ [.ref s2]))) := Fr.new ho
      have g14 := g13.trans g4
      refine q o _ _ (h5.trans g14) ((h5.trans g13).dom ho) upd_same ?_
      unfold callP
      refine (h3.mono fun _ _ r => (r.fr g14.no).mono fun q z => .inl z).app (.one (.write (g4.tup _ _ e2) ?_))
      rw [← lv]
      exact .tail (g4.tup _ _ e1)
  | false =>
    refine iteF ?_
    refine ⟨_, rfl, a, _, 1, _, rfl, rfl, SqT.of ha, at1 _ _ _, _, rfl, a, _, 2, _, rfl, rfl, SqT.of ha, atI_nat (j := 2) rfl, l, _, rfl, .inl (SqT.of hl), ?_, fun T hT => ?_⟩
    · show (x :: (vs ++ [])).length ≤ sizeLine
      rw [List.append_nil, List.length_cons, lv]
      exact Nat.le_trans (show ts.length + 1 ≤ 1001 by omega) (by decide)
    have ec : (x :: (vs ++ [])) = x :: vs := by rw [List.append_nil]
    rw [ec]
    have fT : Fr No H (upd H T (.tup (x :: vs))) := Fr.new hT
    have hT1 : upd H T (.tup (x :: vs)) T = some (.tup (x :: vs)) := upd_same
    generalize upd H T (.tup (x :: vs)) = H1 at fT hT1 ⊢
    have rs0 : RTs H (x :: vs) (tf :: ts) := .cons rf rs
    refine ⟨T, rfl, ⟨_, SqT.of hT1⟩, fun D hD => ?_⟩
    have hD0 : H D = none := fT.dom hD
    let X2 : Addr → Prop := fun q => X q ∨ q = D
    have sd1 : SDk X2 (upd H1 D (.lst [])) e sc := by
      obtain ⟨kvs, k1, k2, k3, k4⟩ := sd
      have f := fT.trans (Fr.new (X := No) (o := .lst []) hD)
      exact ⟨kvs, f.keep (fun z => z) rfl k1, fun z => z.elim k2 (ne_of_none k1 hD0), k3.keep f.tup, k4⟩
    refine lc_tup (xs := x :: vs) (fun i H' => ∃ us, H' D = some (.lst us) ∧ us.length = i ∧ Als (RPc X2 H') us (((tf :: ts).take i).map fun t => .tree t sc false) ∧ SDk X2 H' e sc ∧ H' T = some (.tup (x :: vs)) ∧ Fr No H H') ⟨[], upd_same, rfl, .nil, sd1, (Fr.new (X := No) hD).tup _ _ hT1, fT.trans (Fr.new hD)⟩ (fun i H' _ ⟨us, _, _, _, _, g, _⟩ => SqT.of g) ?_ ?_
    · rintro i x1 H' hi ⟨us, h1, h2, h3, h4, h6, h5⟩
      obtain ⟨t1, e1, r1⟩ := rs0.get hi
      refine ⟨rfl, _, rfl, _, rfl, by show 4 ≤ sizeLine; decide, fun q1 hq1 => ?_⟩
      have nqD : D ≠ q1 := fun z => by rw [z, hq1] at h1; cases h1
      have il : i < (tf :: ts).length := (List.getElem?_eq_some_iff.mp e1).1
      rw [List.length_cons] at il
      have e2 : upd H' q1 (.tup [.str "tree", x1, .ref e, .bl false]) D = some (.lst us) := by rw [upd_ne nqD]; exact h1
      have f1 : Fr No H' (upd H' q1 (.tup [.str "tree", x1, .ref e, .bl false])) := Fr.new hq1
      have f2 : Fr (fun q => q = D) (upd H' q1 (.tup [.str "tree", x1, .ref e, .bl false])) (upd (upd H' q1 (.tup [.str "tree", x1, .ref e, .bl false])) D (.lst (us ++ [.ref q1]))) := Fr.set rfl e2 rfl
      have fX : Fr X2 H' (upd (upd H' q1 (.tup [.str "tree", x1, .ref e, .bl false])) D (.lst (us ++ [.ref q1]))) := f1.no.trans (f2.wide fun q z => .inr z)
      have wt1 : widT t1 := by
        rcases List.mem_cons.mp (List.mem_of_getElem? e1) with z | z
        · rw [z]; exact wt.2.1
        · exact widTs_mem wt.2.2 t1 z
      have sd2 := h4.fr fX
      have fN : Fr No H (upd (upd H' q1 (.tup [.str "tree", x1, .ref e, .bl false])) D (.lst (us ++ [.ref q1]))) := (h5.trans f1).mut hD0 e2 rfl
      refine ⟨us, e2, Nat.lt_of_le_of_lt (show us.length ≤ 1001 by omega) (by decide), us ++ [.ref q1], upd_same, by simp [h2], ?_, sd2, fX.tup _ _ h6, fN⟩
      rw [take_more e1, List.map_append]
      exact (h3.mono fun _ _ r => r.fr fX).app (.one (.tree (f2.tup _ _ upd_same) (r1.keep fN.tup) wt1 sd2))
    · rintro H' ⟨us, h1, h2, h3, h4, h6, h5⟩
      have lxs : (x :: vs).length = (tf :: ts).length := rs0.len
      rw [lxs, List.take_length] at h3
      refine ⟨_, rfl, _, rfl, _, rfl, a, _, 2, _, rfl, rfl, SqT.of (h5.tup _ _ ha), atI_nat (j := 2) rfl, l, _, rfl, .inr (SqT.of (h5.tup _ _ hl)), by show 2 ≤ sizeLine; decide, fun s1 hs1 => ⟨by show 2 ≤ sizeLine; decide, fun s2 hs2 => ⟨by show 1 ≤ sizeLine; decide, fun s3 hs3 => ?_⟩⟩⟩
      have g1 : Fr No H' (upd H' s1 (.tup [.str "call", .int (vs.length : Nat)])) := Fr.new hs1
      have g2 : Fr No (upd H' s1 (.tup [.str "call", .int (vs.length : Nat)])) (upd (upd H' s1 (.tup [.str "call", .int (vs.length : Nat)])) s2 (.tup [.str "write", .ref s1])) := Fr.new hs2
      have g3 : Fr No (upd (upd H' s1 (.tup [.str "call", .int (vs.length : Nat)])) s2 (.tup [.str "write", .ref s1])) (upd (upd (upd H' s1 (.tup [.str "call", .int (vs.length : Nat)])) s2 (.tup [.str "write", .ref s1])) s3 (.lst [.ref s2])) := Fr.new hs3
      have e1 := (g2.trans g3).tup _ _ (show upd H' s1 (.tup [.str "call", .int (vs.length : Nat)]) s1 = some (.tup [.str "call", .int (vs.length : Nat)]) from upd_same)
      have e2 := g3.tup _ _ (show upd (upd H' s1 (.tup [.str "call", .int (vs.length : Nat)])) s2 (.tup [.str "write", .ref s1]) s2 = some (.tup [.str "write", .ref s1]) from upd_same)
      have g13 := g1.trans (g2.trans g3)
      have h1' := g13.keep (fun z => z) rfl h1
      refine ⟨D, s3, _, _, rfl, rfl, h1', upd_same, ?_, fun o ho => ?_⟩
      · show us.length + 1 ≤ sizeLine
        have : us.length = ts.length + 1 := by rw [h2, lxs]; rfl
        exact Nat.le_trans (show us.length + 1 ≤ 1002 by omega) (by decide)
      have g4 : Fr No _ (upd (upd (upd (upd H' s1 (.tup [.str "call", .int (vs.length : Nat)])) s2 (.tup [.str "write", .ref s1])) s3 (.lst [.ref s2])) o (.lst (us ++ [.ref s2]))) := Fr.new ho
      have g14 := g13.trans g4
      refine q o _ _ (h5.trans g14) ((h5.trans g13).dom ho) upd_same ?_
      unfold callP
      refine (h3.mono fun _ _ r => (r.fr g14.no).mono fun q z => .inl z).app (.one (.write (g4.tup _ _ e2) ?_))
      rw [← lv]
      exact .call (g4.tup _ _ e1)
end
end My
namespace My
open PySem PySem.Spec PyProof.Rows L2 TL
section
variable {X : Cx}
theorem ps_setDc {i : Nat} {y : Str} {py : Pos} {kx vx tg iter : Expr} {ifs : List Expr} {scope : Scope} {own : List (Str × Nat)} {pos spos : Pos} {wi : TI} {g : TG} {tt : TT} {tk tv : TE} (hc : X.calm = true) (hN : X.N.Nodup) (hy : X.N[i]? = some y) (hyl : X.env.scope.names.lookup y = some .local)
    (hsw : swapsWith (.DictComp kx vx [⟨tg, iter, ifs, 0⟩] scope pos) (some (.Name y py)) spos.line X.env = pure true) (hi : PI X tg iter wi) (ok : BlkOk X.N X.env.scope scope own)
    (hg : ∀ (s : Shared) (H : Hp) (C : Addr) (cl : List (Str × Addr)) (fp : List Addr), PG (X.blk s H scope (compEnvC scope cl C X.env) fp) tg g) (ht : ∀ (s : Shared) (H : Hp) (C : Addr) (cl : List (Str × Addr)) (fp : List Addr), PTs (X.blk s H scope (compEnvC scope cl C X.env) fp) ifs tt)
    (hk : ∀ (s : Shared) (H : Hp) (C : Addr) (cl : List (Str × Addr)) (fp : List Addr), PE (X.blk s H scope (compEnvC scope cl C X.env) fp) kx tk)
    (he : ∀ (s : Shared) (H : Hp) (C : Addr) (cl : List (Str × Addr)) (fp : List Addr), PE (X.blk s H scope (compEnvC scope cl C X.env) fp) vx tv) (hs : ∀ x, foldedSetIterable iter X.env x = pure x := by intro _; rfl) :
    PS X (.Assign [.Name y py] (.DictComp kx vx [⟨tg, iter, ifs, 0⟩] scope pos) spos) (tAsg (tDc wi g tt tk tv (own.map (·.2))) (gName i)) := by
  refine ⟨fun pins s σ H D I h => ?_⟩
  rw [exec_Assign_Name_used _ _ _ _ hsw]
  refine wpAny_bind (wpAny_standAt (wpAny_bind ?_))
  show wpAny _ X.A (do let _ ← comprehension (.DictComp kx vx [⟨tg, iter, ifs, 0⟩] scope pos) scope X.env (firstIterPos [⟨tg, iter, ifs, 0⟩] pos) newDict false (eval iter X.env) (some (assign (.Name y py) X.env))) _ _ s
  have h : tDc wi g tt tk tv (own.map (·.2)) σ H (fun x H1 => gName i x σ H1 D.nx) := h
  refine wpAny_bind (thn (dc_core (Qf := fun _ s' => SP X pins D .next s') hc hN I hi ok hg ht hk he hs h fun L C s' m H' I' q hn f => ?_) fun _ s' hq => wpAny_pure (wpAny_pure hq))
  show wpAny _ _ (assign (.Name y py) X.env (.ref L)) _ _ _
  refine wpAny_assign_Name (store_ok2 (v := V.ref L) I' hN hy (.inl hyl) rfl (fun s2 I2 ⟨a, sb, ha⟩ => ?_) (.inr hyl))
  obtain ⟨f0, f1, f2, f3, f4, f5⟩ := f
  have haC : C ≠ a := by
    rcases ha with z | z
    · rw [z]; exact f1
    · exact fun e => f4 y a z e.symm
  refine ⟨m, hn.sameBut sb haC, fun h3 sb3 => ?_⟩
  exact ⟨_, H', I2.turned (t' := s2.toks) (fun b o hb e => (sb3.2 b hb).trans e) f0 f1 f3 f4 f5, q⟩
theorem sw_trueD {kx vx : Expr} {gs : List Comprehension} {scope : Scope} {pos py : Pos} {y : Str} {l : Nat} {env : Env} (hk : env.scope.kind = .function) (hy : env.scope.names.lookup y = some .local) (hl : (py.line == pos.line) = true)
    (ha : (scope.names.any fun (n, k) => n == y && (k == .local || k == .cell)) = false) : swapsWith (.DictComp kx vx gs scope pos) (some (.Name y py)) l env = pure true := by
  have ky : env.kindOf y = some .local := hy
  have hb : env.blockKind = .function := by unfold Env.blockKind; rw [hk]; rfl
  unfold swapsWith
  simp only [hb, ky, ha, Expr.pos, hl]
  rfl
end
/-- a dict comprehension over any walk -/
theorem dc_it {J : It} {n : Nat} {G : Hp → Prop} {Y : Nat → Hp → V → Hp → Prop} (wk : Walk J n G Y) {g : TG} {tt : TT} {tk tv : TE} {vs : List Nat} {σ : L2.St} {H1 : Hp} {D : Addr} {Qd : Hp → Prop} (Pv : Nat → Hp → Prop) (h0 : Pv 0 (upd H1 D (.dK []))) (hG : ∀ i H, i ≤ n → Pv i H → G H)
    (hs : ∀ i x H H', i < n → Pv i H → Y i H x H' → g x (wipe σ vs) H' fun σ2 H2 => wipe σ2 vs = wipe σ vs ∧ tt σ2 H2 fun b H3 =>
      if b = true then tk σ2 H3 fun y H4 => tv σ2 H4 fun z H5 => ∃ kvs k, y = kV k ∧ H5 D = some (.dK kvs) ∧ kvs.length < sizeLine ∧ Pv (i + 1) (upd H5 D (.dK (putK kvs k z))) else Pv (i + 1) H3) (hd : ∀ H, Pv n H → Qd H) :
    ∃ W : Nat → Nat → Hp → Prop, (∃ m, W 0 m (upd H1 D (.dK []))) ∧ ∀ i m H, W i m H →
      (J.stop i H ∧ Qd H) ∨ (J.go i H ∧ ∃ Nx : Hp → Prop, (∀ H', Nx H' → ∃ m', m' < m ∧ W (i + 1) m' H') ∧ ∀ x H', J.yld i H x H' → g x (wipe σ vs) H' fun σ2 H2 => wipe σ2 vs = wipe σ vs ∧ tt σ2 H2 fun b H3 =>
        if b = true then tk σ2 H3 fun y H4 => tv σ2 H4 fun z H5 => ∃ kvs k, y = kV k ∧ H5 D = some (.dK kvs) ∧ kvs.length < sizeLine ∧ Nx (upd H5 D (.dK (putK kvs k z))) else Nx H3) := by
  refine ⟨fun i m H => m + i = n ∧ Pv i H, ⟨n, rfl, h0⟩, fun i m H wi => ?_⟩
  obtain ⟨em, p⟩ := wi
  have sq := hG i H (by omega) p
  by_cases lt : i < n
  · exact .inr ⟨wk.goes i H lt sq, Pv (i + 1), fun H' p' => ⟨m - 1, by omega, by omega, p'⟩, fun x H' y => hs i x H H' lt p (wk.yields i H x H' lt sq y)⟩
  · have e : i = n := by omega
    subst e
    exact .inl ⟨wk.stops H sq, hd H p⟩
/-! ### draft_function -/
def kpSc : Nat → List Int → Sc → Sc
  | _, [], sc => sc
  | i, n :: ns, sc => kpSc (i + 1) ns (scPut n (.kept i) sc)
theorem kpSc_snoc (n : Int) : ∀ (ns : List Int) (i : Nat) (sc : Sc), kpSc i (ns ++ [n]) sc = scPut n (.kept (i + ns.length)) (kpSc i ns sc)
  | [], f, sc => rfl
  | m :: ns, f, sc => by
    show kpSc (f + 1) (ns ++ [n]) (scPut m (.kept f) sc) = scPut n (.kept (f + (ns.length + 1))) (kpSc (f + 1) ns (scPut m (.kept f) sc))
    rw [kpSc_snoc n ns (f + 1), show f + 1 + ns.length = f + (ns.length + 1) by omega]
theorem kpSc_len : ∀ (ns : List Int) (f : Nat) (sc : Sc), (kpSc f ns sc).length ≤ sc.length + ns.length
  | [], _, _ => Nat.le_refl _
  | n :: ns, f, sc => by
    have h1 := kpSc_len ns (f + 1) (scPut n (.kept f) sc)
    have h2 := scPut_len n (.kept f) sc
    show (kpSc (f + 1) ns (scPut n (.kept f) sc)).length ≤ sc.length + (ns.length + 1)
    omega
/-- the scope within a function -/
def fnSc (t : Tr) : Sc := letSc 0 (bnd t) (kpSc 0 (outT t) [])
/-- where the kept values are read outside -/
def ssOf (sc : Sc) : List Int → Option (List Src)
  | [] => some []
  | n :: ns => match scGet n sc, ssOf sc ns with
    | some s, some ss => some (s :: ss)
    | _, _ => none
theorem ssOf_get {sc : Sc} : ∀ {ns : List Int} {ss : List Src} {i : Nat} {n : Int}, ssOf sc ns = some ss → ns[i]? = some n → ∃ s, scGet n sc = some s ∧ ss[i]? = some s
  | [], _, _, _, _, e => by simp at e
  | m :: ns, ss, i, n, h, e => by
    unfold ssOf at h
    cases h1 : scGet m sc with
    | none => rw [h1] at h; cases h
    | some s =>
      cases h2 : ssOf sc ns with
      | none => rw [h1, h2] at h; cases h
      | some r =>
        rw [h1, h2] at h
        cases h
        cases i with
        | zero => cases e; exact ⟨s, h1, rfl⟩
        | succ i =>
          obtain ⟨u, e1, e2⟩ := ssOf_get (i := i) h2 (by simpa using e)
          exact ⟨u, e1, by simpa using e2⟩
theorem ssOf_len {sc : Sc} : ∀ {ns : List Int} {ss : List Src}, ssOf sc ns = some ss → ss.length = ns.length
  | [], _, h => by cases h; rfl
  | m :: ns, ss, h => by
    unfold ssOf at h
    cases h1 : scGet m sc with
    | none => rw [h1] at h; cases h
    | some s =>
      cases h2 : ssOf sc ns with
      | none => rw [h1, h2] at h; cases h
      | some r =>
        rw [h1, h2] at h
        cases h
        rw [List.length_cons, List.length_cons, ssOf_len h2]
theorem RSs.snoc {H : Hp} : ∀ {vs : List V} {ss : List Src} {v : V} {s : Src}, RSs H vs ss → RSr H v s → RSs H (vs ++ [v]) (ss ++ [s])
  | _, _, _, _, .nil, h => .cons h .nil
  | _, _, _, _, .cons g r, h => .cons g (RSs.snoc r h)
theorem RSs.len {H : Hp} : ∀ {vs : List V} {ss : List Src}, RSs H vs ss → vs.length = ss.length
  | _, _, .nil => rfl
  | _, _, .cons _ r => congrArg (· + 1) (RSs.len r)
abbrev sDf : Stmt := top 6
abbrev NDf : List Str := ["drafts", "core", "scope", "kept", "inside", "at", "number"]
def spDf (CD : Addr) : Sp := fun vs H Q _ => ∃ (X : Addr → Prop) (DL e : Addr) (ds : List V) (c : V) (ns : List Int) (b : Tr) (sc : Sc) (ss : List Src), vs = [.ref DL, c, .ref e] ∧ H DL = some (.lst ds) ∧ ds.length < 1000000 ∧ X DL ∧ (∀ q, X q → H q ≠ none) ∧ RT H c (.fn ns b) ∧ widT (.fn ns b) ∧ depT (.fn ns b) ≤ 900 ∧ szT (.fn ns b) ≤ 900000 ∧
  (outT (.fn ns b)).length ≤ 900000 ∧ SDk X H e sc ∧ ssOf sc (outT (.fn ns b)) = some ss ∧
  ∀ r x dx cb e' L G H', Fr (fun q => q = DL) H H' → H x = none → H L = none → H G = none → x ≠ L → x ≠ G → L ≠ G → H' DL = some (.lst (ds ++ [.ref x])) → H' x = some (.ins CD dx (dfl ns.length ns.length cb e' L G)) → H' L = some (.lst []) → H' G = some (.lst []) →
    RT H' cb b → SDk X H' e' (fnSc (.fn ns b)) → H e' = none → RDi H' r (.fn ds.length ss) → Q r H'
section
variable {P : Program} {w : World} {K : PySem.W.Frag} {mg : Str → Option Value} {base : Heap} {CD : Addr}
theorem scDf : FnScope NDf ["drafts", "core", "scope"] (defScope sDf) := ⟨rfl, rfl, rfl, by decide +kernel, rfl, by decide +kernel, by decide +kernel⟩
theorem ok_df {f fO fI : Addr} {fd dO dI : FuncData} (Fn : Fun K "draft_function" "draft_function" sDf f fd) (B : Blt mg) (B2 : Bl2 mg) (GO : Cal P w K mg base CX0 3 "outer_numbers" ["core"] spOut fO dO) (MD : MkC P w K mg base 1 "Draft" ["self", "parameters", "body", "scope"] (spDrI CD) CD fI dI) : FnOk P w K mg base CX0 4 f fd ["drafts", "core", "scope"] (spDf CD) := by
  refine Fn.ok scDf (fun vs H Q E h => ?_) (fun cdv A outer s H vs Q E hr h => ?_)
  · obtain ⟨X, DL, e, ds, c, ns, b, sc, ss, rfl, _⟩ := h
    rfl
  obtain ⟨X, DL, e, ds, c, ns, b, sc, ss, rfl, hDL, lds, XDL, dom, rt, wt, dt, zt, lo, sd, hss, q⟩ := h
  have nd := scDf.nd
  have hu := hu_of hr
  have r2 := hr.mono (show 2 ≤ 3 by decide)
  have wt0 := wt
  have rt0 := rt
  unfold widT at wt
  cases rt with
  | @fn a l y _ _ ha hl rb =>
  refine ⟨_, (pss_cons (ps_set (i := 3) nd rfl (Or.inl rfl) (pe_call GO.ok hr rfl GO.g GO.k GO.b .nil pass0 (pa_cons (pv 1) pa_nil)))
    (pss_cons (ps_setDc (i := 4) (own := [("at", 5), ("number", 6)]) (g := gTup K 2 (gCons (gName 5) (gCons (gName 6) gNil))) (tt := tYes) rfl nd rfl rfl (sw_trueD rfl rfl rfl (by decide +kernel)) (pi_enum (by rfl) B2.enumerate (pa_cons (pv 3) pa_nil)) (blkOk_by (N := NDf) (sc := defScope sDf) (by decide +kernel)) (fun _ _ _ _ _ => (pg_tup rfl (pgs_cons (pg_name (i := 5) nd rfl (Or.inl rfl) (hf := Or.inr rfl)) (pgs_cons (pg_name (i := 6) nd rfl (Or.inl rfl) (hf := Or.inr rfl)) pgs_nil)))) (fun _ _ _ _ _ => pts_nil) (fun _ _ _ _ _ => (pv 6)) (fun _ _ _ _ _ => (pe_tup (pa_cons pe_str (pa_cons (pv 5) pa_nil)))))
    (pss_cons (ps_for PassesOwn.never rfl (pi_enumT (by rfl) B2.enumerate (pa_cons (pe_ix (r := rIxT K) ix_tup (pv 1) pe_int (fun _ _ => rfl)) pa_nil)) (pg_tup rfl (pgs_cons (pg_name (i := 5) nd rfl (Or.inl rfl)) (pgs_cons (pg_name (i := 6) nd rfl (Or.inl rfl)) pgs_nil)))
      (pss_one (ps_dput hu (pv 4) (pv 6) (pe_tup (pa_cons pe_str (pa_cons (pv 5) pa_nil))) rfl)))
    (pss_cons (ps_expr (pe_bm PySem.F.plainAttrs_list PySem.F.slot_list_append PySem.F.type_list_append mt_append (pv 0) (pa_cons (pe_make (E := fun _ _ _ => False) MD.m MD.ok r2 rfl MD.g MD.b .nil pass0 (pa_cons (pe_callB call_len_seq (by rfl) B.len PySem.boot_len (pa_cons (pe_ix (r := rIxT K) ix_tup (pv 1) pe_int (fun _ _ => rfl)) pa_nil)) (pa_cons (pe_ix (r := rIxT K) ix_tup (pv 1) pe_int (fun _ _ => rfl)) (pa_cons (pv 4) pa_nil)))) pa_nil)))
    (pss_one (ps_ret (pe_tup (pa_cons pe_str (pa_cons (pe_op op_sub (pe_callB call_len_seq (by rfl) B.len PySem.boot_len (pa_cons (pv 0) pa_nil)) pe_int) (pa_cons (pe_callTy call_tuple_of (by rfl) B.tuple (by decide +kernel) (pa_cons (pe_lc (own := [("number", 6)]) (g := gName 6) (tt := tYes) rfl nd (pi_list (pv 3)) (blkOk_by (N := NDf) (sc := defScope sDf) (by decide +kernel)) (fun _ _ _ _ _ => (pg_name (i := 6) nd rfl (Or.inl rfl) (hf := Or.inr rfl))) (fun _ _ _ _ _ => pts_nil) (fun _ _ _ _ _ => (pe_dget hu (pv 2) (pv 6) (fun _ _ => rfl)))) pa_nil)) pa_nil)))))))))), ?_⟩
  refine ⟨_, rfl, _, (.fn ns b), rfl, rt0, wt0, dt, by omega, fun k H1 f1 hk hk1 => ?_⟩
  have hDL1 := f1.keep (fun z => z) rfl hDL
  have ha1 := f1.tup _ _ ha
  have hl1 := f1.tup _ _ hl
  have rb1 := rb.keep f1.tup
  generalize hkk : outT (.fn ns b) = kept at hk1 lo hss q ⊢
  refine ⟨_, rfl, k, _, rfl, SqL.of hk1, fun D hD => ?_⟩
  have fD : Fr No H1 (upd H1 D (.dK [])) := Fr.new hD
  refine dc_it (walk_enum (K := K) (a := k) (xs := kept.map V.int)) (fun i H' => ∃ lvs, H' D = some (.dK lvs) ∧ RSc H' lvs (kpSc 0 (kept.take i) []) ∧ Fr No H1 H') ⟨[], upd_same, by rw [List.take_zero]; exact .nil, fD⟩ (fun i H' _ ⟨_, _, _, g⟩ => SqL.of (g.keep (fun z => z) rfl hk1)) ?_ ?_
  · rintro i v H' H3 hi ⟨lvs, g1, g2, g3⟩ ⟨T, xx, yy, rfl, hT, rfl, exx, eyy⟩
    cases exx
    obtain ⟨n, hn, rfl⟩ := map_at eyy
    have il : i < kept.length := (List.getElem?_eq_some_iff.mp hn).1
    have fT : Fr No H' (upd H' T (.tup [.int (i : Nat), .int n])) := Fr.new hT
    have g1' := fT.keep (fun z => z) rfl g1
    refine ⟨T, _, rfl, SqT.of upd_same, rfl, _, _, rfl, ?_⟩
    refine ⟨_, _, rfl, rfl, rfl, ?_⟩
    generalize upd H' T (.tup [.int (i : Nat), .int n]) = H3 at fT g1' ⊢
    refine ⟨_, rfl, _, rfl, by show 2 ≤ sizeLine; decide, fun s1 hs1 => ?_⟩
    have fs : Fr No H3 (upd H3 s1 (.tup (srcV (.kept i)))) := Fr.new hs1
    have es : upd H3 s1 (.tup (srcV (.kept i))) s1 = some (.tup (srcV (.kept i))) := upd_same
    have g4 := fs.keep (fun z => z) rfl g1'
    have fN := (g3.trans fT).trans fs
    have ll : lvs.length < sizeLine := by
      rw [g2.len]
      have h1 := kpSc_len (kept.take i) 0 []
      rw [List.length_take] at h1
      exact Nat.lt_of_le_of_lt (show _ ≤ 900000 by simp only [List.length_nil] at h1; omega) (by decide)
    refine ⟨lvs, .inl n, rfl, g4, ll, putK lvs (.inl n) (.ref s1), upd_same, ?_, fN.mut hD g4 rfl⟩
    have fm : Fr (fun q => q = D) (upd H3 s1 (.tup (srcV (.kept i)))) (upd (upd H3 s1 (.tup (srcV (.kept i)))) D (.dK (putK lvs (.inl n) (.ref s1)))) := Fr.set rfl g4 rfl
    rw [take_more hn, kpSc_snoc, show 0 + (kept.take i).length = i by rw [List.length_take]; omega]
    exact (((g2.keep fT.tup).keep fs.tup).keep fm.tup).put ⟨s1, rfl, fm.tup _ _ es⟩
  rintro H2 ⟨lvs0, d2, r2', f2⟩
  rw [List.length_map, List.take_length] at r2'
  have hD0 : H D = none := f1.dom hD
  refine ⟨_, rfl, a, _, 1, _, rfl, rfl, SqT.of (f2.tup _ _ ha1), at1 _ _ _, l, _, rfl, SqT.of (f2.tup _ _ hl1), ?_⟩
  refine for_it (walk_enumT (K := K) (a := l) (xs := ns.map V.int)) (fun i σ H' => ∃ (v5 v6 : Option V) (lvs : List (Key × V)), σ = [some (.ref DL), some (.ref a), some (.ref e), some (.ref k), some (.ref D), v5, v6] ∧ H' D = some (.dK lvs) ∧ RSc H' lvs (letSc 0 (ns.take i) (kpSc 0 kept [])) ∧ Fr No H1 H')
    ⟨none, none, lvs0, rfl, d2, r2', f2⟩ (fun i σ H' _ ⟨_, _, _, _, _, _, g⟩ => SqT.of (g.tup _ _ hl1)) ?_ ?_
  · rintro i v σ H' H3 hi ⟨v5, v6, lvs, rfl, g1, g2, g3⟩ ⟨T, xx, yy, rfl, hT, rfl, exx, eyy⟩
    cases exx
    obtain ⟨n, hn, rfl⟩ := map_at eyy
    have il : i < ns.length := (List.getElem?_eq_some_iff.mp hn).1
    have fT : Fr No H' (upd H' T (.tup [.int (i : Nat), .int n])) := Fr.new hT
    have g1' := fT.keep (fun z => z) rfl g1
    refine ⟨T, _, rfl, SqT.of upd_same, rfl, _, _, rfl, ?_⟩
    refine ⟨_, _, rfl, rfl, ?_⟩
    generalize upd H' T (.tup [.int (i : Nat), .int n]) = H3 at fT g1' ⊢
    refine ⟨_, rfl, by show 2 ≤ sizeLine; decide, fun s1 hs1 => ?_⟩
    have fs : Fr No H3 (upd H3 s1 (.tup (srcV (.place i)))) := Fr.new hs1
    have es : upd H3 s1 (.tup (srcV (.place i))) s1 = some (.tup (srcV (.place i))) := upd_same
    have g4 := fs.keep (fun z => z) rfl g1'
    have fN := (g3.trans fT).trans fs
    have ll : lvs.length < sizeLine := by
      rw [g2.len]
      have h1 := letSc_len (ns.take i) 0 (kpSc 0 kept [])
      have h2 := kpSc_len kept 0 []
      rw [List.length_take] at h1
      exact Nat.lt_of_le_of_lt (show _ ≤ 901000 by simp only [List.length_nil] at h2; omega) (by decide)
    refine ⟨_, rfl, _, rfl, D, _, rfl, DPut.k (k := .inl n) g4 ll, ?_⟩
    have fm : Fr (fun q => q = D) (upd H3 s1 (.tup (srcV (.place i)))) (upd (upd H3 s1 (.tup (srcV (.place i)))) D (.dK (putK lvs (.inl n) (.ref s1)))) := Fr.set rfl g4 rfl
    refine ⟨_, _, putK lvs (.inl n) (.ref s1), rfl, upd_same, ?_, fN.mut hD g4 rfl⟩
    rw [take_more hn, letSc_snoc, show 0 + (ns.take i).length = i by rw [List.length_take]; omega]
    exact (((g2.keep fT.tup).keep fs.tup).keep fm.tup).put ⟨s1, rfl, fm.tup _ _ es⟩
  rintro σ H3 ⟨v5, v6, lvs, rfl, d3, r3, f3⟩
  rw [List.length_map, List.take_length] at r3
  have hDL3 := f3.keep (fun z => z) rfl hDL1
  have f03 := f1.trans f3
  refine ⟨_, rfl, .inl ⟨rfl, _, SqL.of hDL3⟩, _, rfl, a, _, 1, _, rfl, rfl, SqT.of (f3.tup _ _ ha1), at1 _ _ _, l, _, rfl, .inr (SqT.of (f3.tup _ _ hl1)), _, rfl, a, _, 2, _, rfl, rfl, SqT.of (f3.tup _ _ ha1), atI_nat (j := 2) rfl, _, rfl, ?_⟩
  refine fun x dx hx hdx ne => ⟨x, dx, D, ((ns.map V.int).length : Nat), y, rfl, upd_same, fun L G H5 hL hG nLG f5 e5L e5G e5x => ⟨rfl, ?_⟩⟩
  rw [List.length_map] at e5x
  have f35 : Fr No H3 H5 := (mk_fr hx hdx ne).drop f5 fun q z => by rw [z]; exact hx
  have f05 := f03.trans f35
  have hDL5 := f35.keep (fun z => z) rfl hDL3
  refine ⟨DL, ds, _, rfl, rfl, hDL5, Nat.lt_trans lds (by decide), ?_⟩
  have f6 : Fr (fun q => q = DL) H5 (upd H5 DL (.lst (ds ++ [.ref x]))) := Fr.set rfl hDL5 rfl
  have e6 : upd H5 DL (.lst (ds ++ [.ref x])) DL = some (.lst (ds ++ [.ref x])) := upd_same
  have nDL : ∀ {q : Addr}, H q = none → q ≠ DL := fun {q} z e => by rw [e, hDL] at z; cases z
  have hx0 : H x = none := f03.dom hx
  have hxx : ∀ {q : Addr}, (upd (upd H3 dx (.own x)) x (.ins CD dx [])) q = none → H q = none ∧ x ≠ q := fun {q} z => ⟨f03.dom ((mk_fr (X := No) hx hdx ne).dom z), fun e => by rw [← e, upd_same] at z; cases z⟩
  obtain ⟨hL0, nxL⟩ := hxx hL
  obtain ⟨hG0, nxG⟩ := hxx hG
  have f06 : Fr (fun q => q = DL) H (upd H5 DL (.lst (ds ++ [.ref x]))) := f05.no.trans f6
  have x6 : upd H5 DL (.lst (ds ++ [.ref x])) x = some (.ins CD dx (dfl ns.length ns.length y D L G)) := by rw [upd_ne (nDL hx0)]; exact e5x
  have L6 : upd H5 DL (.lst (ds ++ [.ref x])) L = some (.lst []) := by rw [upd_ne (nDL hL0)]; exact e5L
  have G6 : upd H5 DL (.lst (ds ++ [.ref x])) G = some (.lst []) := by rw [upd_ne (nDL hG0)]; exact e5G
  have k6 : upd H5 DL (.lst (ds ++ [.ref x])) k = some (.lst (kept.map V.int)) := by
    rw [upd_ne (nDL hk)]
    exact (f3.trans f35).keep (fun z => z) rfl hk1
  have d6 : upd H5 DL (.lst (ds ++ [.ref x])) D = some (.dK lvs) := by
    rw [upd_ne (nDL hD0)]
    exact f35.keep (fun z => z) rfl d3
  have r6 := (r3.keep f35.tup).keep f6.tup
  have rb6 := (rb1.keep (f3.trans f35).tup).keep f6.tup
  have sd6 := sd.fr (f06.wide fun q z => by rw [z]; exact XDL)
  have hDX : ¬ X D := fun z => dom D z hD0
  generalize upd H5 DL (.lst (ds ++ [.ref x])) = H6 at f6 e6 f06 x6 L6 G6 k6 d6 r6 rb6 sd6 ⊢
  obtain ⟨kv, s1, s2, s3, s4⟩ := sd6
  have en : (((ds ++ [V.ref x]).length : Nat) : Int) - 1 = (ds.length : Int) := by
    rw [List.length_append]
    show ((ds.length + 1 : Nat) : Int) - 1 = _
    omega
  refine ⟨_, rfl, DL, _, rfl, .inl (SqL.of e6), _, _, rfl, rfl, _, rfl, k, rfl, ⟨_, SqL.of k6⟩, fun D2 hD2 => ?_⟩
  have lss := ssOf_len hss
  refine lc_list (xs := kept.map V.int) (fun i H' => ∃ ws, H' D2 = some (.lst ws) ∧ RSs H' ws (ss.take i) ∧ ws.length = i ∧ Fr No H6 H') ⟨[], upd_same, by rw [List.take_zero]; exact .nil, rfl, Fr.new hD2⟩ (fun i H' _ ⟨_, _, _, _, g⟩ => SqL.of (g.keep (fun z => z) rfl k6)) ?_ ?_
  · rintro i y' H' hi ⟨ws, h1, h2, h3, h4⟩
    obtain ⟨n, hn, rfl⟩ := map_at hi
    have il : i < kept.length := (List.getElem?_eq_some_iff.mp hn).1
    obtain ⟨u, g1, g2⟩ := ssOf_get hss hn
    obtain ⟨v, v1, v2⟩ := s3.get g1
    have dg := DGet.k (k := (.inl n : Key)) (h4.keep (fun z => z) rfl s1)
    rw [v1] at dg
    have fm : Fr (fun q => q = D2) H' (upd H' D2 (.lst (ws ++ [v]))) := Fr.set rfl h1 rfl
    refine ⟨rfl, _, rfl, _, rfl, e, _, rfl, dg, ws, h1, Nat.lt_of_le_of_lt (show ws.length ≤ 900000 by omega) (by decide), ws ++ [v], upd_same, ?_, by simp [h3], h4.mut hD2 h1 rfl⟩
    rw [take_more g2]
    exact (h2.keep fm.tup).snoc ((v2.keep h4.tup).keep fm.tup)
  rintro H7 ⟨ws, h1, h2, h3, h4⟩
  rw [List.length_map, ← lss, List.take_length] at h2
  refine ⟨D2, ws, rfl, .inl ⟨SqL.of h1, fun q1 hq1 => ⟨by show 3 ≤ sizeLine; decide, fun r hr => ?_⟩⟩⟩
  have f8 : Fr No H7 (upd H7 q1 (.tup ws)) := Fr.new hq1
  have f9 : Fr No (upd H7 q1 (.tup ws)) (upd (upd H7 q1 (.tup ws)) r (.tup [.str "fn", .int (((ds ++ [V.ref x]).length : Nat) - 1), .ref q1])) := Fr.new hr
  have f89 := f8.trans f9
  have f69 := h4.trans f89
  refine q (.ref r) x dx y D L G _ (f06.trans f69.no) hx0 hL0 hG0 nxL nxG nLG (f69.keep (fun z => z) rfl e6) (f69.keep (fun z => z) rfl x6) (f69.keep (fun z => z) rfl L6) (f69.keep (fun z => z) rfl G6) (rb6.keep f69.tup) ⟨lvs, f69.keep (fun z => z) rfl d6, hDX, ?_, ?_⟩ hD0 (.fn (q := q1) (vs := ws) ?_ (f9.tup _ _ upd_same) (h2.keep f89.tup))
  · unfold fnSc
    rw [hkk]
    exact r6.keep f69.tup
  · unfold fnSc
    rw [hkk]
    have h1 := letSc_len ns 0 (kpSc 0 kept [])
    have h2 := kpSc_len kept 0 []
    show (letSc 0 ns (kpSc 0 kept [])).length ≤ 1000000
    simp only [List.length_nil] at h2
    omega
  · rw [← en]
    exact upd_same
end
end My
namespace My
open PySem PySem.Spec PyProof.Rows L2 TL
/-! ### final_instruction, final_code -/
def wordS : Src → Str
  | .place _ => "place"
  | .kept _ => "kept"
def wordD : DIn → Str
  | .int _ => "int" | .prim _ => "prim" | .glob _ _ => "global" | .src s => wordS s | .fn _ _ => "fn" | .put _ => "put" | .jump _ => "jump" | .unless _ => "unless" | .call _ => "call" | .tail _ => "tail" | .end_ => "end"
theorem RDi.head {H : Hp} {v : V} {d : DIn} (r : RDi H v d) : ∃ (a : Addr) (xs : List V), v = .ref a ∧ H a = some (.tup (.str (wordD d) :: xs)) := by
  cases r with
  | int h => exact ⟨_, _, rfl, h⟩
  | prim h => exact ⟨_, _, rfl, h⟩
  | glob h => exact ⟨_, _, rfl, h⟩
  | @src a s h =>
    cases s with
    | place n => exact ⟨_, _, rfl, h⟩
    | kept n => exact ⟨_, _, rfl, h⟩
  | fn h => exact ⟨_, _, rfl, h⟩
  | put h => exact ⟨_, _, rfl, h⟩
  | jump h => exact ⟨_, _, rfl, h⟩
  | «unless» h => exact ⟨_, _, rfl, h⟩
  | call h => exact ⟨_, _, rfl, h⟩
  | tail h => exact ⟨_, _, rfl, h⟩
  | end_ h => exact ⟨_, _, rfl, h⟩
def RTg (v : V) (o : Option Nat) : Prop := match o with
  | none => v = .non
  | some n => v = .int (n : Nat)
/-- the codes that are done -/
def CdR (H : Hp) (kvs : List (Key × V)) (cs : Nat → Option Code) : Prop := ∀ k c, cs k = some c → ∃ v, valV kvs (.inl (k : Int)) = some v ∧ RC H v c
def finI (tgs : List (Option Nat)) (cs : Nat → Option Code) : DIn → Option Ins
  | .int i => some (.int i)
  | .prim p => some (.prim p)
  | .glob m x => some (.glob m x)
  | .src s => some (.src s)
  | .fn k ss => (cs k).map fun c => .fn c ss
  | .put n => some (.put n)
  | .jump l => match tgs[l]? with | some (some n) => some (.jump n) | _ => none
  | .unless l => match tgs[l]? with | some (some n) => some (.unless n) | _ => none
  | .call n => some (.call n)
  | .tail n => some (.tail n)
  | .end_ => some .end_
theorem finI_fn (tgs : List (Option Nat)) (cs : Nat → Option Code) (k : Nat) (ss : List Src) : finI tgs cs (.fn k ss) = (cs k).map fun c => .fn c ss := rfl
theorem finI_jump (tgs : List (Option Nat)) (cs : Nat → Option Code) (l : Nat) : finI tgs cs (.jump l) = match tgs[l]? with | some (some n) => some (.jump n) | _ => none := rfl
theorem finI_unless (tgs : List (Option Nat)) (cs : Nat → Option Code) (l : Nat) : finI tgs cs (.unless l) = match tgs[l]? with | some (some n) => some (.unless n) | _ => none := rfl
abbrev sFi : Stmt := top 13
abbrev NFi : List Str := ["draft", "codes", "instruction", "word"]
def spFi (CD : Addr) : Sp := fun vs H Q _ => ∃ (x dx cd e L G : Addr) (p l : Int) (cb v : V) (gs : List V) (tgs : List (Option Nat)) (kvs : List (Key × V)) (cs : Nat → Option Code) (d : DIn) (i : Ins), vs = [.ref x, .ref cd, v] ∧ H x = some (.ins CD dx (dfl p l cb e L G)) ∧ H G = some (.lst gs) ∧ Als RTg gs tgs ∧
  H cd = some (.dK kvs) ∧ CdR H kvs cs ∧ RDi H v d ∧ finI tgs cs d = some i ∧ ∀ u H', Fr No H H' → RI H' u i → Q u H'
section
variable {P : Program} {w : World} {K : PySem.W.Frag} {mg : Str → Option Value} {base : Heap} {CD : Addr}
theorem scFi : FnScope NFi ["draft", "codes", "instruction"] (defScope sFi) := ⟨rfl, rfl, rfl, by decide +kernel, rfl, by decide +kernel, by decide +kernel⟩
theorem ok_fi {f : Addr} {fd : FuncData} (F : Fun K "final_instruction" "final_instruction" sFi f fd) (U : FldC K CD fD6) : FnOk P w K mg base CX0 1 f fd ["draft", "codes", "instruction"] (spFi CD) := by
  refine F.ok scFi (fun vs H Q E h => ?_) (fun cdv A outer s H vs Q E hr h => ?_)
  · obtain ⟨x, dx, cd, e, L, G, p, l, cb, v, gs, tgs, kvs, cs, d, i, rfl, _⟩ := h
    rfl
  obtain ⟨x, dx, cd, e, L, G, p, l, cb, v, gs, tgs, kvs, cs, d, i, rfl, hx, hG, rg, hcd, rc, rd, ei, q⟩ := h
  have nd := scFi.nd
  have hu := hu_of hr
  obtain ⟨a, xs, rfl, ha⟩ := rd.head
  refine ⟨_, (pss_cons (ps_set (i := 3) nd rfl (Or.inl rfl) (pe_ix (r := rIxT K) ix_tup (pv 2) pe_int (fun _ _ => rfl)))
    (pss_cons (ps_if (pt_cmpR op_eq (pv 3) pe_str (nomark _)) (pss_one (ps_ret (pe_tup (pa_cons pe_str (pa_cons (pe_dget hu (pv 1) (pe_ix (r := rIxT K) ix_tup (pv 2) pe_int (fun _ _ => rfl)) (fun _ _ => rfl)) (pa_cons (pe_ix (r := rIxT K) ix_tup (pv 2) pe_int (fun _ _ => rfl)) pa_nil)))))) pss_nil)
    (pss_cons (ps_if (pt_cmpR op_in_seq (pv 3) (pe_tup (pa_cons pe_str (pa_cons pe_str pa_nil))) (by rfl)) (pss_one (ps_ret (pe_tup (pa_cons (pv 3) (pa_cons (pe_ix (r := rIxL K) ix_list (pe_fld (pv 0) rfl) (pe_ix (r := rIxT K) ix_tup (pv 2) pe_int (fun _ _ => rfl)) (fun _ _ => rfl)) pa_nil))))) pss_nil)
    (pss_one (ps_ret (pv 2)))))), ?_⟩
  refine ⟨_, rfl, a, _, 0, _, rfl, rfl, SqT.of ha, at0 _ _, ?_⟩
  refine ev_eqs rfl ?_
  refine ite2 (fun c => ?_) (fun c => ?_)
  · have wf : wordD d = "fn" := of_decide_eq_true c
    cases rd with
    | @fn _ q0 k vs ss h hq rs =>
      rw [finI_fn] at ei
      cases hc : cs k with
      | none => rw [hc] at ei; cases ei
      | some c0 =>
      rw [hc] at ei
      cases ei
      obtain ⟨u, hu', ru⟩ := rc _ _ hc
      have dg := DGet.k (k := (.inl (k : Int) : Key)) hcd
      rw [hu'] at dg
      refine ⟨_, rfl, _, rfl, a, _, 1, _, rfl, rfl, SqT.of h, at1 _ _ _, cd, _, rfl, dg, _, rfl, a, _, 2, _, rfl, rfl, SqT.of h, atI_nat (j := 2) rfl, by show 3 ≤ sizeLine; decide, fun t ht => ?_⟩
      have f : Fr No H (upd H t (.tup [.str "fn", u, .ref q0])) := Fr.new ht
      exact q _ _ f (.fn upd_same (f.tup _ _ hq) (ru.keep f.tup) (rs.keep f.tup))
    | @src _ s h =>
      cases s with
      | place n => exact absurd wf (show ¬ ("place" : Str) = "fn" by decide +kernel)
      | kept n => exact absurd wf (show ¬ ("kept" : Str) = "fn" by decide +kernel)
    | int h => exact absurd wf (show ¬ ("int" : Str) = "fn" by decide +kernel)
    | prim h => exact absurd wf (show ¬ ("prim" : Str) = "fn" by decide +kernel)
    | glob h => exact absurd wf (show ¬ ("global" : Str) = "fn" by decide +kernel)
    | put h => exact absurd wf (show ¬ ("put" : Str) = "fn" by decide +kernel)
    | jump h => exact absurd wf (show ¬ ("jump" : Str) = "fn" by decide +kernel)
    | «unless» h => exact absurd wf (show ¬ ("unless" : Str) = "fn" by decide +kernel)
    | call h => exact absurd wf (show ¬ ("call" : Str) = "fn" by decide +kernel)
    | tail h => exact absurd wf (show ¬ ("tail" : Str) = "fn" by decide +kernel)
    | end_ h => exact absurd wf (show ¬ ("end" : Str) = "fn" by decide +kernel)
  have nf : ¬ wordD d = "fn" := fun z => c (decide_eq_true z)
  refine ⟨_, rfl, by show 2 ≤ sizeLine; decide, fun t ht => ⟨t, _, rfl, .inr (SqT.of upd_same), rfl, rfl, _, rfl, ?_⟩⟩
  have f1 : Fr No H (upd H t (.tup [.str "jump", .str "unless"])) := Fr.new ht
  have ein : inV (.str (wordD d)) [.str "jump", .str "unless"] = decide (wordD d ∈ (["jump", "unless"] : List Str)) := inV_strs (wordD d) ["jump", "unless"]
  rw [if_neg Bool.false_ne_true, ein]
  have hx1 := f1.keep (fun z => z) rfl hx
  have hG1 := f1.keep (fun z => z) rfl hG
  have rd1 := rd.keep f1.tup
  generalize upd H t (.tup [.str "jump", .str "unless"]) = H1 at f1 hx1 hG1 rd1 ⊢
  refine ite2 (fun c2 => ?_) (fun c2 => ?_)
  · have m : wordD d ∈ (["jump", "unless"] : List Str) := of_decide_eq_true c2
    have jmp : ∀ (lb n : Nat), tgs[lb]? = some (some n) → ∃ v, gs[lb]? = some v ∧ v = .int (n : Nat) := fun lb n hl => by
      have lt : lb < gs.length := by rw [rg.len]; exact (List.getElem?_eq_some_iff.mp hl).1
      obtain ⟨o, h1, h2⟩ := rg.get (List.getElem?_eq_getElem lt)
      rw [hl] at h1
      cases h1
      exact ⟨_, List.getElem?_eq_getElem lt, h2⟩
    cases rd1 with
    | @jump _ lb h =>
      rw [finI_jump] at ei
      cases hl : tgs[lb]? with
      | none => rw [hl] at ei; cases ei
      | some o =>
      cases o with
      | none => rw [hl] at ei; cases ei
      | some n =>
      rw [hl] at ei
      cases ei
      obtain ⟨v, hv, rfl⟩ := jmp lb n hl
      refine ⟨_, rfl, _, rfl, x, CD, dx, _, _, rfl, hx1, U.c, U.n _ (by simp), rfl, _, rfl, a, _, 1, _, rfl, rfl, SqT.of h, at1 _ _ _, G, _, _, _, rfl, rfl, SqL.of hG1, atI_nat hv, by show 2 ≤ sizeLine; decide, fun r hr' => ?_⟩
      exact q _ _ (f1.trans (Fr.new hr')) (.jump upd_same)
    | @«unless» _ lb h =>
      rw [finI_unless] at ei
      cases hl : tgs[lb]? with
      | none => rw [hl] at ei; cases ei
      | some o =>
      cases o with
      | none => rw [hl] at ei; cases ei
      | some n =>
      rw [hl] at ei
      cases ei
      obtain ⟨v, hv, rfl⟩ := jmp lb n hl
      refine ⟨_, rfl, _, rfl, x, CD, dx, _, _, rfl, hx1, U.c, U.n _ (by simp), rfl, _, rfl, a, _, 1, _, rfl, rfl, SqT.of h, at1 _ _ _, G, _, _, _, rfl, rfl, SqL.of hG1, atI_nat hv, by show 2 ≤ sizeLine; decide, fun r hr' => ?_⟩
      exact q _ _ (f1.trans (Fr.new hr')) (.unless upd_same)
    | @src _ s h =>
      cases s with
      | place n => exact absurd m (show ¬ ("place" : Str) ∈ (["jump", "unless"] : List Str) by decide +kernel)
      | kept n => exact absurd m (show ¬ ("kept" : Str) ∈ (["jump", "unless"] : List Str) by decide +kernel)
    | int h => exact absurd m (show ¬ ("int" : Str) ∈ (["jump", "unless"] : List Str) by decide +kernel)
    | prim h => exact absurd m (show ¬ ("prim" : Str) ∈ (["jump", "unless"] : List Str) by decide +kernel)
    | glob h => exact absurd m (show ¬ ("global" : Str) ∈ (["jump", "unless"] : List Str) by decide +kernel)
    | fn h hq rs => exact absurd m (show ¬ ("fn" : Str) ∈ (["jump", "unless"] : List Str) by decide +kernel)
    | put h => exact absurd m (show ¬ ("put" : Str) ∈ (["jump", "unless"] : List Str) by decide +kernel)
    | call h => exact absurd m (show ¬ ("call" : Str) ∈ (["jump", "unless"] : List Str) by decide +kernel)
    | tail h => exact absurd m (show ¬ ("tail" : Str) ∈ (["jump", "unless"] : List Str) by decide +kernel)
    | end_ h => exact absurd m (show ¬ ("end" : Str) ∈ (["jump", "unless"] : List Str) by decide +kernel)
  have nm : ¬ wordD d ∈ (["jump", "unless"] : List Str) := fun z => c2 (decide_eq_true z)
  refine ⟨_, rfl, ?_⟩
  cases rd1 with
  | int h => cases ei; exact q _ _ f1 (.int h)
  | prim h => cases ei; exact q _ _ f1 (.prim h)
  | glob h => cases ei; exact q _ _ f1 (.glob h)
  | src h => cases ei; exact q _ _ f1 (.src h)
  | put h => cases ei; exact q _ _ f1 (.put h)
  | call h => cases ei; exact q _ _ f1 (.call h)
  | tail h => cases ei; exact q _ _ f1 (.tail h)
  | end_ h => cases ei; exact q _ _ f1 (.end_ h)
  | fn h hq rs => exact absurd rfl nf
  | jump h => exact absurd List.mem_cons_self nm
  | «unless» h => exact absurd (List.mem_cons_of_mem _ List.mem_cons_self) nm
end
end My
namespace My
open PySem PySem.Spec PyProof.Rows L2 TL
/-! ### if_pieces -/
def ifP (a b c : Tr) (sc : Sc) (last : Bool) (n : Nat) : List Pc :=
  if last = true then [.tree a sc false, .write (.unless n), .tree b sc true, .label n, .tree c sc true]
  else [.tree a sc false, .write (.unless n), .tree b sc false, .write (.jump (n + 1)), .label n, .tree c sc false, .label (n + 1)]
def ifG {α : Type} (last : Bool) (gs : List α) (x : α) : List α := if last = true then gs ++ [x] else gs ++ [x] ++ [x]
abbrev sIf : Stmt := top 9
abbrev NIf : List Str := ["draft", "core", "scope", "last", "no", "pieces", "other", "behind"]
def spIf (CD : Addr) : Sp := fun vs H Q _ => ∃ (X : Addr → Prop) (x dx e e0 L G : Addr) (p l : Int) (cb c : V) (a b d : Tr) (gs : List V) (sc : Sc) (last : Bool), vs = [.ref x, c, .ref e, .bl last] ∧ H x = some (.ins CD dx (dfl p l cb e0 L G)) ∧ H G = some (.lst gs) ∧ gs.length ≤ 900000 ∧ X G ∧
  RT H c (.if_ a b d) ∧ widT (.if_ a b d) ∧ SDk X H e sc ∧
  ∀ o us H', Fr (fun q => q = G) H H' → H' G = some (.lst (ifG last gs .non)) → H o = none → H' o = some (.lst us) → Als (RPc X H') us (ifP a b d sc last gs.length) → Q (.ref o) H'
section
variable {P : Program} {w : World} {K : PySem.W.Frag} {mg : Str → Option Value} {base : Heap} {CD : Addr}
theorem scIf : FnScope NIf ["draft", "core", "scope", "last"] (defScope sIf) := ⟨rfl, rfl, rfl, by decide +kernel, rfl, by decide +kernel, by decide +kernel⟩
theorem ok_if {f fL : Addr} {fd dL : FuncData} (Fn : Fun K "if_pieces" "if_pieces" sIf f fd) (B : Blt mg) (ML : MCal P w K mg base CX0 1 CD "new_label" ["self"] (spDrL CD) fL dL) : FnOk P w K mg base CX0 2 f fd ["draft", "core", "scope", "last"] (spIf CD) := by
  refine Fn.ok scIf (fun vs H Q E h => ?_) (fun cdv A outer s H vs Q E hr h => ?_)
  · obtain ⟨X, x, dx, e, e0, L, G, p, l, cb, c, a, b, d, gs, sc, last, rfl, _⟩ := h
    rfl
  obtain ⟨X, x, dx, e, e0, L, G, p, l, cb, c, a1, b1, d1, gs, sc, last, rfl, hx, hG, lg, XG, rt, wt, sd, q⟩ := h
  have nd := scIf.nd
  have hu := hu_of hr
  unfold widT at wt
  obtain ⟨w1, w2, w3⟩ := wt
  cases rt with
  | @if_ a y1 y2 y3 _ _ _ ha r1 r2 r3 =>
  refine ⟨_, (pss_cons (ps_set (i := 4) nd rfl (Or.inl rfl) (pe_meth0 (pv 0) ML.c ML.m ML.ok hr ML.b .nil pass0))
    (pss_cons (ps_set (i := 5) nd rfl (Or.inl rfl) (pe_lst (pa_cons (pe_tup (pa_cons pe_str (pa_cons (pe_ix (r := rIxT K) ix_tup (pv 1) pe_int (fun _ _ => rfl)) (pa_cons (pv 2) (pa_cons pe_bl pa_nil))))) (pa_cons (pe_tup (pa_cons pe_str (pa_cons (pe_tup (pa_cons pe_str (pa_cons (pv 4) pa_nil))) pa_nil))) (pa_cons (pe_tup (pa_cons pe_str (pa_cons (pe_ix (r := rIxT K) ix_tup (pv 1) pe_int (fun _ _ => rfl)) (pa_cons (pv 2) (pa_cons (pv 3) pa_nil))))) pa_nil)))))
    (pss_cons (ps_set (i := 6) nd rfl (Or.inl rfl) (pe_lst (pa_cons (pe_tup (pa_cons pe_str (pa_cons (pv 4) pa_nil))) (pa_cons (pe_tup (pa_cons pe_str (pa_cons (pe_ix (r := rIxT K) ix_tup (pv 1) pe_int (fun _ _ => rfl)) (pa_cons (pv 2) (pa_cons (pv 3) pa_nil))))) pa_nil))))
    (pss_cons (ps_if (pt_val (pv 3)) (pss_one (ps_ret (pe_op op_cat (pv 5) (pv 6)))) pss_nil)
    (pss_cons (ps_set (i := 7) nd rfl (Or.inl rfl) (pe_meth0 (pv 0) ML.c ML.m ML.ok hr ML.b .nil pass0))
    (pss_one (ps_ret (pe_lst (StX.pa_star (pv 5) (pa_cons (pe_tup (pa_cons pe_str (pa_cons (pe_tup (pa_cons pe_str (pa_cons (pv 7) pa_nil))) pa_nil))) (StX.pa_star (pv 6) (pa_cons (pe_tup (pa_cons pe_str (pa_cons (pv 7) pa_nil))) pa_nil)))))))))))), ?_⟩
  refine ⟨_, rfl, x, dx, _, rfl, hx, rfl, x, dx, e0, L, G, p, l, cb, gs, rfl, hx, hG, Nat.le_trans lg (by decide), ?_⟩
  have fG : Fr (fun q => q = G) H (upd H G (.lst (gs ++ [.non]))) := Fr.set rfl hG rfl
  have nx : x ≠ G := ne_of hx hG fun z => by cases z
  have g1 : upd H G (.lst (gs ++ [.non])) G = some (.lst (gs ++ [.non])) := upd_same
  have hx1 : upd H G (.lst (gs ++ [.non])) x = some (.ins CD dx (dfl p l cb e0 L G)) := by rw [upd_ne nx]; exact hx
  have ha1 := fG.tup _ _ ha
  have r1 := r1.keep fG.tup
  have r2 := r2.keep fG.tup
  have r3 := r3.keep fG.tup
  have sd1 := sd.fr (fG.wide fun q z => by rw [z]; exact XG)
  generalize upd H G (.lst (gs ++ [.non])) = H1 at fG g1 hx1 ha1 r1 r2 r3 sd1 ⊢
  refine ⟨_, rfl, a, _, 1, _, rfl, rfl, SqT.of ha1, at1 _ _ _, _, rfl, by show 4 ≤ sizeLine; decide, fun s1 hs1 => ⟨_, rfl, by show 2 ≤ sizeLine; decide, fun s2 hs2 => ⟨by show 2 ≤ sizeLine; decide, fun s3 hs3 => ?_⟩⟩⟩
  have f1 := Fr.new (X := No) (o := .tup [.str "tree", y1, .ref e, .bl false]) hs1
  have f2 := Fr.new (X := No) (o := .tup [.str "unless", .int (gs.length : Nat)]) hs2
  have f3 := Fr.new (X := No) (o := .tup [.str "write", .ref s2]) hs3
  have k3 := f1.trans (f2.trans f3)
  refine ⟨_, rfl, a, _, 2, _, rfl, rfl, SqT.of (k3.tup _ _ ha1), atI_nat (j := 2) rfl, _, rfl, _, rfl, by show 4 ≤ sizeLine; decide, fun s4 hs4 => ⟨by show 3 ≤ sizeLine; decide, fun o1 ho1 => ?_⟩⟩
  have f4 := Fr.new (X := No) (o := .tup [.str "tree", y2, .ref e, .bl last]) hs4
  have f5 := Fr.new (X := No) (o := .lst [V.ref s1, .ref s3, .ref s4]) ho1
  have k5 := k3.trans (f4.trans f5)
  have e1 := (f2.trans (f3.trans (f4.trans f5))).tup _ _ upd_same
  have e2 := (f3.trans (f4.trans f5)).tup _ _ upd_same
  have e3 := (f4.trans f5).tup _ _ upd_same
  have e4 := f5.tup _ _ upd_same
  have eo1 : (upd (upd (upd (upd (upd H1 s1 (.tup [.str "tree", y1, .ref e, .bl false])) s2 (.tup [.str "unless", .int (gs.length : Nat)])) s3 (.tup [.str "write", .ref s2])) s4 (.tup [.str "tree", y2, .ref e, .bl last])) o1 (.lst [V.ref s1, .ref s3, .ref s4])) o1 = some (.lst [V.ref s1, .ref s3, .ref s4]) := upd_same
  have ho1' := (f1.trans (f2.trans (f3.trans f4))).dom ho1
  generalize (upd (upd (upd (upd (upd H1 s1 (.tup [.str "tree", y1, .ref e, .bl false])) s2 (.tup [.str "unless", .int (gs.length : Nat)])) s3 (.tup [.str "write", .ref s2])) s4 (.tup [.str "tree", y2, .ref e, .bl last])) o1 (.lst [V.ref s1, .ref s3, .ref s4])) = H2 at k5 e1 e2 e3 e4 eo1 ⊢
  refine ⟨_, rfl, by show 2 ≤ sizeLine; decide, fun s5 hs5 => ⟨_, rfl, a, _, 3, _, rfl, rfl, SqT.of ((Fr.new (X := No) hs5).tup _ _ (k5.tup _ _ ha1)), atI_nat (j := 3) rfl, _, rfl, _, rfl, by show 4 ≤ sizeLine; decide, fun s6 hs6 => ⟨by show 2 ≤ sizeLine; decide, fun o2 ho2 => ?_⟩⟩⟩
  have f6 := Fr.new (X := No) (o := .tup [.str "label", .int (gs.length : Nat)]) hs5
  have f7 := Fr.new (X := No) (o := .tup [.str "tree", y3, .ref e, .bl last]) hs6
  have f8 := Fr.new (X := No) (o := .lst [V.ref s5, .ref s6]) ho2
  have k8 := f6.trans (f7.trans f8)
  have e5 := (f7.trans f8).tup _ _ upd_same
  have e6 := f8.tup _ _ upd_same
  have eo2 : (upd (upd (upd H2 s5 (.tup [.str "label", .int (gs.length : Nat)])) s6 (.tup [.str "tree", y3, .ref e, .bl last])) o2 (.lst [V.ref s5, .ref s6])) o2 = some (.lst [V.ref s5, .ref s6]) := upd_same
  generalize (upd (upd (upd H2 s5 (.tup [.str "label", .int (gs.length : Nat)])) s6 (.tup [.str "tree", y3, .ref e, .bl last])) o2 (.lst [V.ref s5, .ref s6])) = H3 at k8 e5 e6 eo2 ⊢
  have kk := k5.trans k8
  have e1 := k8.tup _ _ e1
  have e2 := k8.tup _ _ e2
  have e3 := k8.tup _ _ e3
  have e4 := k8.tup _ _ e4
  have eo1 := k8.keep (fun z => z) rfl eo1
  have g3 := kk.keep (fun z => z) rfl g1
  have hx3 := kk.keep (fun z => z) rfl hx1
  have ha3 := kk.tup _ _ ha1
  have r1 := r1.keep kk.tup
  have r2 := r2.keep kk.tup
  have r3 := r3.keep kk.tup
  have sd3 := sd1.fr kk.no
  refine ⟨_, rfl, last, rfl, ?_⟩
  unfold ifP ifG at q
  cases last with
  | true =>
    refine iteT ?_
    refine ⟨_, rfl, _, rfl, o1, o2, _, _, rfl, rfl, eo1, eo2, by show 5 ≤ sizeLine; decide, fun o3 ho3 => ?_⟩
    have fz := Fr.new (X := No) (o := .lst ([V.ref s1, .ref s3, .ref s4] ++ [.ref s5, .ref s6])) ho3
    refine q o3 _ _ ((fG.trans kk.no).trans fz.no) (fz.keep (fun z => z) rfl g3) (fG.dom (kk.dom ho3)) upd_same ?_
    have sz := sd3.fr fz.no
    exact .cons (.tree (fz.tup _ _ e1) (r1.keep fz.tup) w1 sz) (.cons (.write (fz.tup _ _ e3) (.unless (fz.tup _ _ e2))) (.cons (.tree (fz.tup _ _ e4) (r2.keep fz.tup) w2 sz) (.cons (.label (fz.tup _ _ e5)) (.cons (.tree (fz.tup _ _ e6) (r3.keep fz.tup) w3 sz) .nil))))
  | false =>
    refine iteF ?_
    refine ⟨_, rfl, x, dx, _, rfl, hx3, rfl, x, dx, e0, L, G, p, l, cb, _, rfl, hx3, g3, by rw [List.length_append]; exact Nat.le_trans (Nat.add_le_add_right lg 1) (by decide), ?_⟩
    have fH : Fr (fun q => q = G) H3 (upd H3 G (.lst (gs ++ [.non] ++ [.non]))) := Fr.set rfl g3 rfl
    have g4 : upd H3 G (.lst (gs ++ [.non] ++ [.non])) G = some (.lst (gs ++ [.non] ++ [.non])) := upd_same
    have nG1 : o1 ≠ G := fun z => by rw [z] at ho1'; rw [g1] at ho1'; cases ho1'
    have ho2' : H1 o2 = none := k5.dom ((f6.trans f7).dom ho2)
    have nG2 : o2 ≠ G := fun z => by rw [z] at ho2'; rw [g1] at ho2'; cases ho2'
    have eo1 : upd H3 G (.lst (gs ++ [.non] ++ [.non])) o1 = _ := (upd_ne nG1).trans eo1
    have eo2 : upd H3 G (.lst (gs ++ [.non] ++ [.non])) o2 = _ := (upd_ne nG2).trans eo2
    have len : ((gs ++ [V.non]).length : Nat) = gs.length + 1 := by rw [List.length_append]; rfl
    rw [len]
    have sd4 := sd3.fr (fH.wide fun q z => by rw [z]; exact XG)
    generalize upd H3 G (.lst (gs ++ [.non] ++ [.non])) = H4 at fH g4 eo1 eo2 sd4 ⊢
    refine ⟨_, rfl, o1, _, rfl, .inr (SqL.of eo1), _, rfl, by show 2 ≤ sizeLine; decide, fun s7 hs7 => ⟨by show 2 ≤ sizeLine; decide, fun s8 hs8 => ?_⟩⟩
    have f7 := Fr.new (X := No) (o := .tup [.str "jump", .int ((gs.length + 1 : Nat))]) hs7
    have f8 := Fr.new (X := No) (o := .tup [.str "write", .ref s7]) hs8
    have k8 := f7.trans f8
    refine ⟨_, rfl, o2, _, rfl, .inr (SqL.of (k8.keep (fun z => z) rfl eo2)), _, rfl, by show 2 ≤ sizeLine; decide, fun s9 hs9 => ⟨by show 7 ≤ sizeLine; decide, fun o3 ho3 => ?_⟩⟩
    have f9 := Fr.new (X := No) (o := .tup [.str "label", .int ((gs.length + 1 : Nat))]) hs9
    have fz := Fr.new (X := No) (o := .lst ([V.ref s1, .ref s3, .ref s4] ++ .ref s8 :: ([V.ref s5, .ref s6] ++ [.ref s9]))) ho3
    have kz := k8.trans (f9.trans fz)
    have e7 := (f8.trans (f9.trans fz)).tup _ _ upd_same
    have e8 := (f9.trans fz).tup _ _ upd_same
    have e9 := fz.tup _ _ upd_same
    have g5 := kz.keep (fun z => z) rfl g4
    have fq := ((fG.trans kk.no).trans fH).trans kz.no
    refine q o3 _ _ fq g5 (fG.dom (kk.dom (fH.dom ((k8.trans f9).dom ho3)))) upd_same ?_
    have sz := sd4.fr kz.no
    have t := fH.tup.trans kz.tup
    exact .cons (.tree (t _ _ e1) (r1.keep t) w1 sz) (.cons (.write (t _ _ e3) (.unless (t _ _ e2))) (.cons (.tree (t _ _ e4) (r2.keep t) w2 sz) (.cons (.write e8 (.jump e7)) (.cons (.label (t _ _ e5)) (.cons (.tree (t _ _ e6) (r3.keep t) w3 sz) (.cons (.label e9) .nil))))))
end
end My
namespace My
open PySem PySem.Spec PyProof.Rows L2 TL
/-! ### tree_pieces -/
abbrev sTp : Stmt := top 11
abbrev NTp : List Str := ["drafts", "draft", "core", "scope", "last", "word"]
/-- what each kind of tree asks -/
def tpK (CD DL x e : Addr) (c : V) (last : Bool) (H : Hp) (Q : VK) (E : XK) : Tr → Prop
  | .let_ _ _ _ => spLet CD [.ref x, c, .ref e, .bl last] H Q E
  | .call _ _ => spCp [c, .ref e, .bl last] H Q E
  | .fn _ _ => spDf CD [.ref DL, c, .ref e] H (fun v H1 => spLea [v, .bl last] H1 Q E) E
  | .loc n => ∃ (X : Addr → Prop) (sc : Sc) (s : Src), SDk X H e sc ∧ scGet n sc = some s ∧ ∀ v, RSr H v s → spLea [v, .bl last] H Q E
  | .if_ _ _ _ => spIf CD [.ref x, c, .ref e, .bl last] H Q E
  | _ => spLea [c, .bl last] H Q E
def spTp (CD : Addr) : Sp := fun vs H Q E => ∃ (DL x e : Addr) (c : V) (t : Tr) (last : Bool), vs = [.ref DL, .ref x, c, .ref e, .bl last] ∧ RT H c t ∧ tpK CD DL x e c last H Q E t
section
variable {P : Program} {w : World} {K : PySem.W.Frag} {mg : Str → Option Value} {base : Heap} {CD : Addr}
theorem scTp : FnScope NTp ["drafts", "draft", "core", "scope", "last"] (defScope sTp) := ⟨rfl, rfl, rfl, by decide +kernel, rfl, by decide +kernel, by decide +kernel⟩
theorem ok_tp {f fL fI fC fD fE : Addr} {fd dL dI dC dD dE : FuncData} (Fn : Fun K "tree_pieces" "tree_pieces" sTp f fd) (GL : Cal P w K mg base CX0 2 "let_pieces" ["draft", "core", "scope", "last"] (spLet CD) fL dL) (GI : Cal P w K mg base CX0 2 "if_pieces" ["draft", "core", "scope", "last"] (spIf CD) fI dI)
    (GC : Cal P w K mg base CX0 1 "call_pieces" ["core", "scope", "last"] spCp fC dC) (GD : Cal P w K mg base CX0 4 "draft_function" ["drafts", "core", "scope"] (spDf CD) fD dD) (GE : Cal P w K mg base CX0 1 "leaf_pieces" ["instruction", "last"] spLea fE dE) : FnOk P w K mg base CX0 5 f fd ["drafts", "draft", "core", "scope", "last"] (spTp CD) := by
  refine Fn.ok scTp (fun vs H Q E h => ?_) (fun cdv A outer s H vs Q E hr h => ?_)
  · obtain ⟨DL, x, e, c, t, last, rfl, _⟩ := h
    rfl
  obtain ⟨DL, x, e, c, t, last, rfl, rt, q⟩ := h
  have nd := scTp.nd
  have hu := hu_of hr
  have r2 := hr.mono (show 2 ≤ 4 by decide)
  have r1 := hr.mono (show 1 ≤ 4 by decide)
  refine ⟨_, (pss_cons (ps_set (i := 5) nd rfl (Or.inl rfl) (pe_ix (r := rIxT K) ix_tup (pv 2) pe_int (fun _ _ => rfl)))
    (pss_cons (ps_if (pt_cmpR op_eq (pv 5) pe_str (nomark _)) (pss_one (ps_ret (pe_call GL.ok r2 rfl GL.g GL.k GL.b .nil pass0 (pa_cons (pv 1) (pa_cons (pv 2) (pa_cons (pv 3) (pa_cons (pv 4) pa_nil))))))) pss_nil)
    (pss_cons (ps_if (pt_cmpR op_eq (pv 5) pe_str (nomark _)) (pss_one (ps_ret (pe_call GI.ok r2 rfl GI.g GI.k GI.b .nil pass0 (pa_cons (pv 1) (pa_cons (pv 2) (pa_cons (pv 3) (pa_cons (pv 4) pa_nil))))))) pss_nil)
    (pss_cons (ps_if (pt_cmpR op_eq (pv 5) pe_str (nomark _)) (pss_one (ps_ret (pe_call GC.ok r1 rfl GC.g GC.k GC.b .nil pass0 (pa_cons (pv 2) (pa_cons (pv 3) (pa_cons (pv 4) pa_nil)))))) pss_nil)
    (pss_cons (ps_if (pt_cmpR op_eq (pv 5) pe_str (nomark _)) (pss_one (ps_ret (pe_call GE.ok r1 rfl GE.g GE.k GE.b .nil pass0 (pa_cons (pe_call GD.ok hr rfl GD.g GD.k GD.b .nil pass0 (pa_cons (pv 0) (pa_cons (pv 2) (pa_cons (pv 3) pa_nil)))) (pa_cons (pv 4) pa_nil))))) pss_nil)
    (pss_cons (ps_if (pt_cmpR op_eq (pv 5) pe_str (nomark _)) (pss_one (ps_ret (pe_call GE.ok r1 rfl GE.g GE.k GE.b .nil pass0 (pa_cons (pe_dget hu (pv 3) (pe_ix (r := rIxT K) ix_tup (pv 2) pe_int (fun _ _ => rfl)) (fun _ _ => rfl)) (pa_cons (pv 4) pa_nil))))) pss_nil)
    (pss_one (ps_ret (pe_call GE.ok r1 rfl GE.g GE.k GE.b .nil pass0 (pa_cons (pv 2) (pa_cons (pv 4) pa_nil))))))))))), ?_⟩
  cases rt with
  | @int a i h =>
    refine ⟨_, rfl, a, _, 0, _, rfl, rfl, SqT.of h, at0 _ _, ?_⟩
    refine ev_eqs rfl ?_
    refine ite2 (fun c => absurd (of_decide_eq_true c) (show ¬ ("int" : Str) = "let" by decide +kernel)) (fun _ => ?_)
    refine ev_eqs rfl ?_
    refine ite2 (fun c => absurd (of_decide_eq_true c) (show ¬ ("int" : Str) = "if" by decide +kernel)) (fun _ => ?_)
    refine ev_eqs rfl ?_
    refine ite2 (fun c => absurd (of_decide_eq_true c) (show ¬ ("int" : Str) = "call" by decide +kernel)) (fun _ => ?_)
    refine ev_eqs rfl ?_
    refine ite2 (fun c => absurd (of_decide_eq_true c) (show ¬ ("int" : Str) = "fn" by decide +kernel)) (fun _ => ?_)
    refine ev_eqs rfl ?_
    refine ite2 (fun c => absurd (of_decide_eq_true c) (show ¬ ("int" : Str) = "local" by decide +kernel)) (fun _ => ?_)
    exact ⟨_, rfl, _, rfl, q⟩
  | @prim a p h =>
    refine ⟨_, rfl, a, _, 0, _, rfl, rfl, SqT.of h, at0 _ _, ?_⟩
    refine ev_eqs rfl ?_
    refine ite2 (fun c => absurd (of_decide_eq_true c) (show ¬ ("prim" : Str) = "let" by decide +kernel)) (fun _ => ?_)
    refine ev_eqs rfl ?_
    refine ite2 (fun c => absurd (of_decide_eq_true c) (show ¬ ("prim" : Str) = "if" by decide +kernel)) (fun _ => ?_)
    refine ev_eqs rfl ?_
    refine ite2 (fun c => absurd (of_decide_eq_true c) (show ¬ ("prim" : Str) = "call" by decide +kernel)) (fun _ => ?_)
    refine ev_eqs rfl ?_
    refine ite2 (fun c => absurd (of_decide_eq_true c) (show ¬ ("prim" : Str) = "fn" by decide +kernel)) (fun _ => ?_)
    refine ev_eqs rfl ?_
    refine ite2 (fun c => absurd (of_decide_eq_true c) (show ¬ ("prim" : Str) = "local" by decide +kernel)) (fun _ => ?_)
    exact ⟨_, rfl, _, rfl, q⟩
  | @glob a m y h =>
    refine ⟨_, rfl, a, _, 0, _, rfl, rfl, SqT.of h, at0 _ _, ?_⟩
    refine ev_eqs rfl ?_
    refine ite2 (fun c => absurd (of_decide_eq_true c) (show ¬ ("global" : Str) = "let" by decide +kernel)) (fun _ => ?_)
    refine ev_eqs rfl ?_
    refine ite2 (fun c => absurd (of_decide_eq_true c) (show ¬ ("global" : Str) = "if" by decide +kernel)) (fun _ => ?_)
    refine ev_eqs rfl ?_
    refine ite2 (fun c => absurd (of_decide_eq_true c) (show ¬ ("global" : Str) = "call" by decide +kernel)) (fun _ => ?_)
    refine ev_eqs rfl ?_
    refine ite2 (fun c => absurd (of_decide_eq_true c) (show ¬ ("global" : Str) = "fn" by decide +kernel)) (fun _ => ?_)
    refine ev_eqs rfl ?_
    refine ite2 (fun c => absurd (of_decide_eq_true c) (show ¬ ("global" : Str) = "local" by decide +kernel)) (fun _ => ?_)
    exact ⟨_, rfl, _, rfl, q⟩
  | @let_ a l v vs ns ts b h hq rp r =>
    refine ⟨_, rfl, a, _, 0, _, rfl, rfl, SqT.of h, at0 _ _, ?_⟩
    refine ev_eqs rfl ?_
    refine ite2 (fun _ => ?_) (fun c => absurd (decide_eq_true (show ("let" : Str) = "let" from rfl)) c)
    exact ⟨_, rfl, _, rfl, _, rfl, _, rfl, q⟩
  | @if_ a y1 y2 y3 p1 p2 p3 h ry1 ry2 ry3 =>
    refine ⟨_, rfl, a, _, 0, _, rfl, rfl, SqT.of h, at0 _ _, ?_⟩
    refine ev_eqs rfl ?_
    refine ite2 (fun c => absurd (of_decide_eq_true c) (show ¬ ("if" : Str) = "let" by decide +kernel)) (fun _ => ?_)
    refine ev_eqs rfl ?_
    refine ite2 (fun _ => ?_) (fun c => absurd (decide_eq_true (show ("if" : Str) = "if" from rfl)) c)
    exact ⟨_, rfl, _, rfl, _, rfl, _, rfl, q⟩
  | @call a l v vs g ts h hq rf rs =>
    refine ⟨_, rfl, a, _, 0, _, rfl, rfl, SqT.of h, at0 _ _, ?_⟩
    refine ev_eqs rfl ?_
    refine ite2 (fun c => absurd (of_decide_eq_true c) (show ¬ ("call" : Str) = "let" by decide +kernel)) (fun _ => ?_)
    refine ev_eqs rfl ?_
    refine ite2 (fun c => absurd (of_decide_eq_true c) (show ¬ ("call" : Str) = "if" by decide +kernel)) (fun _ => ?_)
    refine ev_eqs rfl ?_
    refine ite2 (fun _ => ?_) (fun c => absurd (decide_eq_true (show ("call" : Str) = "call" from rfl)) c)
    exact ⟨_, rfl, _, rfl, _, rfl, q⟩
  | @fn a l v ns b h hq rb =>
    refine ⟨_, rfl, a, _, 0, _, rfl, rfl, SqT.of h, at0 _ _, ?_⟩
    refine ev_eqs rfl ?_
    refine ite2 (fun c => absurd (of_decide_eq_true c) (show ¬ ("fn" : Str) = "let" by decide +kernel)) (fun _ => ?_)
    refine ev_eqs rfl ?_
    refine ite2 (fun c => absurd (of_decide_eq_true c) (show ¬ ("fn" : Str) = "if" by decide +kernel)) (fun _ => ?_)
    refine ev_eqs rfl ?_
    refine ite2 (fun c => absurd (of_decide_eq_true c) (show ¬ ("fn" : Str) = "call" by decide +kernel)) (fun _ => ?_)
    refine ev_eqs rfl ?_
    refine ite2 (fun _ => ?_) (fun c => absurd (decide_eq_true (show ("fn" : Str) = "fn" from rfl)) c)
    refine ⟨_, rfl, _, rfl, _, rfl, ?_⟩
    obtain ⟨X, DL', e1, ds, c, ns', b', sc, ss, ev, g1, g2, g3, g4, g5, g6, g7, g8, g9, g10, g11, g12⟩ := q
    refine ⟨X, DL', e1, ds, c, ns', b', sc, ss, ev, g1, g2, g3, g4, g5, g6, g7, g8, g9, g10, g11, fun r x dx cb e' L G H' k1 k2 k3 k4 k5 k6 k7 k8 k9 k10 k11 k12 k13 k14 k15 => ?_⟩
    exact ⟨_, rfl, g12 r x dx cb e' L G H' k1 k2 k3 k4 k5 k6 k7 k8 k9 k10 k11 k12 k13 k14 k15⟩
  | @loc a n h =>
    refine ⟨_, rfl, a, _, 0, _, rfl, rfl, SqT.of h, at0 _ _, ?_⟩
    refine ev_eqs rfl ?_
    refine ite2 (fun c => absurd (of_decide_eq_true c) (show ¬ ("local" : Str) = "let" by decide +kernel)) (fun _ => ?_)
    refine ev_eqs rfl ?_
    refine ite2 (fun c => absurd (of_decide_eq_true c) (show ¬ ("local" : Str) = "if" by decide +kernel)) (fun _ => ?_)
    refine ev_eqs rfl ?_
    refine ite2 (fun c => absurd (of_decide_eq_true c) (show ¬ ("local" : Str) = "call" by decide +kernel)) (fun _ => ?_)
    refine ev_eqs rfl ?_
    refine ite2 (fun c => absurd (of_decide_eq_true c) (show ¬ ("local" : Str) = "fn" by decide +kernel)) (fun _ => ?_)
    refine ev_eqs rfl ?_
    refine ite2 (fun _ => ?_) (fun c => absurd (decide_eq_true (show ("local" : Str) = "local" from rfl)) c)
    obtain ⟨X, sc, s0, ⟨kvs, s1, s2, s3, s4⟩, hs, q⟩ := q
    obtain ⟨u, hu1, hu2⟩ := s3.get hs
    have dg := DGet.k (k := (.inl n : Key)) s1
    rw [hu1] at dg
    exact ⟨_, rfl, _, rfl, a, _, 1, _, rfl, rfl, SqT.of h, at1 _ _ _, e, _, rfl, dg, _, rfl, q _ hu2⟩
end
end My
namespace My
open PySem PySem.Spec PyProof.Rows L2 TL
/-! ### final_code -/
theorem CdR.keep {H H' : Hp} (k : KpT H H') {kvs : List (Key × V)} {cs : Nat → Option Code} (r : CdR H kvs cs) : CdR H' kvs cs := fun n c h => by
  obtain ⟨v, h1, h2⟩ := r n c h
  exact ⟨v, h1, h2.keep k⟩
def finC (tgs : List (Option Nat)) (cs : Nat → Option Code) : List DIn → Option (List Ins)
  | [] => some []
  | d :: r => match finI tgs cs d, finC tgs cs r with
    | some i, some is => some (i :: is)
    | _, _ => none
theorem finC_at {tgs : List (Option Nat)} {cs : Nat → Option Code} : ∀ {ds : List DIn} {is : List Ins} {j : Nat} {d : DIn}, finC tgs cs ds = some is → ds[j]? = some d → ∃ i, finI tgs cs d = some i ∧ is[j]? = some i
  | [], _, j, d, _, h => by cases h
  | d0 :: r, is, j, d, e, h => by
    unfold finC at e
    cases h1 : finI tgs cs d0 with
    | none => rw [h1] at e; cases e
    | some i0 =>
    rw [h1] at e
    cases h2 : finC tgs cs r with
    | none => rw [h2] at e; cases e
    | some is0 =>
    rw [h2] at e
    cases e
    cases j with
    | zero => cases h; exact ⟨i0, h1, rfl⟩
    | succ j => exact finC_at (ds := r) (is := is0) (j := j) h2 h
theorem finC_len {tgs : List (Option Nat)} {cs : Nat → Option Code} : ∀ {ds : List DIn} {is : List Ins}, finC tgs cs ds = some is → is.length = ds.length
  | [], _, e => by cases e; rfl
  | d0 :: r, is, e => by
    unfold finC at e
    cases h1 : finI tgs cs d0 with
    | none => rw [h1] at e; cases e
    | some i0 =>
    rw [h1] at e
    cases h2 : finC tgs cs r with
    | none => rw [h2] at e; cases e
    | some is0 =>
    rw [h2] at e
    cases e
    exact congrArg (· + 1) (finC_len h2)
theorem RIs.snoc {H : Hp} : ∀ {vs : List V} {is : List Ins} {v : V} {i : Ins}, RIs H vs is → RI H v i → RIs H (vs ++ [v]) (is ++ [i])
  | _, _, _, _, .nil, h => .cons h .nil
  | _, _, _, _, .cons g r, h => .cons g (RIs.snoc r h)
abbrev sFc : Stmt := top 14
abbrev NFc : List Str := ["draft", "codes", "instructions", "part"]
def spFc (CD : Addr) : Sp := fun vs H Q _ => ∃ (x dx cd e L G : Addr) (p l : Nat) (cb : V) (us gs : List V) (ds : List DIn) (tgs : List (Option Nat)) (kvs : List (Key × V)) (cs : Nat → Option Code) (is : List Ins), vs = [.ref x, .ref cd] ∧ H x = some (.ins CD dx (dfl p l cb e L G)) ∧ H L = some (.lst us) ∧ Als (RDi H) us ds ∧ us.length ≤ 1000000 ∧ H G = some (.lst gs) ∧ Als RTg gs tgs ∧
  H cd = some (.dK kvs) ∧ CdR H kvs cs ∧ finC tgs cs ds = some is ∧ ∀ u H', Fr No H H' → RC H' u (.mk p l is) → Q u H'
section
variable {P : Program} {w : World} {K : PySem.W.Frag} {mg : Str → Option Value} {base : Heap} {CD : Addr}
theorem scFc : FnScope NFc ["draft", "codes"] (defScope sFc) := ⟨rfl, rfl, rfl, by decide +kernel, rfl, by decide +kernel, by decide +kernel⟩
theorem ok_fc {f fF : Addr} {fd dF : FuncData} (Fn : Fun K "final_code" "final_code" sFc f fd) (B : Blt mg) (U : FldC K CD fD6) (GF : Cal P w K mg base CX0 1 "final_instruction" ["draft", "codes", "instruction"] (spFi CD) fF dF) : FnOk P w K mg base CX0 2 f fd ["draft", "codes"] (spFc CD) := by
  refine Fn.ok scFc (fun vs H Q E h => ?_) (fun cdv A outer s H vs Q E hr h => ?_)
  · obtain ⟨x, dx, cd, e, L, G, p, l, cb, us, gs, ds, tgs, kvs, cs, is, rfl, _⟩ := h
    rfl
  obtain ⟨x, dx, cd, e, L, G, p, l, cb, us, gs, ds, tgs, kvs, cs, is, rfl, hx, hL, rl, lu, hG, rg, hcd, rc, ei, q⟩ := h
  have nd := scFc.nd
  have hu := hu_of hr
  refine ⟨_, (pss_cons (ps_set (i := 2) nd rfl (Or.inl rfl) (pe_callTy call_tuple_of (by rfl) B.tuple (by decide +kernel) (pa_cons (pe_lc (own := [("part", 3)]) (g := gName 3) (tt := tYes) rfl nd (pi_list (pe_fld (pv 0) rfl)) (blkOk_by (N := NFc) (sc := defScope sFc) (by decide +kernel)) (fun _ _ _ _ _ => (pg_name (i := 3) nd rfl (Or.inl rfl) (hf := Or.inr rfl))) (fun _ _ _ _ _ => pts_nil) (fun _ _ _ _ _ => (pe_call GF.ok hr rfl GF.g GF.k GF.b .nil pass0 (pa_cons (pv 0) (pa_cons (pv 1) (pa_cons (pv 3) pa_nil)))))) pa_nil)))
    (pss_one (ps_ret (pe_tup (pa_cons pe_str (pa_cons (pe_fld (pv 0) rfl) (pa_cons (pe_fld (pv 0) rfl) (pa_cons (pv 2) pa_nil)))))))), ?_⟩
  refine ⟨_, rfl, x, CD, dx, _, _, rfl, hx, U.c, U.n _ (by simp), rfl, L, rfl, ⟨_, SqL.of hL⟩, fun D hD => ?_⟩
  have ll := finC_len ei
  have lus := rl.len
  refine lc_list (xs := us) (fun i H' => ∃ ws, H' D = some (.lst ws) ∧ RIs H' ws (is.take i) ∧ ws.length = i ∧ Fr No H H') ⟨[], upd_same, by rw [List.take_zero]; exact .nil, rfl, Fr.new hD⟩ (fun i H' _ ⟨_, _, _, _, g⟩ => SqL.of (g.keep (fun z => z) rfl hL)) ?_ ?_
  · rintro i y H' hi ⟨ws, h1, h2, h3, h4⟩
    obtain ⟨d, hd, rd⟩ := rl.get hi
    obtain ⟨j, ej, hj⟩ := finC_at ei hd
    have il : i < us.length := (List.getElem?_eq_some_iff.mp hi).1
    refine ⟨rfl, _, rfl, _, rfl, _, rfl, x, dx, cd, e, L, G, p, l, cb, y, gs, tgs, kvs, cs, d, j, rfl, h4.keep (fun z => z) rfl hx, h4.keep (fun z => z) rfl hG, rg, h4.keep (fun z => z) rfl hcd, rc.keep h4.tup, rd.keep h4.tup, ej, fun u H2 f2 r2 => ?_⟩
    have e2 := f2.keep (fun z => z) rfl h1
    have fm : Fr (fun q => q = D) H2 (upd H2 D (.lst (ws ++ [u]))) := Fr.set rfl e2 rfl
    refine ⟨ws, e2, Nat.lt_of_le_of_lt (show ws.length ≤ 1000000 by omega) (by decide), ws ++ [u], upd_same, ?_, by simp [h3], (h4.trans f2).mut hD e2 rfl⟩
    rw [take_more hj]
    exact ((h2.keep f2.tup).keep fm.tup).snoc (r2.keep fm.tup)
  rintro H7 ⟨ws, h1, h2, h3, h4⟩
  rw [lus, ← ll, List.take_length] at h2
  refine ⟨D, ws, rfl, .inl ⟨SqL.of h1, fun q1 hq1 => ?_⟩⟩
  have f8 : Fr No H7 (upd H7 q1 (.tup ws)) := Fr.new hq1
  have f08 := h4.trans f8
  have x8 := f08.keep (fun z => z) rfl hx
  refine ⟨_, rfl, x, CD, dx, _, _, rfl, x8, U.c, U.n _ (by simp), rfl, _, rfl, x, CD, dx, _, _, rfl, x8, U.c, U.n _ (by simp), rfl, _, rfl, by show 4 ≤ sizeLine; decide, fun r hr' => ?_⟩
  have f9 : Fr No (upd H7 q1 (.tup ws)) (upd (upd H7 q1 (.tup ws)) r (.tup [.str "code", .int p, .int l, .ref q1])) := Fr.new hr'
  exact q (.ref r) _ (f08.trans f9) (.mk upd_same (f9.tup _ _ upd_same) (h2.keep (f8.trans f9).tup))
end
end My
namespace My
open PySem PySem.Spec PyProof.Rows L2 TL
/-! ### the drafts while they are written: where each lies, what it holds -/
structure DAt where
  x : Addr
  dx : Addr
  e : Addr
  L : Addr
  G : Addr
  cb : V
structure DSt where
  p : Nat
  l : Nat
  ins : List DIn
  tgs : List (Option Nat)
  t : Tr
  sc : Sc
/-- what may change of a draft -/
def DAt.muts (r : DAt) : List Addr := [r.x, r.L, r.G]
structure DR (CD : Addr) (Y : Addr → Prop) (H : Hp) (r : DAt) (d : DSt) : Prop where
  x : H r.x = some (.ins CD r.dx (dfl d.p d.l r.cb r.e r.L r.G))
  L : ∃ us, H r.L = some (.lst us) ∧ Als (RDi H) us d.ins
  G : ∃ gs, H r.G = some (.lst gs) ∧ Als RTg gs d.tgs
  t : RT H r.cb d.t
  e : SDk Y H r.e d.sc
  wt : widT d.t
theorem DR.fr {CD : Addr} {Y Z : Addr → Prop} {H H' : Hp} {r : DAt} {d : DSt} (h : DR CD Y H r d) (f : Fr Z H H') (z : ∀ b, Z b → Y b) (n : ∀ b, b ∈ r.muts → ¬ Z b) : DR CD Y H' r d := by
  obtain ⟨us, u1, u2⟩ := h.L
  obtain ⟨gs, g1, g2⟩ := h.G
  exact ⟨f.keep (n _ (by simp [DAt.muts])) rfl h.x, ⟨us, f.keep (n _ (by simp [DAt.muts])) rfl u1, u2.mono fun _ _ r => r.keep f.tup⟩, ⟨gs, f.keep (n _ (by simp [DAt.muts])) rfl g1, g2⟩, h.t.keep f.tup, h.e.fr (f.wide z), h.wt⟩
/-- more may change, if it was not there -/
theorem DR.grow {CD : Addr} {Y Z : Addr → Prop} {H : Hp} {r : DAt} {d : DSt} (h : DR CD Y H r d) (z : ∀ b, Z b → Y b ∨ H b = none) : DR CD Z H r d := by
  obtain ⟨kvs, k1, k2, k3, k4⟩ := h.e
  exact ⟨h.x, h.L, h.G, h.t, ⟨kvs, k1, fun q => (z _ q).elim k2 fun n => (by rw [k1] at n; cases n), k3, k4⟩, h.wt⟩
theorem RPc.grow {X Z : Addr → Prop} {H : Hp} {v : V} {p : Pc} (r : RPc X H v p) (z : ∀ b, Z b → X b ∨ H b = none) : RPc Z H v p := by
  cases r with
  | tree h1 rt wt sd =>
    obtain ⟨kvs, k1, k2, k3, k4⟩ := sd
    exact .tree h1 rt wt ⟨kvs, k1, fun q => (z _ q).elim k2 fun n => (by rw [k1] at n; cases n), k3, k4⟩
  | write h1 r => exact .write h1 r
  | label h1 => exact .label h1
/-- drafts one by one -/
inductive DRs (CD : Addr) (Y : Addr → Prop) (H : Hp) : List DAt → List DSt → Prop
  | nil : DRs CD Y H [] []
  | cons {r : DAt} {d : DSt} {rs : List DAt} {ds : List DSt} (h : DR CD Y H r d) (hs : DRs CD Y H rs ds) : DRs CD Y H (r :: rs) (d :: ds)
def mutsL : List DAt → List Addr
  | [] => []
  | r :: rs => r.muts ++ mutsL rs
theorem mutsL_app : ∀ (rs ss : List DAt), mutsL (rs ++ ss) = mutsL rs ++ mutsL ss
  | [], ss => rfl
  | r :: rs, ss => by
    show r.muts ++ mutsL (rs ++ ss) = (r.muts ++ mutsL rs) ++ mutsL ss
    rw [mutsL_app rs ss, List.append_assoc]
theorem DRs.fr {CD : Addr} {Y Z : Addr → Prop} {H H' : Hp} (f : Fr Z H H') (z : ∀ b, Z b → Y b) : ∀ {rs : List DAt} {ds : List DSt}, DRs CD Y H rs ds → (∀ b, b ∈ mutsL rs → ¬ Z b) → DRs CD Y H' rs ds
  | _, _, .nil, _ => .nil
  | _, _, .cons h hs, n => .cons (h.fr f z fun b m => n b (List.mem_append_left _ m)) (DRs.fr f z hs fun b m => n b (List.mem_append_right _ m))
theorem DRs.grow {CD : Addr} {Y Z : Addr → Prop} {H : Hp} (z : ∀ b, Z b → Y b ∨ H b = none) : ∀ {rs : List DAt} {ds : List DSt}, DRs CD Y H rs ds → DRs CD Z H rs ds
  | _, _, .nil => .nil
  | _, _, .cons h hs => .cons (h.grow z) (DRs.grow z hs)
theorem DRs.app {CD : Addr} {Y : Addr → Prop} {H : Hp} : ∀ {rs ss : List DAt} {ds es : List DSt}, DRs CD Y H rs ds → DRs CD Y H ss es → DRs CD Y H (rs ++ ss) (ds ++ es)
  | _, _, _, _, .nil, s => s
  | _, _, _, _, .cons h hs, s => .cons h (DRs.app hs s)
theorem DRs.len {CD : Addr} {Y : Addr → Prop} {H : Hp} : ∀ {rs : List DAt} {ds : List DSt}, DRs CD Y H rs ds → rs.length = ds.length
  | _, _, .nil => rfl
  | _, _, .cons _ hs => congrArg (· + 1) (DRs.len hs)
/-- whatever may change of a draft is there -/
theorem DRs.there {CD : Addr} {Y : Addr → Prop} {H : Hp} : ∀ {rs : List DAt} {ds : List DSt}, DRs CD Y H rs ds → ∀ b, b ∈ mutsL rs → H b ≠ none
  | _, _, .nil, _, m => by cases m
  | _, _, .cons h hs, b, m => by
    rcases List.mem_append.mp m with m | m
    · obtain ⟨us, u1, _⟩ := h.L
      obtain ⟨gs, g1, _⟩ := h.G
      simp only [DAt.muts, List.mem_cons, List.not_mem_nil, or_false] at m
      rcases m with rfl | rfl | rfl
      · rw [h.x]; exact fun z => by cases z
      · rw [u1]; exact fun z => by cases z
      · rw [g1]; exact fun z => by cases z
    · exact DRs.there hs b m
/-- the writing of one draft: places, instructions, targets, the pieces that are still to be written (the next one first), the drafts behind; `at_` is the number of drafts when it began -/
structure WSt where
  l : Nat
  ins : List DIn
  tgs : List (Option Nat)
  rest : List Pc
  news : List DSt
def gate {α : Type} (c : Prop) [Decidable c] (x : α) : Option α := if c then some x else none
theorem gate_ok {α : Type} {c : Prop} [Decidable c] {x y : α} (h : gate c x = some y) : c ∧ x = y := by
  unfold gate at h
  by_cases z : c
  · rw [if_pos z] at h; cases h; exact ⟨z, rfl⟩
  · rw [if_neg z] at h; cases h
def wrStep (at_ : Nat) (w : WSt) : Pc → Option WSt
  | .write d => gate (w.ins.length < 900000) { w with ins := w.ins ++ [d] }
  | .label n => gate (n < w.tgs.length) { w with tgs := w.tgs.set n (some w.ins.length) }
  | .tree (.let_ ns ts b) sc last => gate (sc.length + ns.length ≤ 1000000) { w with l := w.l + ns.length, rest := letP ns ts b w.l sc last ++ w.rest }
  | .tree (.call f ts) sc last => some { w with rest := callP f ts sc last ++ w.rest }
  | .tree (.fn ns b) sc last => (ssOf sc (outT (.fn ns b))).bind fun ss => gate (at_ + w.news.length < 900000 ∧ depT (.fn ns b) ≤ 900 ∧ szT (.fn ns b) ≤ 900000 ∧ (outT (.fn ns b)).length ≤ 900000) { w with rest := leafP (.fn (at_ + w.news.length) ss) last ++ w.rest, news := w.news ++ [⟨ns.length, ns.length, [], [], b, fnSc (.fn ns b)⟩] }
  | .tree (.loc n) sc last => (scGet n sc).map fun s => { w with rest := leafP (.src s) last ++ w.rest }
  | .tree (.int i) _ last => some { w with rest := leafP (.int i) last ++ w.rest }
  | .tree (.prim p) _ last => some { w with rest := leafP (.prim p) last ++ w.rest }
  | .tree (.glob m x) _ last => some { w with rest := leafP (.glob m x) last ++ w.rest }
  | .tree (.if_ a b c) sc last => gate (w.tgs.length ≤ 900000) { w with tgs := ifG last w.tgs none, rest := ifP a b c sc last w.tgs.length ++ w.rest }
/-- with fuel: none where the mirror does not tell -/
def wrF (at_ : Nat) : Nat → WSt → Option WSt
  | 0, _ => none
  | k + 1, w => match w.rest with
    | [] => some w
    | p :: r => if r.length ≤ 900000 then (wrStep at_ { w with rest := r } p).bind (wrF at_ k) else none
/-- one draft from its body -/
def wrD (at_ k : Nat) (d : DSt) : Option WSt := wrF at_ k ⟨d.l, d.ins, d.tgs, [.tree d.t d.sc true], []⟩
/-- all drafts, one after another: `done` are written -/
def wrAll (k : Nat) : Nat → List DSt → List DSt → Option (List DSt)
  | 0, _, _ => none
  | _, done, [] => some done
  | n + 1, done, d :: rest => match wrD (done.length + 1 + rest.length) k d with
    | none => none
    | some w => wrAll k n (done ++ [{ d with l := w.l, ins := w.ins, tgs := w.tgs }]) (rest ++ w.news)
/-- the codes from the last draft to the first -/
def codesF : List DSt → Nat → (Nat → Option Code) → Option (Nat → Option Code)
  | _, 0, cs => some cs
  | ds, i + 1, cs => match ds[i]? with
    | none => none
    | some d => if d.ins.length ≤ 1000000 then match finC d.tgs cs d.ins with
      | none => none
      | some is => codesF ds i fun j => if j = i then some (.mk d.p d.l is) else cs j
      else none
def compF (k n : Nat) (t : Tr) : Option Code := match wrAll k n [] [⟨0, 0, [], [], t, []⟩] with
  | none => none
  | some ds => if ds.length ≤ 900000 then match codesF ds ds.length (fun _ => none) with
    | none => none
    | some cs => cs 0
    else none
/-- three little cores, as the program's own command compiles them -/
def told : Code → List (List Nat)
  | .mk p l is => [p, l, is.length] :: []
example : (compF 100 10 (.call (.prim "+") [.int 1, .int 2])).map told = some [[0, 0, 4]] := by decide +kernel
example : (compF 100 10 (.call (.fn [1] (.call (.prim "+") [.loc 1, .int 2])) [.int 5])).map told = some [[0, 0, 3]] := by decide +kernel
end My
namespace My
open PySem PySem.Spec PyProof.Rows L2 TL
/-! ### one draft in the writing, all others around it -/
def zs (DL R : Addr) (r : DAt) (ns : List DAt) : Addr → Prop := fun b => b ∈ R :: DL :: (r.muts ++ mutsL ns)
structure WS (CD DL R : Addr) (r : DAt) (H : Hp) (ns : List DAt) (dso : List DSt) (dr : DSt) (us : List V) (rest : List Pc) (vs : List V) : Prop where
  nd : (R :: DL :: (r.muts ++ mutsL ns)).Nodup
  hR : H R = some (.lst us)
  al : Als (RPc (zs DL R r ns) H) us rest.reverse
  hD : H DL = some (.lst vs)
  o : DRs CD (zs DL R r ns) H ns dso
  s : DR CD (zs DL R r ns) H r dr
section
variable {CD DL R : Addr} {r : DAt} {H H' : Hp} {ns : List DAt} {dso : List DSt} {dr dr' : DSt} {us us' : List V} {rest rest' : List Pc} {vs vs' : List V}
theorem zs_R : zs DL R r ns R := List.mem_cons_self
theorem zs_D : zs DL R r ns DL := List.mem_cons_of_mem _ List.mem_cons_self
theorem zs_m {b : Addr} (h : b ∈ r.muts) : zs DL R r ns b := List.mem_cons_of_mem _ (List.mem_cons_of_mem _ (List.mem_append_left _ h))
theorem zs_o {b : Addr} (h : b ∈ mutsL ns) : zs DL R r ns b := List.mem_cons_of_mem _ (List.mem_cons_of_mem _ (List.mem_append_right _ h))
theorem DAt.mx : r.x ∈ r.muts := by simp [DAt.muts]
theorem DAt.mL : r.L ∈ r.muts := by simp [DAt.muts]
theorem DAt.mG : r.G ∈ r.muts := by simp [DAt.muts]
theorem zs_cases {b : Addr} (h : zs DL R r ns b) : b = R ∨ b = DL ∨ b ∈ r.muts ∨ b ∈ mutsL ns := by
  rcases List.mem_cons.mp h with h | h
  · exact .inl h
  rcases List.mem_cons.mp h with h | h
  · exact .inr (.inl h)
  rcases List.mem_append.mp h with h | h
  · exact .inr (.inr (.inl h))
  · exact .inr (.inr (.inr h))
structure NeF (DL R : Addr) (r : DAt) (ns : List DAt) : Prop where
  RD : R ≠ DL
  Rm : ∀ b ∈ r.muts, R ≠ b
  Dm : ∀ b ∈ r.muts, DL ≠ b
  xL : r.x ≠ r.L
  xG : r.x ≠ r.G
  LG : r.L ≠ r.G
  oR : ∀ b ∈ mutsL ns, b ≠ R
  oD : ∀ b ∈ mutsL ns, b ≠ DL
  om : ∀ b ∈ mutsL ns, b ∉ r.muts
theorem ne_nd (nd : (R :: DL :: (r.muts ++ mutsL ns)).Nodup) : NeF DL R r ns := by
  obtain ⟨h1, h2⟩ := List.nodup_cons.mp nd
  obtain ⟨h3, h4⟩ := List.nodup_cons.mp h2
  obtain ⟨h5, h6, h7⟩ := List.nodup_append.mp h4
  have h5' : [r.x, r.L, r.G].Nodup := h5
  simp only [List.nodup_cons, List.mem_cons, List.not_mem_nil, or_false, not_or] at h5'
  obtain ⟨⟨a1, a2⟩, a3, _⟩ := h5'
  exact ⟨fun e => h1 (by rw [e]; exact List.mem_cons_self), fun b m e => h1 (List.mem_cons_of_mem _ (List.mem_append_left _ (by rw [e]; exact m))), fun b m e => h3 (List.mem_append_left _ (by rw [e]; exact m)), a1, a2, a3,
    fun b m e => h1 (List.mem_cons_of_mem _ (List.mem_append_right _ (by rw [← e]; exact m))), fun b m e => h3 (List.mem_append_right _ (by rw [← e]; exact m)), fun b m e => h7 b e b m rfl⟩
theorem WS.ne (h : WS CD DL R r H ns dso dr us rest vs) : NeF DL R r ns := ne_nd h.nd
theorem DR.there {Y : Addr → Prop} (h : DR CD Y H r dr) : ∀ b ∈ r.muts, H b ≠ none := fun b m => by
  have := DRs.there (.cons h .nil) b (by show b ∈ r.muts ++ mutsL []; exact List.mem_append_left _ m)
  exact this
theorem WS.there (h : WS CD DL R r H ns dso dr us rest vs) : ∀ b, zs DL R r ns b → H b ≠ none := fun b z => by
  rcases zs_cases z with e | e | e | e
  · rw [e, h.hR]; exact fun z => by cases z
  · rw [e, h.hD]; exact fun z => by cases z
  · exact h.s.there b e
  · exact h.o.there b e
/-- a step that changes nothing of the others -/
theorem WS.mv (h : WS CD DL R r H ns dso dr us rest vs) {W : Addr → Prop} (f : Fr W H H') (hw : ∀ b, W b → b = R ∨ b = DL ∨ b ∈ r.muts) (hR' : H' R = some (.lst us')) (al' : Als (RPc (zs DL R r ns) H') us' rest'.reverse) (hD' : H' DL = some (.lst vs'))
    (hs : DR CD (zs DL R r ns) H' r dr') : WS CD DL R r H' ns dso dr' us' rest' vs' := by
  have ne := h.ne
  refine ⟨h.nd, hR', al', hD', h.o.fr f (fun b q => ?_) (fun b m q => ?_), hs⟩
  · rcases hw b q with e | e | e
    · rw [e]; exact zs_R
    · rw [e]; exact zs_D
    · exact zs_m e
  · rcases hw b q with e | e | e
    · exact ne.oR b m e
    · exact ne.oD b m e
    · exact ne.om b m e
theorem WS.zw {W : Addr → Prop} (hw : ∀ b, W b → b = R ∨ b = DL ∨ b ∈ r.muts) : ∀ b, W b → zs DL R r ns b := fun b q => by
  rcases hw b q with e | e | e
  · rw [e]; exact zs_R
  · rw [e]; exact zs_D
  · exact zs_m e
/-- nothing changes -/
theorem WS.no (h : WS CD DL R r H ns dso dr us rest vs) (f : Fr No H H') : WS CD DL R r H' ns dso dr us rest vs :=
  h.mv f (fun b z => z.elim) (f.keep (fun z => z) rfl h.hR) (h.al.mono fun _ _ r => r.fr f.no) (f.keep (fun z => z) rfl h.hD) (h.s.fr f (fun b z => z.elim) fun b _ z => z)
/-- the rest is set anew -/
theorem WS.setR (h : WS CD DL R r H ns dso dr us rest vs) (al' : Als (RPc (zs DL R r ns) H) us' rest'.reverse) : WS CD DL R r (upd H R (.lst us')) ns dso dr us' rest' vs ∧ Fr (zs DL R r ns) H (upd H R (.lst us')) := by
  have ne := h.ne
  have f : Fr (fun b => b = R) H (upd H R (.lst us')) := Fr.set rfl h.hR rfl
  have fz := f.wide (WS.zw (DL := DL) (R := R) (r := r) (ns := ns) fun b z => .inl z)
  refine ⟨h.mv f (fun b z => .inl z) upd_same (al'.mono fun _ _ r => r.fr fz) (by rw [upd_ne ne.RD.symm]; exact h.hD) (h.s.fr f (fun b z => by rw [z]; exact zs_R) fun b m z => ne.Rm b m z.symm), fz⟩
/-- one list of the draft, or the draft itself, is set anew -/
theorem WS.setX (h : WS CD DL R r H ns dso dr us rest vs) {y : Addr} {o : HO} (m : y ∈ r.muts) (i : ∃ u, H y = some u ∧ isMut u = true) (hs : DR CD (zs DL R r ns) (upd H y o) r dr') : WS CD DL R r (upd H y o) ns dso dr' us rest vs ∧ Fr (zs DL R r ns) H (upd H y o) := by
  have ne := h.ne
  obtain ⟨u, hu, mu⟩ := i
  have f : Fr (fun b => b = y) H (upd H y o) := Fr.set rfl hu mu
  have hw : ∀ b, b = y → b = R ∨ b = DL ∨ b ∈ r.muts := fun b z => .inr (.inr (by rw [z]; exact m))
  have fz := f.wide (WS.zw (DL := DL) (R := R) (r := r) (ns := ns) hw)
  exact ⟨h.mv f hw (by rw [upd_ne (ne.Rm y m)]; exact h.hR) (h.al.mono fun _ _ r => r.fr fz) (by rw [upd_ne (ne.Dm y m)]; exact h.hD) hs, fz⟩
theorem WS.insn (h : WS CD DL R r H ns dso dr us rest vs) {is : List V} {v : V} {d : DIn} (hL : H r.L = some (.lst is)) (rd : RDi H v d) : WS CD DL R r (upd H r.L (.lst (is ++ [v]))) ns dso { dr with ins := dr.ins ++ [d] } us rest vs ∧ Fr (zs DL R r ns) H (upd H r.L (.lst (is ++ [v]))) := by
  have ne := h.ne
  have f : Fr (fun b => b = r.L) H (upd H r.L (.lst (is ++ [v]))) := Fr.set rfl hL rfl
  obtain ⟨is0, i1, i2⟩ := h.s.L
  rw [hL] at i1
  cases i1
  obtain ⟨gs, g1, g2⟩ := h.s.G
  refine h.setX r.mL ⟨_, hL, rfl⟩ ⟨?_, ⟨_, upd_same, (i2.mono fun _ _ r => r.keep f.tup).app (.one (rd.keep f.tup))⟩, ⟨gs, ?_, g2⟩, h.s.t.keep f.tup, h.s.e.fr (f.wide fun b z => by rw [z]; exact zs_m r.mL), h.s.wt⟩
  · rw [upd_ne ne.xL]; exact h.s.x
  · rw [upd_ne ne.LG.symm]; exact g1
theorem WS.tgs (h : WS CD DL R r H ns dso dr us rest vs) {gs gs' : List V} {ts : List (Option Nat)} (hG : H r.G = some (.lst gs)) (al : Als RTg gs' ts) : WS CD DL R r (upd H r.G (.lst gs')) ns dso { dr with tgs := ts } us rest vs ∧ Fr (zs DL R r ns) H (upd H r.G (.lst gs')) := by
  have ne := h.ne
  have f : Fr (fun b => b = r.G) H (upd H r.G (.lst gs')) := Fr.set rfl hG rfl
  obtain ⟨is, i1, i2⟩ := h.s.L
  refine h.setX r.mG ⟨_, hG, rfl⟩ ⟨?_, ⟨is, ?_, (i2.mono fun _ _ r => r.keep f.tup)⟩, ⟨_, upd_same, al⟩, h.s.t.keep f.tup, h.s.e.fr (f.wide fun b z => by rw [z]; exact zs_m r.mG), h.s.wt⟩
  · rw [upd_ne ne.xG]; exact h.s.x
  · rw [upd_ne ne.LG]; exact i1
end
end My
namespace My
open PySem PySem.Spec PyProof.Rows L2 TL
/-! ### the pieces of a tree, while a draft is written -/
structure WL (CD DL R : Addr) (r : DAt) (Y : Addr → Prop) (H0 : Hp) (rs : List DAt) (ds : List DSt) (d : DSt) (ds0 : List V) (H : Hp) (us : List V) (w : WSt) (nw : List DAt) : Prop where
  s : WS CD DL R r H (rs ++ nw) (ds ++ w.news) { d with l := w.l, ins := w.ins, tgs := w.tgs } us w.rest (ds0 ++ nw.map fun n => .ref n.x)
  f : Fr Y H0 H
  ln : nw.length = w.news.length
  hz : ∀ b, zs DL R r (rs ++ nw) b → Y b ∨ H0 b = none
section
variable {CD DL R : Addr} {r : DAt} {Y : Addr → Prop} {H0 H H' : Hp} {rs nw : List DAt} {ds : List DSt} {d : DSt} {ds0 us us' : List V} {w w' : WSt}
theorem WL.no (h : WL CD DL R r Y H0 rs ds d ds0 H us w nw) (f : Fr No H H') : WL CD DL R r Y H0 rs ds d ds0 H' us w nw := ⟨h.s.no f, h.f.trans f.no, h.ln, h.hz⟩
theorem WL.go (h : WL CD DL R r Y H0 rs ds d ds0 H us w nw) (f : Fr (zs DL R r (rs ++ nw)) H H') (s : WS CD DL R r H' (rs ++ nw) (ds ++ w'.news) { d with l := w'.l, ins := w'.ins, tgs := w'.tgs } us' w'.rest (ds0 ++ nw.map fun n => .ref n.x)) (e : w'.news = w.news) : WL CD DL R r Y H0 rs ds d ds0 H' us' w' nw :=
  ⟨s, h.f.drop2 f h.hz, by rw [e]; exact h.ln, h.hz⟩
theorem ifG_als {last : Bool} {gs : List V} {ts : List (Option Nat)} (al : Als RTg gs ts) : Als RTg (ifG last gs .non) (ifG last ts none) := by
  unfold ifG
  cases last with
  | true => exact al.app (.one (show RTg .non none from rfl))
  | false => exact (al.app (.one (show RTg .non none from rfl))).app (.one (show RTg .non none from rfl))
theorem leafP_len (dn : DIn) (last : Bool) : (leafP dn last).length ≤ 2 := by cases last <;> simp [leafP]
theorem ifP_len (a b c : Tr) (sc : Sc) (last : Bool) (n : Nat) : (ifP a b c sc last n).length ≤ 7 := by cases last <;> simp [ifP]
theorem nodup_snoc3 {l : List Addr} {x L G : Addr} (nd : l.Nodup) (h1 : x ∉ l) (h2 : L ∉ l) (h3 : G ∉ l) (n1 : x ≠ L) (n2 : x ≠ G) (n3 : L ≠ G) : (l ++ [x, L, G]).Nodup := by
  refine List.nodup_append.mpr ⟨nd, by simp [n1, n2, n3], fun a ha b hb e => ?_⟩
  subst e
  simp only [List.mem_cons, List.not_mem_nil, or_false] at hb
  rcases hb with e | e | e
  · exact h1 (by rw [← e]; exact ha)
  · exact h2 (by rw [← e]; exact ha)
  · exact h3 (by rw [← e]; exact ha)
theorem zs_snoc (DL R : Addr) (r n : DAt) (rs nw : List DAt) : (R :: DL :: (r.muts ++ mutsL (rs ++ (nw ++ [n])))) = (R :: DL :: (r.muts ++ mutsL (rs ++ nw))) ++ [n.x, n.L, n.G] := by
  rw [← List.append_assoc rs, mutsL_app (rs ++ nw)]
  show _ = R :: DL :: ((r.muts ++ mutsL (rs ++ nw)) ++ n.muts)
  rw [List.append_assoc r.muts]
  show R :: DL :: (r.muts ++ (mutsL (rs ++ nw) ++ (n.muts ++ []))) = _
  rw [List.append_nil]
theorem tp_all (h : WL CD DL R r Y H0 rs ds d ds0 H us w nw) {t : Tr} {sc : Sc} {last : Bool} {c : V} {e : Addr} {Q : VK} {E : XK} (rt : RT H c t) (wt : widT t) (sd : SDk (zs DL R r (rs ++ nw)) H e sc) (es : wrStep ds0.length w (.tree t sc last) = some w')
    (cont : ∀ H' nw' a us2 pcs w1, WL CD DL R r Y H0 rs ds d ds0 H' us w1 nw' → w1.rest = w.rest → w' = { w1 with rest := pcs ++ w1.rest } → H' a = some (.lst us2) → Als (RPc (zs DL R r (rs ++ nw')) H') us2 pcs → us2.length ≤ 3000 → ¬ zs DL R r (rs ++ nw') a → Q (.ref a) H') : tpK CD DL r.x e c last H Q E t := by
  have nz : ∀ {a}, H a = none → ¬ zs DL R r (rs ++ nw) a := fun {a} ha z => h.s.there a z ha
  have lea : ∀ (dn : DIn) (v : V), RDi H v dn → w' = { w with rest := leafP dn last ++ w.rest } → spLea [v, .bl last] H Q E := fun dn v rd ew => ⟨zs DL R r (rs ++ nw), v, dn, last, rfl, rd, fun a us2 H' f ha ha2 al =>
    cont H' nw a us2 _ w (h.no f) rfl ew ha2 al (by rw [al.len]; exact Nat.le_trans (leafP_len _ _) (by decide)) (nz ha)⟩
  cases rt with
  | @int a i hh =>
    unfold wrStep at es; cases es
    exact lea (.int i) _ (.int hh) rfl
  | @prim a p hh =>
    unfold wrStep at es; cases es
    exact lea (.prim p) _ (.prim hh) rfl
  | @glob a m y hh =>
    unfold wrStep at es; cases es
    exact lea (.glob m y) _ (.glob hh) rfl
  | @loc a n hh =>
    unfold wrStep at es
    dsimp only at es
    cases hs : scGet n sc with
    | none => rw [hs] at es; cases es
    | some s =>
    rw [hs] at es; cases es
    refine ⟨_, sc, s, sd, hs, fun v rv => ?_⟩
    obtain ⟨b, rfl, hb⟩ := rv
    exact lea (.src s) _ (.src hb) rfl
  | @call a l v vs g ts hh hq rf rs' =>
    unfold wrStep at es; cases es
    have w0 := wt
    unfold widT at w0
    exact ⟨zs DL R r (rs ++ nw), e, _, g, ts, sc, last, rfl, .call hh hq rf rs', wt, sd, fun a us2 H' f ha ha2 al => cont H' nw a us2 _ w (h.no f) rfl rfl ha2 al (by rw [al.len]; unfold callP; rw [List.length_append, List.length_map, List.length_cons]; show ts.length + 1 + 1 ≤ _; omega) (nz ha)⟩
  | @let_ a l v vs ns ts b hh hq rp rb =>
    unfold wrStep at es
    dsimp only at es
    obtain ⟨lim, rfl⟩ := gate_ok es
    have w0 := wt
    unfold widT at w0
    have lts := rp.len.2
    refine ⟨zs DL R r (rs ++ nw), r.x, r.dx, e, r.e, r.L, r.G, d.p, w.l, r.cb, _, ns, ts, b, sc, last, rfl, h.s.s.x, zs_m r.mx, h.s.there, .let_ hh hq rp rb, wt, sd, lim, fun a us2 H' f hx' ha ha2 al => ?_⟩
    have ne := h.s.ne
    have hw : ∀ b, b = r.x → b = R ∨ b = DL ∨ b ∈ r.muts := fun b z => .inr (.inr (by rw [z]; exact r.mx))
    have fz := f.wide (WS.zw (DL := DL) (R := R) (r := r) (ns := rs ++ nw) hw)
    obtain ⟨is, i1, i2⟩ := h.s.s.L
    obtain ⟨gs, g1, g2⟩ := h.s.s.G
    refine cont H' nw a us2 _ { w with l := w.l + ns.length } (h.go fz (h.s.mv f hw (f.keep (ne.Rm _ r.mx) rfl h.s.hR) (h.s.al.mono fun _ _ r => r.fr fz) (f.keep (ne.Dm _ r.mx) rfl h.s.hD)
      ⟨hx', ⟨is, f.keep (fun z => ne.xL z.symm) rfl i1, i2.mono fun _ _ r => r.keep f.tup⟩, ⟨gs, f.keep (fun z => ne.xG z.symm) rfl g1, g2⟩, h.s.s.t.keep f.tup, h.s.s.e.fr fz, h.s.s.wt⟩) rfl) rfl rfl ha2 al ?_ (nz ha)
    rw [al.len]
    unfold letP
    rw [List.length_append, letPs_len]
    show 2 * ts.length + 1 ≤ _
    omega
  | @if_ a y1 y2 y3 p1 p2 p3 hh ry1 ry2 ry3 =>
    unfold wrStep at es
    dsimp only at es
    obtain ⟨lim, rfl⟩ := gate_ok es
    obtain ⟨is, i1, i2⟩ := h.s.s.L
    obtain ⟨gs, g1, g2⟩ := h.s.s.G
    have lg : gs.length = w.tgs.length := g2.len
    refine ⟨zs DL R r (rs ++ nw), r.x, r.dx, e, r.e, r.L, r.G, d.p, w.l, r.cb, _, p1, p2, p3, gs, sc, last, rfl, h.s.s.x, g1, by rw [lg]; exact lim, zs_m r.mG, .if_ hh ry1 ry2 ry3, wt, sd, fun a us2 H' f hG' ha ha2 al => ?_⟩
    have ne := h.s.ne
    have hw : ∀ b, b = r.G → b = R ∨ b = DL ∨ b ∈ r.muts := fun b z => .inr (.inr (by rw [z]; exact r.mG))
    have fz := f.wide (WS.zw (DL := DL) (R := R) (r := r) (ns := rs ++ nw) hw)
    rw [lg] at al
    refine cont H' nw a us2 _ { w with tgs := ifG last w.tgs none } (h.go fz (h.s.mv f hw (f.keep (ne.Rm _ r.mG) rfl h.s.hR) (h.s.al.mono fun _ _ r => r.fr fz) (f.keep (ne.Dm _ r.mG) rfl h.s.hD)
      ⟨f.keep ne.xG rfl h.s.s.x, ⟨is, f.keep ne.LG rfl i1, i2.mono fun _ _ r => r.keep f.tup⟩, ⟨_, hG', ifG_als g2⟩, h.s.s.t.keep f.tup, h.s.s.e.fr fz, h.s.s.wt⟩) rfl) rfl rfl ha2 al ?_ (nz ha)
    rw [al.len]
    exact Nat.le_trans (ifP_len _ _ _ _ _ _) (by decide)
  | @fn a l v ns b hh hq rb =>
    unfold wrStep at es
    dsimp only at es
    cases hs : ssOf sc (outT (.fn ns b)) with
    | none => rw [hs] at es; cases es
    | some ss =>
    rw [hs] at es
    obtain ⟨⟨l1, l2, l3, l4⟩, rfl⟩ := gate_ok es
    have lv : (ds0 ++ nw.map fun n => V.ref n.x).length = ds0.length + w.news.length := by rw [List.length_append, List.length_map, h.ln]
    refine ⟨zs DL R r (rs ++ nw), DL, e, _, _, ns, b, sc, ss, rfl, h.s.hD, by rw [lv]; omega, zs_D, h.s.there, .fn hh hq rb, wt, l2, l3, l4, sd, hs, fun r' x dx cb e' L G H1 f hx hL hG n1 n2 n3 hDL' hx' hL' hG' rtb sde he' rdi => ?_⟩
    rw [lv] at rdi
    let n : DAt := ⟨x, dx, e', L, G, cb⟩
    have ne := h.s.ne
    have hw : ∀ b, b = DL → b = R ∨ b = DL ∨ b ∈ r.muts := fun b z => .inr (.inl z)
    have zz : ∀ q, zs DL R r (rs ++ (nw ++ [n])) q ↔ zs DL R r (rs ++ nw) q ∨ q ∈ [x, L, G] := fun q => by
      unfold zs
      rw [zs_snoc]
      exact List.mem_append
    have zn : ∀ q, q ∈ [x, L, G] → H q = none := fun q m => by
      simp only [List.mem_cons, List.not_mem_nil, or_false] at m
      rcases m with e | e | e <;> rw [e] <;> assumption
    have zg : ∀ q, zs DL R r (rs ++ (nw ++ [n])) q → zs DL R r (rs ++ nw) q ∨ H q = none := fun q z => ((zz q).mp z).imp id (zn q)
    have fz : Fr (zs DL R r (rs ++ nw)) H H1 := f.wide (WS.zw (DL := DL) (R := R) (r := r) (ns := rs ++ nw) hw)
    have fy : Fr (zs DL R r (rs ++ (nw ++ [n]))) H H1 := fz.wide fun q z => (zz q).mpr (.inl z)
    have s1 : WS CD DL R r H1 (rs ++ (nw ++ [n])) (ds ++ (w.news ++ [⟨ns.length, ns.length, [], [], b, fnSc (.fn ns b)⟩])) { d with l := w.l, ins := w.ins, tgs := w.tgs } us w.rest (ds0 ++ (nw ++ [n]).map fun n => .ref n.x) := by
      refine ⟨?_, f.keep ne.RD rfl h.s.hR, (h.s.al.mono fun _ _ r => (r.grow zg).fr fy), ?_, ?_, ((h.s.s.grow zg).fr f (fun b z => (zz b).mpr (.inl (WS.zw hw b z))) fun b m z => ne.Dm b m z.symm)⟩
      · rw [zs_snoc]
        have out : ∀ q, q ∈ [x, L, G] → q ∉ (R :: DL :: (r.muts ++ mutsL (rs ++ nw))) := fun q m z => h.s.there q z (zn q m)
        exact nodup_snoc3 h.s.nd (out x (by simp)) (out L (by simp)) (out G (by simp)) n1 n2 n3
      · rw [hDL', List.map_append, List.append_assoc]; rfl
      · rw [← List.append_assoc rs, ← List.append_assoc ds]
        have o1 := (h.s.o.grow (Z := zs DL R r (rs ++ nw ++ [n])) (by rw [List.append_assoc]; exact zg)).fr f (fun b z => by rw [List.append_assoc]; exact (zz b).mpr (.inl (WS.zw hw b z))) fun b m z => ne.oD b m z
        refine o1.app (.cons ⟨hx', ⟨[], hL', .nil⟩, ⟨[], hG', .nil⟩, rtb, ?_, by unfold widT at wt; exact wt.2⟩ .nil)
        obtain ⟨kvs, k1, k2, k3, k4⟩ := sde
        refine ⟨kvs, k1, fun z => ?_, k3, k4⟩
        rw [List.append_assoc] at z
        rcases (zz _).mp z with z | z
        · exact k2 z
        · simp only [List.mem_cons, List.not_mem_nil, or_false] at z
          rcases z with z | z | z
          · have z : e' = x := z
            rw [z, hx'] at k1; cases k1
          · have z : e' = L := z
            rw [z, hL'] at k1; cases k1
          · have z : e' = G := z
            rw [z, hG'] at k1; cases k1
    have w1 : WL CD DL R r Y H0 rs ds d ds0 H1 us { w with news := w.news ++ [⟨ns.length, ns.length, [], [], b, fnSc (.fn ns b)⟩] } (nw ++ [n]) := by
      refine ⟨s1, h.f.drop2 fz h.hz, by show _ = (w.news ++ [_]).length; rw [List.length_append, List.length_append, h.ln]; rfl, fun q z => ?_⟩
      rcases (zz q).mp z with z | z
      · exact h.hz q z
      · exact .inr (h.f.dom (zn q z))
    exact ⟨zs DL R r (rs ++ (nw ++ [n])), r', _, last, rfl, rdi, fun a us2 H' f2 ha ha2 al => cont H' (nw ++ [n]) a us2 _ _ (w1.no f2) rfl rfl ha2 al (by rw [al.len]; exact Nat.le_trans (leafP_len _ _) (by decide)) (fun z => s1.there a z ha)⟩
end
end My
namespace My
open PySem PySem.Spec PyProof.Rows L2 TL
/-! ### write_draft -/
theorem ev_at {K : PySem.W.Frag} {σ : L2.St} {H : Hp} {i : Nat} {a : Addr} {x w : Str} {xs : List V} {Q : Bool → Hp → Prop} (h : σ[i]? = some (some (.ref a))) (ha : H a = some (.tup (.str x :: xs))) (q : Q (decide (x = w)) H) : tTest (tOp rEq (tOp (rIxT K) (tVar i) (tC (.int 0))) (tC (.str w))) σ H Q := by
  refine ⟨_, h, a, _, 0, _, rfl, rfl, SqT.of ha, at0 _ _, rfl, _, rfl, ?_⟩
  have e : decide (V.str x = V.str w) = decide (x = w) := decide_eq_decide.mpr ⟨fun z => V.str.inj z, fun z => by rw [z]⟩
  rw [e]
  exact q
abbrev sWd : Stmt := top 12
abbrev NWd : List Str := ["drafts", "draft", "rest", "piece"]
def spWd (CD : Addr) : Sp := fun vs H Q _ => ∃ (DL : Addr) (r : DAt) (d : DSt) (Y : Addr → Prop) (rs : List DAt) (ds : List DSt) (ds0 : List V) (k : Nat) (w : WSt), vs = [.ref DL, .ref r.x] ∧ H DL = some (.lst ds0) ∧ DRs CD Y H rs ds ∧ DR CD Y H r d ∧ (DL :: (r.muts ++ mutsL rs)).Nodup ∧
  (∀ b, Y b ↔ b ∈ DL :: (r.muts ++ mutsL rs)) ∧ wrD ds0.length k d = some w ∧
  ∀ (Y' : Addr → Prop) ns H', Fr Y H H' → ns.length = w.news.length → (∀ b, Y' b ↔ b ∈ DL :: (r.muts ++ mutsL (rs ++ ns))) → (∀ b, Y' b → Y b ∨ H b = none) → (DL :: (r.muts ++ mutsL (rs ++ ns))).Nodup → H' DL = some (.lst (ds0 ++ ns.map fun n => .ref n.x)) →
    DRs CD Y' H' (rs ++ ns) (ds ++ w.news) → DR CD Y' H' r { d with l := w.l, ins := w.ins, tgs := w.tgs } → Q .non H'
section
variable {P : Program} {w : World} {K : PySem.W.Frag} {mg : Str → Option Value} {base : Heap} {CD : Addr}
theorem scWd : FnScope NWd ["drafts", "draft"] (defScope sWd) := ⟨rfl, rfl, rfl, by decide +kernel, rfl, by decide +kernel, by decide +kernel⟩
theorem ixN_nat {n i : Nat} (h : i < n) : ixN n (i : Int) = some i := by
  unfold ixN
  rw [if_pos (by omega), if_pos (by omega)]
  rfl
theorem tgs_set {gs : List V} {ts : List (Option Nat)} (al : Als RTg gs ts) {n m : Nat} : Als RTg (gs.set n (.int (m : Nat))) (ts.set n (some m)) := by
  induction al generalizing n with
  | nil => exact .nil
  | cons r rs ih =>
    cases n with
    | zero => exact .cons rfl rs
    | succ n => exact .cons r ih
theorem ok_wd {f fT : Addr} {fd dT : FuncData} (Fn : Fun K "write_draft" "write_draft" sWd f fd) (B : Blt mg) (U : FldC K CD fD6) (GT : Cal P w K mg base CX0 5 "tree_pieces" ["drafts", "draft", "core", "scope", "last"] (spTp CD) fT dT) : FnOk P w K mg base CX0 6 f fd ["drafts", "draft"] (spWd CD) := by
  refine Fn.ok scWd (fun vs H Q E h => ?_) (fun cdv A outer s H vs Q E hr h => ?_)
  · obtain ⟨DL, r, d, Y, rs, ds, ds0, k, w, rfl, _⟩ := h
    rfl
  obtain ⟨DL, r, d, Y, rs, ds, ds0, k, wE, rfl, hDL, hrs, hd, ndp, hY, hw, q⟩ := h
  have nd := scWd.nd
  have hu := hu_of hr
  refine ⟨_, (pss_cons (ps_set (i := 2) nd rfl (Or.inl rfl) (pe_lst (pa_cons (pe_tup (pa_cons pe_str (pa_cons (pe_fld (pv 1) rfl) (pa_cons (pe_fld (pv 1) rfl) (pa_cons pe_bl pa_nil))))) pa_nil)))
    (pss_one (ps_while PassesOwn.never (pt_truth (pv 2) (by intro _; rfl))
      (pss_cons (ps_set (i := 3) nd rfl (Or.inl rfl) (pe_bm0 PySem.F.plainAttrs_list PySem.F.slot_list_pop PySem.F.type_list_pop mt_pop (pv 2)))
      (pss_one (ps_if (pt_cmpR op_eq (pe_ix (r := rIxT K) ix_tup (pv 3) pe_int (fun _ _ => rfl)) pe_str (nomark _)) (pss_one (ps_expr (pe_bm PySem.F.plainAttrs_list PySem.F.slot_list_append PySem.F.type_list_append mt_append (pe_fld (pv 1) rfl) (pa_cons (pe_ix (r := rIxT K) ix_tup (pv 3) pe_int (fun _ _ => rfl)) pa_nil)))) (pss_one (ps_if (pt_cmpR op_eq (pe_ix (r := rIxT K) ix_tup (pv 3) pe_int (fun _ _ => rfl)) pe_str (nomark _)) (pss_one (ps_asg (pe_callB call_len_seq (by rfl) B.len PySem.boot_len (pa_cons (pe_fld (pv 1) rfl) pa_nil)) (pg_sub (pe_fld (pv 1) rfl) (pe_ix (r := rIxT K) ix_tup (pv 3) pe_int (fun _ _ => rfl)) set_list))) (pss_one (ps_expr (pe_bm PySem.F.plainAttrs_list PySem.F.slot_list_extend PySem.F.type_list_extend mt_extend (pv 2) (pa_cons (pe_revL (pe_call GT.ok hr rfl GT.g GT.k GT.b .nil pass0 (pa_cons (pv 0) (pa_cons (pv 1) (pa_cons (pe_ix (r := rIxT K) ix_tup (pv 3) pe_int (fun _ _ => rfl)) (pa_cons (pe_ix (r := rIxT K) ix_tup (pv 3) pe_int (fun _ _ => rfl)) (pa_cons (pe_ix (r := rIxT K) ix_tup (pv 3) pe_int (fun _ _ => rfl)) pa_nil))))))) pa_nil)))))))))))), ?_⟩
  refine ⟨_, rfl, r.x, CD, r.dx, _, _, rfl, hd.x, U.c, U.n _ (by simp), rfl, _, rfl, r.x, CD, r.dx, _, _, rfl, hd.x, U.c, U.n _ (by simp), rfl, by show 4 ≤ sizeLine; decide, fun s1 hs1 => ⟨by show 1 ≤ sizeLine; decide, fun R hR => ?_⟩⟩
  have f1 := Fr.new (X := No) (o := .tup [.str "tree", r.cb, .ref r.e, .bl true]) hs1
  have f2 := Fr.new (X := No) (o := .lst [V.ref s1]) hR
  have f12 := f1.trans f2
  have e1 := f2.tup _ _ upd_same
  have eR : (upd (upd H s1 (.tup [.str "tree", r.cb, .ref r.e, .bl true])) R (.lst [V.ref s1])) R = some (.lst [V.ref s1]) := upd_same
  have hR0 := f1.dom hR
  generalize (upd (upd H s1 (.tup [.str "tree", r.cb, .ref r.e, .bl true])) R (.lst [V.ref s1])) = H1 at f12 e1 eR ⊢
  have th : ∀ b, b ∈ DL :: (r.muts ++ mutsL rs) → H b ≠ none := fun b m => by
    rcases List.mem_cons.mp m with e | m
    · rw [e, hDL]; exact fun z => by cases z
    rcases List.mem_append.mp m with m | m
    · exact hd.there b m
    · exact hrs.there b m
  have zg : ∀ b, zs DL R r rs b → Y b ∨ H b = none := fun b z => by
    rcases List.mem_cons.mp z with e | m
    · rw [e]; exact .inr hR0
    · exact .inl ((hY b).mpr m)
  have w0 : WL CD DL R r Y H rs ds d ds0 H1 [.ref s1] ⟨d.l, d.ins, d.tgs, [.tree d.t d.sc true], []⟩ [] := by
    refine ⟨?_, f12.no, rfl, by rw [List.append_nil]; exact zg⟩
    rw [List.append_nil, List.append_nil]
    have hd1 := (hd.grow zg).fr f12 (fun b z => z.elim) fun b _ z => z
    refine ⟨List.nodup_cons.mpr ⟨fun m => th R m hR0, ndp⟩, eR, ?_, ?_, (hrs.grow zg).fr f12 (fun b z => z.elim) fun b _ z => z, hd1⟩
    · exact .cons (.tree e1 hd1.t hd1.wt hd1.e) .nil
    · rw [List.map_nil, List.append_nil]
      exact f12.keep (fun z => z) rfl hDL
  dsimp only
  refine while_n (fun kk σ H' => ∃ (us : List V) (w : WSt) (nw : List DAt) (v3 : Option V), σ = [some (.ref DL), some (.ref r.x), some (.ref R), v3] ∧ WL CD DL R r Y H rs ds d ds0 H' us w nw ∧ wrF ds0.length kk w = some wE) k
    ⟨_, _, _, _, rfl, w0, hw⟩ ?_ ?_
  · rintro kk σ H' ⟨us, w, nw, v3, rfl, wl, hwr⟩
    have dun := hwr
    refine ⟨_, rfl, !us.isEmpty, .inl ⟨us, SqL.of wl.s.hR, rfl⟩, ?_⟩
    cases kk with
    | zero => unfold wrF at hwr; cases hwr
    | succ kk =>
    unfold wrF at hwr
    have al := wl.s.al
    cases hrest : w.rest with
    | nil =>
      rw [hrest] at hwr al
      cases hwr
      cases al
      refine iteF ?_
      refine q (fun b => b ∈ DL :: (r.muts ++ mutsL (rs ++ nw))) nw H' wl.f wl.ln (fun b => Iff.rfl) (fun b z => wl.hz b (List.mem_cons_of_mem _ z)) (List.nodup_cons.mp wl.s.nd).2 wl.s.hD (wl.s.o.grow fun b z => .inl (List.mem_cons_of_mem _ z)) (wl.s.s.grow fun b z => .inl (List.mem_cons_of_mem _ z))
    | cons p rest =>
      rw [hrest] at hwr al
      dsimp only at hwr
      by_cases lr : rest.length ≤ 900000
      case neg => rw [if_neg lr] at hwr; cases hwr
      rw [if_pos lr] at hwr
      obtain ⟨v, ws, eus, rp, al1⟩ := al.last
      subst eus
      have ie : (!(ws ++ [v]).isEmpty) = true := by cases ws <;> rfl
      rw [ie]
      refine iteT ?_
      refine ⟨_, rfl, .inl ⟨rfl, _, SqL.of wl.s.hR⟩, R, _, v, rfl, rfl, wl.s.hR, by simp, ?_⟩
      rw [List.dropLast_concat]
      obtain ⟨s2, f2⟩ := wl.s.setR al1
      have rp2 := rp.fr f2
      have wl2 : WL CD DL R r Y H rs ds d ds0 _ ws { w with rest := rest } nw := wl.go f2 s2 rfl
      generalize upd H' R (.lst ws) = H2 at f2 s2 rp2 wl2 ⊢
      cases rp2 with
      | @write a v' dn ha rd =>
        cases hst : wrStep ds0.length { w with rest := rest } (.write dn) with
        | none => rw [hst] at hwr; cases hwr
        | some w1 =>
        rw [hst] at hwr
        unfold wrStep at hst
        dsimp only at hst
        obtain ⟨lim, rfl⟩ := gate_ok hst
        refine ev_at rfl ha ?_
        refine ite2 (fun _ => ?_) (fun c => absurd (decide_eq_true (show ("write" : Str) = "write" from rfl)) c)
        obtain ⟨is, i1, i2⟩ := s2.s.L
        have li : is.length = w.ins.length := i2.len
        refine ⟨_, rfl, r.x, CD, r.dx, _, _, rfl, s2.s.x, U.c, U.n _ (by simp), rfl, .inl ⟨rfl, _, SqL.of i1⟩, _, rfl, a, _, 1, _, rfl, rfl, SqT.of ha, at1 _ _ _, r.L, _, _, rfl, rfl, i1, Nat.lt_of_lt_of_le (show is.length < 900000 by omega) (by decide), ?_⟩
        obtain ⟨s3, f3⟩ := s2.insn i1 rd
        exact ⟨kk, Nat.lt_succ_self _, _, _, nw, _, rfl, wl2.go (w' := { w with rest := rest, ins := w.ins ++ [dn] }) f3 s3 rfl, (show wrF _ kk _ = some wE from hwr)⟩
      | @label a n ha =>
        cases hst : wrStep ds0.length { w with rest := rest } (.label n) with
        | none => rw [hst] at hwr; cases hwr
        | some w1 =>
        rw [hst] at hwr
        unfold wrStep at hst
        dsimp only at hst
        obtain ⟨lim, rfl⟩ := gate_ok hst
        refine ev_at rfl ha ?_
        refine ite2 (fun c => absurd (of_decide_eq_true c) (show ¬ ("label" : Str) = "write" by decide +kernel)) (fun _ => ?_)
        refine ev_at rfl ha ?_
        refine ite2 (fun _ => ?_) (fun c => absurd (decide_eq_true (show ("label" : Str) = "label" from rfl)) c)
        obtain ⟨is, i1, i2⟩ := s2.s.L
        obtain ⟨gs, g1, g2⟩ := s2.s.G
        have li : is.length = w.ins.length := i2.len
        have lg : gs.length = w.tgs.length := g2.len
        refine ⟨_, rfl, r.x, CD, r.dx, _, _, rfl, s2.s.x, U.c, U.n _ (by simp), rfl, r.L, _, rfl, .inl (SqL.of i1), _, rfl, r.x, CD, r.dx, _, _, rfl, s2.s.x, U.c, U.n _ (by simp), rfl, _, rfl, a, _, 1, _, rfl, rfl, SqT.of ha, at1 _ _ _, ?_⟩
        refine ⟨r.G, gs, _, n, rfl, rfl, g1, ixN_nat (by omega), ?_⟩
        obtain ⟨s3, f3⟩ := s2.tgs (gs' := gs.set n (.int is.length)) (ts := w.tgs.set n (some w.ins.length)) g1 (by rw [li]; exact tgs_set g2)
        exact ⟨kk, Nat.lt_succ_self _, _, _, nw, _, rfl, wl2.go (w' := { w with rest := rest, tgs := w.tgs.set n (some w.ins.length) }) f3 s3 rfl, (show wrF _ kk _ = some wE from hwr)⟩
      | @tree a e c t sc last ha rt wt sd =>
        cases hst : wrStep ds0.length { w with rest := rest } (.tree t sc last) with
        | none => rw [hst] at hwr; cases hwr
        | some w' =>
        rw [hst] at hwr
        refine ev_at rfl ha ?_
        refine ite2 (fun c => absurd (of_decide_eq_true c) (show ¬ ("tree" : Str) = "write" by decide +kernel)) (fun _ => ?_)
        refine ev_at rfl ha ?_
        refine ite2 (fun c => absurd (of_decide_eq_true c) (show ¬ ("tree" : Str) = "label" by decide +kernel)) (fun _ => ?_)
        refine ⟨_, rfl, .inl ⟨rfl, _, SqL.of s2.hR⟩, _, rfl, _, rfl, _, rfl, a, _, 1, _, rfl, rfl, SqT.of ha, at1 _ _ _, _, rfl, a, _, 2, _, rfl, rfl, SqT.of ha, atI_nat (j := 2) rfl, _, rfl, a, _, 3, _, rfl, rfl, SqT.of ha, atI_nat (j := 3) rfl, ?_⟩
        refine ⟨DL, r.x, e, c, t, last, rfl, rt, ?_⟩
        refine tp_all wl2 rt wt sd hst fun H3 nw' L us2 pcs w1 wl3 er ew hL al2 l2 nz => ?_
        refine ⟨L, us2, rfl, SqL.of hL, fun p hp => ?_⟩
        have f4 : Fr No H3 (upd H3 p (.lst us2.reverse)) := Fr.new hp
        have wl4 := wl3.no f4
        have ep : upd H3 p (.lst us2.reverse) p = some (.lst us2.reverse) := upd_same
        have al4 := al2.mono fun _ _ r => r.fr f4.no
        generalize upd H3 p (.lst us2.reverse) = H4 at f4 wl4 ep al4 ⊢
        have lw : ws.length = rest.length := by rw [al1.len, List.length_reverse]
        refine ⟨R, p, _, _, rfl, rfl, wl4.s.hR, ep, ?_, ?_⟩
        · rw [List.length_reverse]
          exact Nat.le_trans (show ws.length + us2.length ≤ 1000000 by omega) (by decide)
        have al5 : Als (RPc (zs DL R r (rs ++ nw')) H4) (ws ++ us2.reverse) (pcs ++ w1.rest).reverse := by
          rw [List.reverse_append]
          exact wl4.s.al.app al4.rev
        obtain ⟨s5, f5⟩ := wl4.s.setR (rest' := pcs ++ w1.rest) al5
        rw [ew] at hwr
        exact ⟨kk, Nat.lt_succ_self _, _, _, nw', _, rfl, wl4.go (w' := { w1 with rest := pcs ++ w1.rest }) f5 s5 rfl, (show wrF _ kk _ = some wE from hwr)⟩
  · rintro σ H0 Q1 Q2 hm ⟨x, e, kk, h6, h7⟩
    exact ⟨x, e, kk, h6, hm _ _ h7⟩
end
end My
namespace My
open PySem PySem.Spec PyProof.Rows L2 TL
/-! ### compile_core -/
theorem DRs.unapp {CD : Addr} {Y : Addr → Prop} {H : Hp} : ∀ {rs ss : List DAt} {ds es : List DSt}, DRs CD Y H (rs ++ ss) (ds ++ es) → rs.length = ds.length → DRs CD Y H rs ds ∧ DRs CD Y H ss es
  | [], _, [], _, h, _ => ⟨.nil, h⟩
  | _ :: _, _, _ :: _, _, .cons h hs, e => by
    obtain ⟨a, b⟩ := DRs.unapp hs (by simpa using e)
    exact ⟨.cons h a, b⟩
theorem DRs.split3 {CD : Addr} {Y : Addr → Prop} {H : Hp} : ∀ {all : List DAt} {da db : List DSt} {d : DSt}, DRs CD Y H all (da ++ d :: db) → ∃ A r B, all = A ++ r :: B ∧ DRs CD Y H A da ∧ DR CD Y H r d ∧ DRs CD Y H B db
  | _, [], _, _, .cons h hs => ⟨[], _, _, rfl, .nil, h, hs⟩
  | _, _ :: da, _, _, .cons h hs => by
    obtain ⟨A, r, B, e, h1, h2, h3⟩ := DRs.split3 (da := da) hs
    exact ⟨_ :: A, r, B, by rw [e]; rfl, .cons h h1, h2, h3⟩
theorem DRs.get {CD : Addr} {Y : Addr → Prop} {H : Hp} : ∀ {all : List DAt} {ds : List DSt} {i : Nat} {d : DSt}, DRs CD Y H all ds → ds[i]? = some d → ∃ r, all[i]? = some r ∧ DR CD Y H r d
  | _, _, _, _, .nil, e => by simp at e
  | _, _, 0, _, .cons h hs, e => by cases e; exact ⟨_, rfl, h⟩
  | _, _, i + 1, _, .cons h hs, e => by
    obtain ⟨r, h1, h2⟩ := DRs.get (i := i) hs (by simpa using e)
    exact ⟨r, by simpa using h1, h2⟩
theorem putK_len (kvs : List (Key × V)) (k : Key) (v : V) : (putK kvs k v).length ≤ kvs.length + 1 := by
  unfold putK
  split
  · rw [List.length_map]; omega
  · rw [List.length_append]; exact Nat.le_refl _
theorem muts_perm (DL : Addr) (A B : List DAt) (r : DAt) : (DL :: mutsL (A ++ r :: B)).Perm (DL :: (r.muts ++ mutsL (A ++ B))) := by
  refine List.Perm.cons _ ?_
  rw [mutsL_app, mutsL_app]
  show (mutsL A ++ (r.muts ++ mutsL B)).Perm (r.muts ++ (mutsL A ++ mutsL B))
  rw [← List.append_assoc, ← List.append_assoc]
  exact List.Perm.append_right _ List.perm_append_comm
theorem CdR.put {H : Hp} {kvs : List (Key × V)} {cs : Nat → Option Code} {u : V} {c : Code} {i : Nat} (h : CdR H kvs cs) (r : RC H u c) : CdR H (putK kvs (.inl (i : Int)) u) (fun j => if j = i then some c else cs j) := by
  intro k c' e
  dsimp only at e
  rw [valV_put]
  by_cases z : k = i
  · rw [if_pos z] at e
    cases e
    exact ⟨u, by rw [z, if_pos rfl], r⟩
  · rw [if_neg z] at e
    obtain ⟨v, h1, h2⟩ := h k c' e
    exact ⟨v, by rw [if_neg (fun q => z (by have := Sum.inl.inj q; omega))]; exact h1, h2⟩
abbrev sCc : Stmt := top 15
abbrev NCc : List Str := ["core", "drafts", "written", "codes", "at"]
def spCc : Sp := fun vs H Q _ => ∃ (c : V) (t : Tr) (k n : Nat) (code : Code), vs = [c] ∧ RT H c t ∧ widT t ∧ compF k n t = some code ∧ ∀ u H', Fr No H H' → RC H' u code → Q u H'
def dz (DL : Addr) (all : List DAt) : Addr → Prop := fun b => b ∈ DL :: mutsL all
structure CC (CD DL : Addr) (H0 H : Hp) (all : List DAt) (ds : List DSt) : Prop where
  nd : (DL :: mutsL all).Nodup
  hD : H DL = some (.lst (all.map fun n => V.ref n.x))
  o : DRs CD (dz DL all) H all ds
  f : Fr No H0 H
  new : ∀ b, dz DL all b → H0 b = none
section
variable {P : Program} {w : World} {K : PySem.W.Frag} {mg : Str → Option Value} {base : Heap} {CD : Addr}
theorem scCc : FnScope NCc ["core"] (defScope sCc) := ⟨rfl, rfl, rfl, by decide +kernel, rfl, by decide +kernel, by decide +kernel⟩
theorem ok_cc {f fW fF fI : Addr} {fd dW dF dI : FuncData} (Fn : Fun K "compile_core" "compile_core" sCc f fd) (B : Blt mg) (B2 : Bl2 mg) (U : FldC K CD fD6) (MD : MkC P w K mg base 1 "Draft" ["self", "parameters", "body", "scope"] (spDrI CD) CD fI dI) (GW : Cal P w K mg base CX0 6 "write_draft" ["drafts", "draft"] (spWd CD) fW dW)
    (GF : Cal P w K mg base CX0 2 "final_code" ["draft", "codes"] (spFc CD) fF dF) : FnOk P w K mg base CX0 7 f fd ["core"] spCc := by
  refine Fn.ok scCc (fun vs H Q E h => ?_) (fun cdv A outer s H vs Q E hr h => ?_)
  · obtain ⟨c, t, k, n, code, rfl, _⟩ := h
    rfl
  obtain ⟨c, t, k, n, code, rfl, rt, wt, hcomp, q⟩ := h
  have nd := scCc.nd
  have hu := hu_of hr
  have r2 := hr.mono (show 2 ≤ 6 by decide)
  unfold compF at hcomp
  cases hwa : wrAll k n [] [⟨0, 0, [], [], t, []⟩] with
  | none => rw [hwa] at hcomp; cases hcomp
  | some fin =>
  rw [hwa] at hcomp
  dsimp only at hcomp
  by_cases lfin : fin.length ≤ 900000
  case neg => rw [if_neg lfin] at hcomp; cases hcomp
  rw [if_pos lfin] at hcomp
  cases hco : codesF fin fin.length (fun _ => none) with
  | none => rw [hco] at hcomp; cases hcomp
  | some cs0 =>
  rw [hco] at hcomp
  dsimp only at hcomp
  refine ⟨_, (pss_cons (ps_set (i := 1) nd rfl (Or.inl rfl) (pe_lst (pa_cons (pe_make (E := fun _ _ _ => False) MD.m MD.ok r2 rfl MD.g MD.b .nil pass0 (pa_cons pe_int (pa_cons (pv 0) (pa_cons pe_dnewK pa_nil)))) pa_nil)))
    (pss_cons (ps_set (i := 2) nd rfl (Or.inl rfl) pe_int)
    (pss_cons (ps_while PassesOwn.never (pt_cmpR op_lt (pv 2) (pe_callB call_len_seq (by rfl) B.len PySem.boot_len (pa_cons (pv 1) pa_nil)) (nomark _))
      (pss_cons (ps_expr (pe_call GW.ok hr rfl GW.g GW.k GW.b .nil pass0 (pa_cons (pv 1) (pa_cons (pe_ix (r := rIxL K) ix_list (pv 1) (pv 2) (fun _ _ => rfl)) pa_nil))))
      (pss_one (ps_aug (i := 2) nd rfl (Or.inl rfl) pe_int ip_add))))
    (pss_cons (ps_set (i := 3) nd rfl (Or.inl rfl) pe_dnewK)
    (pss_cons (ps_for PassesOwn.never rfl (pi_revR rfl B2.reversed (prg_1 rfl B.range (pe_callB call_len_seq (by rfl) B.len PySem.boot_len (pa_cons (pv 1) pa_nil)))) (pg_name (i := 4) nd rfl (Or.inl rfl))
      (pss_one (ps_dput hu (pv 3) (pv 4) (pe_call GF.ok r2 rfl GF.g GF.k GF.b .nil pass0 (pa_cons (pe_ix (r := rIxL K) ix_list (pv 1) (pv 4) (fun _ _ => rfl)) (pa_cons (pv 3) pa_nil))) rfl)))
    (pss_one (ps_ret (pe_dget hu (pv 3) pe_int (fun _ _ => rfl))))))))), ?_⟩
  refine ⟨_, rfl, fun e he => ?_⟩
  have fe : Fr No H (upd H e (.dK [])) := Fr.new he
  have ee : upd H e (.dK []) e = some (.dK []) := upd_same
  generalize upd H e (.dK []) = He at fe ee ⊢
  refine fun x dx hx hdx ne => ⟨x, dx, e, 0, c, rfl, upd_same, fun L G H5 hL hG nLG f5 e5L e5G e5x => ⟨rfl, by show 1 ≤ sizeLine; decide, fun DL hDL => ?_⟩⟩
  have fm : Fr No He (upd (upd He dx (.own x)) x (.ins CD dx [])) := mk_fr hx hdx ne
  have xm : upd (upd He dx (.own x)) x (.ins CD dx []) x = some (.ins CD dx []) := upd_same
  have em := fm.keep (fun z => z) rfl ee
  generalize upd (upd He dx (.own x)) x (.ins CD dx []) = Hm at fm xm em f5 hL hG ⊢
  have hx0 : H x = none := fe.dom hx
  have nex : e ≠ x := ne_of_none ee hx
  have f05 : Fr No H H5 := (fe.trans fm).drop f5 fun b z => by rw [z]; exact hx0
  have f6 : Fr No H5 (upd H5 DL (.lst [.ref x])) := Fr.new hDL
  have e6 : upd H5 DL (.lst [.ref x]) DL = some (.lst [.ref x]) := upd_same
  have f06 := f05.trans f6
  have e5 := f5.keep nex rfl em
  have c0 : CC CD DL H (upd H5 DL (.lst [.ref x])) [⟨x, dx, e, L, G, c⟩] ([] ++ [⟨0, 0, [], [], t, []⟩]) := by
    have nDx : DL ≠ x := fun z => by rw [z, e5x] at hDL; cases hDL
    have nDL : DL ≠ L := fun z => by rw [z, e5L] at hDL; cases hDL
    have nDG : DL ≠ G := fun z => by rw [z, e5G] at hDL; cases hDL
    have nDe : e ≠ DL := fun z => by rw [← z, e5] at hDL; cases hDL
    have nxL : x ≠ L := fun z => by rw [← z, xm] at hL; cases hL
    have nxG : x ≠ G := fun z => by rw [← z, xm] at hG; cases hG
    have neL : e ≠ L := fun z => by rw [← z, em] at hL; cases hL
    have neG : e ≠ G := fun z => by rw [← z, em] at hG; cases hG
    refine ⟨?_, e6, .cons ⟨f6.keep (fun z => z) rfl e5x, ⟨[], f6.keep (fun z => z) rfl e5L, .nil⟩, ⟨[], f6.keep (fun z => z) rfl e5G, .nil⟩, rt.keep f06.tup, ⟨[], f6.keep (fun z => z) rfl e5, fun z => ?_, .nil, Nat.zero_le _⟩, wt⟩ .nil, f06, fun b z => ?_⟩
    · show [DL, x, L, G].Nodup
      simp [nDx, nDL, nDG, nxL, nxG, nLG]
    · have z : e ∈ [DL, x, L, G] := z
      simp [nDe, nex, neL, neG] at z
    · have z : b ∈ [DL, x, L, G] := z
      simp only [List.mem_cons, List.not_mem_nil, or_false] at z
      rcases z with z | z | z | z <;> rw [z]
      · exact f05.dom hDL
      · exact hx0
      · exact (fe.trans fm).dom hL
      · exact (fe.trans fm).dom hG
  generalize upd H5 DL (.lst [.ref x]) = H6 at f06 c0 ⊢
  dsimp only
  refine seq_of (while_n (fun m σ H' => ∃ (all : List DAt) (done rest : List DSt) (v3 v4 : Option V), σ = [some c, some (.ref DL), some (.int done.length), v3, v4] ∧ CC CD DL H H' all (done ++ rest) ∧ wrAll k m done rest = some fin) n
    ⟨_, [], _, none, none, rfl, c0, hwa⟩ ?_ ?_)
  · rintro m σ H' ⟨all, done, rest, v3, v4, rfl, cc, hwr⟩
    have la : (all.map fun n => V.ref n.x).length = done.length + rest.length := by rw [List.length_map, cc.o.len, List.length_append]
    refine ⟨_, rfl, _, rfl, DL, _, rfl, .inl (SqL.of cc.hD), _, _, rfl, rfl, _, rfl, ?_⟩
    rw [la]
    cases m with
    | zero => unfold wrAll at hwr; cases hwr
    | succ m =>
    cases rest with
    | nil =>
      unfold wrAll at hwr
      cases hwr
      rw [show decide ((fin.length : Int) < ((fin.length + ([] : List DSt).length : Nat) : Int)) = false from decide_eq_false (by simp)]
      refine iteF ?_
      rw [List.append_nil] at cc
      rw [List.length_nil, Nat.add_zero] at la
      refine fun cd hcd => ?_
      have fc : Fr No H' (upd H' cd (.dK [])) := Fr.new hcd
      have ec : upd H' cd (.dK []) cd = some (.dK []) := upd_same
      generalize upd H' cd (.dK []) = Hc at fc ec ⊢
      refine ⟨_, rfl, DL, _, rfl, .inl (SqL.of (fc.keep (fun z => z) rfl cc.hD)), _, rfl, by decide, by decide, ?_, ?_, ?_⟩
      · rw [la]; exact Int.le_trans (by decide) (Int.natCast_nonneg _)
      · rw [la]; omega
      have en : (((all.map fun n => V.ref n.x).length : Int) - 0).toNat = fin.length := by rw [la]; omega
      rw [en]
      refine for_rangeC (fun i σ H2 => ∃ (kvs : List (Key × V)) (cs : Nat → Option Code) (v4 : Option V), σ = [some c, some (.ref DL), some (.int fin.length), some (.ref cd), v4] ∧ H2 cd = some (.dK kvs) ∧ CdR H2 kvs cs ∧ kvs.length ≤ i ∧ codesF fin (fin.length - i) cs = some cs0 ∧ Fr No H' H2)
        ⟨[], fun _ => none, _, rfl, ec, fun k c h => (by cases h), Nat.le_refl _, hco, fc⟩ ?_ ?_
      · rintro i σ H2 hi ⟨kvs, cs, v4, rfl, h1, h2, h3, h4, h5⟩
        rw [show fin.length - i = (fin.length - 1 - i) + 1 by omega] at h4
        unfold codesF at h4
        cases hd : fin[fin.length - 1 - i]? with
        | none => rw [hd] at h4; cases h4
        | some d =>
        rw [hd] at h4
        dsimp only at h4
        by_cases ld : d.ins.length ≤ 1000000
        case neg => rw [if_neg ld] at h4; cases h4
        rw [if_pos ld] at h4
        cases hf : finC d.tgs cs d.ins with
        | none => rw [hf] at h4; cases h4
        | some is =>
        rw [hf] at h4
        dsimp only at h4
        obtain ⟨r, hr', dr⟩ := cc.o.get hd
        have hat : (all.map fun n => V.ref n.x)[fin.length - 1 - i]? = some (.ref r.x) := by rw [List.getElem?_map, hr']; rfl
        have ej : (0 : Int) + (fin.length : Nat) - 1 + (i : Nat) * -1 = ((fin.length - 1 - i : Nat) : Int) := by omega
        rw [ej]
        generalize ejj : fin.length - 1 - i = j at h4 hat ⊢
        have dr2 := dr.fr h5 (fun b z => z.elim) fun b _ z => z
        obtain ⟨us, u1, u2⟩ := dr2.L
        obtain ⟨gs, g1, g2⟩ := dr2.G
        refine ⟨_, rfl, _, rfl, DL, _, _, _, rfl, rfl, SqL.of (h5.keep (fun z => z) rfl cc.hD), atI_nat hat, _, rfl, ?_⟩
        refine ⟨r.x, r.dx, cd, r.e, r.L, r.G, d.p, d.l, r.cb, us, gs, d.ins, d.tgs, kvs, cs, is, rfl, dr2.x, u1, u2, by rw [u2.len]; exact ld, g1, g2, h1, h2, hf, fun u H3 f3 rc => ?_⟩
        have h1' := f3.keep (fun z => z) rfl h1
        refine ⟨_, rfl, _, rfl, cd, _, rfl, DPut.k (k := .inl (j : Int)) h1' (Nat.lt_of_le_of_lt (show kvs.length ≤ 900000 by omega) (by decide)), ?_⟩
        have fm : Fr (fun b => b = cd) H3 (upd H3 cd (.dK (putK kvs (.inl (j : Int)) u))) := Fr.set rfl h1' rfl
        refine ⟨putK kvs (.inl (j : Int)) u, _, _, rfl, upd_same, CdR.put ((h2.keep f3.tup).keep fm.tup) (rc.keep fm.tup), ?_, by rw [show fin.length - (i + 1) = j by omega]; exact h4, (h5.trans f3).mut hcd h1' rfl⟩
        exact Nat.le_trans (putK_len _ _ _) (by omega)
      · rintro σ H2 ⟨kvs, cs, v4, rfl, h1, h2, h3, h4, h5⟩
        rw [Nat.sub_self] at h4
        cases h4
        obtain ⟨v, k1, k2⟩ := h2 _ _ hcomp
        have dg := DGet.k (k := (.inl ((0 : Nat) : Int) : Key)) h1
        rw [k1] at dg
        exact ⟨_, rfl, cd, _, rfl, dg, q _ _ (cc.f.trans h5) k2⟩
    | cons d rest =>
      unfold wrAll at hwr
      rw [show decide ((done.length : Int) < ((done.length + (d :: rest).length : Nat) : Int)) = true from decide_eq_true (by rw [List.length_cons]; omega)]
      refine iteT ?_
      cases hw1 : wrD (done.length + 1 + rest.length) k d with
      | none => rw [hw1] at hwr; cases hwr
      | some wE =>
      rw [hw1] at hwr
      dsimp only at hwr
      obtain ⟨A, r, B', rfl, oA, oR, oB⟩ := cc.o.split3
      have lA : A.length = done.length := oA.len
      have pm := muts_perm DL A B' r
      have hat : ((A ++ r :: B').map fun n => V.ref n.x)[done.length]? = some (.ref r.x) := by
        rw [← lA, List.map_append, List.getElem?_append_right (by rw [List.length_map]; exact Nat.le_refl _), List.length_map, Nat.sub_self]
        rfl
      refine ⟨_, rfl, _, rfl, _, rfl, DL, _, _, _, rfl, rfl, SqL.of cc.hD, atI_nat hat, ?_⟩
      have hY : ∀ b, dz DL (A ++ r :: B') b ↔ b ∈ DL :: (r.muts ++ mutsL (A ++ B')) := fun b => pm.mem_iff
      refine ⟨DL, r, d, dz DL (A ++ r :: B'), A ++ B', done ++ rest, _, k, wE, rfl, cc.hD, oA.app oB, oR, pm.nodup_iff.mp cc.nd, hY, by rw [la, List.length_cons, show done.length + (rest.length + 1) = done.length + 1 + rest.length by omega]; exact hw1, fun Y' ns H2 f2 ln hY' hz nd2 hD2 o2 s2 => ?_⟩
      have pm2 := muts_perm DL A (B' ++ ns) r
      rw [← List.append_assoc] at pm2
      have o3 : DRs CD Y' H2 (A ++ B') (done ++ rest) ∧ DRs CD Y' H2 ns wE.news := o2.unapp (by rw [List.length_append, List.length_append, lA, oB.len])
      have o4 := o3.1.unapp lA
      have hYd : ∀ b, Y' b ↔ dz DL (A ++ r :: (B' ++ ns)) b := fun b => (hY' b).trans pm2.mem_iff.symm
      have eY : Y' = dz DL (A ++ r :: (B' ++ ns)) := funext fun b => propext (hYd b)
      rw [eY] at o3 o4 s2
      have c2 : CC CD DL H H2 (A ++ r :: (B' ++ ns)) ((done ++ [{ d with l := wE.l, ins := wE.ins, tgs := wE.tgs }]) ++ (rest ++ wE.news)) := by
        refine ⟨pm2.nodup_iff.mpr nd2, ?_, ?_, cc.f.drop f2 cc.new, fun b z => ?_⟩
        · rw [hD2, List.map_append, List.map_append, List.map_cons, List.map_cons, List.map_append, List.append_assoc]
          rfl
        · rw [List.append_assoc]
          exact o4.1.app (.cons s2 (o4.2.app o3.2))
        · rcases hz b ((hYd b).mpr z) with z | z
          · exact cc.new b z
          · exact cc.f.dom z
      refine ⟨_, rfl, _, _, rfl, rfl, ?_⟩
      refine ⟨m, Nat.lt_succ_self _, A ++ r :: (B' ++ ns), done ++ [{ d with l := wE.l, ins := wE.ins, tgs := wE.tgs }], rest ++ wE.news, v3, v4, ?_, c2, hwr⟩
      show [some c, some (V.ref DL), some (V.int ((done.length : Int) + 1)), v3, v4] = _
      rw [List.length_append]
      rfl
  · rintro σ H0 Q1 Q2 hm ⟨x, e, x2, e2, b1, b2, b3, b4, b5, b6, b7, b8, b9, b10, h7⟩
    exact ⟨x, e, x2, e2, b1, b2, b3, b4, b5, b6, b7, b8, b9, b10, hm _ _ h7⟩
end
end My
namespace My
open PySem PySem.Spec PyProof.Rows L2 TL
/-! ### the machine's frames and state -/
structure FA where
  x : Addr
  dx : Addr
  q : Addr
  P : Addr
  S : Addr
  e : Addr
/-- a frame: its stack the newest first -/
structure FS where
  is : List Ins
  at_ : Nat
  pl : List Vl
  st : List Vl
  ks : List Vl
abbrev fF5 : List Str := ["instructions", "at", "places", "stack", "kept"]
abbrev fM6 : List Str := ["most", "steps", "defined", "frames", "most_frames", "result"]
def ffl (q : Addr) (n : Nat) (P S e : Addr) : List (Str × V) := [("instructions", .ref q), ("at", .int n), ("places", .ref P), ("stack", .ref S), ("kept", .ref e)]
def FA.muts (a : FA) : List Addr := [a.x, a.P, a.S]
structure RF (CF : Addr) (C : Cs) (X : Addr → Prop) (H : Hp) (a : FA) (s : FS) : Prop where
  x : H a.x = some (.ins CF a.dx (ffl a.q s.at_ a.P a.S a.e))
  q : ∃ vs, H a.q = some (.tup vs) ∧ RIs H vs s.is
  P : ∃ vs, H a.P = some (.lst vs) ∧ RVs C X H vs s.pl
  S : ∃ vs, H a.S = some (.lst vs) ∧ RVs C X H vs s.st.reverse
  e : ∃ vs, H a.e = some (.lst vs) ∧ ¬ X a.e ∧ RVs C X H vs s.ks
inductive RFs (CF : Addr) (C : Cs) (X : Addr → Prop) (H : Hp) : List FA → List FS → Prop
  | nil : RFs CF C X H [] []
  | cons {a : FA} {s : FS} {fa : List FA} {ss : List FS} (h : RF CF C X H a s) (hs : RFs CF C X H fa ss) : RFs CF C X H (a :: fa) (s :: ss)
def mutF : List FA → List Addr
  | [] => []
  | a :: r => a.muts ++ mutF r
structure MA where
  R : Addr
  dx : Addr
  FL : Addr
  D : Addr
structure MS where
  n : Nat
  mf : Nat
  fs : List FS
  res : Option Vl
def mfl (p : MA) (m : Wd) (n mf : Nat) (rv : V) : List (Str × V) := [("most", .int m.m), ("steps", .int n), ("defined", .ref p.D), ("frames", .ref p.FL), ("most_frames", .int mf), ("result", rv)]
def RRes (C : Cs) (X : Addr → Prop) (H : Hp) (rv : V) : Option Vl → Prop
  | none => rv = .non
  | some x => RV C X H rv x
structure RM (CM CF : Addr) (C : Cs) (X : Addr → Prop) (H : Hp) (p : MA) (fa : List FA) (m : Wd) (s : MS) : Prop where
  r : ∃ rv, H p.R = some (.ins CM p.dx (mfl p m s.n s.mf rv)) ∧ RRes C X H rv s.res
  fl : H p.FL = some (.lst (fa.reverse.map fun a => V.ref a.x))
  fs : RFs CF C X H fa s.fs
  d : RDf C X H p.D m.gl
  nd : (p.R :: p.FL :: mutF fa).Nodup
  xx : ∀ b ∈ p.R :: p.FL :: mutF fa, X b
  dom : ∀ b, X b → H b ≠ none
section
variable {CM CF : Addr} {C : Cs} {X Y W : Addr → Prop} {H H' : Hp} {a : FA} {s s' : FS} {fa : List FA} {ss : List FS} {p : MA} {m : Wd} {ms : MS}
theorem RF.fr (h : RF CF C X H a s) (f : Fr W H H') (hw : ∀ b, W b → X b) (n : ∀ b ∈ a.muts, ¬ W b) : RF CF C X H' a s := by
  obtain ⟨q1, q2, q3⟩ := h.q
  obtain ⟨p1, p2, p3⟩ := h.P
  obtain ⟨s1, s2, s3⟩ := h.S
  obtain ⟨e1, e2, e3, e4⟩ := h.e
  have fX := f.wide hw
  exact ⟨f.keep (n _ (by simp [FA.muts])) rfl h.x, ⟨q1, f.tup _ _ q2, q3.keep f.tup⟩, ⟨p1, f.keep (n _ (by simp [FA.muts])) rfl p2, p3.fr fX⟩, ⟨s1, f.keep (n _ (by simp [FA.muts])) rfl s2, s3.fr fX⟩, ⟨e1, fX.keep e3 rfl e2, e3, e4.fr fX⟩⟩
theorem RF.grow (h : RF CF C X H a s) (g : ∀ b, Y b → X b ∨ H b = none) : RF CF C Y H a s := by
  obtain ⟨p1, p2, p3⟩ := h.P
  obtain ⟨s1, s2, s3⟩ := h.S
  obtain ⟨e1, e2, e3, e4⟩ := h.e
  exact ⟨h.x, h.q, ⟨p1, p2, p3.grow g⟩, ⟨s1, s2, s3.grow g⟩, ⟨e1, e2, fun z => (g _ z).elim e3 fun n => (by rw [e2] at n; cases n), e4.grow g⟩⟩
theorem RFs.fr (f : Fr W H H') (hw : ∀ b, W b → X b) : ∀ {fa : List FA} {ss : List FS}, RFs CF C X H fa ss → (∀ b ∈ mutF fa, ¬ W b) → RFs CF C X H' fa ss
  | _, _, .nil, _ => .nil
  | _, _, .cons h hs, n => .cons (h.fr f hw fun b m => n b (List.mem_append_left _ m)) (RFs.fr f hw hs fun b m => n b (List.mem_append_right _ m))
theorem RFs.grow (g : ∀ b, Y b → X b ∨ H b = none) : ∀ {fa : List FA} {ss : List FS}, RFs CF C X H fa ss → RFs CF C Y H fa ss
  | _, _, .nil => .nil
  | _, _, .cons h hs => .cons (h.grow g) (RFs.grow g hs)
theorem RFs.len : ∀ {fa : List FA} {ss : List FS}, RFs CF C X H fa ss → fa.length = ss.length
  | _, _, .nil => rfl
  | _, _, .cons _ hs => congrArg (· + 1) (RFs.len hs)
theorem RRes.fr (f : Fr X H H') {rv : V} {r : Option Vl} (h : RRes C X H rv r) : RRes C X H' rv r := by
  cases r with
  | none => exact h
  | some x => exact RV.fr f h
theorem RRes.grow (g : ∀ b, Y b → X b ∨ H b = none) {rv : V} {r : Option Vl} (h : RRes C X H rv r) : RRes C Y H rv r := by
  cases r with
  | none => exact h
  | some x => exact RV.grow g h
structure NeM (p : MA) (fa : List FA) : Prop where
  RF : p.R ≠ p.FL
  Rm : ∀ b ∈ mutF fa, b ≠ p.R
  Fm : ∀ b ∈ mutF fa, b ≠ p.FL
  m : (mutF fa).Nodup
theorem RM.ne (h : RM CM CF C X H p fa m ms) : NeM p fa := by
  obtain ⟨h1, h2⟩ := List.nodup_cons.mp h.nd
  obtain ⟨h3, h4⟩ := List.nodup_cons.mp h2
  exact ⟨fun e => h1 (by rw [e]; exact List.mem_cons_self), fun b m e => h1 (List.mem_cons_of_mem _ (by rw [← e]; exact m)), fun b m e => h3 (by rw [← e]; exact m), h4⟩
theorem RM.xR (h : RM CM CF C X H p fa m ms) : X p.R := h.xx _ List.mem_cons_self
theorem RM.xF (h : RM CM CF C X H p fa m ms) : X p.FL := h.xx _ (List.mem_cons_of_mem _ List.mem_cons_self)
theorem RM.xm (h : RM CM CF C X H p fa m ms) : ∀ b ∈ mutF fa, X b := fun b m => h.xx _ (List.mem_cons_of_mem _ (List.mem_cons_of_mem _ m))
theorem RM.neRD (h : RM CM CF C X H p fa m ms) : p.D ≠ p.R := by
  obtain ⟨kvs, t1, _⟩ := h.d
  obtain ⟨rv, r1, _⟩ := h.r
  exact ne_of t1 r1 fun z => by cases z
theorem RM.neFD (h : RM CM CF C X H p fa m ms) : p.D ≠ p.FL := by
  obtain ⟨kvs, t1, _⟩ := h.d
  exact ne_of t1 h.fl fun z => by cases z
theorem RF.neD {D : Addr} {gl : Gl} (h : RF CF C X H a s) (d : RDf C Y H D gl) : D ∉ a.muts := fun z => by
  obtain ⟨kvs, t1, _⟩ := d
  obtain ⟨p1, p2, _⟩ := h.P
  obtain ⟨s1, s2, _⟩ := h.S
  have z : D ∈ [a.x, a.P, a.S] := z
  simp only [List.mem_cons, List.not_mem_nil, or_false] at z
  rcases z with e | e | e
  · rw [e, h.x] at t1; cases t1
  · rw [e, p2] at t1; cases t1
  · rw [e, s2] at t1; cases t1
theorem RDf.grow {D : Addr} {gl : Gl} (g : ∀ b, Y b → X b ∨ H b = none) (d : RDf C X H D gl) : RDf C Y H D gl := by
  obtain ⟨kvs, h1, h2⟩ := d
  exact ⟨kvs, h1, h2.grow g⟩
/-- nothing that may change has changed -/
theorem RM.no (h : RM CM CF C X H p fa m ms) (f : Fr No H H') : RM CM CF C X H' p fa m ms := by
  obtain ⟨rv, r1, r2⟩ := h.r
  exact ⟨⟨rv, f.keep (fun z => z) rfl r1, r2.fr f.no⟩, f.keep (fun z => z) rfl h.fl, h.fs.fr f (fun _ z => z.elim) (fun _ _ z => z), h.d.fr f (fun _ z => z.elim) (fun z => z), h.nd, h.xx, fun b x => f.dom' (h.dom b x)⟩
/-- the machine's own fields are set anew -/
theorem RM.setR (h : RM CM CF C X H p fa m ms) {n mf : Nat} {rv : V} {res : Option Vl} (hr : RRes C X H rv res) :
    RM CM CF C X (upd H p.R (.ins CM p.dx (mfl p m n mf rv))) p fa m ⟨n, mf, ms.fs, res⟩ ∧ Fr X H (upd H p.R (.ins CM p.dx (mfl p m n mf rv))) := by
  obtain ⟨rv0, r1, r2⟩ := h.r
  have ne := h.ne
  have f : Fr (fun b => b = p.R) H (upd H p.R (.ins CM p.dx (mfl p m n mf rv))) := Fr.set rfl r1 rfl
  have hw : ∀ b, b = p.R → X b := fun b e => by rw [e]; exact h.xR
  exact ⟨⟨⟨rv, upd_same, hr.fr (f.wide hw)⟩, by rw [upd_ne ne.RF.symm]; exact h.fl, h.fs.fr f hw (fun b m e => ne.Rm b m e), h.d.fr f hw h.neRD, h.nd, h.xx, fun b x => f.dom' (h.dom b x)⟩, f.wide hw⟩
/-- the list of frames is set anew: the last one is gone -/
theorem RM.pop (h : RM CM CF C X H p (a :: fa) m ⟨n, mf, s :: ss, res⟩) :
    RM CM CF C X (upd H p.FL (.lst (fa.reverse.map fun a => V.ref a.x))) p fa m ⟨n, mf, ss, res⟩ ∧ RF CF C X (upd H p.FL (.lst (fa.reverse.map fun a => V.ref a.x))) a s ∧ Fr X H (upd H p.FL (.lst (fa.reverse.map fun a => V.ref a.x))) := by
  obtain ⟨rv, r1, r2⟩ := h.r
  have ne := h.ne
  have f : Fr (fun b => b = p.FL) H (upd H p.FL (.lst (fa.reverse.map fun a => V.ref a.x))) := Fr.set rfl h.fl rfl
  have hw : ∀ b, b = p.FL → X b := fun b e => by rw [e]; exact h.xF
  have fX := f.wide hw
  cases h.fs with
  | cons h1 hs =>
  have sub : ∀ b, b ∈ p.R :: p.FL :: mutF fa → b ∈ p.R :: p.FL :: mutF (a :: fa) := fun b z => by
    rcases List.mem_cons.mp z with e | z
    · rw [e]; exact List.mem_cons_self
    rcases List.mem_cons.mp z with e | z
    · rw [e]; exact List.mem_cons_of_mem _ List.mem_cons_self
    · exact List.mem_cons_of_mem _ (List.mem_cons_of_mem _ (List.mem_append_right _ z))
  have nd2 : (p.R :: p.FL :: mutF fa).Nodup := by
    refine h.nd.sublist ?_
    exact List.Sublist.cons₂ _ (List.Sublist.cons₂ _ (List.sublist_append_right _ _))
  exact ⟨⟨⟨rv, by rw [upd_ne ne.RF]; exact r1, r2.fr fX⟩, upd_same, hs.fr f hw (fun b m e => ne.Fm b (List.mem_append_right _ m) e), h.d.fr f hw h.neFD, nd2, fun b z => h.xx b (sub b z), fun b x => f.dom' (h.dom b x)⟩, h1.fr f hw (fun b m e => ne.Fm b (List.mem_append_left _ m) e), fX⟩
/-- the last frame changes -/
theorem RM.top (h : RM CM CF C X H p (a :: fa) m ⟨n, mf, s :: ss, res⟩) (f : Fr (fun b => b ∈ a.muts) H H') (r : RF CF C X H' a s') : RM CM CF C X H' p (a :: fa) m ⟨n, mf, s' :: ss, res⟩ ∧ Fr X H H' := by
  obtain ⟨rv, r1, r2⟩ := h.r
  have ne := h.ne
  have hw : ∀ b, b ∈ a.muts → X b := fun b z => h.xm b (List.mem_append_left _ z)
  have fX := f.wide hw
  cases h.fs with
  | cons h1 hs =>
  refine ⟨⟨⟨rv, f.keep (fun z => ne.Rm _ (List.mem_append_left _ z) rfl) rfl r1, r2.fr fX⟩, f.keep (fun z => ne.Fm _ (List.mem_append_left _ z) rfl) rfl h.fl, .cons r (hs.fr f hw fun b m z => ?_), h.d.fr f hw (h1.neD h.d), h.nd, h.xx, fun b x => f.dom' (h.dom b x)⟩, fX⟩
  exact (List.nodup_append.mp ne.m).2.2 b z b m rfl
/-- a frame that is no longer among the frames changes -/
theorem RM.off (h : RM CM CF C X H p fa m ms) (f : Fr (fun b => b ∈ a.muts) H H') (hx : ∀ b ∈ a.muts, X b ∧ b ≠ p.R ∧ b ≠ p.FL ∧ b ∉ mutF fa ∧ b ≠ p.D) : RM CM CF C X H' p fa m ms ∧ Fr X H H' := by
  obtain ⟨rv, r1, r2⟩ := h.r
  have hw : ∀ b, b ∈ a.muts → X b := fun b z => (hx b z).1
  have fX := f.wide hw
  refine ⟨⟨⟨rv, f.keep (fun z => (hx _ z).2.1 rfl) rfl r1, r2.fr fX⟩, f.keep (fun z => (hx _ z).2.2.1 rfl) rfl h.fl, h.fs.fr f hw fun b m z => (hx b z).2.2.2.1 m, h.d.fr f hw (fun z => (hx _ z).2.2.2.2 rfl), h.nd, h.xx, fun b x => f.dom' (h.dom b x)⟩, fX⟩
theorem RM.offs (h : RM CM CF C X H p (a :: fa) m ⟨n, mf, s :: ss, res⟩) : ∀ b ∈ a.muts, X b ∧ b ≠ p.R ∧ b ≠ p.FL ∧ b ∉ mutF fa ∧ b ≠ p.D := fun b z => by
  have ne := h.ne
  cases h.fs with
  | cons h1 hs =>
  exact ⟨h.xm b (List.mem_append_left _ z), ne.Rm b (List.mem_append_left _ z), ne.Fm b (List.mem_append_left _ z), fun m => (List.nodup_append.mp ne.m).2.2 b z b m rfl, fun e => h1.neD h.d (by rw [← e]; exact z)⟩
/-- a frame is added -/
theorem RM.push (h : RM CM CF C X H p fa m ⟨n, mf, ss, res⟩) (f : Fr No H H') (nw : ∀ b ∈ a.muts, H b = none) (na : a.muts.Nodup) (ra : RF CF C (fun b => X b ∨ b ∈ a.muts) H' a s) :
    RM CM CF C (fun b => X b ∨ b ∈ a.muts) (upd H' p.FL (.lst ((a :: fa).reverse.map fun a => V.ref a.x))) p (a :: fa) m ⟨n, mf, s :: ss, res⟩ ∧ Fr X H (upd H' p.FL (.lst ((a :: fa).reverse.map fun a => V.ref a.x))) := by
  have ne := h.ne
  have g : ∀ b, (X b ∨ b ∈ a.muts) → X b ∨ H b = none := fun b z => z.imp id (nw b)
  obtain ⟨rv, r1, r2⟩ := (h.no f).r
  have r2' : RRes C (fun b => X b ∨ b ∈ a.muts) H' rv res := by
    obtain ⟨rv0, q1, q2⟩ := h.r
    have e : rv = rv0 := by
      have q1' := f.keep (fun z => z) rfl q1
      rw [r1] at q1'
      injection q1' with q1'
      injection q1' with _ _ q1'
      injection q1' with _ q1'
      injection q1' with _ q1'
      injection q1' with _ q1'
      injection q1' with _ q1'
      injection q1' with _ q1'
      injection q1' with q1'
      injection q1' with _ q1'
    rw [e]
    exact (q2.grow g).fr f.no
  have hfl := f.keep (fun z => z) rfl h.fl
  have f2 : Fr (fun b => b = p.FL) H' (upd H' p.FL (.lst ((a :: fa).reverse.map fun a => V.ref a.x))) := Fr.set rfl hfl rfl
  have hw : ∀ b, b = p.FL → X b ∨ b ∈ a.muts := fun b e => by rw [e]; exact .inl h.xF
  have there : ∀ b, b ∈ p.R :: p.FL :: mutF fa → b ∉ a.muts := fun b z y => h.dom b (h.xx b z) (nw b y)
  have nF : ∀ b ∈ a.muts, b ≠ p.FL := fun b z e => there p.FL (List.mem_cons_of_mem _ List.mem_cons_self) (by rw [← e]; exact z)
  have fX : Fr X H' (upd H' p.FL (.lst ((a :: fa).reverse.map fun a => V.ref a.x))) := f2.wide fun b e => by rw [e]; exact h.xF
  refine ⟨⟨⟨rv, by rw [upd_ne ne.RF]; exact r1, r2'.fr (f2.wide hw)⟩, upd_same, .cons (ra.fr f2 hw nF) ((((h.fs.grow g).fr f (fun _ z => z.elim) fun _ _ z => z)).fr f2 hw fun b m e => ne.Fm b m e), ((h.d.grow g).fr f (fun _ z => z.elim) (fun z => z)).fr f2 hw h.neFD, ?_, fun b z => ?_, fun b x => ?_⟩, f.no.trans fX⟩
  · obtain ⟨h1, h2⟩ := List.nodup_cons.mp h.nd
    obtain ⟨h3, h4⟩ := List.nodup_cons.mp h2
    refine List.nodup_cons.mpr ⟨fun z => ?_, List.nodup_cons.mpr ⟨fun z => ?_, List.nodup_append.mpr ⟨na, h4, fun b z c y e => there b (List.mem_cons_of_mem _ (List.mem_cons_of_mem _ (by rw [e]; exact y))) z⟩⟩⟩
    · rcases List.mem_cons.mp z with e | z
      · exact ne.RF e
      rcases List.mem_append.mp z with z | z
      · exact there p.R List.mem_cons_self z
      · exact ne.Rm _ z rfl
    · rcases List.mem_append.mp z with z | z
      · exact there p.FL (List.mem_cons_of_mem _ List.mem_cons_self) z
      · exact ne.Fm _ z rfl
  · rcases List.mem_cons.mp z with e | z
    · rw [e]; exact .inl h.xR
    rcases List.mem_cons.mp z with e | z
    · rw [e]; exact .inl h.xF
    rcases List.mem_append.mp z with z | z
    · exact .inr z
    · exact .inl (h.xm b z)
  · refine f2.dom' ?_
    rcases x with x | x
    · exact f.dom' (h.dom b x)
    · simp only [FA.muts, List.mem_cons, List.not_mem_nil, or_false] at x
      obtain ⟨p1, p2, p3⟩ := ra.P
      obtain ⟨s1, s2, s3⟩ := ra.S
      rcases x with e | e | e <;> rw [e]
      · rw [ra.x]; exact fun z => by cases z
      · rw [p2]; exact fun z => by cases z
      · rw [s2]; exact fun z => by cases z
end
/-! ### what the machine does -/
inductive MRes where
  | stuck
  | err (ws : List Str) (n mf : Nat)
  | ok (s : MS)
def rdS (f : FS) : Src → Option Vl
  | .place n => f.pl[n]?
  | .kept n => f.ks[n]?
def rdSs (f : FS) : List Src → Option (List Vl)
  | [] => some []
  | s :: ss => match rdS f s, rdSs f ss with
    | some v, some vs => some (v :: vs)
    | _, _ => none
/-- the instructions that only see their frame -/
def frF (f : FS) : Ins → Option FS
  | .int i => gate (i.natAbs ≤ 10 ^ 60 ∧ f.st.length < many) { f with st := .int i :: f.st }
  | .prim p => gate (f.st.length < many) { f with st := .prim p :: f.st }
  | .src s => (rdS f s).bind fun v => gate (f.st.length < many) { f with st := v :: f.st }
  | .fn c ss => (rdSs f ss).bind fun vs => gate (ss.length ≤ many ∧ f.st.length < many) { f with st := .fnM c vs :: f.st }
  | .put n => match f.st with
    | v :: st => gate (n < f.pl.length) { f with st := st, pl := f.pl.set n v }
    | [] => none
  | .jump n => some { f with at_ := n }
  | .unless n => match f.st with
    | x :: st => some { f with st := st, at_ := if zeroV x = true then n else f.at_ }
    | [] => none
  | _ => none
def giveF (s : MS) (x : Vl) : MRes := match s.fs with
  | [] => .ok { s with res := some x }
  | f :: fs => if f.st.length < many then .ok { s with fs := { f with st := x :: f.st } :: fs } else .stuck
def addF (s : MS) (c : Code) (ps ks : List Vl) : MRes :=
  if c.places ≤ many ∧ ps.length ≤ 1000 ∧ s.fs.length < many then .ok { s with fs := ⟨c.is, 0, ps ++ List.replicate (c.places - ps.length) (.int 0), [], ks⟩ :: s.fs, mf := max s.mf (s.fs.length + 1) } else .stuck
def entF (s : MS) (called : Vl) (ps : List Vl) : MRes := match chkF called ps.length with
  | some ws => .err ws s.n s.mf
  | none => match called with
    | .prim q => match primF q ps with
      | .ok y => giveF s y
      | .error ws => .err ws s.n s.mf
    | .fnM c ks => addF s c ps ks
    | _ => .stuck
def actM (gl : Gl) (i : Ins) (s : MS) : MRes := match s.fs with
  | [] => .stuck
  | f :: fs => match i with
    | .call n => match f.st.drop n with
      | called :: st => if n ≤ 1000 ∧ f.st.length < many then entF { s with fs := { f with st := st } :: fs } called (f.st.take n).reverse else .stuck
      | [] => .stuck
    | .tail n => match f.st.drop n with
      | called :: _ => if n ≤ 1000 ∧ f.st.length < many then entF { s with fs := fs } called (f.st.take n).reverse else .stuck
      | [] => .stuck
    | .end_ => match f.st with
      | x :: _ => giveF { s with fs := fs } x
      | [] => .stuck
    | .glob a b => match glGet (a, b) gl with
      | some v => if f.st.length < many then .ok { s with fs := { f with st := v :: f.st } :: fs } else .stuck
      | none => .err ["error", "early"] s.n s.mf
    | i => match frF f i with
      | some f' => .ok { s with fs := f' :: fs }
      | none => .stuck
def stepM (m : Wd) (s : MS) : MRes := match s.fs with
  | [] => .stuck
  | f :: fs => if m.m ≤ s.n then .err ["steps"] s.n s.mf else match f.is[f.at_]? with
    | none => .stuck
    | some i => actM m.gl i { s with n := s.n + 1, fs := { f with at_ := f.at_ + 1 } :: fs }
def runM : Nat → Wd → MS → Option (Except (List Str × Nat × Nat) MS)
  | 0, _, _ => none
  | k + 1, m, s => match s.fs with
    | [] => some (.ok s)
    | _ :: _ => match stepM m s with
      | .stuck => none
      | .err ws n mf => some (.error (ws, n, mf))
      | .ok s' => runM k m s'
end My
namespace My
open PySem PySem.Spec PyProof.Rows L2 TL
/-! ### frames: made, read -/
def spFri (CF : Addr) : Sp := fun vs H Q _ => ∃ (x dx o e : Addr) (cv : V) (c : Code) (ps : List V), vs = [.ref x, cv, .ref o, .ref e] ∧ H x = some (.ins CF dx []) ∧ RC H cv c ∧ H o = some (.lst ps) ∧ ps.length ≤ 1000 ∧ c.places ≤ many ∧
  ∀ P S q vs H', H P = none → H S = none → P ≠ S → P ≠ x → S ≠ x → Fr (fun b => b = x) H H' → H' x = some (.ins CF dx (ffl q 0 P S e)) → H' P = some (.lst (ps ++ List.replicate (c.places - ps.length) (.int 0))) → H' S = some (.lst []) → H' q = some (.tup vs) → RIs H' vs c.is → Q .non H'
def spFrd (CF : Addr) (C : Cs) : Sp := fun vs H Q _ => ∃ (X : Addr → Prop) (a : FA) (f : FS) (v : V) (s : Src) (y : Vl), vs = [.ref a.x, v] ∧ RF CF C X H a f ∧ RSr H v s ∧ rdS f s = some y ∧ ∀ u, RV C X H u y → Q u H
section
variable {P : Program} {w : World} {K : PySem.W.Frag} {mg : Str → Option Value} {base : Heap} {CF : Addr} {C : Cs}
theorem flat_one {α : Type} (x : α) : ∀ n : Nat, (List.replicate n [x]).flatten = List.replicate n x
  | 0 => rfl
  | n + 1 => by rw [List.replicate_succ, List.replicate_succ, List.flatten_cons, flat_one x n]; rfl
end
end My
namespace My
open PySem PySem.Spec PyProof.Rows L2 TL
/-! ### the instructions that only see their frame -/
def spFo (CF : Addr) (C : Cs) (ok : Ins → Prop) : Sp := fun vs H Q _ => ∃ (X : Addr → Prop) (a : FA) (f f' : FS) (mv v : V) (i : Ins), vs = [mv, .ref a.x, v] ∧ RF CF C X H a f ∧ RI H v i ∧ ok i ∧ a.muts.Nodup ∧ (∀ b ∈ a.muts, X b) ∧ (∀ b, X b → H b ≠ none) ∧ frF f i = some f' ∧
  ∀ H', Fr (fun b => b ∈ a.muts) H H' → RF CF C X H' a f' → Q .non H'
def isInt (i : Ins) : Prop := ∃ z, i = .int z
def isPrim (i : Ins) : Prop := ∃ z, i = .prim z
def isSrc (i : Ins) : Prop := ∃ z, i = .src z
def isFn (i : Ins) : Prop := ∃ c ss, i = .fn c ss
def isPut (i : Ins) : Prop := ∃ z, i = .put z
def isJump (i : Ins) : Prop := ∃ z, i = .jump z
def isUnless (i : Ins) : Prop := ∃ z, i = .unless z
structure NeA (a : FA) : Prop where
  xP : a.x ≠ a.P
  xS : a.x ≠ a.S
  PS : a.P ≠ a.S
theorem neA {a : FA} (h : a.muts.Nodup) : NeA a := by
  have h : [a.x, a.P, a.S].Nodup := h
  simp only [List.nodup_cons, List.mem_cons, List.not_mem_nil, or_false, not_or] at h
  obtain ⟨⟨a1, a2⟩, a3, _⟩ := h
  exact ⟨a1, a2, a3⟩
theorem FA.mx {a : FA} : a.x ∈ a.muts := by simp [FA.muts]
theorem FA.mP {a : FA} : a.P ∈ a.muts := by simp [FA.muts]
theorem FA.mS {a : FA} : a.S ∈ a.muts := by simp [FA.muts]
section
variable {CF : Addr} {C : Cs} {X : Addr → Prop} {H H' : Hp} {a : FA} {f : FS}
theorem RVs.set {C : Cs} {X : Addr → Prop} {H : Hp} : ∀ {vs : List V} {xs : List Vl} {n : Nat} {v : V} {x : Vl}, RVs C X H vs xs → RV C X H v x → RVs C X H (vs.set n v) (xs.set n x)
  | _, _, _, _, _, .nil, _ => .nil
  | _, _, 0, _, _, .cons _ rs, r => .cons r rs
  | _, _, _ + 1, _, _, .cons h rs, r => .cons h (RVs.set rs r)
theorem RF.no (h : RF CF C X H a f) (g : Fr No H H') : RF CF C X H' a f := h.fr g (fun _ z => z.elim) fun _ _ z => z
theorem RF.setS (h : RF CF C X H a f) (nd : a.muts.Nodup) (hX : ∀ b ∈ a.muts, X b) {vs : List V} {st : List Vl} (r : RVs C X H vs st.reverse) : RF CF C X (upd H a.S (.lst vs)) a { f with st := st } ∧ Fr (fun b => b ∈ a.muts) H (upd H a.S (.lst vs)) := by
  obtain ⟨s1, s2, s3⟩ := h.S
  have ne := neA nd
  have fm : Fr (fun b => b ∈ a.muts) H (upd H a.S (.lst vs)) := Fr.set a.mS s2 rfl
  have fX := fm.wide hX
  obtain ⟨q1, q2, q3⟩ := h.q
  obtain ⟨p1, p2, p3⟩ := h.P
  obtain ⟨e1, e2, e3, e4⟩ := h.e
  exact ⟨⟨by rw [upd_ne ne.xS]; exact h.x, ⟨q1, fm.tup _ _ q2, q3.keep fm.tup⟩, ⟨p1, by rw [upd_ne ne.PS]; exact p2, p3.fr fX⟩, ⟨vs, upd_same, r.fr fX⟩, ⟨e1, fX.keep e3 rfl e2, e3, e4.fr fX⟩⟩, fm⟩
theorem RF.setP (h : RF CF C X H a f) (nd : a.muts.Nodup) (hX : ∀ b ∈ a.muts, X b) {vs : List V} {pl : List Vl} (r : RVs C X H vs pl) : RF CF C X (upd H a.P (.lst vs)) a { f with pl := pl } ∧ Fr (fun b => b ∈ a.muts) H (upd H a.P (.lst vs)) := by
  obtain ⟨p1, p2, p3⟩ := h.P
  have ne := neA nd
  have fm : Fr (fun b => b ∈ a.muts) H (upd H a.P (.lst vs)) := Fr.set a.mP p2 rfl
  have fX := fm.wide hX
  obtain ⟨q1, q2, q3⟩ := h.q
  obtain ⟨s1, s2, s3⟩ := h.S
  obtain ⟨e1, e2, e3, e4⟩ := h.e
  exact ⟨⟨by rw [upd_ne ne.xP]; exact h.x, ⟨q1, fm.tup _ _ q2, q3.keep fm.tup⟩, ⟨vs, upd_same, r.fr fX⟩, ⟨s1, by rw [upd_ne ne.PS.symm]; exact s2, s3.fr fX⟩, ⟨e1, fX.keep e3 rfl e2, e3, e4.fr fX⟩⟩, fm⟩
theorem RF.setA (h : RF CF C X H a f) (nd : a.muts.Nodup) (hX : ∀ b ∈ a.muts, X b) {n : Nat} : RF CF C X (upd H a.x (.ins CF a.dx (ffl a.q n a.P a.S a.e))) a { f with at_ := n } ∧ Fr (fun b => b ∈ a.muts) H (upd H a.x (.ins CF a.dx (ffl a.q n a.P a.S a.e))) := by
  have ne := neA nd
  have fm : Fr (fun b => b ∈ a.muts) H (upd H a.x (.ins CF a.dx (ffl a.q n a.P a.S a.e))) := Fr.set a.mx h.x rfl
  have fX := fm.wide hX
  obtain ⟨p1, p2, p3⟩ := h.P
  obtain ⟨q1, q2, q3⟩ := h.q
  obtain ⟨s1, s2, s3⟩ := h.S
  obtain ⟨e1, e2, e3, e4⟩ := h.e
  exact ⟨⟨upd_same, ⟨q1, fm.tup _ _ q2, q3.keep fm.tup⟩, ⟨p1, by rw [upd_ne ne.xP.symm]; exact p2, p3.fr fX⟩, ⟨s1, by rw [upd_ne ne.xS.symm]; exact s2, s3.fr fX⟩, ⟨e1, fX.keep e3 rfl e2, e3, e4.fr fX⟩⟩, fm⟩
theorem RF.push (h : RF CF C X H a f) (nd : a.muts.Nodup) (hX : ∀ b ∈ a.muts, X b) {vs : List V} {v : V} {x : Vl} (hs : H a.S = some (.lst vs)) (rv : RV C X H v x) : RF CF C X (upd H a.S (.lst (vs ++ [v]))) a { f with st := x :: f.st } ∧ Fr (fun b => b ∈ a.muts) H (upd H a.S (.lst (vs ++ [v]))) := by
  obtain ⟨s1, s2, s3⟩ := h.S
  rw [hs] at s2
  cases s2
  exact h.setS nd hX (st := x :: f.st) (by rw [List.reverse_cons]; exact s3.app (.one rv))
theorem RF.lenS (h : RF CF C X H a f) {vs : List V} (hs : H a.S = some (.lst vs)) : vs.length = f.st.length := by
  obtain ⟨s1, s2, s3⟩ := h.S
  rw [hs] at s2
  cases s2
  rw [s3.len, List.length_reverse]
end
section
variable {P : Program} {w : World} {K : PySem.W.Frag} {mg : Str → Option Value} {base : Heap} {CF : Addr} {C : Cs}
theorem rdSs_get {f : FS} : ∀ {ss : List Src} {vs : List Vl} {i : Nat} {s : Src}, rdSs f ss = some vs → ss[i]? = some s → ∃ v, rdS f s = some v ∧ vs[i]? = some v
  | [], _, _, _, _, e => by simp at e
  | t :: ss, vs, i, s, h, e => by
    unfold rdSs at h
    cases h1 : rdS f t with
    | none => rw [h1] at h; cases h
    | some u =>
      cases h2 : rdSs f ss with
      | none => rw [h1, h2] at h; cases h
      | some r =>
        rw [h1, h2] at h
        cases h
        cases i with
        | zero => cases e; exact ⟨u, h1, rfl⟩
        | succ i =>
          obtain ⟨v, e1, e2⟩ := rdSs_get (i := i) h2 (by simpa using e)
          exact ⟨v, e1, by simpa using e2⟩
theorem rdSs_len {f : FS} : ∀ {ss : List Src} {vs : List Vl}, rdSs f ss = some vs → vs.length = ss.length
  | [], _, h => by cases h; rfl
  | t :: ss, vs, h => by
    unfold rdSs at h
    cases h1 : rdS f t with
    | none => rw [h1] at h; cases h
    | some u =>
      cases h2 : rdSs f ss with
      | none => rw [h1, h2] at h; cases h
      | some r =>
        rw [h1, h2] at h
        cases h
        rw [List.length_cons, List.length_cons, rdSs_len h2]
theorem RSs.get {H : Hp} : ∀ {vs : List V} {ss : List Src} {i : Nat} {v : V}, RSs H vs ss → vs[i]? = some v → ∃ s, ss[i]? = some s ∧ RSr H v s
  | _, _, _, _, .nil, e => by simp at e
  | _, _, 0, _, .cons r _, e => by cases e; exact ⟨_, rfl, r⟩
  | _, _, i + 1, _, .cons _ rs, e => by
    obtain ⟨t, h1, h2⟩ := RSs.get (i := i) rs (by simpa using e)
    exact ⟨t, by simpa using h1, h2⟩
end
end My
namespace My
open PySem PySem.Spec PyProof.Rows L2 TL
/-! ### the machine's methods -/
def spMin (CM : Addr) : Sp := fun vs H Q _ => ∃ (x dx : Addr) (m : Int), vs = [.ref x, .int m] ∧ H x = some (.ins CM dx []) ∧
  ∀ D FL H', H D = none → H FL = none → Fr (fun b => b = x) H H' → H' D = some (.dT []) → H' FL = some (.lst []) → H' x = some (.ins CM dx [("most", .int m), ("steps", .int 0), ("defined", .ref D), ("frames", .ref FL), ("most_frames", .int 0), ("result", .non)]) → Q .non H'
/-- what follows a step of the machine -/
def goM (CM CF : Addr) (C : Cs) (En : Addr) (X : Addr → Prop) (H : Hp) (p : MA) (m : Wd) (Q : VK) (E : XK) : MRes → Prop
  | .stuck => False
  | .ok s' => ∀ X' fa' H', Fr X H H' → (∀ b, X b → X' b) → (∀ b, X' b → X b ∨ H b = none) → RM CM CF C X' H' p fa' m s' → Q .non H'
  | .err ws n mf => ∀ H1 rv, Fr X H H1 → H1 p.R = some (.ins CM p.dx (mfl p m n mf rv)) → erX No En ws H1 E
def spAf (CM CF : Addr) (C : Cs) (En : Addr) : Sp := fun vs H Q E => ∃ (X : Addr → Prop) (p : MA) (fa : List FA) (m : Wd) (s : MS) (cv : V) (c : Code) (o e : Addr) (us ws : List V) (ps ks : List Vl), vs = [.ref p.R, cv, .ref o, .ref e] ∧ RM CM CF C X H p fa m s ∧ RC H cv c ∧ H o = some (.lst us) ∧ RVs C X H us ps ∧
  H e = some (.lst ws) ∧ ¬ X e ∧ RVs C X H ws ks ∧ goM CM CF C En X H p m Q E (addF s c ps ks)
def spGi (CM CF : Addr) (C : Cs) (En : Addr) : Sp := fun vs H Q E => ∃ (X : Addr → Prop) (p : MA) (fa : List FA) (m : Wd) (s : MS) (v : V) (x : Vl), vs = [.ref p.R, v] ∧ RM CM CF C X H p fa m s ∧ RV C X H v x ∧ goM CM CF C En X H p m Q E (giveF s x)
def spEn (CM CF : Addr) (C : Cs) (En P1 : Addr) : Sp := fun vs H Q E => ∃ (X : Addr → Prop) (p : MA) (fa : List FA) (m : Wd) (s : MS) (v : V) (x : Vl) (o : Addr) (us : List V) (ps : List Vl), vs = [.ref p.R, v, .ref o] ∧ RM CM CF C X H p fa m s ∧ RV C X H v x ∧ H o = some (.lst us) ∧ RVs C X H us ps ∧ GxR.TabG H P1 ∧
  goM CM CF C En X H p m Q E (entF s x ps)
theorem goM.fr {CM CF : Addr} {C : Cs} {En : Addr} {X : Addr → Prop} {H H1 : Hp} {p : MA} {m : Wd} {Q : VK} {E : XK} (f : Fr X H H1) : ∀ {r : MRes}, goM CM CF C En X H p m Q E r → goM CM CF C En X H1 p m Q E r
  | .stuck, h => h
  | .ok s', h => fun X' fa' H' f2 a b r => h X' fa' H' (f.trans f2) a (fun c z => (b c z).imp id fun n => f.dom n) r
  | .err ws n mf, h => fun H2 rv f2 e => h H2 rv (f.trans f2) e
section
variable {P : Program} {w : World} {K : PySem.W.Frag} {mg : Str → Option Value} {base : Heap} {CM CF En P1 : Addr} {C : Cs}
end
end My
namespace My
open PySem PySem.Spec PyProof.Rows L2 TL
/-! ### calls and ends -/
def isCall (i : Ins) : Prop := ∃ z, i = .call z
def isTail (i : Ins) : Prop := ∃ z, i = .tail z
def isEnd (i : Ins) : Prop := i = .end_
def spMx (CM CF : Addr) (C : Cs) (En P1 : Addr) (ok : Ins → Prop) : Sp := fun vs H Q E => ∃ (X : Addr → Prop) (p : MA) (a : FA) (fa : List FA) (m : Wd) (s : MS) (v : V) (i : Ins), vs = [.ref p.R, .ref a.x, v] ∧ RM CM CF C X H p (a :: fa) m s ∧ RI H v i ∧ ok i ∧ GxR.TabG H P1 ∧ goM CM CF C En X H p m Q E (actM m.gl i s)
section
variable {CF : Addr} {C : Cs} {X : Addr → Prop} {H H' : Hp} {a : FA} {f : FS}
/-- the last n values are taken -/
theorem RF.take (h : RF CF C X H a f) (nd : a.muts.Nodup) (hX : ∀ b ∈ a.muts, X b) (dom : ∀ b, X b → H b ≠ none) {n : Nat} {us : List V} {q : Addr} (hs : H a.S = some (.lst us)) (hn : n ≤ f.st.length) (hq : H q = none) :
    n ≤ us.length ∧ RF CF C X (upd (upd H q (.lst (us.drop (us.length - n)))) a.S (.lst (us.take (us.length - n)))) a { f with st := f.st.drop n } ∧ Fr No H (upd H q (.lst (us.drop (us.length - n)))) ∧ Fr (fun b => b ∈ a.muts) (upd H q (.lst (us.drop (us.length - n)))) (upd (upd H q (.lst (us.drop (us.length - n)))) a.S (.lst (us.take (us.length - n)))) ∧
      (upd (upd H q (.lst (us.drop (us.length - n)))) a.S (.lst (us.take (us.length - n)))) q = some (.lst (us.drop (us.length - n))) ∧ RVs C X (upd (upd H q (.lst (us.drop (us.length - n)))) a.S (.lst (us.take (us.length - n)))) (us.drop (us.length - n)) (f.st.take n).reverse ∧ ¬ X q := by
  obtain ⟨us0, s1, s2⟩ := h.S
  rw [hs] at s1
  cases s1
  have lr : us.length = f.st.length := by rw [s2.len, List.length_reverse]
  obtain ⟨c1, c2⟩ := rev_cut f.st n hn
  have fn : Fr No H (upd H q (.lst (us.drop (us.length - n)))) := Fr.new hq
  have h1 := h.no fn
  have r1 := s2.fr fn.no
  have ra := r1.take (us.length - n)
  have rb := r1.drop (us.length - n)
  have ra' : RVs C X (upd H q (.lst (us.drop (us.length - n)))) (us.take (us.length - n)) (f.st.drop n).reverse := by rw [← c1, ← lr]; exact ra
  have rb' : RVs C X (upd H q (.lst (us.drop (us.length - n)))) (us.drop (us.length - n)) (f.st.take n).reverse := by rw [← c2, ← lr]; exact rb
  have g := h1.setS nd hX ra'
  have nq : q ≠ a.S := fun z => by rw [z, hs] at hq; cases hq
  exact ⟨by omega, g.1, fn, g.2, by rw [upd_ne nq]; exact upd_same, rb'.fr (g.2.wide hX), fun z => dom q z hq⟩
end
section
variable {P : Program} {w : World} {K : PySem.W.Frag} {mg : Str → Option Value} {base : Heap} {CM CF En P1 : Addr} {C : Cs}
theorem fl_last (a : FA) (fa : List FA) : ((a :: fa).reverse.map fun a => V.ref a.x) = (fa.reverse.map fun a => V.ref a.x) ++ [.ref a.x] := by rw [List.reverse_cons, List.map_append]; rfl
end
end My
namespace My
open PySem PySem.Spec PyProof.Rows L2 TL
/-! ### a definition's value is put -/
def isGlob (i : Ins) : Prop := ∃ a b, i = .glob a b
section
variable {P : Program} {w : World} {K : PySem.W.Frag} {mg : Str → Option Value} {base : Heap} {CM CF En P1 : Addr} {C : Cs}
end
end My
namespace My
open PySem PySem.Spec PyProof.Rows L2 TL
/-! ### the machine's loop -/
inductive AW where
  | int | prim | glob | place | kept | fn | put | jump | unless | call | tail | end_
def AW.word : AW → Str
  | .int => "int" | .prim => "prim" | .glob => "global" | .place => "place" | .kept => "kept" | .fn => "fn" | .put => "put" | .jump => "jump" | .unless => "unless" | .call => "call" | .tail => "tail" | .end_ => "end"
def AW.sp (CM CF : Addr) (C : Cs) (En P1 : Addr) : AW → Sp
  | .int => spFo CF C isInt | .prim => spFo CF C isPrim | .glob => spMx CM CF C En P1 isGlob | .place => spFo CF C isSrc | .kept => spFo CF C isSrc | .fn => spFo CF C isFn | .put => spFo CF C isPut | .jump => spFo CF C isJump | .unless => spFo CF C isUnless
  | .call => spMx CM CF C En P1 isCall | .tail => spMx CM CF C En P1 isTail | .end_ => spMx CM CF C En P1 isEnd
def awI : Ins → Option AW
  | .int _ => some .int | .prim _ => some .prim | .glob _ _ => some .glob | .src (.place _) => some .place | .src (.kept _) => some .kept | .fn _ _ => some .fn | .put _ => some .put | .jump _ => some .jump | .unless _ => some .unless | .call _ => some .call | .tail _ => some .tail | .end_ => some .end_
theorem RI.head {H : Hp} {v : V} {i : Ins} {aw : AW} (r : RI H v i) (e : awI i = some aw) : ∃ (b : Addr) (xs : List V), v = .ref b ∧ H b = some (.tup (.str aw.word :: xs)) := by
  cases r with
  | int h => cases e; exact ⟨_, _, rfl, h⟩
  | prim h => cases e; exact ⟨_, _, rfl, h⟩
  | glob h => cases e; exact ⟨_, _, rfl, h⟩
  | @src a s h =>
    cases s with
    | place n => cases e; exact ⟨_, _, rfl, h⟩
    | kept n => cases e; exact ⟨_, _, rfl, h⟩
  | fn h => cases e; exact ⟨_, _, rfl, h⟩
  | put h => cases e; exact ⟨_, _, rfl, h⟩
  | jump h => cases e; exact ⟨_, _, rfl, h⟩
  | «unless» h => cases e; exact ⟨_, _, rfl, h⟩
  | call h => cases e; exact ⟨_, _, rfl, h⟩
  | tail h => cases e; exact ⟨_, _, rfl, h⟩
  | end_ h => cases e; exact ⟨_, _, rfl, h⟩
theorem RIs.get2 {H : Hp} : ∀ {vs : List V} {is : List Ins} {n : Nat} {i : Ins}, RIs H vs is → is[n]? = some i → ∃ v, vs[n]? = some v ∧ RI H v i
  | _, _, _, _, .nil, e => by simp at e
  | _, _, 0, _, .cons r _, e => by cases e; exact ⟨_, rfl, r⟩
  | _, _, n + 1, _, .cons _ rs, e => by
    obtain ⟨v, h1, h2⟩ := RIs.get2 (n := n) rs (by simpa using e)
    exact ⟨v, by simpa using h1, h2⟩
def outM (CM CF : Addr) (C : Cs) (En : Addr) (X : Addr → Prop) (H : Hp) (p : MA) (m : Wd) (Q : VK) (E : XK) : Option (Except (List Str × Nat × Nat) MS) → Prop
  | some (.ok s) => ∃ v, s.res = some v ∧ ∀ X' u H', Fr X H H' → (∀ b, X b → X' b) → (∀ b, X' b → X b ∨ H b = none) → RM CM CF C X' H' p [] m s → RV C X' H' u v → Q u H'
  | some (.error (ws, n, mf)) => ∀ H1 rv, Fr X H H1 → H1 p.R = some (.ins CM p.dx (mfl p m n mf rv)) → erX No En ws H1 E
  | none => False
def spMca (CM CF : Addr) (C : Cs) (En P1 : Addr) : Sp := fun vs H Q E => ∃ (X : Addr → Prop) (p : MA) (m : Wd) (s0 s1 : MS) (cv : V) (c : Code) (k : Nat), vs = [.ref p.R, cv] ∧ RM CM CF C X H p [] m s0 ∧ RC H cv c ∧ GxR.TabG H P1 ∧ addF s0 c [] [] = .ok s1 ∧ outM CM CF C En X H p m Q E (runM k m s1)
theorem fo_of {CM CF : Addr} {C : Cs} {En : Addr} {X : Addr → Prop} {H : Hp} {p : MA} {a : FA} {fa : List FA} {m : Wd} {n mf : Nat} {f0 : FS} {fs : List FS} {res : Option Vl} {Q : VK} {E : XK} {mv v : V} {i : Ins} {ok : Ins → Prop} (h : RM CM CF C X H p (a :: fa) m ⟨n, mf, f0 :: fs, res⟩) (ri : RI H v i) (hok : ok i)
    (g : goM CM CF C En X H p m Q E (actM m.gl i ⟨n, mf, f0 :: fs, res⟩)) (e : actM m.gl i ⟨n, mf, f0 :: fs, res⟩ = match frF f0 i with | some f' => .ok ⟨n, mf, f' :: fs, res⟩ | none => .stuck) : spFo CF C ok [mv, .ref a.x, v] H Q E := by
  rw [e] at g
  cases hf : frF f0 i with
  | none => rw [hf] at g; exact g.elim
  | some f' =>
    rw [hf] at g
    have na : a.muts.Nodup := (List.nodup_append.mp h.ne.m).1
    cases h.fs with
    | cons h1 hs =>
    refine ⟨X, a, f0, f', mv, v, i, rfl, h1, ri, hok, na, fun b z => h.xm b (List.mem_append_left _ z), h.dom, hf, fun H' f r => ?_⟩
    obtain ⟨g1, g2⟩ := h.top f r
    exact g X (a :: fa) H' g2 (fun b z => z) (fun b z => .inl z) g1
section
variable {P : Program} {w : World} {K : PySem.W.Frag} {mg : Str → Option Value} {base : Heap} {CM CF En P1 : Addr} {C : Cs}
end
end My
namespace My
open PySem PySem.Spec PyProof.Rows L2 TL
/-! ### run_code -/
/-- the machine between two parts: steps, most frames, result -/
abbrev MSt := Nat × Nat × Option Vl
def maRun (k m : Nat) (gl : Gl) (s : MSt) (c : Code) : Option (Except (List Str × MSt) (MSt × Vl)) := match addF ⟨s.1, s.2.1, [], s.2.2⟩ c [] [] with
  | .ok s1 => match runM k ⟨m, gl⟩ s1 with
    | some (.ok s') => match s'.res with
      | some v => some (.ok ((s'.n, s'.mf, s'.res), v))
      | none => none
    | some (.error (ws, n, mf)) => some (.error (ws, n, mf, none))
    | none => none
  | _ => none
structure IxM where
  p : MA
  m : Nat
  k : Nat
section
variable {CM CF : Addr} {C : Cs}
theorem RM.put {X : Addr → Prop} {H : Hp} {p : MA} {m : Nat} {gl : Gl} {ms : MS} {kvs : List (List Key × V)} {k : Str × Str} {v : V} {x : Vl} {rs : List FS} (h : RM CM CF C X H p [] ⟨m, gl⟩ ms) (XD : X p.D) (hD : H p.D = some (.dT kvs)) (rv : RV C X H v x) :
    RM CM CF C X (upd H p.D (.dT (putK kvs (glK k) v))) p [] ⟨m, glPut k x gl⟩ ms := by
  obtain ⟨r0, e0, e1⟩ := h.r
  obtain ⟨kvs', d1, d2⟩ := h.d
  rw [hD] at d1
  cases d1
  have f1 : Fr (fun b => b = p.D) H (upd H p.D (.dT (putK kvs (glK k) v))) := Fr.set rfl hD rfl
  have hw : ∀ b, b = p.D → X b := fun b e => by rw [e]; exact XD
  have f := f1.wide hw
  exact ⟨⟨r0, by rw [upd_ne (Ne.symm h.neRD)]; exact e0, e1.fr f⟩, by rw [upd_ne (Ne.symm h.neFD)]; exact h.fl, h.fs.fr f1 hw (fun b z => by cases z), ⟨_, upd_same, (d2.fr f).put (rv.fr f)⟩, h.nd, h.xx, fun b z => f.dom' (h.dom b z)⟩
def cdM (CM CF : Addr) (C : Cs) (i : IxM) : CoD C CM where
  σ := MSt
  β := Code
  self := i.p.R
  D := i.p.D
  RB := RC
  run := maRun i.k i.m
  I := fun X H s gl => RM CM CF C X H i.p [] ⟨i.m, gl⟩ ⟨s.1, s.2.1, [], s.2.2⟩ ∧ X i.p.D
  J := fun H s => ∃ rv, H i.p.R = some (.ins CM i.p.dx (mfl i.p ⟨i.m, []⟩ s.1 s.2.1 rv))
  keepB := fun k h => h.keep k
  noI := fun f h => ⟨h.1.no f, h.2⟩
  noJ := fun f ⟨rv, h⟩ => ⟨rv, f.keep (fun z => z) rfl h⟩
  obj := fun h => by
    obtain ⟨rv, e, _⟩ := h.1.r
    exact ⟨_, _, e, rfl, rfl⟩
  df := fun h => ⟨h.1.d, h.2⟩
  put := fun h hD rv => ⟨h.1.put (rs := []) h.2 hD rv, h.2⟩
  toJ := fun h => by
    obtain ⟨rv, e, _⟩ := h.1.r
    exact ⟨rv, e⟩
  grow := fun h b z => h.1.dom b z
theorem mca_co {En P1 : Addr} : ∀ vs H Q E, spCo En P1 (cdM CM CF C) vs H Q E → spMca CM CF C En P1 vs H Q E := by
  rintro vs H Q E ⟨⟨p, m, k⟩, X, s, gl, cv, c, rfl, ⟨st, xD⟩, rc, tg, q⟩
  have q : coPost En (cdM CM CF C ⟨p, m, k⟩) X H gl Q E (maRun k m gl s c) := q
  unfold maRun at q
  cases ea : addF ⟨s.1, s.2.1, [], s.2.2⟩ c [] [] with
  | stuck => rw [ea] at q; exact q.elim
  | err ws n mf => rw [ea] at q; exact q.elim
  | ok s1 =>
  rw [ea] at q
  dsimp only at q
  refine ⟨X, p, ⟨m, gl⟩, _, s1, cv, c, k, rfl, st, rc, tg, ea, ?_⟩
  generalize runM k ⟨m, gl⟩ s1 = r at q ⊢
  match r, q with
  | none, q => exact q
  | some (.error (ws, n, mf)), q => exact fun H1 rv f e => q H1 f ⟨rv, e⟩
  | some (.ok ⟨n, mf, fs, none⟩), q => exact q.elim
  | some (.ok ⟨n, mf, fs, some v⟩), q =>
    refine ⟨v, rfl, fun X' u H' f xa xb rm rv => ?_⟩
    have ef : fs = [] := by
      have := rm.fs
      cases this
      rfl
    subst ef
    exact q X' u H' f xa xb ⟨rm, xa _ xD⟩ rv
/-- a definition's code as it is handed in -/
def RDm (H : Hp) (v : V) (d : (Str × Str) × Code) : Prop := ∃ (a : Addr) (c : V), v = .ref a ∧ H a = some (.tup [.str d.1.1, .str d.1.2, c]) ∧ RC H c d.2
theorem RDm.keep {H H' : Hp} (k : KpT H H') {v : V} {d : (Str × Str) × Code} (h : RDm H v d) : RDm H' v d := by
  obtain ⟨a, c, e, h1, h2⟩ := h
  exact ⟨a, c, e, k _ _ h1, h2.keep k⟩
def codeF (k m : Nat) : List ((Str × Str) × Code) → Code → Gl → MSt → Option (Except (List Str × MSt) (MSt × Vl))
  | [], c, gl, s => maRun k m gl s c
  | (key, d) :: ds, c, gl, s => match maRun k m gl s d with
    | some (.ok (s', x)) => codeF k m ds c (glPut key x gl) s'
    | some (.error e) => some (.error e)
    | none => none
theorem codeF_cons (k m : Nat) (key : Str × Str) (d : Code) (ds : List ((Str × Str) × Code)) (c : Code) (gl : Gl) (s : MSt) : codeF k m ((key, d) :: ds) c gl s = (match maRun k m gl s d with
    | some (.ok (s', x)) => codeF k m ds c (glPut key x gl) s'
    | some (.error e) => some (.error e)
    | none => none) := rfl
theorem codeF_prog (CM CF : Addr) (C : Cs) (i : IxM) : ∀ (ds : List ((Str × Str) × Code)) (c : Code) (gl : Gl) (s : MSt), progF (cdM CM CF C i) ds c gl s = codeF i.k i.m ds c gl s
  | [], _, _, _ => rfl
  | (key, d) :: ds, c, gl, s => by
    rw [codeF_cons]
    refine (progF_cons (cdM CM CF C i) key d ds c gl s).trans ?_
    have e : (cdM CM CF C i).run gl s d = maRun i.k i.m gl s d := rfl
    rw [e]
    generalize maRun i.k i.m gl s d = r
    match r with
    | none => rfl
    | some (.error e) => rfl
    | some (.ok (s', x)) => exact codeF_prog CM CF C i ds c _ _
def rcPost (H : Hp) (Q : VK) : Option (Except (List Str × MSt) (MSt × Vl)) → Prop
  | some (.ok (s, v)) => ∀ a o u H', Fr No H H' → H' a = some (.tup [.ref o, .int (s.1 : Nat), .int (s.2.1 : Nat)]) → H' o = some (.tup [.str "value", u]) → RSh H' u (showF v 0 0).1 → Q (.ref a) H'
  | some (.error (ws, s)) => ∀ a o H', Fr No H H' → H' a = some (.tup [.ref o, .int (s.1 : Nat), .int (s.2.1 : Nat)]) → H' o = some (.tup (ws.map .str)) → Q (.ref a) H'
  | none => False
def spRc (P1 : Addr) : Sp := fun vs H Q _ => ∃ (l : Addr) (us : List V) (ds : List ((Str × Str) × Code)) (cv : V) (m : Nat) (c : Code) (k : Nat), vs = [.ref l, cv, .int m] ∧ H l = some (.lst us) ∧ Als (RDm H) us ds ∧ ds.length ≤ 1000 ∧ RC H cv c ∧ GxR.TabG H P1 ∧ rcPost H Q (codeF k m ds c [] (0, 0, none))
end
section
variable {P : Program} {w : World} {K : PySem.W.Frag} {mg : Str → Option Value} {base : Heap} {CM CF En P1 : Addr} {C : Cs}
end
end My
namespace My
open PySem PySem.Spec PyProof.Rows L2 TL
/-! ### the plain run, step by step -/
theorem runF_ok {m : Wd} {k n n' : Nat} {tk : Tk} {todo todo' : List Tk} {res res' : List Vl} (h : actF m tk n todo res = .ok n' todo' res') : runF (k + 1) m n (tk :: todo) res = runF k m n' todo' res' := by
  conv => lhs; unfold runF
  rw [h]
theorem runF_err {m : Wd} {k n n' : Nat} {tk : Tk} {todo : List Tk} {res : List Vl} {ws : List Str} (h : actF m tk n todo res = .err ws n') : runF (k + 1) m n (tk :: todo) res = some (.error (ws, n')) := by
  conv => lhs; unfold runF
  rw [h]
theorem runF_nil {m : Wd} {k n : Nat} {res : List Vl} : runF (k + 1) m n [] res = some (.ok (n, res)) := by
  unfold runF
  rfl
theorem beg {t : Tr} {env : List (Int × Vl)} {m : Wd} {n : Nat} {todo : List Tk} {res : List Vl} (hm : n < m.m) : actF m ⟨.begin, t, env⟩ n todo res = partF m.gl t env (n + 1) todo res := by
  show beginF m t env n todo res = _
  unfold beginF
  rw [if_neg (Nat.not_le_of_lt hm)]
section
variable {env : List (Int × Vl)} {m : Wd} {n k : Nat} {todo : List Tk} {res : List Vl}
theorem room {a b : Nat} (ht : a < many) (hr : b < many) : ¬ (many ≤ a ∨ many ≤ b) := by omega
theorem run_int {i : Int} (hm : n < m.m) (ht : todo.length < many) (hr : res.length < many) (hi : i.natAbs ≤ 10 ^ 60) : runF (k + 1) m n (⟨.begin, .int i, env⟩ :: todo) res = runF k m (n + 1) todo (.int i :: res) := by
  refine runF_ok ((beg hm).trans ?_)
  unfold partF
  rw [if_neg (room ht hr)]
  show (if i.natAbs ≤ 10 ^ 60 then _ else _) = _
  rw [if_pos hi]
theorem run_prim {p : Str} (hm : n < m.m) (ht : todo.length < many) (hr : res.length < many) : runF (k + 1) m n (⟨.begin, .prim p, env⟩ :: todo) res = runF k m (n + 1) todo (.prim p :: res) := by
  refine runF_ok ((beg hm).trans ?_)
  unfold partF
  rw [if_neg (room ht hr)]
theorem run_fn {ns : List Int} {b : Tr} (hm : n < m.m) (ht : todo.length < many) (hr : res.length < many) : runF (k + 1) m n (⟨.begin, .fn ns b, env⟩ :: todo) res = runF k m (n + 1) todo (.fnP ns b env :: res) := by
  refine runF_ok ((beg hm).trans ?_)
  unfold partF
  rw [if_neg (room ht hr)]
theorem run_loc {x : Int} {v : Vl} (hm : n < m.m) (ht : todo.length < many) (hr : res.length < many) (hv : evGet x env = some v) : runF (k + 1) m n (⟨.begin, .loc x, env⟩ :: todo) res = runF k m (n + 1) todo (v :: res) := by
  refine runF_ok ((beg hm).trans ?_)
  unfold partF
  rw [if_neg (room ht hr)]
  dsimp only
  rw [hv]
theorem run_call {f : Tr} {ts : List Tr} (hm : n < m.m) (ht : todo.length < many) (hr : res.length < many) : runF (k + 1) m n (⟨.begin, .call f ts, env⟩ :: todo) res = runF k m (n + 1) (⟨.begin, f, env⟩ :: (bgs ts env ++ ⟨.endCall, .call f ts, env⟩ :: todo)) res := by
  refine runF_ok ((beg hm).trans ?_)
  unfold partF
  rw [if_neg (room ht hr)]
theorem run_let {ns : List Int} {ts : List Tr} {b : Tr} (hm : n < m.m) (ht : todo.length < many) (hr : res.length < many) : runF (k + 1) m n (⟨.begin, .let_ ns ts b, env⟩ :: todo) res = runF k m (n + 1) (bgs ts env ++ ⟨.endLet, .let_ ns ts b, env⟩ :: todo) res := by
  refine runF_ok ((beg hm).trans ?_)
  unfold partF
  rw [if_neg (room ht hr)]
theorem run_endLet {ns : List Int} {ts : List Tr} {b : Tr} {vs : List Vl} (hl : vs.length = ts.length) (hn : ns.length = ts.length) (he : env.length + ns.length ≤ 1000000) (ht : todo.length < many) : runF (k + 1) m n (⟨.endLet, .let_ ns ts b, env⟩ :: todo) (vs.reverse ++ res) = runF k m n (⟨.begin, b, evPuts ns vs env⟩ :: todo) res := by
  refine runF_ok ?_
  show endLetF (.let_ ns ts b) env n todo (vs.reverse ++ res) = _
  unfold endLetF
  have l0 : ts.length = vs.reverse.length := by rw [List.length_reverse, hl]
  dsimp only
  rw [if_pos ⟨by rw [List.length_append, ← l0]; omega, hn, he, ht⟩, l0, List.take_left, List.drop_left, List.reverse_reverse]
/-- a call of a primitive -/
def primR (name : Str) (vs : List Vl) (n : Nat) (todo : List Tk) (res : List Vl) : PRes := match chkF (.prim name) vs.length with
  | some ws => .err ws n
  | none => match primF name vs with
    | .ok y => .ok n todo (y :: res)
    | .error ws => .err ws n
theorem run_endCall {f : Tr} {ts : List Tr} {vs : List Vl} {name : Str} (hl : vs.length = ts.length) (h9 : ts.length ≤ 900) (ht : todo.length < many) (hr : vs.length + 1 + res.length < many) : actF m ⟨.endCall, .call f ts, env⟩ n todo (vs.reverse ++ .prim name :: res) = primR name vs n todo res := by
  show endCallF (.call f ts) n todo (vs.reverse ++ .prim name :: res) = _
  unfold endCallF
  have l0 : ts.length = vs.reverse.length := by rw [List.length_reverse, hl]
  dsimp only
  rw [l0, List.drop_left, List.take_left, List.reverse_reverse]
  dsimp only
  rw [List.length_reverse, if_pos ⟨by omega, ht, by rw [List.length_append, List.length_reverse, List.length_cons]; omega⟩]
  rfl
theorem primR_pair (x y : Vl) (n : Nat) (todo : List Tk) (res : List Vl) : primR "pair" [x, y] n todo res = .ok n todo (.pair x y :: res) := by
  unfold primR
  have e1 : chkF (.prim "pair") [x, y].length = none := by
    unfold chkF
    rw [if_pos (show (isF (Vl.prim "pair") || isR (Vl.prim "pair")) = true from rfl), if_pos (by show arP "pair" = 2; unfold arP; rw [if_neg (by decide +kernel)])]
  have e2 : primF "pair" [x, y] = .ok (.pair x y) := by
    unfold primF
    rw [if_pos (show ("pair" : Str) = "pair" from rfl)]
  rw [e1]
  dsimp only
  rw [e2]
end
end My
namespace My
open PySem PySem.Spec PyProof.Rows L2 TL
/-! ### the meaning of a tree: an evaluator with steps and depth, and the plain run by it -/
inductive Rs where
  | val (v : Vl)
  | out (ws : List Str)
abbrev Ev := List (Int × Vl)
/-- parts from left to right -/
def evL (r : Tr → Nat → Nat → Option (Rs × Nat × Nat)) : List Tr → Nat → Nat → Option ((List Vl ⊕ List Str) × Nat × Nat)
  | [], l, s => some (.inl [], l, s)
  | t :: ts, l, s => match r t l s with
    | some (.val v, l', s') => (match evL r ts l' s' with
      | some (.inl vs, z) => some (.inl (v :: vs), z)
      | some (.inr ws, z) => some (.inr ws, z)
      | none => none)
    | some (.out ws, z) => some (.inr ws, z)
    | none => none
/-- fuel, definitions, variables, tree, steps left, greatest depth so far, depth, in last place -/
def evT : Nat → Gl → Ev → Tr → Nat → Nat → Nat → Bool → Option (Rs × Nat × Nat)
  | 0, _, _, _, _, _, _, _ => none
  | f + 1, gl, env, t, left, s, d, last =>
    if left = 0 then some (.out ["steps"], 0, s) else
    match t with
    | .int i => if i.natAbs ≤ 10 ^ 60 then some (.val (.int i), left - 1, s) else none
    | .loc x => match evGet x env with
      | some v => some (.val v, left - 1, s)
      | none => none
    | .glob a b => match glGet (a, b) gl with
      | some v => some (.val v, left - 1, s)
      | none => some (.out ["error", "early"], left - 1, s)
    | .prim q => some (.val (.prim q), left - 1, s)
    | .fn ns b => some (.val (.fnP ns b env), left - 1, s)
    | .let_ ns ts b => if ts.length ≤ 60 ∧ ns.length = ts.length ∧ env.length + ns.length ≤ 1000000 then (match evL (fun t l s => evT f gl env t l s d false) ts (left - 1) s with
      | some (.inl vs, l', s') => evT f gl (evPuts ns vs env) b l' s' d last
      | some (.inr ws, z) => some (.out ws, z)
      | none => none) else none
    | .if_ a b c => match evT f gl env a (left - 1) s d false with
      | some (.val v, l', s') => evT f gl env (if zeroV v = true then c else b) l' s' d last
      | some (.out ws, z) => some (.out ws, z)
      | none => none
    | .call g ts => if ts.length ≤ 60 then (match evL (fun t l s => evT f gl env t l s d false) (g :: ts) (left - 1) s with
      | some (.inl (called :: vs), l', s') => (match chkF called vs.length with
        | some ws => some (.out ws, l', s')
        | none => match called with
          | .prim q => (match primF q vs with
            | .ok y => some (.val y, l', s')
            | .error ws => some (.out ws, l', s'))
          | .fnP ns b en => if en.length + ns.length ≤ 1000000 then evT f gl (evPuts ns vs en) b l' (max s' (d + if last then 0 else 1)) (d + if last then 0 else 1) true else none
          | _ => none)
      | some (.inl [], _) => none
      | some (.inr ws, z) => some (.out ws, z)
      | none => none) else none
/-- the plain run comes from here to there -/
def Goes (m : Nat) (gl : Gl) (n : Nat) (todo : List Tk) (res : List Vl) (n' : Nat) (todo' : List Tk) (res' : List Vl) : Prop := ∃ j, ∀ k, runF (k + j) ⟨m, gl⟩ n todo res = runF k ⟨m, gl⟩ n' todo' res'
def Ends (m : Nat) (gl : Gl) (n : Nat) (todo : List Tk) (res : List Vl) (n' : Nat) (ws : List Str) : Prop := ∃ j, ∀ k, runF (k + j) ⟨m, gl⟩ n todo res = some (.error (ws, n'))
section
variable {m : Nat} {gl : Gl} {n n' n1 : Nat} {todo todo' todo1 : List Tk} {res res' res1 : List Vl} {ws : List Str} {tk : Tk}
theorem Goes.refl : Goes m gl n todo res n todo res := ⟨0, fun _ => rfl⟩
theorem Goes.trans (a : Goes m gl n todo res n1 todo1 res1) (b : Goes m gl n1 todo1 res1 n' todo' res') : Goes m gl n todo res n' todo' res' := by
  obtain ⟨i, a⟩ := a
  obtain ⟨j, b⟩ := b
  exact ⟨j + i, fun k => by rw [← Nat.add_assoc, a, b]⟩
theorem Goes.ends (a : Goes m gl n todo res n1 todo1 res1) (b : Ends m gl n1 todo1 res1 n' ws) : Ends m gl n todo res n' ws := by
  obtain ⟨i, a⟩ := a
  obtain ⟨j, b⟩ := b
  exact ⟨j + i, fun k => by rw [← Nat.add_assoc, a, b]⟩
theorem Goes.one (h : actF ⟨m, gl⟩ tk n todo res = .ok n' todo' res') : Goes m gl n (tk :: todo) res n' todo' res' := ⟨1, fun k => runF_ok h⟩
theorem Ends.one (h : actF ⟨m, gl⟩ tk n todo res = .err ws n') : Ends m gl n (tk :: todo) res n' ws := ⟨1, fun k => runF_err h⟩
end
/-- a call by its values -/
def callR (n : Nat) (todo : List Tk) (res : List Vl) (called : Vl) (vs : List Vl) : PRes := match chkF called vs.length with
  | some ws => .err ws n
  | none => match called with
    | .prim q => (match primF q vs with
      | .ok y => .ok n todo (y :: res)
      | .error ws => .err ws n)
    | .fnP ns b en => if en.length + ns.length ≤ 1000000 then .ok n (⟨.begin, b, evPuts ns vs en⟩ :: todo) res else .stuck
    | _ => .stuck
/-- what the plain run does with a part whose meaning is r -/
def PlOk (m : Nat) (gl : Gl) (n : Nat) (start todo : List Tk) (res : List Vl) (l' : Nat) : Rs → Prop
  | .val v => Goes m gl n start res (m - l') todo (v :: res)
  | .out ws => Ends m gl n start res (m - l') ws
def PlsOk (m : Nat) (gl : Gl) (n k : Nat) (start todo : List Tk) (res : List Vl) (l' : Nat) : List Vl ⊕ List Str → Prop
  | .inl vs => vs.length = k ∧ Goes m gl n start res (m - l') todo (vs.reverse ++ res)
  | .inr ws => Ends m gl n start res (m - l') ws
def PlGo (f : Nat) : Prop := ∀ (gl : Gl) (env : Ev) (t : Tr) (l s d : Nat) (last : Bool) (r : Rs) (l' s' m : Nat) (todo : List Tk) (res : List Vl), evT f gl env t l s d last = some (r, l', s') → l ≤ m → todo.length + 64 * f < many → res.length + 64 * f < many →
  l' ≤ l ∧ PlOk m gl (m - l) (⟨.begin, t, env⟩ :: todo) todo res l' r
theorem plain_list {f : Nat} (IH : PlGo f) (gl : Gl) (env : Ev) (d m : Nat) : ∀ (ts : List Tr) (l s : Nat) (r : List Vl ⊕ List Str) (l' s' : Nat) (todo : List Tk) (res : List Vl), evL (fun t l s => evT f gl env t l s d false) ts l s = some (r, l', s') → l ≤ m → todo.length + ts.length + 64 * f < many → res.length + ts.length + 64 * f < many →
    l' ≤ l ∧ PlsOk m gl (m - l) ts.length (bgs ts env ++ todo) todo res l' r
  | [], l, s, r, l', s', todo, res, h, hl, _, _ => by
    cases h
    exact ⟨Nat.le_refl _, rfl, Goes.refl⟩
  | t :: ts, l, s, r, l', s', todo, res, h, hl, ht, hr => by
    unfold evL at h
    simp only [List.length_cons] at ht hr
    have lb : (bgs ts env ++ todo).length = ts.length + todo.length := by simp [bgs]
    cases h1 : evT f gl env t l s d false with
    | none => rw [h1] at h; cases h
    | some q =>
    obtain ⟨r1, l1, s1⟩ := q
    rw [h1] at h
    obtain ⟨a1, a2⟩ := IH gl env t l s d false r1 l1 s1 m (bgs ts env ++ todo) res h1 hl (by omega) (by omega)
    cases r1 with
    | out ws =>
      cases h
      exact ⟨a1, a2⟩
    | val v =>
    dsimp only at h
    have a2 : Goes m gl (m - l) (⟨.begin, t, env⟩ :: (bgs ts env ++ todo)) res (m - l1) (bgs ts env ++ todo) (v :: res) := a2
    cases h2 : evL (fun t l s => evT f gl env t l s d false) ts l1 s1 with
    | none => rw [h2] at h; cases h
    | some q =>
    obtain ⟨r2, l2, s2⟩ := q
    rw [h2] at h
    obtain ⟨b1, b2⟩ := plain_list IH gl env d m ts l1 s1 r2 l2 s2 todo (v :: res) h2 (by omega) (by omega) (by simp only [List.length_cons]; omega)
    cases r2 with
    | inr ws =>
      cases h
      exact ⟨by omega, a2.ends b2⟩
    | inl vs =>
      cases h
      obtain ⟨c1, c2⟩ := b2
      refine ⟨by omega, by rw [List.length_cons, c1]; rfl, ?_⟩
      rw [List.reverse_cons, List.append_assoc]
      exact a2.trans c2
theorem plain_sim : ∀ f, PlGo f
  | 0 => fun gl env t l s d last r l' s' m todo res h => by cases h
  | f + 1 => fun gl env t l s d last r l' s' m todo res h hl ht hr => by
    have IH := plain_sim f
    unfold evT at h
    by_cases l0 : l = 0
    · rw [if_pos l0] at h
      cases h
      refine ⟨Nat.zero_le _, Ends.one ?_⟩
      show beginF ⟨m, gl⟩ t env (m - l) todo res = _
      unfold beginF
      subst l0
      exact if_pos (show m ≤ m - 0 by omega)
    rw [if_neg l0] at h
    have hm : m - l < m := by omega
    have e1 : m - l + 1 = m - (l - 1) := by omega
    have rm : ¬ (many ≤ todo.length ∨ many ≤ res.length) := by omega
    have bg : ∀ {x : PRes}, partF gl t env (m - l + 1) todo res = x → actF ⟨m, gl⟩ ⟨.begin, t, env⟩ (m - l) todo res = x := fun e => (beg hm).trans e
    rw [e1] at bg
    cases t with
    | int i =>
      dsimp only at h
      by_cases hi : i.natAbs ≤ 10 ^ 60
      case neg => rw [if_neg hi] at h; cases h
      rw [if_pos hi] at h
      cases h
      refine ⟨by omega, Goes.one (bg ?_)⟩
      unfold partF
      rw [if_neg rm]
      dsimp only
      rw [if_pos hi]
    | loc x =>
      dsimp only at h
      cases hv : evGet x env with
      | none => rw [hv] at h; cases h
      | some v =>
      rw [hv] at h
      cases h
      refine ⟨by omega, Goes.one (bg ?_)⟩
      unfold partF
      rw [if_neg rm]
      dsimp only
      rw [hv]
    | glob a b =>
      dsimp only at h
      cases hv : glGet (a, b) gl with
      | none =>
        rw [hv] at h
        cases h
        refine ⟨by omega, Ends.one (bg ?_)⟩
        unfold partF
        rw [if_neg rm]
        dsimp only
        rw [hv]
      | some v =>
      rw [hv] at h
      cases h
      refine ⟨by omega, Goes.one (bg ?_)⟩
      unfold partF
      rw [if_neg rm]
      dsimp only
      rw [hv]
    | prim q =>
      cases h
      refine ⟨by omega, Goes.one (bg ?_)⟩
      unfold partF
      rw [if_neg rm]
    | fn ns b =>
      cases h
      refine ⟨by omega, Goes.one (bg ?_)⟩
      unfold partF
      rw [if_neg rm]
    | let_ ns ts b =>
      dsimp only at h
      by_cases lim : ts.length ≤ 60 ∧ ns.length = ts.length ∧ env.length + ns.length ≤ 1000000
      case neg => rw [if_neg lim] at h; cases h
      rw [if_pos lim] at h
      have g1 : Goes m gl (m - l) (⟨.begin, .let_ ns ts b, env⟩ :: todo) res (m - (l - 1)) (bgs ts env ++ ⟨.endLet, .let_ ns ts b, env⟩ :: todo) res := Goes.one (bg (by
        unfold partF
        rw [if_neg rm]))
      cases h2 : evL (fun t l s => evT f gl env t l s d false) ts (l - 1) s with
      | none => rw [h2] at h; cases h
      | some q =>
      obtain ⟨r2, l2, s2⟩ := q
      rw [h2] at h
      obtain ⟨b1, b2⟩ := plain_list IH gl env d m ts (l - 1) s r2 l2 s2 (⟨.endLet, .let_ ns ts b, env⟩ :: todo) res h2 (by omega) (by simp only [List.length_cons]; omega) (by omega)
      cases r2 with
      | inr ws =>
        cases h
        exact ⟨by omega, g1.ends b2⟩
      | inl vs =>
      dsimp only at h
      obtain ⟨c1, c2⟩ := b2
      have g2 : Goes m gl (m - l2) (⟨.endLet, .let_ ns ts b, env⟩ :: todo) (vs.reverse ++ res) (m - l2) (⟨.begin, b, evPuts ns vs env⟩ :: todo) res := ⟨1, fun k => run_endLet c1 lim.2.1 lim.2.2 (by omega)⟩
      obtain ⟨d1, d2⟩ := IH gl _ b l2 s2 d last r l' s' m todo res h (by omega) (by omega) (by omega)
      refine ⟨by omega, ?_⟩
      cases r with
      | val v => exact (g1.trans (c2.trans g2)).trans d2
      | out ws => exact (g1.trans (c2.trans g2)).ends d2
    | if_ a b c =>
      dsimp only at h
      have g1 : Goes m gl (m - l) (⟨.begin, .if_ a b c, env⟩ :: todo) res (m - (l - 1)) (⟨.begin, a, env⟩ :: ⟨.endIf, .if_ a b c, env⟩ :: todo) res := Goes.one (bg (by
        unfold partF
        rw [if_neg rm]))
      cases h2 : evT f gl env a (l - 1) s d false with
      | none => rw [h2] at h; cases h
      | some q =>
      obtain ⟨r2, l2, s2⟩ := q
      rw [h2] at h
      obtain ⟨b1, b2⟩ := IH gl env a (l - 1) s d false r2 l2 s2 m (⟨.endIf, .if_ a b c, env⟩ :: todo) res h2 (by omega) (by simp only [List.length_cons]; omega) (by omega)
      cases r2 with
      | out ws =>
        cases h
        exact ⟨by omega, g1.ends b2⟩
      | val v =>
        dsimp only at h
        have b2 : Goes m gl (m - (l - 1)) (⟨.begin, a, env⟩ :: ⟨.endIf, .if_ a b c, env⟩ :: todo) res (m - l2) (⟨.endIf, .if_ a b c, env⟩ :: todo) (v :: res) := b2
        have g2 : Goes m gl (m - l2) (⟨.endIf, .if_ a b c, env⟩ :: todo) (v :: res) (m - l2) (⟨.begin, if zeroV v = true then c else b, env⟩ :: todo) res := Goes.one (by
          show endIfF (.if_ a b c) env (m - l2) todo (v :: res) = _
          unfold endIfF
          dsimp only
          rw [if_pos (show todo.length < many by omega)])
        obtain ⟨d1, d2⟩ := IH gl env _ l2 s2 d last r l' s' m todo res h (by omega) (by omega) (by omega)
        refine ⟨by omega, ?_⟩
        cases r with
        | val v => exact (g1.trans (b2.trans g2)).trans d2
        | out ws => exact (g1.trans (b2.trans g2)).ends d2
    | call g ts =>
      dsimp only at h
      by_cases lim : ts.length ≤ 60
      case neg => rw [if_neg lim] at h; cases h
      rw [if_pos lim] at h
      have g1 : Goes m gl (m - l) (⟨.begin, .call g ts, env⟩ :: todo) res (m - (l - 1)) (bgs (g :: ts) env ++ ⟨.endCall, .call g ts, env⟩ :: todo) res := Goes.one (bg (by
        unfold partF
        rw [if_neg rm]
        rfl))
      cases h2 : evL (fun t l s => evT f gl env t l s d false) (g :: ts) (l - 1) s with
      | none => rw [h2] at h; cases h
      | some q =>
      obtain ⟨r2, l2, s2⟩ := q
      rw [h2] at h
      obtain ⟨b1, b2⟩ := plain_list IH gl env d m (g :: ts) (l - 1) s r2 l2 s2 (⟨.endCall, .call g ts, env⟩ :: todo) res h2 (by omega) (by simp only [List.length_cons]; omega) (by simp only [List.length_cons]; omega)
      cases r2 with
      | inr ws =>
        cases h
        exact ⟨by omega, g1.ends b2⟩
      | inl vs =>
      obtain ⟨c1, c2⟩ := b2
      cases vs with
      | nil => cases h
      | cons called vs =>
      dsimp only at h
      have lv : vs.length = ts.length := by simpa using c1
      have c2 : Goes m gl (m - (l - 1)) (bgs (g :: ts) env ++ ⟨.endCall, .call g ts, env⟩ :: todo) res (m - l2) (⟨.endCall, .call g ts, env⟩ :: todo) (vs.reverse ++ called :: res) := by
        rw [List.reverse_cons, List.append_assoc] at c2
        exact c2
      have g12 := g1.trans c2
      have ec : ∀ {x : PRes}, callR (m - l2) todo res called vs = x → actF ⟨m, gl⟩ ⟨.endCall, .call g ts, env⟩ (m - l2) todo (vs.reverse ++ called :: res) = x := fun {x} e => by
        show endCallF (.call g ts) (m - l2) todo (vs.reverse ++ called :: res) = x
        unfold endCallF
        have l0 : ts.length = vs.reverse.length := by rw [List.length_reverse, lv]
        dsimp only
        rw [l0, List.drop_left, List.take_left, List.reverse_reverse]
        dsimp only
        rw [List.length_reverse, if_pos ⟨by omega, by omega, by rw [List.length_append, List.length_reverse, List.length_cons]; omega⟩]
        exact e
      cases hc : chkF called vs.length with
      | some ws =>
        rw [hc] at h
        cases h
        exact ⟨by omega, g12.ends (Ends.one (ec (by unfold callR; rw [hc])))⟩
      | none =>
      rw [hc] at h
      dsimp only at h
      cases called with
      | prim q =>
        dsimp only at h
        cases hp : primF q vs with
        | ok y =>
          rw [hp] at h
          cases h
          exact ⟨by omega, g12.trans (Goes.one (ec (by unfold callR; rw [hc]; dsimp only; rw [hp])))⟩
        | error ws =>
          rw [hp] at h
          cases h
          exact ⟨by omega, g12.ends (Ends.one (ec (by unfold callR; rw [hc]; dsimp only; rw [hp])))⟩
      | fnP ns b en =>
        dsimp only at h
        by_cases le : en.length + ns.length ≤ 1000000
        case neg => rw [if_neg le] at h; cases h
        rw [if_pos le] at h
        have g3 := g12.trans (Goes.one (ec (by unfold callR; rw [hc]; dsimp only; rw [if_pos le])))
        obtain ⟨d1, d2⟩ := IH gl _ b l2 _ _ true r l' s' m todo res h (by omega) (by omega) (by omega)
        refine ⟨by omega, ?_⟩
        cases r with
        | val v => exact g3.trans d2
        | out ws => exact g3.ends d2
      | _ => cases h
end My
namespace My
open PySem PySem.Spec PyProof.Rows L2 TL
/-! ### how a tree lies in a code, and when a value of the machine is one of the plain run -/
theorem evGet_put (n x : Int) (y : Vl) : ∀ (env : Ev), evGet x (evPut n y env) = if n = x then some y else evGet x env := by
  have hmap : ∀ (env : Ev), evHas n env = true → evGet x (env.map fun p => if p.1 = n then (p.1, y) else p) = if n = x then some y else evGet x env := by
    intro env
    induction env with
    | nil => intro h; cases h
    | cons p r ih =>
      obtain ⟨m, z⟩ := p
      intro h
      by_cases hr : evHas n r = true
      · have ih := ih hr
        by_cases c : m = n
        · subst c
          by_cases d : m = x
          · subst d
            simp [evGet]
          · rw [if_neg d] at ih ⊢
            simp only [List.map_cons, if_true, evGet, if_neg d]
            exact ih
        · simp only [List.map_cons, if_neg c, evGet]
          by_cases d : m = x
          · subst d
            rw [if_pos rfl, if_neg (Ne.symm c), if_pos rfl]
          · rw [if_neg d, ih]
            by_cases e : n = x
            · rw [if_pos e, if_pos e]
            · rw [if_neg e, if_neg e, if_neg d]
      · have hm : m = n := by
          have h' : (decide (m = n) || evHas n r) = true := h
          rw [Bool.eq_false_iff.mpr hr, Bool.or_false] at h'
          exact of_decide_eq_true h'
        subst hm
        have same : r.map (fun p => if p.1 = m then (p.1, y) else p) = r := by
          refine (List.map_congr_left fun p hp => ?_).trans (List.map_id r)
          rw [if_neg]
          · rfl
          · intro e
            exact hr (List.any_eq_true.mpr ⟨p, hp, decide_eq_true e⟩)
        simp only [List.map_cons, if_true, evGet, same]
        by_cases d : m = x
        · rw [if_pos d, if_pos d]
        · rw [if_neg d, if_neg d, if_neg d]
  have happ : ∀ (env : Ev), evHas n env = false → evGet x (env ++ [(n, y)]) = if n = x then some y else evGet x env := by
    intro env
    induction env with
    | nil =>
      intro _
      simp [evGet]
    | cons p r ih =>
      obtain ⟨m, z⟩ := p
      intro h
      have h' : (decide (m = n) || evHas n r) = false := h
      obtain ⟨h1, h2⟩ := Bool.or_eq_false_iff.mp h'
      have h1 := of_decide_eq_false h1
      simp only [List.cons_append, evGet]
      by_cases d : m = x
      · subst d
        rw [if_pos rfl, if_neg (Ne.symm h1), if_pos rfl]
      · rw [if_neg d, ih h2]
        by_cases e : n = x
        · rw [if_pos e, if_pos e]
        · rw [if_neg e, if_neg e, if_neg d]
  intro env
  unfold evPut
  by_cases c : evHas n env = true
  · rw [if_pos c]; exact hmap env c
  · rw [if_neg c]; exact happ env (Bool.eq_false_iff.mpr c)
theorem scGet_put (n x : Int) (y : Src) : ∀ (sc : Sc), scGet x (scPut n y sc) = if n = x then some y else scGet x sc := by
  have hmap : ∀ (sc : Sc), scHas n sc = true → scGet x (sc.map fun p => if p.1 = n then (p.1, y) else p) = if n = x then some y else scGet x sc := by
    intro sc
    induction sc with
    | nil => intro h; cases h
    | cons p r ih =>
      obtain ⟨m, z⟩ := p
      intro h
      by_cases hr : scHas n r = true
      · have ih := ih hr
        by_cases c : m = n
        · subst c
          by_cases d : m = x
          · subst d
            simp [scGet]
          · rw [if_neg d] at ih ⊢
            simp only [List.map_cons, if_true, scGet, if_neg d]
            exact ih
        · simp only [List.map_cons, if_neg c, scGet]
          by_cases d : m = x
          · subst d
            rw [if_pos rfl, if_neg (Ne.symm c), if_pos rfl]
          · rw [if_neg d, ih]
            by_cases e : n = x
            · rw [if_pos e, if_pos e]
            · rw [if_neg e, if_neg e, if_neg d]
      · have hm : m = n := by
          have h' : (decide (m = n) || scHas n r) = true := h
          rw [Bool.eq_false_iff.mpr hr, Bool.or_false] at h'
          exact of_decide_eq_true h'
        subst hm
        have same : r.map (fun p => if p.1 = m then (p.1, y) else p) = r := by
          refine (List.map_congr_left fun p hp => ?_).trans (List.map_id r)
          rw [if_neg]
          · rfl
          · intro e
            exact hr (List.any_eq_true.mpr ⟨p, hp, decide_eq_true e⟩)
        simp only [List.map_cons, if_true, scGet, same]
        by_cases d : m = x
        · rw [if_pos d, if_pos d]
        · rw [if_neg d, if_neg d, if_neg d]
  have happ : ∀ (sc : Sc), scHas n sc = false → scGet x (sc ++ [(n, y)]) = if n = x then some y else scGet x sc := by
    intro sc
    induction sc with
    | nil =>
      intro _
      simp [scGet]
    | cons p r ih =>
      obtain ⟨m, z⟩ := p
      intro h
      have h' : (decide (m = n) || scHas n r) = false := h
      obtain ⟨h1, h2⟩ := Bool.or_eq_false_iff.mp h'
      have h1 := of_decide_eq_false h1
      simp only [List.cons_append, scGet]
      by_cases d : m = x
      · subst d
        rw [if_pos rfl, if_neg (Ne.symm h1), if_pos rfl]
      · rw [if_neg d, ih h2]
        by_cases e : n = x
        · rw [if_pos e, if_pos e]
        · rw [if_neg e, if_neg e, if_neg d]
  intro sc
  unfold scPut
  by_cases c : scHas n sc = true
  · rw [if_pos c]; exact hmap sc c
  · rw [if_neg c]; exact happ sc (Bool.eq_false_iff.mpr c)
/-- one instruction, and the end behind it in last place -/
def Leaf (is : List Ins) (i : Ins) (last : Bool) (a b : Nat) : Prop := is[a]? = some i ∧ if last = true then is[a + 1]? = some .end_ ∧ b = a + 2 else b = a + 1
/-- places, parameters and length of a code -/
def FitC (l p b : Nat) (is : List Ins) : Prop := l ≤ many ∧ b = is.length ∧ p ≤ l ∧ is.length ≤ many
mutual
/-- the tree lies in the code from a to b; its variables by the scope; its lets take the places from lo to hi, np are there -/
def Lay : Nat → List Ins → Tr → Sc → Bool → Nat → Nat → Nat → Nat → Prop
  | np, is, .int i, sc, last, a, lo, b, hi => Leaf is (.int i) last a b ∧ hi = lo
  | np, is, .loc x, sc, last, a, lo, b, hi => ∃ s, scGet x sc = some s ∧ Leaf is (.src s) last a b ∧ hi = lo
  | np, is, .glob m x, sc, last, a, lo, b, hi => Leaf is (.glob m x) last a b ∧ hi = lo
  | np, is, .prim p, sc, last, a, lo, b, hi => Leaf is (.prim p) last a b ∧ hi = lo
  | np, is, .fn ns bd, sc, last, a, lo, b, hi => ∃ l js ss b' hi', Leaf is (.fn (.mk ns.length l js) ss) last a b ∧ hi = lo ∧ ssOf sc (outT (.fn ns bd)) = some ss ∧ ss.length ≤ many ∧ FitC l ns.length b' js ∧ Lay l js bd (fnSc (.fn ns bd)) true 0 ns.length b' hi'
  | np, is, .let_ ns ts bd, sc, last, a, lo, b, hi => ∃ a1 lo1, lo + ns.length ≤ np ∧ LayLet np is ts sc lo a (lo + ns.length) a1 lo1 ∧ Lay np is bd (letSc lo ns sc) last a1 lo1 b hi
  | np, is, .if_ c t e, sc, last, a, lo, b, hi => ∃ a1 lo1 a2 lo2, Lay np is c sc false a lo a1 lo1 ∧
      if last = true then is[a1]? = some (.unless a2) ∧ Lay np is t sc true (a1 + 1) lo1 a2 lo2 ∧ Lay np is e sc true a2 lo2 b hi
      else is[a1]? = some (.unless (a2 + 1)) ∧ Lay np is t sc false (a1 + 1) lo1 a2 lo2 ∧ is[a2]? = some (.jump b) ∧ Lay np is e sc false (a2 + 1) lo2 b hi
  | np, is, .call g ts, sc, last, a, lo, b, hi => ∃ a0 lo0 a1, Lay np is g sc false a lo a0 lo0 ∧ LayL np is ts sc a0 lo0 a1 hi ∧ is[a1]? = some (if last = true then .tail ts.length else .call ts.length) ∧ b = a1 + 1
def LayL : Nat → List Ins → List Tr → Sc → Nat → Nat → Nat → Nat → Prop
  | np, is, [], sc, a, lo, b, hi => b = a ∧ hi = lo
  | np, is, t :: ts, sc, a, lo, b, hi => ∃ a1 lo1, Lay np is t sc false a lo a1 lo1 ∧ LayL np is ts sc a1 lo1 b hi
def LayLet : Nat → List Ins → List Tr → Sc → Nat → Nat → Nat → Nat → Nat → Prop
  | np, is, [], sc, f, a, lo, b, hi => b = a ∧ hi = lo
  | np, is, t :: ts, sc, f, a, lo, b, hi => ∃ a1 lo1, Lay np is t sc false a lo a1 lo1 ∧ is[a1]? = some (.put f) ∧ LayLet np is ts sc (f + 1) (a1 + 1) lo1 b hi
end
/-- values of the plain run and of the machine -/
inductive VR : Vl → Vl → Prop
  | int (i : Int) : VR (.int i) (.int i)
  | prim (p : Str) : VR (.prim p) (.prim p)
  | pair {a b a' b' : Vl} (h : VR a a') (h' : VR b b') : VR (.pair a b) (.pair a' b')
  | fn {ns : List Int} {bd : Tr} {env : Ev} {l : Nat} {js : List Ins} {b' hi' : Nat} {ks : List Vl} (ll : l ≤ many) (lay : Lay l js bd (fnSc (.fn ns bd)) true 0 ns.length b' hi')
      (hl : ks.length = (outT (.fn ns bd)).length) (ex : ∀ x : Int, x ∈ outT (.fn ns bd) → ∃ v, evGet x env = some v)
      (hk : ∀ (i : Nat) (x : Int) (v v' : Vl), (outT (.fn ns bd))[i]? = some x → evGet x env = some v → ks[i]? = some v' → VR v v') : VR (.fnP ns bd env) (.fnM (.mk ns.length l js) ks)
inductive VRs : List Vl → List Vl → Prop
  | nil : VRs [] []
  | cons {v v' : Vl} {vs vs' : List Vl} (h : VR v v') (hs : VRs vs vs') : VRs (v :: vs) (v' :: vs')
theorem VRs.len : ∀ {vs vs' : List Vl}, VRs vs vs' → vs.length = vs'.length
  | _, _, .nil => rfl
  | _, _, .cons _ h => congrArg (· + 1) (VRs.len h)
def rdv (pl ks : List Vl) : Src → Option Vl
  | .place n => pl[n]?
  | .kept n => ks[n]?
/-- the scope's sources give the variables; their places are below lo -/
def ScR (sc : Sc) (env : Ev) (pl ks : List Vl) (lo : Nat) : Prop := ∀ x s, scGet x sc = some s → (∃ v v', evGet x env = some v ∧ rdv pl ks s = some v' ∧ VR v v') ∧ ∀ p, s = .place p → p < lo
theorem ScR.mono {sc : Sc} {env : Ev} {pl pl' ks : List Vl} {lo lo' : Nat} (h : ScR sc env pl ks lo) (hl : lo ≤ lo') (hp : ∀ p, p < lo → pl'[p]? = pl[p]?) : ScR sc env pl' ks lo' := fun x s e => by
  obtain ⟨⟨v, v', h1, h2, h3⟩, h4⟩ := h x s e
  refine ⟨⟨v, v', h1, ?_, h3⟩, fun p q => Nat.lt_of_lt_of_le (h4 p q) hl⟩
  cases s with
  | place p => exact (hp p (h4 p rfl)).trans h2
  | kept p => exact h2
theorem ScR.put {sc : Sc} {env : Ev} {pl ks : List Vl} {lo p : Nat} {n : Int} {v v' : Vl} (h : ScR sc env pl ks lo) (hp : pl[p]? = some v') (hv : VR v v') (hl : p < lo) : ScR (scPut n (.place p) sc) (evPut n v env) pl ks lo := fun x s e => by
  rw [scGet_put] at e
  rw [evGet_put]
  by_cases c : n = x
  · rw [if_pos c] at e ⊢
    cases e
    exact ⟨⟨v, v', rfl, hp, hv⟩, fun q z => by cases z; exact hl⟩
  · rw [if_neg c] at e ⊢
    exact h x s e
theorem ScR.puts {pl ks : List Vl} {lo : Nat} : ∀ {ns : List Int} {vs vs' : List Vl} {sc : Sc} {env : Ev} {f : Nat}, ScR sc env pl ks lo → VRs vs vs' → ns.length = vs.length → (∀ i v', vs'[i]? = some v' → pl[f + i]? = some v') → f + ns.length ≤ lo → ScR (letSc f ns sc) (evPuts ns vs env) pl ks lo
  | [], vs, vs', sc, env, f, h, hv, hn, hp, hl => by
    cases vs with
    | nil => exact h
    | cons v vs => cases hn
  | n :: ns, vs, vs', sc, env, f, h, hv, hn, hp, hl => by
    cases hv with
    | nil => cases hn
    | cons h1 hs =>
      have hl' : f + (ns.length + 1) ≤ lo := hl
      exact ScR.puts (ns := ns) (f := f + 1) (sc := scPut n (.place f) sc) (env := evPut n _ env) (h.put (n := n) (p := f) (hp 0 _ rfl) h1 (by omega)) hs (by simpa using hn) (fun i v' e => by rw [show f + 1 + i = f + (i + 1) by omega]; exact hp (i + 1) v' e) (by omega)
/-- the scope that a function begins with, before its parameters -/
theorem kpSc_get {x : Int} {s : Src} : ∀ {ns : List Int} {i : Nat} {sc : Sc}, scGet x (kpSc i ns sc) = some s → scGet x sc = some s ∨ ∃ j, s = .kept (i + j) ∧ ns[j]? = some x
  | [], i, sc, h => .inl h
  | n :: ns, i, sc, h => by
    rcases kpSc_get (ns := ns) (i := i + 1) (sc := scPut n (.kept i) sc) h with h | ⟨j, h1, h2⟩
    · rw [scGet_put] at h
      by_cases c : n = x
      · rw [if_pos c] at h
        cases h
        exact .inr ⟨0, rfl, by rw [c]; rfl⟩
      · rw [if_neg c] at h
        exact .inl h
    · exact .inr ⟨j + 1, by rw [h1, show i + 1 + j = i + (j + 1) by omega], h2⟩
/-- steps never come back, and the greatest depth never falls -/
theorem evL_le {r : Tr → Nat → Nat → Option (Rs × Nat × Nat)} (h : ∀ t l s x l' s', r t l s = some (x, l', s') → l' ≤ l ∧ s ≤ s') : ∀ (ts : List Tr) (l s : Nat) (x : List Vl ⊕ List Str) (l' s' : Nat), evL r ts l s = some (x, l', s') → l' ≤ l ∧ s ≤ s'
  | [], l, s, x, l', s', e => by cases e; exact ⟨Nat.le_refl _, Nat.le_refl _⟩
  | t :: ts, l, s, x, l', s', e => by
    unfold evL at e
    cases h1 : r t l s with
    | none => rw [h1] at e; cases e
    | some q =>
    obtain ⟨r1, l1, s1⟩ := q
    obtain ⟨a1, a2⟩ := h _ _ _ _ _ _ h1
    rw [h1] at e
    cases r1 with
    | out ws => cases e; exact ⟨a1, a2⟩
    | val v =>
    dsimp only at e
    cases h2 : evL r ts l1 s1 with
    | none => rw [h2] at e; cases e
    | some q =>
    obtain ⟨r2, l2, s2⟩ := q
    obtain ⟨b1, b2⟩ := evL_le h ts l1 s1 _ _ _ h2
    rw [h2] at e
    cases r2 with
    | inl vs => cases e; omega
    | inr ws => cases e; omega
theorem evT_le : ∀ (f : Nat) (gl : Gl) (env : Ev) (t : Tr) (l s d : Nat) (last : Bool) (r : Rs) (l' s' : Nat), evT f gl env t l s d last = some (r, l', s') → l' ≤ l ∧ s ≤ s'
  | 0, gl, env, t, l, s, d, last, r, l', s', h => by cases h
  | f + 1, gl, env, t, l, s, d, last, r, l', s', h => by
    have IH := evT_le f
    have IL := fun (env : Ev) => evL_le (r := fun t l s => evT f gl env t l s d false) (fun t l s x l' s' e => IH gl env t l s d false x l' s' e)
    unfold evT at h
    by_cases l0 : l = 0
    · rw [if_pos l0] at h; cases h; omega
    rw [if_neg l0] at h
    cases t with
    | int i =>
      dsimp only at h
      by_cases hi : i.natAbs ≤ 10 ^ 60
      case neg => rw [if_neg hi] at h; cases h
      rw [if_pos hi] at h; cases h; omega
    | loc x =>
      dsimp only at h
      cases hv : evGet x env with
      | none => rw [hv] at h; cases h
      | some v => rw [hv] at h; cases h; omega
    | glob a b =>
      dsimp only at h
      cases hv : glGet (a, b) gl with
      | none => rw [hv] at h; cases h; omega
      | some v => rw [hv] at h; cases h; omega
    | prim q => cases h; omega
    | fn ns b => cases h; omega
    | let_ ns ts b =>
      dsimp only at h
      by_cases lim : ts.length ≤ 60 ∧ ns.length = ts.length ∧ env.length + ns.length ≤ 1000000
      case neg => rw [if_neg lim] at h; cases h
      rw [if_pos lim] at h
      cases h2 : evL (fun t l s => evT f gl env t l s d false) ts (l - 1) s with
      | none => rw [h2] at h; cases h
      | some q =>
      obtain ⟨r2, l2, s2⟩ := q
      have b := IL env ts _ _ _ _ _ h2
      rw [h2] at h
      cases r2 with
      | inr ws => cases h; omega
      | inl vs =>
        have c := IH _ _ _ _ _ _ _ _ _ _ h
        omega
    | if_ a b c =>
      dsimp only at h
      cases h2 : evT f gl env a (l - 1) s d false with
      | none => rw [h2] at h; cases h
      | some q =>
      obtain ⟨r2, l2, s2⟩ := q
      have e1 := IH _ _ _ _ _ _ _ _ _ _ h2
      rw [h2] at h
      cases r2 with
      | out ws => cases h; omega
      | val v =>
        have e2 := IH _ _ _ _ _ _ _ _ _ _ h
        omega
    | call g ts =>
      dsimp only at h
      by_cases lim : ts.length ≤ 60
      case neg => rw [if_neg lim] at h; cases h
      rw [if_pos lim] at h
      cases h2 : evL (fun t l s => evT f gl env t l s d false) (g :: ts) (l - 1) s with
      | none => rw [h2] at h; cases h
      | some q =>
      obtain ⟨r2, l2, s2⟩ := q
      have b := IL env (g :: ts) _ _ _ _ _ h2
      rw [h2] at h
      cases r2 with
      | inr ws => cases h; omega
      | inl vs =>
      cases vs with
      | nil => cases h
      | cons called vs =>
      dsimp only at h
      cases hc : chkF called vs.length with
      | some ws => rw [hc] at h; cases h; omega
      | none =>
      rw [hc] at h
      dsimp only at h
      cases called with
      | prim q =>
        dsimp only at h
        cases hp : primF q vs with
        | ok y => rw [hp] at h; cases h; omega
        | error ws => rw [hp] at h; cases h; omega
      | fnP ns b en =>
        dsimp only at h
        by_cases le : en.length + ns.length ≤ 1000000
        case neg => rw [if_neg le] at h; cases h
        rw [if_pos le] at h
        have c := IH _ _ _ _ _ _ _ _ _ _ h
        omega
      | _ => cases h
end My
namespace My
open PySem PySem.Spec PyProof.Rows L2 TL
/-! ### the machine, step by step -/
theorem runM_step {m : Wd} {k n mf : Nat} {is : List Ins} {a : Nat} {pl st ks : List Vl} {fs : List FS} {res : Option Vl} {i : Ins} {s' : MS} (hm : n < m.m) (hi : is[a]? = some i) (h : actM m.gl i ⟨n + 1, mf, ⟨is, a + 1, pl, st, ks⟩ :: fs, res⟩ = .ok s') : runM (k + 1) m ⟨n, mf, ⟨is, a, pl, st, ks⟩ :: fs, res⟩ = runM k m s' := by
  conv => lhs; unfold runM
  dsimp only
  unfold stepM
  dsimp only
  rw [if_neg (Nat.not_le_of_lt hm), hi]
  dsimp only
  rw [h]
theorem runM_err {m : Wd} {k n mf n' mf' : Nat} {is : List Ins} {a : Nat} {pl st ks : List Vl} {fs : List FS} {res : Option Vl} {i : Ins} {ws : List Str} (hm : n < m.m) (hi : is[a]? = some i) (h : actM m.gl i ⟨n + 1, mf, ⟨is, a + 1, pl, st, ks⟩ :: fs, res⟩ = .err ws n' mf') : runM (k + 1) m ⟨n, mf, ⟨is, a, pl, st, ks⟩ :: fs, res⟩ = some (.error (ws, n', mf')) := by
  conv => lhs; unfold runM
  dsimp only
  unfold stepM
  dsimp only
  rw [if_neg (Nat.not_le_of_lt hm), hi]
  dsimp only
  rw [h]
theorem gate_pos {α : Type} {c : Prop} [Decidable c] {x : α} (h : c) : gate c x = some x := by
  unfold gate
  rw [if_pos h]
/-- from a on there stand these instructions -/
def Has (is : List Ins) (a : Nat) (bl : List Ins) : Prop := ∀ j i, bl[j]? = some i → is[a + j]? = some i
theorem Has.self (is : List Ins) : Has is 0 is := fun j i h => by rw [Nat.zero_add]; exact h
theorem Has.app {is b1 b2 : List Ins} {a : Nat} (h : Has is a (b1 ++ b2)) : Has is a b1 ∧ Has is (a + b1.length) b2 := by
  refine ⟨fun j i e => h j i ?_, fun j i e => ?_⟩
  · rw [List.getElem?_append_left (List.getElem?_eq_some_iff.mp e).1]
    exact e
  · have := h (b1.length + j) i (by rw [List.getElem?_append_right (Nat.le_add_right _ _), Nat.add_sub_cancel_left]; exact e)
    rw [← Nat.add_assoc] at this
    exact this
theorem Has.hd {is b : List Ins} {i : Ins} {a : Nat} (h : Has is a (i :: b)) : is[a]? = some i ∧ Has is (a + 1) b :=
  ⟨h 0 i rfl, (Has.app (b1 := [i]) h).2⟩
section
variable {m : Wd} {k n mf : Nat} {is : List Ins} {a : Nat} {pl st ks : List Vl} {fs : List FS} {res : Option Vl}
theorem m_int {i : Int} (hm : n < m.m) (hi : is[a]? = some (.int i)) (hs : st.length < many) (h : i.natAbs ≤ 10 ^ 60) : runM (k + 1) m ⟨n, mf, ⟨is, a, pl, st, ks⟩ :: fs, res⟩ = runM k m ⟨n + 1, mf, ⟨is, a + 1, pl, .int i :: st, ks⟩ :: fs, res⟩ := by
  refine runM_step hm hi ?_
  unfold actM frF
  dsimp only
  rw [gate_pos ⟨h, hs⟩]
theorem m_prim {p : Str} (hm : n < m.m) (hi : is[a]? = some (.prim p)) (hs : st.length < many) : runM (k + 1) m ⟨n, mf, ⟨is, a, pl, st, ks⟩ :: fs, res⟩ = runM k m ⟨n + 1, mf, ⟨is, a + 1, pl, .prim p :: st, ks⟩ :: fs, res⟩ := by
  refine runM_step hm hi ?_
  unfold actM frF
  dsimp only
  rw [gate_pos hs]
theorem m_src {s : Src} {v : Vl} (hm : n < m.m) (hi : is[a]? = some (.src s)) (hs : st.length < many) (hv : ∀ st a, rdS ⟨is, a, pl, st, ks⟩ s = some v) : runM (k + 1) m ⟨n, mf, ⟨is, a, pl, st, ks⟩ :: fs, res⟩ = runM k m ⟨n + 1, mf, ⟨is, a + 1, pl, v :: st, ks⟩ :: fs, res⟩ := by
  refine runM_step hm hi ?_
  unfold actM frF
  dsimp only
  rw [hv]
  dsimp only [Option.bind]
  rw [gate_pos hs]
theorem m_fn {c : Code} {ss : List Src} {vs : List Vl} (hm : n < m.m) (hi : is[a]? = some (.fn c ss)) (hs : st.length < many) (hl : ss.length ≤ many) (hv : ∀ st a, rdSs ⟨is, a, pl, st, ks⟩ ss = some vs) : runM (k + 1) m ⟨n, mf, ⟨is, a, pl, st, ks⟩ :: fs, res⟩ = runM k m ⟨n + 1, mf, ⟨is, a + 1, pl, .fnM c vs :: st, ks⟩ :: fs, res⟩ := by
  refine runM_step hm hi ?_
  unfold actM frF
  dsimp only
  rw [hv]
  dsimp only [Option.bind]
  rw [gate_pos ⟨hl, hs⟩]
theorem m_put {j : Nat} {v : Vl} (hm : n < m.m) (hi : is[a]? = some (.put j)) (hj : j < pl.length) : runM (k + 1) m ⟨n, mf, ⟨is, a, pl, v :: st, ks⟩ :: fs, res⟩ = runM k m ⟨n + 1, mf, ⟨is, a + 1, pl.set j v, st, ks⟩ :: fs, res⟩ := by
  refine runM_step hm hi ?_
  unfold actM frF
  dsimp only
  rw [gate_pos hj]
theorem act_call {called : Vl} {vs : List Vl} (h9 : vs.length ≤ 1000) (hs : vs.length + 1 + st.length < many) : actM m.gl (.call vs.length) ⟨n, mf, ⟨is, a, pl, vs.reverse ++ called :: st, ks⟩ :: fs, res⟩ = entF ⟨n, mf, ⟨is, a, pl, st, ks⟩ :: fs, res⟩ called vs := by
  unfold actM
  dsimp only
  have l0 : vs.length = vs.reverse.length := by rw [List.length_reverse]
  rw [show List.drop vs.length (vs.reverse ++ called :: st) = called :: st by rw [l0, List.drop_left], show List.take vs.length (vs.reverse ++ called :: st) = vs.reverse by rw [l0, List.take_left], List.reverse_reverse]
  dsimp only
  rw [if_pos ⟨h9, by rw [List.length_append, List.length_reverse, List.length_cons]; omega⟩]
theorem act_tail {called : Vl} {vs : List Vl} (h9 : vs.length ≤ 1000) (hs : vs.length + 1 + st.length < many) : actM m.gl (.tail vs.length) ⟨n, mf, ⟨is, a, pl, vs.reverse ++ called :: st, ks⟩ :: fs, res⟩ = entF ⟨n, mf, fs, res⟩ called vs := by
  unfold actM
  dsimp only
  have l0 : vs.length = vs.reverse.length := by rw [List.length_reverse]
  rw [show List.drop vs.length (vs.reverse ++ called :: st) = called :: st by rw [l0, List.drop_left], show List.take vs.length (vs.reverse ++ called :: st) = vs.reverse by rw [l0, List.take_left], List.reverse_reverse]
  dsimp only
  rw [if_pos ⟨h9, by rw [List.length_append, List.length_reverse, List.length_cons]; omega⟩]
end
theorem ent_prim {s : MS} {q : Str} {vs : List Vl} : entF s (.prim q) vs = (match chkF (.prim q) vs.length with
  | some ws => .err ws s.n s.mf
  | none => match primF q vs with
    | .ok y => giveF s y
    | .error ws => .err ws s.n s.mf) := rfl
theorem chk_pair (x y : Vl) : chkF (.prim "pair") [x, y].length = none := by
  unfold chkF
  rw [if_pos (show (isF (Vl.prim "pair") || isR (Vl.prim "pair")) = true from rfl), if_pos (by show arP "pair" = 2; unfold arP; rw [if_neg (by decide +kernel)])]
theorem prim_pair (x y : Vl) : primF "pair" [x, y] = .ok (.pair x y) := by
  unfold primF
  rw [if_pos (show ("pair" : Str) = "pair" from rfl)]
end My
namespace My
open PySem PySem.Spec PyProof.Rows L2 TL
/-! ### the machine's ways -/
def MGo (W : Wd) (s s' : MS) : Prop := ∃ j, ∀ k, runM (k + j) W s = runM k W s'
def MEnd (W : Wd) (s : MS) (ws : List Str) (n mf : Nat) : Prop := ∃ j, ∀ k, runM (k + j) W s = some (.error (ws, n, mf))
section
variable {W : Wd} {s s1 s' : MS} {ws : List Str} {n mf : Nat}
theorem MGo.refl : MGo W s s := ⟨0, fun _ => rfl⟩
theorem MGo.trans (a : MGo W s s1) (b : MGo W s1 s') : MGo W s s' := by
  obtain ⟨i, a⟩ := a
  obtain ⟨j, b⟩ := b
  exact ⟨j + i, fun k => by rw [← Nat.add_assoc, a, b]⟩
theorem MGo.ends (a : MGo W s s1) (b : MEnd W s1 ws n mf) : MEnd W s ws n mf := by
  obtain ⟨i, a⟩ := a
  obtain ⟨j, b⟩ := b
  exact ⟨j + i, fun k => by rw [← Nat.add_assoc, a, b]⟩
end
/-- a value is given to the frame below -/
def giveS (n mf : Nat) (fs : List FS) (res : Option Vl) (v : Vl) : MS := match fs with
  | [] => ⟨n, mf, [], some v⟩
  | f :: r => ⟨n, mf, { f with st := v :: f.st } :: r, res⟩
def okF (fs : List FS) : Prop := ∀ f r, fs = f :: r → f.st.length < many
theorem giveF_ok {n mf : Nat} {fs : List FS} {res : Option Vl} {v : Vl} (h : okF fs) : giveF ⟨n, mf, fs, res⟩ v = .ok (giveS n mf fs res v) := by
  cases fs with
  | nil => rfl
  | cons f r =>
    unfold giveF
    dsimp only
    rw [if_pos (h f r rfl)]
    rfl
/-- what the machine does with a part whose meaning is a value -/
def MaVal (W : Wd) (start : MS) (last : Bool) (is : List Ins) (b : Nat) (pl st ks : List Vl) (fs : List FS) (res : Option Vl) (lo n mx mf : Nat) (v : Vl) : Prop := ∃ v' n', VR v v' ∧ n < n' ∧ n' + 1 ≤ mx ∧
  if last = true then MGo W start (giveS n' mf fs res v') else ∃ pl', pl'.length = pl.length ∧ (∀ p, p < lo → pl'[p]? = pl[p]?) ∧ MGo W start ⟨n', mf, ⟨is, b, pl', v' :: st, ks⟩ :: fs, res⟩
section
variable {W : Wd} {is : List Ins} {pl st ks : List Vl} {fs : List FS} {res : Option Vl} {lo a b n mf : Nat} {last : Bool} {i : Ins} {v v' : Vl}
theorem leaf_go (h : Leaf is i last a b) (act : actM W.gl i ⟨n + 1, mf, ⟨is, a + 1, pl, st, ks⟩ :: fs, res⟩ = .ok ⟨n + 1, mf, ⟨is, a + 1, pl, v' :: st, ks⟩ :: fs, res⟩) (hm : n + 3 ≤ W.m) (hv : VR v v') (ok : okF fs) :
    MaVal W ⟨n, mf, ⟨is, a, pl, st, ks⟩ :: fs, res⟩ last is b pl st ks fs res lo n (n + 3) mf v := by
  obtain ⟨h1, h2⟩ := h
  have g1 : MGo W ⟨n, mf, ⟨is, a, pl, st, ks⟩ :: fs, res⟩ ⟨n + 1, mf, ⟨is, a + 1, pl, v' :: st, ks⟩ :: fs, res⟩ := ⟨1, fun k => runM_step (by omega) h1 act⟩
  by_cases c : last = true
  · rw [if_pos c] at h2
    refine ⟨v', n + 2, hv, by omega, by omega, ?_⟩
    rw [if_pos c]
    exact g1.trans ⟨1, fun k => runM_step (by omega) h2.1 (giveF_ok ok)⟩
  · rw [if_neg c] at h2
    refine ⟨v', n + 1, hv, by omega, by omega, ?_⟩
    rw [if_neg c, h2]
    exact ⟨pl, rfl, fun _ _ => rfl, g1⟩
end
theorem chk_VR {f f' : Vl} {n : Nat} (h : VR f f') : chkF f n = chkF f' n := by
  cases h <;> rfl
theorem isI_VR {v v' : Vl} (h : VR v v') : isI v = isI v' := by
  cases h <;> rfl
theorem allI_VR : ∀ {vs vs' : List Vl}, VRs vs vs' → vs.all isI = vs'.all isI
  | _, _, .nil => rfl
  | _, _, .cons h hs => by rw [List.all_cons, List.all_cons, isI_VR h, allI_VR hs]
theorem prim_VR {q : Str} {vs vs' : List Vl} (h : VRs vs vs') : (∀ y, primF q vs = .ok y → ∃ y', primF q vs' = .ok y' ∧ VR y y') ∧ (∀ ws, primF q vs = .error ws → primF q vs' = .error ws) := by
  unfold primF
  by_cases c1 : q = "pair"
  · rw [if_pos c1, if_pos c1]
    match vs, vs', h with
    | [], [], .nil => exact ⟨fun y e => (by cases e), fun ws e => e⟩
    | [x], [x'], .cons _ .nil => exact ⟨fun y e => (by cases e), fun ws e => e⟩
    | [x, y], [x', y'], .cons h1 (.cons h2 .nil) => exact ⟨fun z e => (by cases e; exact ⟨_, rfl, .pair h1 h2⟩), fun ws e => (by cases e)⟩
    | x :: y :: z :: r, x' :: y' :: z' :: r', .cons _ (.cons _ (.cons _ _)) => exact ⟨fun y e => (by cases e), fun ws e => e⟩
  rw [if_neg c1, if_neg c1]
  by_cases c2 : q = "first" ∨ q = "second"
  · rw [if_pos c2, if_pos c2]
    match vs, vs', h with
    | [], [], .nil => exact ⟨fun y e => (by cases e), fun ws e => e⟩
    | [x], [x'], .cons h1 .nil =>
      cases h1 with
      | @pair a b a' b' ha hb =>
        refine ⟨fun z e => ?_, fun ws e => (by cases e)⟩
        cases e
        refine ⟨_, rfl, ?_⟩
        by_cases c : q = "first"
        · rw [if_pos c, if_pos c]; exact ha
        · rw [if_neg c, if_neg c]; exact hb
      | int i => exact ⟨fun y e => (by cases e), fun ws e => e⟩
      | prim p => exact ⟨fun y e => (by cases e), fun ws e => e⟩
      | fn _ _ _ _ _ => exact ⟨fun y e => (by cases e), fun ws e => e⟩
    | x :: y :: r, x' :: y' :: r', .cons _ (.cons _ _) => exact ⟨fun y e => (by cases e), fun ws e => e⟩
  rw [if_neg c2, if_neg c2, allI_VR h]
  by_cases c3 : vs'.all isI = true
  · rw [if_pos c3, if_pos c3]
    rw [← allI_VR h] at c3
    match vs, vs', h, c3 with
    | [], [], .nil, _ => exact ⟨fun y e => (by cases e), fun ws e => e⟩
    | [x], [x'], .cons h1 .nil, _ =>
      refine ⟨fun y e => ?_, fun ws e => ?_⟩
      · cases x <;> cases e
      · cases h1 <;> exact e
    | [x, y], [x', y'], .cons h1 (.cons h2 .nil), c3 =>
      cases h1 with
      | int l =>
        cases h2 with
        | int r =>
          dsimp only
          cases reckF q l r with
          | ok z => exact ⟨fun y e => (by cases e; exact ⟨_, rfl, .int z⟩), fun ws e => (by cases e)⟩
          | error es => exact ⟨fun y e => (by cases e), fun ws e => e⟩
        | prim p => cases c3
        | pair _ _ => cases c3
        | fn _ _ _ _ _ => cases c3
      | prim p => cases c3
      | pair _ _ => cases c3
      | fn _ _ _ _ _ => cases c3
    | x :: y :: z :: r, x' :: y' :: z' :: r', .cons h1 (.cons h2 (.cons h3 hs)), _ =>
      refine ⟨fun y e => ?_, fun ws e => ?_⟩
      · cases h1 <;> cases h2 <;> cases e
      · cases h1 <;> cases h2 <;> exact e
  · rw [if_neg c3, if_neg c3]
    exact ⟨fun y e => (by cases e), fun ws e => e⟩
mutual
theorem Lay_le : ∀ {t : Tr} {np : Nat} {is : List Ins} {sc : Sc} {last : Bool} {a lo b hi : Nat}, Lay np is t sc last a lo b hi → lo ≤ hi
  | .int i, np, is, sc, last, a, lo, b, hi, h => by unfold Lay at h; omega
  | .loc x, np, is, sc, last, a, lo, b, hi, h => by unfold Lay at h; obtain ⟨_, _, _, h⟩ := h; omega
  | .glob m x, np, is, sc, last, a, lo, b, hi, h => by unfold Lay at h; omega
  | .prim p, np, is, sc, last, a, lo, b, hi, h => by unfold Lay at h; omega
  | .fn ns bd, np, is, sc, last, a, lo, b, hi, h => by unfold Lay at h; obtain ⟨_, _, _, _, _, _, h, _⟩ := h; omega
  | .let_ ns ts bd, np, is, sc, last, a, lo, b, hi, h => by
    unfold Lay at h
    obtain ⟨a1, lo1, _, h1, h2⟩ := h
    have e1 := LayLet_le h1
    have e2 := Lay_le h2
    omega
  | .if_ c t e, np, is, sc, last, a, lo, b, hi, h => by
    unfold Lay at h
    obtain ⟨a1, lo1, a2, lo2, h1, h2⟩ := h
    have e1 := Lay_le h1
    by_cases c : last = true
    · rw [if_pos c] at h2
      have e2 := Lay_le h2.2.1
      have e3 := Lay_le h2.2.2
      omega
    · rw [if_neg c] at h2
      have e2 := Lay_le h2.2.1
      have e3 := Lay_le h2.2.2.2
      omega
  | .call g ts, np, is, sc, last, a, lo, b, hi, h => by
    unfold Lay at h
    obtain ⟨a0, lo0, a1, h1, h2, _⟩ := h
    have e1 := Lay_le h1
    have e2 := LayL_le h2
    omega
theorem LayL_le : ∀ {ts : List Tr} {np : Nat} {is : List Ins} {sc : Sc} {a lo b hi : Nat}, LayL np is ts sc a lo b hi → lo ≤ hi
  | [], np, is, sc, a, lo, b, hi, h => by unfold LayL at h; omega
  | t :: ts, np, is, sc, a, lo, b, hi, h => by
    unfold LayL at h
    obtain ⟨a1, lo1, h1, h2⟩ := h
    have e1 := Lay_le h1
    have e2 := LayL_le h2
    omega
theorem LayLet_le : ∀ {ts : List Tr} {np : Nat} {is : List Ins} {sc : Sc} {f a lo b hi : Nat}, LayLet np is ts sc f a lo b hi → lo ≤ hi
  | [], np, is, sc, f, a, lo, b, hi, h => by unfold LayLet at h; omega
  | t :: ts, np, is, sc, f, a, lo, b, hi, h => by
    unfold LayLet at h
    obtain ⟨a1, lo1, h1, _, h2⟩ := h
    have e1 := Lay_le h1
    have e2 := LayLet_le h2
    omega
end
/-- the definitions of the two runs -/
def GlR (gl gm : Gl) : Prop := ∀ k, (∀ v, glGet k gl = some v → ∃ v', glGet k gm = some v' ∧ VR v v') ∧ (glGet k gl = none → glGet k gm = none)
theorem evL_len {r : Tr → Nat → Nat → Option (Rs × Nat × Nat)} : ∀ {ts : List Tr} {l s : Nat} {vs : List Vl} {z : Nat × Nat}, evL r ts l s = some (.inl vs, z) → vs.length = ts.length
  | [], l, s, vs, z, e => by cases e; rfl
  | t :: ts, l, s, vs, z, e => by
    unfold evL at e
    cases h1 : r t l s with
    | none => rw [h1] at e; cases e
    | some q =>
    obtain ⟨r1, l1, s1⟩ := q
    rw [h1] at e
    cases r1 with
    | out ws => cases e
    | val v =>
    dsimp only at e
    cases h2 : evL r ts l1 s1 with
    | none => rw [h2] at e; cases e
    | some q =>
    obtain ⟨r2, l2, s2⟩ := q
    rw [h2] at e
    cases r2 with
    | inl us => cases e; rw [List.length_cons, List.length_cons, evL_len h2]
    | inr ws => cases e
end My
namespace My
open PySem PySem.Spec PyProof.Rows L2 TL
/-! ### the machine does what the evaluator tells -/
abbrev stepsW : List Str := ["steps"]
def MaGo (f : Nat) : Prop := ∀ (gl gm : Gl) (M : Nat) (env : Ev) (t : Tr) (l s d : Nat) (last : Bool) (r : Rs) (l' s' : Nat) (np : Nat) (is : List Ins) (sc : Sc) (a lo b hi : Nat) (pl st ks : List Vl) (fs : List FS) (res : Option Vl) (n : Nat),
  evT f gl env t l s d last = some (r, l', s') → Lay np is t sc last a lo b hi → ScR sc env pl ks lo → np ≤ pl.length → GlR gl gm → d = fs.length + 1 → d ≤ s → n + 3 * (l - l') ≤ M → st.length + 64 * f < many → fs.length + f < many → okF fs →
  (∀ v, r = .val v → MaVal ⟨M, gm⟩ ⟨n, s, ⟨is, a, pl, st, ks⟩ :: fs, res⟩ last is b pl st ks fs res lo n (n + 3 * (l - l')) s' v) ∧
  (∀ ws, r = .out ws → ws ≠ stepsW → ∃ n', n' ≤ n + 3 * (l - l') ∧ MEnd ⟨M, gm⟩ ⟨n, s, ⟨is, a, pl, st, ks⟩ :: fs, res⟩ ws n' s')
section
variable {f : Nat} {gl gm : Gl} {M : Nat} {env : Ev} {d np : Nat} {is : List Ins} {sc : Sc} {ks : List Vl} {fs : List FS} {res : Option Vl}
theorem args_go (IH : MaGo f) (GR : GlR gl gm) (hd : d = fs.length + 1) (hf : fs.length + f < many) (hok : okF fs) : ∀ (ts : List Tr) (l s : Nat) (r : List Vl ⊕ List Str) (l' s' a lo b hi : Nat) (pl st : List Vl) (n : Nat),
    evL (fun t l s => evT f gl env t l s d false) ts l s = some (r, l', s') → LayL np is ts sc a lo b hi → ScR sc env pl ks lo → np ≤ pl.length → d ≤ s → n + 3 * (l - l') ≤ M → st.length + ts.length + 64 * f < many →
    (∀ vs, r = .inl vs → ∃ vs' n' pl', VRs vs vs' ∧ n ≤ n' ∧ n' ≤ n + 3 * (l - l') ∧ pl'.length = pl.length ∧ (∀ p, p < lo → pl'[p]? = pl[p]?) ∧ MGo ⟨M, gm⟩ ⟨n, s, ⟨is, a, pl, st, ks⟩ :: fs, res⟩ ⟨n', s', ⟨is, b, pl', vs'.reverse ++ st, ks⟩ :: fs, res⟩) ∧
    (∀ ws, r = .inr ws → ws ≠ stepsW → ∃ n', n' ≤ n + 3 * (l - l') ∧ MEnd ⟨M, gm⟩ ⟨n, s, ⟨is, a, pl, st, ks⟩ :: fs, res⟩ ws n' s')
  | [], l, s, r, l', s', a, lo, b, hi, pl, st, n, h, lay, scr, hnp, hds, hM, hst => by
    cases h
    unfold LayL at lay
    obtain ⟨rfl, rfl⟩ := lay
    exact ⟨fun vs e => (by cases e; exact ⟨[], n, pl, .nil, Nat.le_refl _, by omega, rfl, fun _ _ => rfl, MGo.refl⟩), fun ws e => (by cases e)⟩
  | t :: ts, l, s, r, l', s', a, lo, b, hi, pl, st, n, h, lay, scr, hnp, hds, hM, hst => by
    unfold LayL at lay
    obtain ⟨a1, lo1, y1, y2⟩ := lay
    simp only [List.length_cons] at hst
    unfold evL at h
    cases h1 : evT f gl env t l s d false with
    | none => rw [h1] at h; cases h
    | some q =>
    obtain ⟨r1, l1, s1⟩ := q
    obtain ⟨w1, w2⟩ := evT_le _ _ _ _ _ _ _ _ _ _ _ h1
    rw [h1] at h
    cases r1 with
    | out ws =>
      cases h
      obtain ⟨_, z2⟩ := IH gl gm M env t l s d false _ _ _ np is sc a lo a1 lo1 pl st ks fs res n h1 y1 scr hnp GR hd hds hM (by omega) hf hok
      exact ⟨fun vs e => (by cases e), fun ws' e ne => (by cases e; exact z2 _ rfl ne)⟩
    | val v =>
    dsimp only at h
    cases h2 : evL (fun t l s => evT f gl env t l s d false) ts l1 s1 with
    | none => rw [h2] at h; cases h
    | some q =>
    obtain ⟨r2, l2, s2⟩ := q
    obtain ⟨w3, w4⟩ := evL_le (fun t l s x l' s' e => evT_le f gl env t l s d false x l' s' e) ts l1 s1 _ _ _ h2
    rw [h2] at h
    have hl : l2 = l' := by cases r2 <;> (cases h; rfl)
    subst hl
    obtain ⟨z1, _⟩ := IH gl gm M env t l s d false _ _ _ np is sc a lo a1 lo1 pl st ks fs res n h1 y1 scr hnp GR hd hds (by omega) (by omega) hf hok
    obtain ⟨v', n1, hv, q1, q2, q3⟩ := z1 v rfl
    rw [if_neg Bool.false_ne_true] at q3
    obtain ⟨pl1, p1, p2, g1⟩ := q3
    obtain ⟨k1, k2⟩ := args_go IH GR hd hf hok ts l1 s1 r2 l2 s2 a1 lo1 b hi pl1 (v' :: st) n1 h2 y2 (scr.mono (Lay_le y1) p2) (by rw [p1]; exact hnp) (by omega) (by omega) (by simp only [List.length_cons]; omega)
    have lle := Lay_le y1
    cases r2 with
    | inr ws =>
      cases h
      refine ⟨fun vs e => (by cases e), fun ws' e ne => ?_⟩
      cases e
      obtain ⟨n', m1, m2⟩ := k2 _ rfl ne
      exact ⟨n', by omega, g1.ends m2⟩
    | inl us =>
      cases h
      refine ⟨fun vs e => ?_, fun ws' e => (by cases e)⟩
      cases e
      obtain ⟨us', n', pl', m1, m2, m3, m4, m5, m6⟩ := k1 _ rfl
      refine ⟨v' :: us', n', pl', .cons hv m1, by omega, by omega, by rw [m4, p1], fun p hp => (m5 p (by omega)).trans (p2 p hp), ?_⟩
      rw [List.reverse_cons, List.append_assoc]
      exact g1.trans m6
theorem lets_go (IH : MaGo f) (GR : GlR gl gm) (hd : d = fs.length + 1) (hf : fs.length + f < many) (hok : okF fs) {st : List Vl} (hst : st.length + 64 * f < many) {lo0 : Nat} : ∀ (ts : List Tr) (l s : Nat) (r : List Vl ⊕ List Str) (l' s' f0 a lo b hi : Nat) (pl : List Vl) (n : Nat),
    evL (fun t l s => evT f gl env t l s d false) ts l s = some (r, l', s') → LayLet np is ts sc f0 a lo b hi → ScR sc env pl ks lo0 → lo0 ≤ f0 → f0 + ts.length ≤ lo → f0 + ts.length ≤ np → np ≤ pl.length → d ≤ s → n + 3 * (l - l') ≤ M →
    (∀ vs, r = .inl vs → ∃ vs' n' pl', VRs vs vs' ∧ n ≤ n' ∧ n' ≤ n + 3 * (l - l') ∧ pl'.length = pl.length ∧ (∀ p, p < f0 → pl'[p]? = pl[p]?) ∧ (∀ i v', vs'[i]? = some v' → pl'[f0 + i]? = some v') ∧ MGo ⟨M, gm⟩ ⟨n, s, ⟨is, a, pl, st, ks⟩ :: fs, res⟩ ⟨n', s', ⟨is, b, pl', st, ks⟩ :: fs, res⟩) ∧
    (∀ ws, r = .inr ws → ws ≠ stepsW → ∃ n', n' ≤ n + 3 * (l - l') ∧ MEnd ⟨M, gm⟩ ⟨n, s, ⟨is, a, pl, st, ks⟩ :: fs, res⟩ ws n' s')
  | [], l, s, r, l', s', f0, a, lo, b, hi, pl, n, h, lay, scr, h0, hlo, hp, hnp, hds, hM => by
    cases h
    unfold LayLet at lay
    obtain ⟨rfl, rfl⟩ := lay
    exact ⟨fun vs e => (by cases e; exact ⟨[], n, pl, .nil, Nat.le_refl _, by omega, rfl, fun _ _ => rfl, fun i v' e => (by simp at e), MGo.refl⟩), fun ws e => (by cases e)⟩
  | t :: ts, l, s, r, l', s', f0, a, lo, b, hi, pl, n, h, lay, scr, h0, hlo, hp, hnp, hds, hM => by
    unfold LayLet at lay
    obtain ⟨a1, lo1, y1, yp, y2⟩ := lay
    simp only [List.length_cons] at hlo hp
    have scl : ScR sc env pl ks lo := scr.mono (by omega) fun _ _ => rfl
    unfold evL at h
    cases h1 : evT f gl env t l s d false with
    | none => rw [h1] at h; cases h
    | some q =>
    obtain ⟨r1, l1, s1⟩ := q
    obtain ⟨w1, w2⟩ := evT_le _ _ _ _ _ _ _ _ _ _ _ h1
    rw [h1] at h
    cases r1 with
    | out ws =>
      cases h
      obtain ⟨_, z2⟩ := IH gl gm M env t l s d false _ _ _ np is sc a lo a1 lo1 pl st ks fs res n h1 y1 scl hnp GR hd hds hM hst hf hok
      exact ⟨fun vs e => (by cases e), fun ws' e ne => (by cases e; exact z2 _ rfl ne)⟩
    | val v =>
    dsimp only at h
    cases h2 : evL (fun t l s => evT f gl env t l s d false) ts l1 s1 with
    | none => rw [h2] at h; cases h
    | some q =>
    obtain ⟨r2, l2, s2⟩ := q
    obtain ⟨w3, w4⟩ := evL_le (fun t l s x l' s' e => evT_le f gl env t l s d false x l' s' e) ts l1 s1 _ _ _ h2
    rw [h2] at h
    have hl : l2 = l' := by cases r2 <;> (cases h; rfl)
    subst hl
    obtain ⟨z1, _⟩ := IH gl gm M env t l s d false _ _ _ np is sc a lo a1 lo1 pl st ks fs res n h1 y1 scl hnp GR hd hds (by omega) hst hf hok
    obtain ⟨v', n1, hv, q1, q2, q3⟩ := z1 v rfl
    rw [if_neg Bool.false_ne_true] at q3
    obtain ⟨pl1, p1, p2, g1⟩ := q3
    have hj : f0 < pl1.length := by omega
    have g2 : MGo ⟨M, gm⟩ ⟨n1, s1, ⟨is, a1, pl1, v' :: st, ks⟩ :: fs, res⟩ ⟨n1 + 1, s1, ⟨is, a1 + 1, pl1.set f0 v', st, ks⟩ :: fs, res⟩ := ⟨1, fun k => m_put (by show n1 < M; omega) yp hj⟩
    have lle := Lay_le y1
    have e2 : ∀ p, p < f0 → (pl1.set f0 v')[p]? = pl[p]? := fun p hp => by
      rw [List.getElem?_set_ne (by omega)]
      exact p2 p (by omega)
    obtain ⟨k1, k2⟩ := lets_go IH GR hd hf hok hst (lo0 := lo0) ts l1 s1 r2 l2 s2 (f0 + 1) (a1 + 1) lo1 b hi (pl1.set f0 v') (n1 + 1) h2 y2 (scr.mono (Nat.le_refl _) fun p hp => e2 p (by omega)) (by omega) (by omega) (by omega) (by rw [List.length_set, p1]; exact hnp) (by omega) (by omega)
    cases r2 with
    | inr ws =>
      cases h
      refine ⟨fun vs e => (by cases e), fun ws' e ne => ?_⟩
      cases e
      obtain ⟨n', m1, m2⟩ := k2 _ rfl ne
      exact ⟨n', by omega, (g1.trans g2).ends m2⟩
    | inl us =>
      cases h
      refine ⟨fun vs e => ?_, fun ws' e => (by cases e)⟩
      cases e
      obtain ⟨us', n', pl', m1, m2, m3, m4, m5, m6, m7⟩ := k1 _ rfl
      refine ⟨v' :: us', n', pl', .cons hv m1, by omega, by omega, by rw [m4, List.length_set, p1], fun p hp => (m5 p (by omega)).trans (e2 p hp), fun i u e => ?_, (g1.trans g2).trans m7⟩
      cases i with
      | zero =>
        cases e
        exact (m5 f0 (by omega)).trans (List.getElem?_set_self hj)
      | succ i =>
        rw [show f0 + (i + 1) = f0 + 1 + i by omega]
        exact m6 i u (by simpa using e)
end
theorem rdS_eq (f : FS) (s : Src) : rdS f s = rdv f.pl f.ks s := by cases s <;> rfl
theorem rdSs_of {sc : Sc} {env : Ev} {f : FS} {lo : Nat} (h : ScR sc env f.pl f.ks lo) : ∀ {xs : List Int} {ss : List Src}, ssOf sc xs = some ss → ∃ vs', rdSs f ss = some vs' ∧ vs'.length = xs.length ∧ (∀ x : Int, x ∈ xs → ∃ v, evGet x env = some v) ∧ ∀ (i : Nat) (x : Int) (v v' : Vl), xs[i]? = some x → evGet x env = some v → vs'[i]? = some v' → VR v v'
  | [], ss, e => by
    cases e
    exact ⟨[], rfl, rfl, fun x m => (by cases m), fun i x v v' e => (by simp at e)⟩
  | x :: xs, ss, e => by
    unfold ssOf at e
    cases h1 : scGet x sc with
    | none => rw [h1] at e; cases e
    | some s =>
    cases h2 : ssOf sc xs with
    | none => rw [h1, h2] at e; cases e
    | some rs =>
    rw [h1, h2] at e
    cases e
    obtain ⟨⟨v, v', g1, g2, g3⟩, _⟩ := h x s h1
    obtain ⟨vs', i1, i2, i3, i4⟩ := rdSs_of h h2
    refine ⟨v' :: vs', ?_, by rw [List.length_cons, List.length_cons, i2], fun y m => ?_, fun i y u u' e1 e2 e3 => ?_⟩
    · unfold rdSs
      rw [rdS_eq, g2, i1]
    · rcases List.mem_cons.mp m with e | m
      · rw [e]; exact ⟨v, g1⟩
      · exact i3 y m
    · cases i with
      | zero =>
        cases e1
        cases e3
        rw [g1] at e2
        cases e2
        exact g3
      | succ i => exact i4 i y u u' (by simpa using e1) e2 (by simpa using e3)
end My
namespace My
open PySem PySem.Spec PyProof.Rows L2 TL
/-! ### the whole machine by the evaluator -/
theorem MaVal.later {W : Wd} {s0 s1 : MS} {last : Bool} {is : List Ins} {b : Nat} {pl pl1 st ks : List Vl} {fs : List FS} {res : Option Vl} {lo lo1 n n1 mx mx1 mf : Nat} {v : Vl} (g : MGo W s0 s1) (h : MaVal W s1 last is b pl1 st ks fs res lo1 n1 mx1 mf v) (hn : n ≤ n1) (hx : mx1 ≤ mx) (hl : lo ≤ lo1) (e1 : pl1.length = pl.length) (e2 : ∀ p, p < lo → pl1[p]? = pl[p]?) :
    MaVal W s0 last is b pl st ks fs res lo n mx mf v := by
  obtain ⟨v', n', hv, q1, q2, q3⟩ := h
  refine ⟨v', n', hv, by omega, by omega, ?_⟩
  by_cases c : last = true
  · rw [if_pos c] at q3 ⊢
    exact g.trans q3
  · rw [if_neg c] at q3 ⊢
    obtain ⟨pl', p1, p2, p3⟩ := q3
    exact ⟨pl', by rw [p1, e1], fun p hp => (p2 p (by omega)).trans (e2 p hp), g.trans p3⟩
/-- the scope of a function's body, its parameters and what it keeps -/
theorem ScR_fn {ns : List Int} {bd : Tr} {env : Ev} {ks vs vs' : List Vl} {l : Nat} (hl : ks.length = (outT (.fn ns bd)).length) (ex : ∀ x : Int, x ∈ outT (.fn ns bd) → ∃ v, evGet x env = some v)
    (hk : ∀ (i : Nat) (x : Int) (v v' : Vl), (outT (.fn ns bd))[i]? = some x → evGet x env = some v → ks[i]? = some v' → VR v v') (hv : VRs vs vs') (hn : ns.length = vs.length) (z : List Vl) :
    ScR (fnSc (.fn ns bd)) (evPuts ns vs env) (vs' ++ z) ks ns.length := by
  have h0 : ScR (kpSc 0 (outT (.fn ns bd)) []) env (vs' ++ z) ks ns.length := fun x s e => by
    rcases kpSc_get e with e | ⟨j, e1, e2⟩
    · cases e
    · rw [Nat.zero_add] at e1
      subst e1
      obtain ⟨v, g1⟩ := ex x (List.mem_of_getElem? e2)
      have lj : j < ks.length := by rw [hl]; exact (List.getElem?_eq_some_iff.mp e2).1
      have g2 : ks[j]? = some ks[j] := List.getElem?_eq_getElem lj
      exact ⟨⟨v, ks[j], g1, g2, hk j x v _ e2 g1 g2⟩, fun p q => (by cases q)⟩
  unfold fnSc
  exact ScR.puts (ns := ns) (f := 0) h0 hv hn (fun i v' e => by
    rw [Nat.zero_add, List.getElem?_append_left (List.getElem?_eq_some_iff.mp e).1]
    exact e) (by omega)
theorem chk_fn {ns : List Int} {bd : Tr} {env : Ev} {k : Nat} (h : chkF (.fnP ns bd env) k = none) : ns.length = k := by
  have := chk_par h
  exact Int.ofNat.inj this
theorem ma_sim : ∀ f, MaGo f
  | 0 => fun gl gm M env t l s d last r l' s' np is sc a lo b hi pl st ks fs res n h => by cases h
  | f + 1 => fun gl gm M env t l s d last r l' s' np is sc a lo b hi pl st ks fs res n h lay scr hnp GR hd hds hM hst hf hok => by
    have IH := ma_sim f
    unfold evT at h
    by_cases l0 : l = 0
    · rw [if_pos l0] at h
      cases h
      exact ⟨fun v e => (by cases e), fun ws e ne => (by cases e; exact absurd rfl ne)⟩
    rw [if_neg l0] at h
    have one : l - (l - 1) = 1 := by omega
    have hs0 : st.length < many := by omega
    have leaf : ∀ {i : Ins} {v v' : Vl}, l' = l - 1 → s' = s → Leaf is i last a b → (actM gm i ⟨n + 1, s, ⟨is, a + 1, pl, st, ks⟩ :: fs, res⟩ = .ok ⟨n + 1, s, ⟨is, a + 1, pl, v' :: st, ks⟩ :: fs, res⟩) → VR v v' → r = .val v →
        (∀ v, r = .val v → MaVal ⟨M, gm⟩ ⟨n, s, ⟨is, a, pl, st, ks⟩ :: fs, res⟩ last is b pl st ks fs res lo n (n + 3 * (l - l')) s' v) ∧ (∀ ws, r = .out ws → ws ≠ stepsW → ∃ n', n' ≤ n + 3 * (l - l') ∧ MEnd ⟨M, gm⟩ ⟨n, s, ⟨is, a, pl, st, ks⟩ :: fs, res⟩ ws n' s') := fun {i v v'} el es hl act hv er => by
      subst el
      subst es
      subst er
      rw [one] at hM ⊢
      exact ⟨fun w e => (by cases e; exact leaf_go (W := ⟨M, gm⟩) hl act hM hv hok), fun ws e => (by cases e)⟩
    cases t with
    | int i =>
      dsimp only at h
      unfold Lay at lay
      by_cases hi : i.natAbs ≤ 10 ^ 60
      case neg => rw [if_neg hi] at h; cases h
      rw [if_pos hi] at h
      cases h
      exact leaf rfl rfl lay.1 (by
        unfold actM frF
        dsimp only
        rw [gate_pos ⟨hi, hs0⟩]) (.int i) rfl
    | loc x =>
      dsimp only at h
      unfold Lay at lay
      obtain ⟨so, g0, lf, _⟩ := lay
      obtain ⟨⟨v, v', g1, g2, g3⟩, _⟩ := scr x so g0
      rw [g1] at h
      cases h
      exact leaf rfl rfl lf (by
        unfold actM frF
        dsimp only
        rw [rdS_eq, g2]
        dsimp only [Option.bind]
        rw [gate_pos hs0]) g3 rfl
    | glob m x =>
      dsimp only at h
      unfold Lay at lay
      obtain ⟨lf, _⟩ := lay
      cases hv : glGet (m, x) gl with
      | none =>
        rw [hv] at h
        cases h
        rw [one] at hM ⊢
        refine ⟨fun v e => (by cases e), fun ws e ne => ?_⟩
        cases e
        refine ⟨n + 1, by omega, 1, fun k => runM_err (by show n < M; omega) lf.1 ?_⟩
        unfold actM
        dsimp only
        rw [(GR (m, x)).2 hv]
      | some v =>
        rw [hv] at h
        cases h
        obtain ⟨v', g1, g2⟩ := (GR (m, x)).1 v hv
        exact leaf rfl rfl lf (by
          unfold actM
          dsimp only
          rw [g1]
          dsimp only
          rw [if_pos hs0]) g2 rfl
    | prim q =>
      cases h
      unfold Lay at lay
      exact leaf rfl rfl lay.1 (by
        unfold actM frF
        dsimp only
        rw [gate_pos hs0]) (.prim q) rfl
    | fn ns bd =>
      cases h
      unfold Lay at lay
      obtain ⟨pc, js, ss, b', hi', lf, _, hss, lss, ⟨lpc, _, _⟩, lb⟩ := lay
      obtain ⟨vs', i1, i2, i3, i4⟩ := rdSs_of (f := ⟨is, a + 1, pl, st, ks⟩) scr hss
      exact leaf rfl rfl lf (by
        unfold actM frF
        dsimp only
        rw [i1]
        dsimp only [Option.bind]
        rw [gate_pos ⟨lss, hs0⟩]) (.fn lpc lb i2 i3 i4) rfl
    | let_ ns ts bd =>
      dsimp only at h
      by_cases lim : ts.length ≤ 60 ∧ ns.length = ts.length ∧ env.length + ns.length ≤ 1000000
      case neg => rw [if_neg lim] at h; cases h
      rw [if_pos lim] at h
      unfold Lay at lay
      obtain ⟨a1, lo1, hp, y1, y2⟩ := lay
      have lle := LayLet_le y1
      cases h2 : evL (fun t l s => evT f gl env t l s d false) ts (l - 1) s with
      | none => rw [h2] at h; cases h
      | some q =>
      obtain ⟨r2, l2, s2⟩ := q
      obtain ⟨w3, w4⟩ := evL_le (fun t l s x l' s' e => evT_le f gl env t l s d false x l' s' e) ts _ s _ _ _ h2
      rw [h2] at h
      have hl2 : l' ≤ l2 := by
        cases r2 with
        | inr ws => cases h; exact Nat.le_refl _
        | inl vs => exact (evT_le _ _ _ _ _ _ _ _ _ _ _ h).1
      obtain ⟨k1, k2⟩ := lets_go (res := res) (M := M) (gm := gm) IH GR hd (by omega) hok (show st.length + 64 * f < many by omega) (lo0 := lo) ts (l - 1) s r2 l2 s2 lo a (lo + ns.length) a1 lo1 pl n h2 y1 scr (Nat.le_refl _) (by omega) (by omega) hnp hds (by omega)
      cases r2 with
      | inr ws =>
        cases h
        refine ⟨fun vs e => (by cases e), fun ws' e ne => ?_⟩
        cases e
        obtain ⟨n', m1, m2⟩ := k2 _ rfl ne
        exact ⟨n', by omega, m2⟩
      | inl vs =>
      dsimp only at h
      obtain ⟨vs', n', pl', m1, m2, m3, m4, m5, m6, m7⟩ := k1 vs rfl
      have hvs := evL_len h2
      have scb : ScR (letSc lo ns sc) (evPuts ns vs env) pl' ks lo1 := ScR.puts (ns := ns) (f := lo) (scr.mono (by omega) m5) m1 (by omega) m6 (by omega)
      obtain ⟨c1, c2⟩ := IH gl gm M _ bd l2 s2 d last r l' s' np is _ a1 lo1 b hi pl' st ks fs res n' h y2 scb (by rw [m4]; exact hnp) GR hd (by omega) (by omega) (by omega) (by omega) hok
      refine ⟨fun v e => MaVal.later m7 (c1 v e) m2 (by omega) (by omega) m4 m5, fun ws e ne => ?_⟩
      obtain ⟨n2, e1, e2⟩ := c2 ws e ne
      exact ⟨n2, by omega, m7.ends e2⟩
    | if_ ta tb tc =>
      dsimp only at h
      unfold Lay at lay
      obtain ⟨a1, lo1, a2, lo2, y1, y2⟩ := lay
      have lle := Lay_le y1
      cases h2 : evT f gl env ta (l - 1) s d false with
      | none => rw [h2] at h; cases h
      | some q =>
      obtain ⟨r2, l2, s2⟩ := q
      obtain ⟨w3, w4⟩ := evT_le _ _ _ _ _ _ _ _ _ _ _ h2
      rw [h2] at h
      cases r2 with
      | out ws =>
        cases h
        obtain ⟨_, z2⟩ := IH gl gm M env ta (l - 1) s d false _ _ _ np is sc a lo a1 lo1 pl st ks fs res n h2 y1 scr hnp GR hd hds (by omega) (by omega) (by omega) hok
        refine ⟨fun v e => (by cases e), fun ws' e ne => ?_⟩
        cases e
        obtain ⟨n', e1, e2⟩ := z2 _ rfl ne
        exact ⟨n', by omega, e2⟩
      | val v0 =>
        dsimp only at h
        have hl2 := (evT_le _ _ _ _ _ _ _ _ _ _ _ h).1
        obtain ⟨z1, _⟩ := IH gl gm M env ta (l - 1) s d false _ _ _ np is sc a lo a1 lo1 pl st ks fs res n h2 y1 scr hnp GR hd hds (by omega) (by omega) (by omega) hok
        obtain ⟨v1, n1, hv, q1, q2, q3⟩ := z1 _ rfl
        rw [if_neg Bool.false_ne_true] at q3
        obtain ⟨pl1, p1, p2, g1⟩ := q3
        have hz : zeroV v1 = zeroV v0 := by cases hv <;> rfl
        have scr1 : ScR sc env pl1 ks lo1 := scr.mono lle p2
        have un : ∀ x, is[a1]? = some (.unless x) → MGo ⟨M, gm⟩ ⟨n1, s2, ⟨is, a1, pl1, v1 :: st, ks⟩ :: fs, res⟩ ⟨n1 + 1, s2, ⟨is, if zeroV v0 = true then x else a1 + 1, pl1, st, ks⟩ :: fs, res⟩ := fun x hx => ⟨1, fun k => runM_step (by show n1 < M; omega) hx (by unfold actM frF; dsimp only; rw [hz])⟩
        by_cases cl : last = true
        · rw [if_pos cl] at y2
          obtain ⟨u1, u2, u3⟩ := y2
          have l12 := Lay_le u2
          have g2 := g1.trans (un _ u1)
          by_cases ci : zeroV v0 = true
          · rw [if_pos ci] at h g2
            obtain ⟨c1, c2⟩ := IH gl gm M env tc l2 s2 d last r l' s' np is sc a2 lo2 b hi pl1 st ks fs res (n1 + 1) h (by rw [cl]; exact u3) (scr1.mono l12 fun _ _ => rfl) (by rw [p1]; exact hnp) GR hd (by omega) (by omega) (by omega) (by omega) hok
            refine ⟨fun v e => MaVal.later g2 (c1 v e) (by omega) (by omega) (by omega) p1 p2, fun ws e ne => ?_⟩
            obtain ⟨n2, e1, e2⟩ := c2 ws e ne
            exact ⟨n2, by omega, g2.ends e2⟩
          · rw [if_neg ci] at h g2
            obtain ⟨c1, c2⟩ := IH gl gm M env tb l2 s2 d last r l' s' np is sc (a1 + 1) lo1 a2 lo2 pl1 st ks fs res (n1 + 1) h (by rw [cl]; exact u2) scr1 (by rw [p1]; exact hnp) GR hd (by omega) (by omega) (by omega) (by omega) hok
            refine ⟨fun v e => ?_, fun ws e ne => ?_⟩
            · have q := MaVal.later (lo := lo) (pl := pl) g2 (c1 v e) (show n ≤ n1 + 1 by omega) (show _ ≤ n + 3 * (l - l') by omega) (by omega) p1 p2
              obtain ⟨v', n', hv, q1, q2, q3⟩ := q
              rw [if_pos cl] at q3
              refine ⟨v', n', hv, q1, q2, ?_⟩
              rw [if_pos cl]
              exact q3
            obtain ⟨n2, e1, e2⟩ := c2 ws e ne
            exact ⟨n2, by omega, g2.ends e2⟩
        · rw [if_neg cl] at y2
          have cl' : last = false := Bool.eq_false_iff.mpr cl
          obtain ⟨u1, u2, u3, u4⟩ := y2
          have l12 := Lay_le u2
          have g2 := g1.trans (un _ u1)
          by_cases ci : zeroV v0 = true
          · rw [if_pos ci] at h g2
            obtain ⟨c1, c2⟩ := IH gl gm M env tc l2 s2 d last r l' s' np is sc (a2 + 1) lo2 b hi pl1 st ks fs res (n1 + 1) h (by rw [cl']; exact u4) (scr1.mono l12 fun _ _ => rfl) (by rw [p1]; exact hnp) GR hd (by omega) (by omega) (by omega) (by omega) hok
            refine ⟨fun v e => MaVal.later g2 (c1 v e) (by omega) (by omega) (by omega) p1 p2, fun ws e ne => ?_⟩
            obtain ⟨n2, e1, e2⟩ := c2 ws e ne
            exact ⟨n2, by omega, g2.ends e2⟩
          · rw [if_neg ci] at h g2
            obtain ⟨c1, c2⟩ := IH gl gm M env tb l2 s2 d last r l' s' np is sc (a1 + 1) lo1 a2 lo2 pl1 st ks fs res (n1 + 1) h (by rw [cl']; exact u2) scr1 (by rw [p1]; exact hnp) GR hd (by omega) (by omega) (by omega) (by omega) hok
            refine ⟨fun v e => ?_, fun ws e ne => ?_⟩
            · obtain ⟨v', n', hv, q1, q2, q3⟩ := c1 v e
              rw [if_neg cl] at q3
              obtain ⟨pl', p3, p4, g3⟩ := q3
              refine ⟨v', n' + 1, hv, by omega, by omega, ?_⟩
              rw [if_neg cl]
              refine ⟨pl', by rw [p3, p1], fun p hp => (p4 p (by omega)).trans (p2 p hp), (g2.trans g3).trans ⟨1, fun k => runM_step (by show n' < M; omega) u3 (by unfold actM frF; rfl)⟩⟩
            obtain ⟨n2, e1, e2⟩ := c2 ws e ne
            exact ⟨n2, by omega, g2.ends e2⟩
    | call g ts =>
      dsimp only at h
      by_cases lim : ts.length ≤ 60
      case neg => rw [if_neg lim] at h; cases h
      rw [if_pos lim] at h
      unfold Lay at lay
      obtain ⟨a0, lo0, a1, y1, y2, hi1, rfl⟩ := lay
      have ll : LayL np is (g :: ts) sc a lo a1 hi := by
        unfold LayL
        exact ⟨a0, lo0, y1, y2⟩
      cases h2 : evL (fun t l s => evT f gl env t l s d false) (g :: ts) (l - 1) s with
      | none => rw [h2] at h; cases h
      | some q =>
      obtain ⟨r2, l2, s2⟩ := q
      obtain ⟨w3, w4⟩ := evL_le (fun t l s x l' s' e => evT_le f gl env t l s d false x l' s' e) (g :: ts) _ s _ _ _ h2
      rw [h2] at h
      obtain ⟨k1, k2⟩ : (n + 3 * (l - 1 - l2) ≤ M) ∧ True := ⟨by
        have hl2 : l' ≤ l2 := by
          cases r2 with
          | inr ws => cases h; exact Nat.le_refl _
          | inl vs =>
          cases vs with
          | nil => cases h
          | cons called vs =>
          dsimp only at h
          cases hc : chkF called vs.length with
          | some ws => rw [hc] at h; cases h; exact Nat.le_refl _
          | none =>
          rw [hc] at h
          dsimp only at h
          cases called with
          | prim q =>
            dsimp only at h
            cases hp : primF q vs with
            | ok y => rw [hp] at h; cases h; exact Nat.le_refl _
            | error ws => rw [hp] at h; cases h; exact Nat.le_refl _
          | fnP ns b en =>
            dsimp only at h
            by_cases le : en.length + ns.length ≤ 1000000
            case neg => rw [if_neg le] at h; cases h
            rw [if_pos le] at h
            exact (evT_le _ _ _ _ _ _ _ _ _ _ _ h).1
          | _ => cases h
        omega, trivial⟩
      obtain ⟨k1, k2⟩ := args_go (res := res) (M := M) (gm := gm) IH GR hd (by omega) hok (g :: ts) (l - 1) s r2 l2 s2 a lo a1 hi pl st n h2 ll scr hnp hds k1 (by simp only [List.length_cons]; omega)
      cases r2 with
      | inr ws =>
        cases h
        refine ⟨fun vs e => (by cases e), fun ws' e ne => ?_⟩
        cases e
        obtain ⟨n', m1, m2⟩ := k2 _ rfl ne
        exact ⟨n', by omega, m2⟩
      | inl vs =>
      have hvs := evL_len h2
      cases vs with
      | nil => cases h
      | cons called vs =>
      obtain ⟨vs1, n1, pl1, m1, m2, m3, p1, p2, g1⟩ := k1 _ rfl
      cases m1 with
      | @cons _ called' _ vs' hcv hvv =>
      dsimp only at h
      have lv : vs'.length = ts.length := by rw [← hvv.len]; simpa using hvs
      have g1 : MGo ⟨M, gm⟩ ⟨n, s, ⟨is, a, pl, st, ks⟩ :: fs, res⟩ ⟨n1, s2, ⟨is, a1, pl1, vs'.reverse ++ called' :: st, ks⟩ :: fs, res⟩ := by
        rw [List.reverse_cons, List.append_assoc] at g1
        exact g1
      have lsv : vs'.length + 1 + st.length < many := by omega
      -- the frames after the call's instruction, and what enter does there
      have act : ∀ {x : MRes}, entF ⟨n1 + 1, s2, if last = true then fs else ⟨is, a1 + 1, pl1, st, ks⟩ :: fs, res⟩ called' vs' = x → actM gm (if last = true then .tail ts.length else .call ts.length) ⟨n1 + 1, s2, ⟨is, a1 + 1, pl1, vs'.reverse ++ called' :: st, ks⟩ :: fs, res⟩ = x := fun {x} e => by
        by_cases cl : last = true
        · rw [if_pos cl] at e ⊢
          rw [← lv]
          exact (act_tail (m := ⟨M, gm⟩) (by omega) lsv).trans e
        · rw [if_neg cl] at e ⊢
          rw [← lv]
          exact (act_call (m := ⟨M, gm⟩) (by omega) lsv).trans e
      have okG : okF (if last = true then fs else ⟨is, a1 + 1, pl1, st, ks⟩ :: fs) := by
        by_cases cl : last = true
        · rw [if_pos cl]; exact hok
        · rw [if_neg cl]
          intro f r e
          cases e
          exact hs0
      have lenG : (if last = true then fs else (⟨is, a1 + 1, pl1, st, ks⟩ : FS) :: fs).length + 1 = d + if last = true then 0 else 1 := by
        by_cases cl : last = true
        · rw [if_pos cl, if_pos cl]; omega
        · rw [if_neg cl, if_neg cl]; simp only [List.length_cons]; omega
      have lenF : (if last = true then fs else (⟨is, a1 + 1, pl1, st, ks⟩ : FS) :: fs).length + f < many := by
        by_cases cl : last = true
        · rw [if_pos cl]; omega
        · rw [if_neg cl]; simp only [List.length_cons]; omega
      -- a value given to those frames is what MaVal asks
      have fin : ∀ {v v' : Vl} {n' mx : Nat}, VR v v' → n < n' → n' + 1 ≤ mx → MGo ⟨M, gm⟩ ⟨n, s, ⟨is, a, pl, st, ks⟩ :: fs, res⟩ (giveS n' s' (if last = true then fs else ⟨is, a1 + 1, pl1, st, ks⟩ :: fs) res v') → MaVal ⟨M, gm⟩ ⟨n, s, ⟨is, a, pl, st, ks⟩ :: fs, res⟩ last is (a1 + 1) pl st ks fs res lo n mx s' v := fun {v v' n' mx} hv q1 q2 g => by
        refine ⟨v', n', hv, q1, q2, ?_⟩
        by_cases cl : last = true
        · rw [if_pos cl] at g ⊢
          exact g
        · rw [if_neg cl] at g ⊢
          exact ⟨pl1, p1, p2, g⟩
      have hck : chkF called' vs'.length = chkF called vs.length := by rw [hvv.len]; exact (chk_VR hcv).symm
      cases hc : chkF called vs.length with
      | some ws =>
        rw [hc] at h hck
        cases h
        refine ⟨fun v e => (by cases e), fun ws' e ne => ?_⟩
        cases e
        refine ⟨n1 + 1, by omega, g1.ends ⟨1, fun k => runM_err (by show n1 < M; omega) hi1 (act ?_)⟩⟩
        unfold entF
        rw [hck]
      | none =>
      rw [hc] at h hck
      dsimp only at h
      cases hcv with
      | int i => cases h
      | pair _ _ => cases h
      | prim q =>
        dsimp only at h
        obtain ⟨b1, b2⟩ := prim_VR (q := q) hvv
        cases hp : primF q vs with
        | error ws =>
          rw [hp] at h
          cases h
          refine ⟨fun v e => (by cases e), fun ws' e ne => ?_⟩
          cases e
          refine ⟨n1 + 1, by omega, g1.ends ⟨1, fun k => runM_err (by show n1 < M; omega) hi1 (act ?_)⟩⟩
          rw [ent_prim, hck]
          dsimp only
          rw [b2 _ hp]
        | ok y =>
          rw [hp] at h
          cases h
          obtain ⟨y', e1, e2⟩ := b1 y hp
          refine ⟨fun v e => ?_, fun ws' e => (by cases e)⟩
          cases e
          refine fin e2 (n' := n1 + 1) (by omega) (by omega) (g1.trans ⟨1, fun k => runM_step (by show n1 < M; omega) hi1 (act ?_)⟩)
          rw [ent_prim, hck]
          dsimp only
          rw [e1]
          exact giveF_ok okG
      | @fn ns bd en pc js b' hi' kk lpc lb hkl hex hkk =>
        dsimp only at h
        by_cases le : en.length + ns.length ≤ 1000000
        case neg => rw [if_neg le] at h; cases h
        rw [if_pos le] at h
        have nsl := chk_fn hc
        have hl2 := (evT_le _ _ _ _ _ _ _ _ _ _ _ h).1
        have g2 : MGo ⟨M, gm⟩ ⟨n1, s2, ⟨is, a1, pl1, vs'.reverse ++ .fnM (.mk ns.length pc js) kk :: st, ks⟩ :: fs, res⟩ ⟨n1 + 1, max s2 (d + if last = true then 0 else 1), ⟨js, 0, vs' ++ List.replicate (pc - vs'.length) (.int 0), [], kk⟩ :: (if last = true then fs else ⟨is, a1 + 1, pl1, st, ks⟩ :: fs), res⟩ := ⟨1, fun k => runM_step (by show n1 < M; omega) hi1 (act (by
          unfold entF
          rw [hck]
          dsimp only
          unfold addF
          dsimp only
          rw [lenG, if_pos ⟨lpc, by omega, by omega⟩]
          rfl))⟩
        have scb := ScR_fn (l := pc) hkl hex hkk hvv nsl (List.replicate (pc - vs'.length) (.int 0))
        obtain ⟨c1, c2⟩ := IH gl gm M _ bd l2 _ _ true r l' s' pc js _ 0 ns.length b' hi' (vs' ++ List.replicate (pc - vs'.length) (.int 0)) [] kk (if last = true then fs else ⟨is, a1 + 1, pl1, st, ks⟩ :: fs) res (n1 + 1) h lb scb (by rw [List.length_append, List.length_replicate]; omega) GR lenG.symm (Nat.le_max_right _ _) (by omega) (by show 0 + 64 * f < many; omega) lenF okG
        have g12 := g1.trans g2
        refine ⟨fun v e => ?_, fun ws e ne => ?_⟩
        · obtain ⟨v', n', hv, q1, q2, q3⟩ := c1 v e
          rw [if_pos rfl] at q3
          exact fin hv (by omega) (by omega) (g12.trans q3)
        · obtain ⟨n2, e1, e2⟩ := c2 ws e ne
          exact ⟨n2, by omega, g12.ends e2⟩
end My
namespace My
open PySem PySem.Spec PyProof.Rows L2 TL
/-! ### what the writing of a draft lays down -/
def labs : List Pc → List Nat
  | [] => []
  | .label n :: r => n :: labs r
  | .tree _ _ _ :: r => labs r
  | .write _ :: r => labs r
theorem labs_app : ∀ (x y : List Pc), labs (x ++ y) = labs x ++ labs y
  | [], y => rfl
  | .label n :: r, y => congrArg (n :: ·) (labs_app r y)
  | .tree _ _ _ :: r, y => labs_app r y
  | .write _ :: r, y => labs_app r y
theorem labs_leafP (d : DIn) (last : Bool) : labs (leafP d last) = [] := by
  unfold leafP
  split <;> rfl
theorem labs_letPs (sc : Sc) : ∀ (ts : List Tr) (f : Nat), labs (letPs sc f ts) = []
  | [], _ => rfl
  | t :: ts, f => labs_letPs sc ts (f + 1)
theorem labs_letP (ns : List Int) (ts : List Tr) (b : Tr) (f : Nat) (sc : Sc) (last : Bool) : labs (letP ns ts b f sc last) = [] := by
  unfold letP
  rw [labs_app, labs_letPs]
  rfl
theorem labs_trees (sc : Sc) : ∀ ts : List Tr, labs (ts.map fun t => Pc.tree t sc false) = []
  | [] => rfl
  | t :: ts => labs_trees sc ts
theorem labs_callP (f : Tr) (ts : List Tr) (sc : Sc) (last : Bool) : labs (callP f ts sc last) = [] := by
  unfold callP
  rw [labs_app, labs_trees]
  rfl
/-- what a step of the writing keeps -/
structure StF (w w' : WSt) (p : Pc) : Prop where
  l : w.l ≤ w'.l
  ins : ∃ m, w'.ins = w.ins ++ m
  news : ∃ m, w'.news = w.news ++ m
  tl : w.tgs.length ≤ w'.tgs.length
  rest : ∃ e, w'.rest = e ++ w.rest ∧ (labs e).Nodup ∧ ∀ n ∈ labs e, w.tgs.length ≤ n ∧ n < w'.tgs.length
  tg : ∀ n, n < w.tgs.length → p ≠ .label n → w'.tgs[n]? = w.tgs[n]?
theorem stF {at_ : Nat} {w w' : WSt} {p : Pc} (h : wrStep at_ w p = some w') : StF w w' p := by
  have leaf : ∀ {d : DIn} {last : Bool} {ne : List DSt}, w' = { w with rest := leafP d last ++ w.rest, news := w.news ++ ne } → StF w w' p := fun {d last ne} e => by
    subst e
    exact ⟨Nat.le_refl _, ⟨[], by simp⟩, ⟨ne, rfl⟩, Nat.le_refl _, ⟨_, rfl, by rw [labs_leafP]; exact List.nodup_nil, by rw [labs_leafP]; intro n m; cases m⟩, fun _ _ _ => rfl⟩
  have leaf0 : ∀ {d : DIn} {last : Bool}, w' = { w with rest := leafP d last ++ w.rest } → StF w w' p := fun {d last} e => leaf (d := d) (last := last) (ne := []) (by rw [e]; simp)
  cases p with
  | write d =>
    obtain ⟨_, rfl⟩ := gate_ok h
    exact ⟨Nat.le_refl _, ⟨_, rfl⟩, ⟨[], by simp⟩, Nat.le_refl _, ⟨[], rfl, List.nodup_nil, fun n m => by cases m⟩, fun _ _ _ => rfl⟩
  | label n =>
    obtain ⟨ln, rfl⟩ := gate_ok h
    exact ⟨Nat.le_refl _, ⟨[], by simp⟩, ⟨[], by simp⟩, by simp, ⟨[], rfl, List.nodup_nil, fun n m => by cases m⟩, fun j _ ne => by
      dsimp only
      rw [List.getElem?_set_ne]
      exact fun e => ne (by rw [e])⟩
  | tree t sc last =>
    cases t with
    | int i => cases h; exact leaf0 rfl
    | prim q => cases h; exact leaf0 rfl
    | glob m x => cases h; exact leaf0 rfl
    | loc n =>
      unfold wrStep at h
      dsimp only at h
      cases hs : scGet n sc with
      | none => rw [hs] at h; cases h
      | some s => rw [hs] at h; cases h; exact leaf0 rfl
    | fn ns b =>
      unfold wrStep at h
      dsimp only at h
      cases hs : ssOf sc (outT (.fn ns b)) with
      | none => rw [hs] at h; cases h
      | some ss =>
        rw [hs] at h
        obtain ⟨_, rfl⟩ := gate_ok h
        exact leaf rfl
    | let_ ns ts b =>
      obtain ⟨_, rfl⟩ := gate_ok h
      exact ⟨Nat.le_add_right _ _, ⟨[], by simp⟩, ⟨[], by simp⟩, Nat.le_refl _, ⟨_, rfl, by rw [labs_letP]; exact List.nodup_nil, by rw [labs_letP]; intro n m; cases m⟩, fun _ _ _ => rfl⟩
    | call f ts =>
      cases h
      exact ⟨Nat.le_refl _, ⟨[], by simp⟩, ⟨[], by simp⟩, Nat.le_refl _, ⟨_, rfl, by rw [labs_callP]; exact List.nodup_nil, by rw [labs_callP]; intro n m; cases m⟩, fun _ _ _ => rfl⟩
    | if_ a b c =>
      obtain ⟨_, rfl⟩ := gate_ok h
      cases last with
      | true =>
        refine ⟨Nat.le_refl _, ⟨[], by simp⟩, ⟨[], by simp⟩, by simp [ifG], ⟨_, rfl, by simp [ifP, labs], fun n m => ?_⟩, fun n hn _ => ?_⟩
        · simp [ifP, labs] at m
          simp [ifG]
          omega
        · show (w.tgs ++ [none])[n]? = _
          exact List.getElem?_append_left hn
      | false =>
        refine ⟨Nat.le_refl _, ⟨[], by simp⟩, ⟨[], by simp⟩, by simp [ifG], ⟨_, rfl, by simp [ifP, labs], fun n m => ?_⟩, fun n hn _ => ?_⟩
        · simp [ifP, labs] at m
          simp [ifG]
          omega
        · show (w.tgs ++ [none] ++ [none])[n]? = _
          rw [List.append_assoc]
          exact List.getElem?_append_left hn
def LabOk (w : WSt) : Prop := (labs w.rest).Nodup ∧ ∀ n ∈ labs w.rest, n < w.tgs.length
theorem LabOk.step {w w' : WSt} {p : Pc} (f : StF w w' p) (h : (labs (p :: w.rest)).Nodup ∧ ∀ n ∈ labs (p :: w.rest), n < w.tgs.length) : LabOk w' := by
  have h' : (labs w.rest).Nodup ∧ ∀ n ∈ labs w.rest, n < w.tgs.length := by
    cases p with
    | label n => exact ⟨(List.nodup_cons.mp h.1).2, fun m z => h.2 m (List.mem_cons_of_mem _ z)⟩
    | tree _ _ _ => exact h
    | write _ => exact h
  obtain ⟨e, e1, e2, e3⟩ := f.rest
  unfold LabOk
  rw [e1, labs_app]
  refine ⟨List.nodup_append.mpr ⟨e2, h'.1, fun a ha b hb z => ?_⟩, fun n m => ?_⟩
  · have := (e3 a ha).1
    have := h'.2 b hb
    omega
  · rcases List.mem_append.mp m with m | m
    · exact (e3 n m).2
    · exact Nat.lt_of_lt_of_le (h'.2 n m) f.tl
/-- what the whole writing keeps -/
structure WrF (w w' : WSt) : Prop where
  l : w.l ≤ w'.l
  ins : ∃ m, w'.ins = w.ins ++ m
  news : ∃ m, w'.news = w.news ++ m
  tl : w.tgs.length ≤ w'.tgs.length
  tg : ∀ n, n < w.tgs.length → n ∉ labs w.rest → w'.tgs[n]? = w.tgs[n]?
theorem wrF_cons {at_ k : Nat} {w w' : WSt} {p : Pc} {r : List Pc} (e : w.rest = p :: r) (h : wrF at_ (k + 1) w = some w') : ∃ w1, wrStep at_ { w with rest := r } p = some w1 ∧ wrF at_ k w1 = some w' := by
  unfold wrF at h
  rw [e] at h
  dsimp only at h
  split at h
  · cases h1 : wrStep at_ { w with rest := r } p with
    | none => rw [h1] at h; cases h
    | some w1 => rw [h1] at h; exact ⟨w1, rfl, h⟩
  · cases h
theorem wrF_facts {at_ : Nat} : ∀ (k : Nat) (w w' : WSt), wrF at_ k w = some w' → WrF w w'
  | 0, w, w', h => by cases h
  | k + 1, w, w', h => by
    cases e : w.rest with
    | nil =>
      unfold wrF at h
      rw [e] at h
      cases h
      exact ⟨Nat.le_refl _, ⟨[], by simp⟩, ⟨[], by simp⟩, Nat.le_refl _, fun _ _ _ => rfl⟩
    | cons p r =>
      obtain ⟨w1, h1, h2⟩ := wrF_cons e h
      have f1 := stF h1
      have f2 := wrF_facts k w1 w' h2
      obtain ⟨m1, i1⟩ := f1.ins
      obtain ⟨m2, i2⟩ := f2.ins
      obtain ⟨n1, j1⟩ := f1.news
      obtain ⟨n2, j2⟩ := f2.news
      obtain ⟨ex, x1, x2, x3⟩ := f1.rest
      refine ⟨Nat.le_trans f1.l f2.l, ⟨m1 ++ m2, by rw [i2, i1, List.append_assoc]⟩, ⟨n1 ++ n2, by rw [j2, j1, List.append_assoc]⟩, Nat.le_trans f1.tl f2.tl, fun n hn nm => ?_⟩
      rw [e] at nm
      have hn' : n < w1.tgs.length := Nat.lt_of_lt_of_le hn f1.tl
      have nr : n ∉ labs r := fun z => nm (by cases p with | label j => exact List.mem_cons_of_mem _ z | tree _ _ _ => exact z | write _ => exact z)
      have np : p ≠ .label n := fun z => nm (by rw [z]; exact List.mem_cons_self)
      refine (f2.tg n hn' ?_).trans (f1.tg n hn np)
      rw [x1, labs_app]
      intro z
      rcases List.mem_append.mp z with z | z
      · have := (x3 n z).1
        have hn : n < w.tgs.length := hn
        have this : w.tgs.length ≤ n := this
        omega
      · exact nr z
/-- pieces one after another in the final code -/
def PLay (np : Nat) (is : List Ins) (tgs : List (Option Nat)) (cs : Nat → Option Code) : List Pc → Nat → Nat → Nat → Nat → Prop
  | [], a, lo, b, hi => b = a ∧ hi = lo
  | .write d :: r, a, lo, b, hi => (∃ i, finI tgs cs d = some i ∧ is[a]? = some i) ∧ PLay np is tgs cs r (a + 1) lo b hi
  | .label n :: r, a, lo, b, hi => tgs[n]? = some (some a) ∧ PLay np is tgs cs r a lo b hi
  | .tree t sc last :: r, a, lo, b, hi => ∃ a1 lo1, Lay np is t sc last a lo a1 lo1 ∧ PLay np is tgs cs r a1 lo1 b hi
section
variable {np : Nat} {is : List Ins} {tgs : List (Option Nat)} {cs : Nat → Option Code}
theorem PLay.split : ∀ {x y : List Pc} {a lo b hi : Nat}, PLay np is tgs cs (x ++ y) a lo b hi → ∃ a1 lo1, PLay np is tgs cs x a lo a1 lo1 ∧ PLay np is tgs cs y a1 lo1 b hi
  | [], y, a, lo, b, hi, h => ⟨a, lo, ⟨rfl, rfl⟩, h⟩
  | .write d :: x, y, a, lo, b, hi, h => by
    obtain ⟨h1, h2⟩ := h
    obtain ⟨a1, lo1, g1, g2⟩ := PLay.split h2
    exact ⟨a1, lo1, ⟨h1, g1⟩, g2⟩
  | .label n :: x, y, a, lo, b, hi, h => by
    obtain ⟨h1, h2⟩ := h
    obtain ⟨a1, lo1, g1, g2⟩ := PLay.split h2
    exact ⟨a1, lo1, ⟨h1, g1⟩, g2⟩
  | .tree t sc last :: x, y, a, lo, b, hi, h => by
    obtain ⟨a2, lo2, h1, h2⟩ := h
    obtain ⟨a1, lo1, g1, g2⟩ := PLay.split h2
    exact ⟨a1, lo1, ⟨a2, lo2, h1, g1⟩, g2⟩
theorem PLay.leaf {d : DIn} {i : Ins} {last : Bool} {a lo b hi : Nat} (h : PLay np is tgs cs (leafP d last) a lo b hi) (hi' : finI tgs cs d = some i) : Leaf is i last a b ∧ hi = lo := by
  unfold leafP at h
  by_cases c : last = true
  · rw [if_pos c] at h
    obtain ⟨⟨i1, e1, e2⟩, ⟨i2, e3, e4⟩, rfl, rfl⟩ := h
    rw [hi'] at e1
    cases e1
    cases e3
    exact ⟨⟨e2, by rw [if_pos c]; exact ⟨e4, rfl⟩⟩, rfl⟩
  · rw [if_neg c] at h
    obtain ⟨⟨i1, e1, e2⟩, rfl, rfl⟩ := h
    rw [hi'] at e1
    cases e1
    exact ⟨⟨e2, by rw [if_neg c]⟩, rfl⟩
theorem PLay.lets {sc : Sc} : ∀ {ts : List Tr} {f a lo b hi : Nat}, PLay np is tgs cs (letPs sc f ts) a lo b hi → LayLet np is ts sc f a lo b hi
  | [], f, a, lo, b, hi, h => by unfold LayLet; exact h
  | t :: ts, f, a, lo, b, hi, h => by
    obtain ⟨a1, lo1, h1, ⟨i, e1, e2⟩, h2⟩ := h
    cases e1
    unfold LayLet
    exact ⟨a1, lo1, h1, e2, PLay.lets h2⟩
theorem PLay.trees {sc : Sc} : ∀ {ts : List Tr} {a lo b hi : Nat}, PLay np is tgs cs (ts.map fun t => Pc.tree t sc false) a lo b hi → LayL np is ts sc a lo b hi
  | [], a, lo, b, hi, h => by unfold LayL; exact h
  | t :: ts, a, lo, b, hi, h => by
    obtain ⟨a1, lo1, h1, h2⟩ := h
    unfold LayL
    exact ⟨a1, lo1, h1, PLay.trees h2⟩
end
end My
namespace My
open PySem PySem.Spec PyProof.Rows L2 TL
/-! ### the draft's pieces lie in the final code -/
section
variable {np at_ : Nat} {is : List Ins} {cs : Nat → Option Code} {w' : WSt}
theorem wr_lay (hnp : w'.l ≤ np) (hfin : finC w'.tgs cs w'.ins = some is) (hcs : ∀ (j : Nat) (d : DSt), w'.news[j]? = some d → ∃ l js b' hi', cs (at_ + j) = some (.mk d.p l js) ∧ FitC l d.p b' js ∧ Lay l js d.t d.sc true 0 d.p b' hi') :
    ∀ (k : Nat) (w : WSt), wrF at_ k w = some w' → LabOk w → PLay np is w'.tgs cs w.rest w.ins.length w.l w'.ins.length w'.l
  | 0, w, h, _ => by cases h
  | k + 1, w, h, lab => by
    cases e : w.rest with
    | nil =>
      unfold wrF at h
      rw [e] at h
      cases h
      exact ⟨rfl, rfl⟩
    | cons p r =>
      obtain ⟨w1, h1, h2⟩ := wrF_cons e h
      have f1 := stF h1
      have f2 := wrF_facts k w1 w' h2
      have lab0 := lab
      unfold LabOk at lab
      rw [e] at lab
      have lab1 : LabOk w1 := LabOk.step f1 lab
      have IH := wr_lay hnp hfin hcs k w1 h2 lab1
      have leaf : ∀ {d : DIn} {last : Bool} {i : Ins}, w1.rest = leafP d last ++ r → w1.ins = w.ins → w1.l = w.l → finI w'.tgs cs d = some i → ∃ a1 lo1, (Leaf is i last w.ins.length a1 ∧ lo1 = w.l) ∧ PLay np is w'.tgs cs r a1 lo1 w'.ins.length w'.l := fun {d last i} e1 e2 e3 e4 => by
        rw [e1, e2, e3] at IH
        obtain ⟨a1, lo1, g1, g2⟩ := PLay.split IH
        exact ⟨a1, lo1, g1.leaf e4, g2⟩
      cases p with
      | write d =>
        obtain ⟨_, rfl⟩ := gate_ok h1
        obtain ⟨m, i2⟩ := f2.ins
        have hd : w'.ins[w.ins.length]? = some d := by
          rw [i2, List.append_assoc, List.getElem?_append_right (Nat.le_refl _), Nat.sub_self]
          rfl
        refine ⟨finC_at hfin hd, ?_⟩
        have e3 : (w.ins ++ [d]).length = w.ins.length + 1 := by simp
        rw [← e3]
        exact IH
      | label n =>
        obtain ⟨ln, rfl⟩ := gate_ok h1
        refine ⟨?_, IH⟩
        have nr : n ∉ labs r := (List.nodup_cons.mp lab.1).1
        rw [f2.tg n (by simpa using ln) nr]
        exact List.getElem?_set_self ln
      | tree t sc last =>
        cases t with
        | int i =>
          cases h1
          obtain ⟨a1, lo1, g1, g2⟩ := leaf (i := .int i) rfl rfl rfl rfl
          exact ⟨a1, lo1, by unfold Lay; exact g1, g2⟩
        | prim q =>
          cases h1
          obtain ⟨a1, lo1, g1, g2⟩ := leaf (i := .prim q) rfl rfl rfl rfl
          exact ⟨a1, lo1, by unfold Lay; exact g1, g2⟩
        | glob m x =>
          cases h1
          obtain ⟨a1, lo1, g1, g2⟩ := leaf (i := .glob m x) rfl rfl rfl rfl
          exact ⟨a1, lo1, by unfold Lay; exact g1, g2⟩
        | loc n =>
          unfold wrStep at h1
          dsimp only at h1
          cases hs : scGet n sc with
          | none => rw [hs] at h1; cases h1
          | some s =>
            rw [hs] at h1
            cases h1
            obtain ⟨a1, lo1, g1, g2⟩ := leaf (i := .src s) rfl rfl rfl rfl
            exact ⟨a1, lo1, by unfold Lay; exact ⟨s, hs, g1⟩, g2⟩
        | fn ns b =>
          unfold wrStep at h1
          dsimp only at h1
          cases hs : ssOf sc (outT (.fn ns b)) with
          | none => rw [hs] at h1; cases h1
          | some ss =>
            rw [hs] at h1
            obtain ⟨lim, rfl⟩ := gate_ok h1
            obtain ⟨m, i2⟩ := f2.news
            have hd : w'.news[w.news.length]? = some ⟨ns.length, ns.length, [], [], b, fnSc (.fn ns b)⟩ := by
              rw [i2, List.append_assoc, List.getElem?_append_right (Nat.le_refl _), Nat.sub_self]
              rfl
            obtain ⟨pl, js, b', hi', c1, c2, c3⟩ := hcs _ _ hd
            obtain ⟨a1, lo1, ⟨g1, g0⟩, g2⟩ := leaf (d := .fn (at_ + w.news.length) ss) (i := .fn (.mk ns.length pl js) ss) rfl rfl rfl (by rw [finI_fn, c1]; rfl)
            have lss := ssOf_len hs
            have m6 : many = 1000000 := rfl
            exact ⟨a1, lo1, by unfold Lay; exact ⟨pl, js, ss, b', hi', g1, g0, hs, by omega, c2, c3⟩, g2⟩
        | let_ ns ts b =>
          obtain ⟨_, rfl⟩ := gate_ok h1
          obtain ⟨a1, lo1, g1, g2⟩ := PLay.split (x := letP ns ts b w.l sc last) IH
          unfold letP at g1
          obtain ⟨a2, lo2, g3, g4⟩ := PLay.split g1
          obtain ⟨a3, lo3, g5, g6, g7⟩ := g4
          rw [g6, g7] at g2
          have := f2.l
          refine ⟨a3, lo3, ?_, g2⟩
          unfold Lay
          exact ⟨a2, lo2, Nat.le_trans this hnp, g3.lets, g5⟩
        | call f ts =>
          cases h1
          obtain ⟨a1, lo1, g1, g2⟩ := PLay.split (x := callP f ts sc last) IH
          unfold callP at g1
          obtain ⟨a2, lo2, g3, g4⟩ := PLay.split g1
          obtain ⟨⟨i, e1, e2⟩, g6, g7⟩ := g4
          have g5 := g3.trees
          unfold LayL at g5
          obtain ⟨a0, lo0, g8, g9⟩ := g5
          refine ⟨a1, lo1, ?_, g2⟩
          unfold Lay
          refine ⟨a0, lo0, a2, g8, by rw [g7]; exact g9, ?_, g6⟩
          rw [e2]
          cases last <;> (cases e1; rfl)
        | if_ a b c =>
          obtain ⟨_, rfl⟩ := gate_ok h1
          obtain ⟨a1, lo1, g1, g2⟩ := PLay.split (x := ifP a b c sc last w.tgs.length) IH
          refine ⟨a1, lo1, ?_, g2⟩
          unfold Lay
          cases last with
          | true =>
            unfold ifP at g1
            rw [if_pos rfl] at g1
            obtain ⟨b1, m1, La, ⟨i, e1, e2⟩, b2, m2, Lb, lb, b3, m3, Lc, e3, e4⟩ := g1
            subst e3
            subst e4
            refine ⟨b1, m1, b2, m2, La, ?_⟩
            rw [if_pos rfl]
            have fu : finI w'.tgs cs (.unless w.tgs.length) = some (.unless b2) := by rw [finI_unless, lb]
            rw [fu] at e1
            cases e1
            exact ⟨e2, Lb, Lc⟩
          | false =>
            unfold ifP at g1
            rw [if_neg Bool.false_ne_true] at g1
            obtain ⟨b1, m1, La, ⟨i, e1, e2⟩, b2, m2, Lb, ⟨i2, e5, e6⟩, lb, b3, m3, Lc, lb2, e3, e4⟩ := g1
            subst e3
            subst e4
            refine ⟨b1, m1, b2, m2, La, ?_⟩
            rw [if_neg Bool.false_ne_true]
            have fu : finI w'.tgs cs (.unless w.tgs.length) = some (.unless (b2 + 1)) := by rw [finI_unless, lb]
            rw [fu] at e1
            cases e1
            have fj : finI w'.tgs cs (.jump (w.tgs.length + 1)) = some (.jump a1) := by rw [finI_jump, lb2]
            rw [fj] at e5
            cases e5
            exact ⟨e2, Lb, e6, Lc⟩
end
end My
namespace My
open PySem PySem.Spec PyProof.Rows L2 TL
/-! ### every compiled tree lies in its code -/
def Fresh (d : DSt) : Prop := d.l = d.p ∧ d.ins = [] ∧ d.tgs = []
theorem wrF_fresh {at_ : Nat} : ∀ (k : Nat) (w w' : WSt), wrF at_ k w = some w' → (∀ e ∈ w.news, Fresh e) → ∀ e ∈ w'.news, Fresh e
  | 0, w, w', h => by cases h
  | k + 1, w, w', h => fun hn => by
    cases e : w.rest with
    | nil =>
      unfold wrF at h
      rw [e] at h
      cases h
      exact hn
    | cons p r =>
      obtain ⟨w1, h1, h2⟩ := wrF_cons e h
      refine wrF_fresh k w1 w' h2 ?_
      have same : w1.news = w.news → ∀ e ∈ w1.news, Fresh e := fun q => by rw [q]; exact hn
      cases p with
      | write d => obtain ⟨_, rfl⟩ := gate_ok h1; exact same rfl
      | label n => obtain ⟨_, rfl⟩ := gate_ok h1; exact same rfl
      | tree t sc last =>
        cases t with
        | int i => cases h1; exact same rfl
        | prim q => cases h1; exact same rfl
        | glob m x => cases h1; exact same rfl
        | loc n =>
          unfold wrStep at h1
          dsimp only at h1
          cases hs : scGet n sc with
          | none => rw [hs] at h1; cases h1
          | some s => rw [hs] at h1; cases h1; exact same rfl
        | fn ns b =>
          unfold wrStep at h1
          dsimp only at h1
          cases hs : ssOf sc (outT (.fn ns b)) with
          | none => rw [hs] at h1; cases h1
          | some ss =>
            rw [hs] at h1
            obtain ⟨_, rfl⟩ := gate_ok h1
            intro e m
            rcases List.mem_append.mp m with m | m
            · exact hn e m
            · rw [List.mem_singleton.mp m]
              exact ⟨rfl, rfl, rfl⟩
        | let_ ns ts b => obtain ⟨_, rfl⟩ := gate_ok h1; exact same rfl
        | call f ts => cases h1; exact same rfl
        | if_ a b c => obtain ⟨_, rfl⟩ := gate_ok h1; exact same rfl
/-- the draft at idx is written, and those that it makes stand behind it -/
def WrAt (ds : List DSt) (k idx : Nat) : Prop := ∃ (d : DSt) (w : WSt) (at_ : Nat), Fresh d ∧ wrD at_ k d = some w ∧ ds[idx]? = some { d with l := w.l, ins := w.ins, tgs := w.tgs } ∧ idx < at_ ∧
  ∀ (j : Nat) (e : DSt), w.news[j]? = some e → ∃ e', ds[at_ + j]? = some e' ∧ e'.p = e.p ∧ e'.t = e.t ∧ e'.sc = e.sc
theorem wrAll_facts {k : Nat} : ∀ (n : Nat) (done rest ds : List DSt), wrAll k n done rest = some ds → (∀ e ∈ rest, Fresh e) →
    (∀ (j : Nat) (d : DSt), done[j]? = some d → ds[j]? = some d) ∧ (∀ (i : Nat) (d : DSt), rest[i]? = some d → ∃ d', ds[done.length + i]? = some d' ∧ d'.p = d.p ∧ d'.t = d.t ∧ d'.sc = d.sc) ∧ (∀ idx, done.length ≤ idx → idx < ds.length → WrAt ds k idx)
  | 0, done, rest, ds, h, _ => by cases h
  | n + 1, done, [], ds, h, _ => by
    cases h
    exact ⟨fun j d e => e, fun i d e => (by simp at e), fun idx a b => (by omega)⟩
  | n + 1, done, d :: rest, ds, h, hf => by
    unfold wrAll at h
    cases hw : wrD (done.length + 1 + rest.length) k d with
    | none => rw [hw] at h; cases h
    | some w =>
    rw [hw] at h
    dsimp only at h
    have fd := hf d List.mem_cons_self
    have fn : ∀ e ∈ w.news, Fresh e := by
      unfold wrD at hw
      exact wrF_fresh k _ _ hw (fun e m => by cases m)
    obtain ⟨a1, a2, a3⟩ := wrAll_facts n _ _ ds h (fun e m => (List.mem_append.mp m).elim (fun z => hf e (List.mem_cons_of_mem _ z)) (fn e))
    have ld : (done ++ [{ d with l := w.l, ins := w.ins, tgs := w.tgs }]).length = done.length + 1 := by simp
    rw [ld] at a2 a3
    have hd : ds[done.length]? = some { d with l := w.l, ins := w.ins, tgs := w.tgs } := a1 _ _ (by
      rw [List.getElem?_append_right (Nat.le_refl _), Nat.sub_self]
      rfl)
    refine ⟨fun j e he => a1 j e (by
      rw [List.getElem?_append_left (List.getElem?_eq_some_iff.mp he).1]
      exact he), fun i e he => ?_, fun idx i1 i2 => ?_⟩
    · cases i with
      | zero =>
        cases he
        exact ⟨_, hd, rfl, rfl, rfl⟩
      | succ i =>
        have he : rest[i]? = some e := by simpa using he
        rw [show done.length + (i + 1) = done.length + 1 + i by omega]
        exact a2 i e (by
          rw [List.getElem?_append_left (List.getElem?_eq_some_iff.mp he).1]
          exact he)
    · by_cases c : idx = done.length
      · subst c
        refine ⟨d, w, _, fd, hw, hd, by omega, fun j e he => ?_⟩
        obtain ⟨e', b1, b2⟩ := a2 (rest.length + j) e (by
          rw [List.getElem?_append_right (Nat.le_add_right _ _), Nat.add_sub_cancel_left]
          exact he)
        refine ⟨e', ?_, b2⟩
        rw [show done.length + 1 + rest.length + j = done.length + 1 + (rest.length + j) by omega]
        exact b1
      · exact a3 idx (by omega) i2
/-- the codes from i on are right -/
def Good (ds : List DSt) (cs : Nat → Option Code) (i : Nat) : Prop := ∀ (j : Nat) (d : DSt), i ≤ j → ds[j]? = some d → ∃ l js b' hi', cs j = some (.mk d.p l js) ∧ FitC l d.p b' js ∧ Lay l js d.t d.sc true 0 d.p b' hi'
theorem codesF_good {ds : List DSt} {k : Nat} (hw : ∀ idx, idx < ds.length → WrAt ds k idx) (hl : ∀ d ∈ ds, d.l ≤ many) : ∀ (i : Nat) (cs cs' : Nat → Option Code), i ≤ ds.length → codesF ds i cs = some cs' → Good ds cs i → Good ds cs' 0
  | 0, cs, cs', _, h, g => by cases h; exact g
  | i + 1, cs, cs', hi, h, g => by
    unfold codesF at h
    cases hd : ds[i]? with
    | none => rw [hd] at h; cases h
    | some d =>
    rw [hd] at h
    dsimp only at h
    split at h
    case isFalse => cases h
    rename_i lim
    cases hc : finC d.tgs cs d.ins with
    | none => rw [hc] at h; cases h
    | some is =>
    rw [hc] at h
    refine codesF_good hw hl i _ cs' (by omega) h fun j e hj he => ?_
    by_cases c : j = i
    · subst c
      rw [hd] at he
      cases he
      obtain ⟨d0, w, at_, ⟨f1, f2, f3⟩, hwd, hds, hlt, hn⟩ := hw j (by omega)
      rw [hd] at hds
      have ed : d = { d0 with l := w.l, ins := w.ins, tgs := w.tgs } := Option.some.inj hds
      have hm := hl d (List.mem_of_getElem? hd)
      unfold wrD at hwd
      rw [f2, f3, f1] at hwd
      have et : d.tgs = w.tgs := by rw [ed]
      have ei : d.ins = w.ins := by rw [ed]
      have el : d.l = w.l := by rw [ed]
      have ep : d.p = d0.p := by rw [ed]
      have ett : d.t = d0.t := by rw [ed]
      have es : d.sc = d0.sc := by rw [ed]
      rw [et, ei] at hc
      have q := wr_lay (np := w.l) (Nat.le_refl _) hc (fun j' e he => by
        obtain ⟨e', b1, b2, b3, b4⟩ := hn j' e he
        obtain ⟨l, js, b', hi', c1, c2, c3⟩ := g (at_ + j') e' (by omega) b1
        rw [b2] at c1 c2 c3
        rw [b3, b4] at c3
        exact ⟨l, js, b', hi', c1, c2, c3⟩) k _ hwd ⟨List.nodup_nil, fun n m => by cases m⟩
      obtain ⟨a1, lo1, q1, q2, _⟩ := q
      refine ⟨w.l, is, a1, lo1, ?_, ⟨by rw [← el]; exact hm, q2.symm.trans (finC_len hc).symm, ?_, ?_⟩, ?_⟩
      · show (if j = j then some (Code.mk d.p d.l is) else cs j) = _
        rw [if_pos rfl, el]
      · rw [ep]
        exact (wrF_facts k _ _ hwd).l
      · rw [finC_len hc, ← ei]
        exact lim
      · rw [ett, es, ep]
        exact q1
    · obtain ⟨l, js, b', hi', c1, c2⟩ := g j e (by omega) he
      exact ⟨l, js, b', hi', by
        show (if j = i then some (Code.mk d.p d.l is) else cs j) = _
        rw [if_neg c]
        exact c1, c2⟩
/-- a compiled tree lies in its code -/
theorem comp_lay {k n : Nat} {t : Tr} {c : Code} (h : compF k n t = some c) (hl : ∀ ds, wrAll k n [] [⟨0, 0, [], [], t, []⟩] = some ds → ∀ d ∈ ds, d.l ≤ many) : ∃ l is b hi, c = .mk 0 l is ∧ FitC l 0 b is ∧ Lay l is t [] true 0 0 b hi := by
  unfold compF at h
  cases hw : wrAll k n [] [⟨0, 0, [], [], t, []⟩] with
  | none => rw [hw] at h; cases h
  | some ds =>
  rw [hw] at h
  dsimp only at h
  split at h
  case isFalse => cases h
  cases hc : codesF ds ds.length (fun _ => none) with
  | none => rw [hc] at h; cases h
  | some cs =>
  rw [hc] at h
  dsimp only at h
  obtain ⟨_, a2, a3⟩ := wrAll_facts n [] _ ds hw (fun e m => by rw [List.mem_singleton.mp m]; exact ⟨rfl, rfl, rfl⟩)
  have g := codesF_good (fun idx hi => a3 idx (Nat.zero_le _) hi) (hl ds hw) ds.length _ cs (Nat.le_refl _) hc (fun j d hj hd => by
    have := (List.getElem?_eq_some_iff.mp hd).1
    omega)
  obtain ⟨d', b1, b2, b3, b4⟩ := a2 0 _ rfl
  obtain ⟨l, js, b', hi', c1, c2, c3⟩ := g 0 d' (Nat.le_refl _) b1
  rw [c1] at h
  cases h
  rw [b2, b3, b4] at c3
  rw [b2] at c2
  rw [b2]
  exact ⟨l, js, b', hi', rfl, c2, c3⟩
end My
namespace My
open PySem PySem.Spec PyProof.Rows L2 TL
/-! ### the numbers that a function keeps are its free ones -/
mutual
def fv (x : Int) : Tr → Prop
  | .loc n => n = x
  | .fn ns b => fv x b ∧ x ∉ ns
  | .let_ ns ts b => fvs x ts ∨ (fv x b ∧ x ∉ ns)
  | .if_ a b c => fv x a ∨ fv x b ∨ fv x c
  | .call f ts => fv x f ∨ fvs x ts
  | _ => False
def fvs (x : Int) : List Tr → Prop
  | [] => False
  | t :: ts => fv x t ∨ fvs x ts
end
theorem fvs_mem {x : Int} : ∀ {ts : List Tr}, fvs x ts ↔ ∃ t ∈ ts, fv x t
  | [] => ⟨fun h => (by unfold fvs at h; exact h.elim), fun ⟨t, m, _⟩ => (by cases m)⟩
  | t :: ts => by
    unfold fvs
    rw [fvs_mem]
    constructor
    · rintro (h | ⟨u, m, h⟩)
      · exact ⟨t, List.mem_cons_self, h⟩
      · exact ⟨u, List.mem_cons_of_mem _ m, h⟩
    · rintro ⟨u, m, h⟩
      rcases List.mem_cons.mp m with e | m
      · rw [e] at h; exact .inl h
      · exact .inr ⟨u, m, h⟩
theorem fvs_pairs {x : Int} {kn : List Int} {ts : List Tr} : (∃ p ∈ ts.map (fun t => (t, kn)), fv x p.1 ∧ x ∉ p.2) ↔ fvs x ts ∧ x ∉ kn := by
  rw [fvs_mem]
  constructor
  · rintro ⟨p, m, h1, h2⟩
    obtain ⟨t, mt, rfl⟩ := List.mem_map.mp m
    exact ⟨⟨t, mt, h1⟩, h2⟩
  · rintro ⟨⟨t, mt, h1⟩, h2⟩
    exact ⟨(t, kn), List.mem_map.mpr ⟨t, mt, rfl⟩, h1, h2⟩
theorem ex_app {α : Type} {P : α → Prop} {x y : List α} : (∃ p ∈ x ++ y, P p) ↔ (∃ p ∈ x, P p) ∨ ∃ p ∈ y, P p := by
  constructor
  · rintro ⟨p, m, h⟩
    rcases List.mem_append.mp m with m | m
    · exact .inl ⟨p, m, h⟩
    · exact .inr ⟨p, m, h⟩
  · rintro (⟨p, m, h⟩ | ⟨p, m, h⟩)
    · exact ⟨p, List.mem_append_left _ m, h⟩
    · exact ⟨p, List.mem_append_right _ m, h⟩
theorem ex_cons {α : Type} {P : α → Prop} {a : α} {y : List α} : (∃ p ∈ a :: y, P p) ↔ P a ∨ ∃ p ∈ y, P p := by
  constructor
  · rintro ⟨p, m, h⟩
    rcases List.mem_cons.mp m with e | m
    · rw [e] at h; exact .inl h
    · exact .inr ⟨p, m, h⟩
  · rintro (h | ⟨p, m, h⟩)
    · exact ⟨a, List.mem_cons_self, h⟩
    · exact ⟨p, List.mem_cons_of_mem _ m, h⟩
/-- a part's free numbers are its own and those of its parts -/
theorem fv_kids {x : Int} {t : Tr} {kn : List Int} {found : List Int} : (x ∈ outStep t kn found ∨ ∃ p ∈ kids t kn, fv x p.1 ∧ x ∉ p.2) ↔ (x ∈ found ∨ (fv x t ∧ x ∉ kn)) := by
  have nil : ∀ {P : Tr × List Int → Prop}, (∃ p ∈ ([] : List (Tr × List Int)), P p) ↔ False := ⟨fun ⟨p, m, _⟩ => (by cases m), fun h => h.elim⟩
  cases t with
  | loc n =>
    show (x ∈ (if n ∈ kn then found else insNew n found) ∨ ∃ p ∈ ([] : List (Tr × List Int)), _) ↔ (x ∈ found ∨ (n = x ∧ x ∉ kn))
    rw [nil, or_false]
    by_cases c : n ∈ kn
    · rw [if_pos c]
      exact ⟨.inl, fun h => h.elim id fun h => absurd (h.1 ▸ c) h.2⟩
    · rw [if_neg c]
      unfold insNew
      by_cases d : n ∈ found
      · rw [if_pos d]
        exact ⟨.inl, fun h => h.elim id fun h => h.1 ▸ d⟩
      · rw [if_neg d, List.mem_append, List.mem_singleton]
        constructor
        · rintro (h | h)
          · exact .inl h
          · exact .inr ⟨h.symm, by rw [h]; exact c⟩
        · rintro (h | ⟨h, _⟩)
          · exact .inl h
          · exact .inr h.symm
  | int i =>
    show (x ∈ found ∨ ∃ p ∈ ([] : List (Tr × List Int)), _) ↔ _
    rw [nil]
    simp [fv]
  | glob m y =>
    show (x ∈ found ∨ ∃ p ∈ ([] : List (Tr × List Int)), _) ↔ _
    rw [nil]
    simp [fv]
  | prim q =>
    show (x ∈ found ∨ ∃ p ∈ ([] : List (Tr × List Int)), _) ↔ _
    rw [nil]
    simp [fv]
  | fn ns b =>
    show (x ∈ found ∨ ∃ p ∈ [(b, ns ++ kn)], fv x p.1 ∧ x ∉ p.2) ↔ _
    rw [ex_cons, nil, or_false]
    show (x ∈ found ∨ (fv x b ∧ x ∉ ns ++ kn)) ↔ (x ∈ found ∨ (fv x (.fn ns b) ∧ x ∉ kn))
    rw [show fv x (.fn ns b) = (fv x b ∧ x ∉ ns) by conv => lhs; unfold fv]
    rw [List.mem_append, not_or, and_assoc]
  | let_ ns ts b =>
    show (x ∈ found ∨ ∃ p ∈ (ts.map fun t => (t, kn)) ++ [(b, ns ++ kn)], fv x p.1 ∧ x ∉ p.2) ↔ _
    rw [ex_app, fvs_pairs, ex_cons, nil, or_false]
    show (x ∈ found ∨ ((fvs x ts ∧ x ∉ kn) ∨ (fv x b ∧ x ∉ ns ++ kn))) ↔ (x ∈ found ∨ (fv x (.let_ ns ts b) ∧ x ∉ kn))
    conv => rhs; unfold fv
    rw [List.mem_append, not_or, or_and_right, and_assoc]
  | if_ a b c =>
    show (x ∈ found ∨ ∃ p ∈ [(a, kn), (b, kn), (c, kn)], fv x p.1 ∧ x ∉ p.2) ↔ _
    rw [ex_cons, ex_cons, ex_cons, nil, or_false]
    show (x ∈ found ∨ ((fv x a ∧ x ∉ kn) ∨ ((fv x b ∧ x ∉ kn) ∨ (fv x c ∧ x ∉ kn)))) ↔ (x ∈ found ∨ (fv x (.if_ a b c) ∧ x ∉ kn))
    conv => rhs; unfold fv
    rw [or_and_right, or_and_right]
  | call f ts =>
    show (x ∈ found ∨ ∃ p ∈ (f, kn) :: ts.map (fun t => (t, kn)), fv x p.1 ∧ x ∉ p.2) ↔ _
    rw [ex_cons, fvs_pairs]
    show (x ∈ found ∨ ((fv x f ∧ x ∉ kn) ∨ (fvs x ts ∧ x ∉ kn))) ↔ (x ∈ found ∨ (fv x (.call f ts) ∧ x ∉ kn))
    conv => rhs; unfold fv
    rw [or_and_right]
def szP : List (Tr × List Int) → Nat
  | [] => 0
  | p :: r => szT p.1 + szP r
theorem szP_app : ∀ (x y : List (Tr × List Int)), szP (x ++ y) = szP x + szP y
  | [], y => by show szP y = 0 + szP y; omega
  | p :: r, y => by show szT p.1 + szP (r ++ y) = szT p.1 + szP r + szP y; rw [szP_app r y]; omega
theorem szP_map (kn : List Int) : ∀ ts : List Tr, szP (ts.map fun t => (t, kn)) = szTs ts
  | [] => by unfold szTs; rfl
  | t :: ts => by unfold szTs; show szT t + szP (ts.map fun t => (t, kn)) = _; rw [szP_map kn ts]
theorem szP_kids (t : Tr) (kn : List Int) : szP (kids t kn) + 1 = szT t := by
  cases t with
  | int i => unfold szT; rfl
  | loc i => unfold szT; rfl
  | glob i j => unfold szT; rfl
  | prim i => unfold szT; rfl
  | fn ns b => unfold szT; rfl
  | let_ ns ts b =>
    show szP ((ts.map fun t => (t, kn)) ++ [(b, ns ++ kn)]) + 1 = _
    rw [szP_app, szP_map]
    conv => rhs; unfold szT
    show szTs ts + (szT b + 0) + 1 = _
    omega
  | if_ a b c =>
    conv => rhs; unfold szT
    show szT a + (szT b + (szT c + 0)) + 1 = _
    omega
  | call f ts =>
    show szT f + szP (ts.map fun t => (t, kn)) + 1 = _
    rw [szP_map]
    conv => rhs; unfold szT
theorem outF_mem {x : Int} : ∀ (k : Nat) (rest : List (Tr × List Int)) (found : List Int), szP rest ≤ k → (x ∈ outF k rest found ↔ (x ∈ found ∨ ∃ p ∈ rest, fv x p.1 ∧ x ∉ p.2))
  | 0, [], found, _ => ⟨.inl, fun h => h.elim id fun ⟨p, m, _⟩ => (by cases m)⟩
  | 0, p :: r, found, h => by
    have := szT_pos p.1
    have h : szT p.1 + szP r ≤ 0 := h
    omega
  | k + 1, [], found, _ => ⟨.inl, fun h => h.elim id fun ⟨p, m, _⟩ => (by cases m)⟩
  | k + 1, (t, kn) :: rest, found, h => by
    have h : szT t + szP rest ≤ k + 1 := h
    have hk := szP_kids t kn
    show x ∈ outF k (kids t kn ++ rest) (outStep t kn found) ↔ _
    rw [outF_mem k _ _ (by rw [szP_app]; omega), ex_app, ex_cons, ← or_assoc, fv_kids, or_assoc]
theorem outT_mem {x : Int} {t : Tr} : x ∈ outT t ↔ fv x t := by
  unfold outT
  rw [outF_mem _ _ _ (by show szT t + 0 ≤ szT t; omega), ex_cons]
  constructor
  · rintro (h | h | ⟨p, m, _⟩)
    · cases h
    · exact h.1
    · cases m
  · exact fun h => .inr (.inl ⟨h, fun z => by cases z⟩)
theorem outF_len : ∀ (k : Nat) (rest : List (Tr × List Int)) (found : List Int), (outF k rest found).length ≤ found.length + k
  | 0, _, found => Nat.le_refl _
  | k + 1, [], found => Nat.le_add_right _ _
  | k + 1, (t, kn) :: rest, found => by
    have h := outF_len k (kids t kn ++ rest) (outStep t kn found)
    have h2 : (outStep t kn found).length ≤ found.length + 1 := by
      cases t with
      | loc n =>
        show (if n ∈ kn then found else insNew n found).length ≤ _
        unfold insNew
        split
        · omega
        · split
          · omega
          · simp
      | _ => exact Nat.le_add_right _ _
    show (outF k (kids t kn ++ rest) (outStep t kn found)).length ≤ _
    omega
theorem outT_len (t : Tr) : (outT t).length ≤ szT t := by
  have := outF_len (szT t) [(t, [])] []
  unfold outT
  simpa using this
end My
namespace My
open PySem PySem.Spec PyProof.Rows L2 TL
/-! ### whole programs by the evaluator -/
theorem glGet_put (k x : Str × Str) (y : Vl) : ∀ (gl : Gl), glGet x (glPut k y gl) = if k = x then some y else glGet x gl := by
  have hmap : ∀ (gl : Gl), glHas k gl = true → glGet x (gl.map fun p => if p.1 = k then (p.1, y) else p) = if k = x then some y else glGet x gl := by
    intro gl
    induction gl with
    | nil => intro h; cases h
    | cons p r ih =>
      obtain ⟨m, z⟩ := p
      intro h
      by_cases hr : glHas k r = true
      · have ih := ih hr
        by_cases c : m = k
        · subst c
          by_cases d : m = x
          · subst d
            simp [glGet]
          · rw [if_neg d] at ih ⊢
            simp only [List.map_cons, if_true, glGet, if_neg d]
            exact ih
        · simp only [List.map_cons, if_neg c, glGet]
          by_cases d : m = x
          · subst d
            rw [if_pos rfl, if_neg (Ne.symm c), if_pos rfl]
          · rw [if_neg d, ih]
            by_cases e : k = x
            · rw [if_pos e, if_pos e]
            · rw [if_neg e, if_neg e, if_neg d]
      · have hm : m = k := by
          have h' : (decide (m = k) || glHas k r) = true := h
          rw [Bool.eq_false_iff.mpr hr, Bool.or_false] at h'
          exact of_decide_eq_true h'
        subst hm
        have same : r.map (fun p => if p.1 = m then (p.1, y) else p) = r := by
          refine (List.map_congr_left fun p hp => ?_).trans (List.map_id r)
          rw [if_neg]
          · rfl
          · intro e
            exact hr (List.any_eq_true.mpr ⟨p, hp, decide_eq_true e⟩)
        simp only [List.map_cons, if_true, glGet, same]
        by_cases d : m = x
        · rw [if_pos d, if_pos d]
        · rw [if_neg d, if_neg d, if_neg d]
  have happ : ∀ (gl : Gl), glHas k gl = false → glGet x (gl ++ [(k, y)]) = if k = x then some y else glGet x gl := by
    intro gl
    induction gl with
    | nil =>
      intro _
      simp [glGet]
    | cons p r ih =>
      obtain ⟨m, z⟩ := p
      intro h
      have h' : (decide (m = k) || glHas k r) = false := h
      obtain ⟨h1, h2⟩ := Bool.or_eq_false_iff.mp h'
      have h1 := of_decide_eq_false h1
      simp only [List.cons_append, glGet]
      by_cases d : m = x
      · subst d
        rw [if_pos rfl, if_neg (Ne.symm h1), if_pos rfl]
      · rw [if_neg d, ih h2]
        by_cases e : k = x
        · rw [if_pos e, if_pos e]
        · rw [if_neg e, if_neg e, if_neg d]
  intro gl
  unfold glPut
  by_cases c : glHas k gl = true
  · rw [if_pos c]; exact hmap gl c
  · rw [if_neg c]; exact happ gl (Bool.eq_false_iff.mpr c)
theorem GlR.put {gl gm : Gl} {k : Str × Str} {v v' : Vl} (h : GlR gl gm) (hv : VR v v') : GlR (glPut k v gl) (glPut k v' gm) := fun x => by
  rw [glGet_put, glGet_put]
  by_cases c : k = x
  · rw [if_pos c, if_pos c]
    exact ⟨fun u e => (by cases e; exact ⟨_, rfl, hv⟩), fun e => (by cases e)⟩
  · rw [if_neg c, if_neg c]
    exact h x
theorem GlR.nil : GlR [] [] := fun k => ⟨fun v e => (by cases e), fun _ => rfl⟩
/-- definitions one by one, then the core -/
def evP (f : Nat) : List ((Str × Str) × Tr) → Tr → Gl → Nat → Nat → Option (Rs × Nat × Nat)
  | [], t, gl, l, s => evT f gl [] t l s 1 true
  | (key, d) :: ds, t, gl, l, s => match evT f gl [] d l s 1 true with
    | some (.val v, l', s') => evP f ds t (glPut key v gl) l' s'
    | some (.out ws, z) => some (.out ws, z)
    | none => none
def plOut (m l' : Nat) : Rs → Option (Except (List Str × Nat) (Nat × Vl))
  | .val v => some (.ok (m - l', v))
  | .out ws => some (.error (ws, m - l'))
theorem plRun_ev {f : Nat} {gl : Gl} {t : Tr} {l s d : Nat} {last : Bool} {r : Rs} {l' s' m : Nat} (h : evT f gl [] t l s d last = some (r, l', s')) (hl : l ≤ m) (hf : 64 * f < many) : ∃ k0, ∀ k, k0 ≤ k → plRun k m gl (m - l) t = plOut m l' r := by
  obtain ⟨_, g⟩ := plain_sim f gl [] t l s d last r l' s' m [] [] h hl (by show 0 + 64 * f < many; omega) (by show 0 + 64 * f < many; omega)
  cases r with
  | val v =>
    obtain ⟨j, g⟩ := g
    refine ⟨j + 1, fun k hk => ?_⟩
    obtain ⟨i, rfl⟩ : ∃ i, k = i + 1 + j := ⟨k - 1 - j, by omega⟩
    unfold plRun
    rw [g (i + 1), runF_nil]
    rfl
  | out ws =>
    obtain ⟨j, g⟩ := g
    refine ⟨j, fun k hk => ?_⟩
    obtain ⟨i, rfl⟩ : ∃ i, k = i + j := ⟨k - j, by omega⟩
    unfold plRun
    rw [g i]
    rfl
theorem plainF_ev {f m : Nat} (hf : 64 * f < many) : ∀ (ds : List ((Str × Str) × Tr)) (t : Tr) (gl : Gl) (l s : Nat) (r : Rs) (l' s' : Nat), evP f ds t gl l s = some (r, l', s') → l ≤ m → ∃ k0, ∀ k, k0 ≤ k → plainF k m ds t gl (m - l) = plOut m l' r
  | [], t, gl, l, s, r, l', s', h, hl => plRun_ev h hl hf
  | (key, d) :: ds, t, gl, l, s, r, l', s', h, hl => by
    unfold evP at h
    cases h1 : evT f gl [] d l s 1 true with
    | none => rw [h1] at h; cases h
    | some q =>
    obtain ⟨r1, l1, s1⟩ := q
    rw [h1] at h
    obtain ⟨k1, g1⟩ := plRun_ev h1 hl hf
    cases r1 with
    | out ws =>
      cases h
      exact ⟨k1, fun k hk => by rw [plainF_cons, g1 k hk]; rfl⟩
    | val v =>
      dsimp only at h
      have e1 := (evT_le _ _ _ _ _ _ _ _ _ _ _ h1).1
      obtain ⟨k2, g2⟩ := plainF_ev (m := m) hf ds t (glPut key v gl) l1 s1 r l' s' h (by omega)
      refine ⟨max k1 k2, fun k hk => ?_⟩
      rw [plainF_cons, g1 k (by omega)]
      exact g2 k (by omega)
/-- the code of a whole part -/
def CodeOf (t : Tr) (c : Code) : Prop := ∃ l is b hi, c = .mk 0 l is ∧ FitC l 0 b is ∧ Lay l is t [] true 0 0 b hi
theorem maRun_ev {f : Nat} {gl gm : Gl} {t : Tr} {c : Code} {l mf : Nat} {r : Rs} {l' s' n M : Nat} {res : Option Vl} (h : evT f gl [] t l (max mf 1) 1 true = some (r, l', s')) (hc : CodeOf t c) (GR : GlR gl gm) (hM : n + 3 * (l - l') ≤ M) (hf : 64 * f < many) :
    (∀ v, r = .val v → ∃ v' n', VR v v' ∧ n < n' ∧ n' + 1 ≤ n + 3 * (l - l') ∧ ∃ k0, ∀ k, k0 ≤ k → maRun k M gm (n, mf, res) c = some (.ok ((n', s', some v'), v'))) ∧
    (∀ ws, r = .out ws → ws ≠ stepsW → ∃ n', n' ≤ n + 3 * (l - l') ∧ ∃ k0, ∀ k, k0 ≤ k → maRun k M gm (n, mf, res) c = some (.error (ws, n', s', none))) := by
  obtain ⟨pc, is, b, hi, rfl, ⟨lpc, _, _⟩, lay⟩ := hc
  have m6 : many = 1000000 := rfl
  have ea : addF ⟨n, mf, [], res⟩ (.mk 0 pc is) [] [] = .ok ⟨n, max mf 1, [⟨is, 0, List.replicate pc (.int 0), [], []⟩], res⟩ := by
    unfold addF
    rw [if_pos ⟨lpc, by show 0 ≤ 1000; omega, by show 0 < many; omega⟩]
    rfl
  obtain ⟨c1, c2⟩ := ma_sim f gl gm M [] t l (max mf 1) 1 true r l' s' pc is [] 0 0 b hi (List.replicate pc (.int 0)) [] [] [] res n h lay (fun x s e => by cases e) (by simp) GR rfl (Nat.le_max_right _ _) hM (by show 0 + 64 * f < many; omega) (by show 0 + f < many; omega) (fun f r e => by cases e)
  refine ⟨fun v e => ?_, fun ws e ne => ?_⟩
  · obtain ⟨v', n', hv, q1, q2, q3⟩ := c1 v e
    rw [if_pos rfl] at q3
    obtain ⟨j, g⟩ := q3
    refine ⟨v', n', hv, q1, q2, j + 1, fun k hk => ?_⟩
    obtain ⟨i, rfl⟩ : ∃ i, k = i + 1 + j := ⟨k - 1 - j, by omega⟩
    unfold maRun
    rw [ea]
    dsimp only
    rw [g (i + 1)]
    rfl
  · obtain ⟨n', q1, j, g⟩ := c2 ws e ne
    refine ⟨n', q1, j, fun k hk => ?_⟩
    obtain ⟨i, rfl⟩ : ∃ i, k = i + j := ⟨k - j, by omega⟩
    unfold maRun
    rw [ea]
    dsimp only
    rw [g i]
inductive CodesOf : List ((Str × Str) × Tr) → List ((Str × Str) × Code) → Prop
  | nil : CodesOf [] []
  | cons {key : Str × Str} {t : Tr} {c : Code} {ds : List ((Str × Str) × Tr)} {es : List ((Str × Str) × Code)} (h : CodeOf t c) (hs : CodesOf ds es) : CodesOf ((key, t) :: ds) ((key, c) :: es)
theorem evP_le {f : Nat} : ∀ (ds : List ((Str × Str) × Tr)) (t : Tr) (gl : Gl) (l s : Nat) (r : Rs) (l' s' : Nat), evP f ds t gl l s = some (r, l', s') → l' ≤ l ∧ s ≤ s'
  | [], t, gl, l, s, r, l', s', h => evT_le _ _ _ _ _ _ _ _ _ _ _ h
  | (key, d) :: ds, t, gl, l, s, r, l', s', h => by
    unfold evP at h
    cases h1 : evT f gl [] d l s 1 true with
    | none => rw [h1] at h; cases h
    | some q =>
    obtain ⟨r1, l1, s1⟩ := q
    have e1 := evT_le _ _ _ _ _ _ _ _ _ _ _ h1
    rw [h1] at h
    cases r1 with
    | out ws => cases h; exact e1
    | val v =>
      have e2 := evP_le ds t _ _ _ _ _ _ h
      omega
theorem codeF_ev {f M : Nat} (hf : 64 * f < many) : ∀ (ds : List ((Str × Str) × Tr)) (es : List ((Str × Str) × Code)) (t : Tr) (c : Code) (gl gm : Gl) (l mf : Nat) (r : Rs) (l' s' n : Nat) (res : Option Vl), evP f ds t gl l (max mf 1) = some (r, l', s') → CodesOf ds es → CodeOf t c → GlR gl gm → n + 3 * (l - l') ≤ M →
    (∀ v, r = .val v → ∃ v' n', VR v v' ∧ n < n' ∧ n' + 1 ≤ n + 3 * (l - l') ∧ ∃ k0, ∀ k, k0 ≤ k → codeF k M es c gm (n, mf, res) = some (.ok ((n', s', some v'), v'))) ∧
    (∀ ws, r = .out ws → ws ≠ stepsW → ∃ n', n' ≤ n + 3 * (l - l') ∧ ∃ k0, ∀ k, k0 ≤ k → codeF k M es c gm (n, mf, res) = some (.error (ws, n', s', none)))
  | [], es, t, c, gl, gm, l, mf, r, l', s', n, res, h, ce, ct, GR, hM => by
    cases ce
    exact maRun_ev h ct GR hM hf
  | (key, d) :: ds, es, t, c, gl, gm, l, mf, r, l', s', n, res, h, ce, ct, GR, hM => by
    cases ce with
    | @cons _ _ cd _ es hd hs =>
    unfold evP at h
    cases h1 : evT f gl [] d l (max mf 1) 1 true with
    | none => rw [h1] at h; cases h
    | some q =>
    obtain ⟨r1, l1, s1⟩ := q
    have e1 := evT_le _ _ _ _ _ _ _ _ _ _ _ h1
    rw [h1] at h
    cases r1 with
    | out ws =>
      cases h
      obtain ⟨_, g2⟩ := maRun_ev (res := res) h1 hd GR hM hf
      refine ⟨fun v e => (by cases e), fun ws' e ne => ?_⟩
      cases e
      obtain ⟨n', q1, k0, g⟩ := g2 ws rfl ne
      exact ⟨n', q1, k0, fun k hk => by rw [codeF_cons, g k hk]⟩
    | val v =>
      dsimp only at h
      have e2 := evP_le _ _ _ _ _ _ _ _ h
      obtain ⟨g1, _⟩ := maRun_ev (res := res) h1 hd GR (M := M) (n := n) (by omega) hf
      obtain ⟨v', n1, hv, q1, q2, k1, g1⟩ := g1 v rfl
      have e3 : max s1 1 = s1 := by omega
      obtain ⟨c1, c2⟩ := codeF_ev (M := M) hf ds es t c _ (glPut key v' gm) l1 s1 r l' s' n1 (some v') (by rw [e3]; exact h) hs ct (GR.put hv) (by omega)
      refine ⟨fun u e => ?_, fun ws e ne => ?_⟩
      · obtain ⟨u', n2, hu, q3, q4, k2, g2⟩ := c1 u e
        refine ⟨u', n2, hu, by omega, by omega, max k1 k2, fun k hk => ?_⟩
        rw [codeF_cons, g1 k (by omega)]
        exact g2 k (by omega)
      · obtain ⟨n2, q3, k2, g2⟩ := c2 ws e ne
        refine ⟨n2, by omega, max k1 k2, fun k hk => ?_⟩
        rw [codeF_cons, g1 k (by omega)]
        exact g2 k (by omega)
end My
namespace My
open PySem PySem.Spec PyProof.Rows L2 TL
/-! ### the writing of small well-scoped trees does not stop -/
mutual
def wT : Tr → Nat
  | .fn ns b => 4 + ns.length + wT b
  | .let_ ns ts b => 1 + ns.length + wTs ts + wT b
  | .if_ a b c => 8 + wT a + wT b + wT c
  | .call f ts => 2 + wT f + wTs ts
  | _ => 3
def wTs : List Tr → Nat
  | [] => 0
  | t :: ts => 1 + wT t + wTs ts
end
def pW : Pc → Nat
  | .tree t _ _ => wT t
  | _ => 1
def pcsW : List Pc → Nat
  | [] => 0
  | p :: r => pW p + pcsW r
def dW (d : DSt) : Nat := wT d.t + 2
def dsW : List DSt → Nat
  | [] => 0
  | d :: r => dW d + dsW r
theorem wT_pos (t : Tr) : 1 ≤ wT t := by
  cases t <;> (unfold wT; omega)
theorem pcsW_app : ∀ (x y : List Pc), pcsW (x ++ y) = pcsW x + pcsW y
  | [], y => by show pcsW y = 0 + pcsW y; omega
  | p :: r, y => by show pW p + pcsW (r ++ y) = pW p + pcsW r + pcsW y; rw [pcsW_app r y]; omega
theorem dsW_app : ∀ (x y : List DSt), dsW (x ++ y) = dsW x + dsW y
  | [], y => by show dsW y = 0 + dsW y; omega
  | p :: r, y => by show dW p + dsW (r ++ y) = dW p + dsW r + dsW y; rw [dsW_app r y]; omega
theorem dsW_len : ∀ (x : List DSt), x.length ≤ dsW x
  | [] => Nat.le_refl _
  | d :: r => by
    have := dsW_len r
    show r.length + 1 ≤ wT d.t + 2 + dsW r
    omega
theorem pcsW_len : ∀ (x : List Pc), x.length ≤ pcsW x
  | [] => Nat.le_refl _
  | p :: r => by
    have h := pcsW_len r
    have h2 : 1 ≤ pW p := by
      cases p with
      | tree t _ _ => exact wT_pos t
      | write _ => exact Nat.le_refl _
      | label _ => exact Nat.le_refl _
    show r.length + 1 ≤ pW p + pcsW r
    omega
theorem pcsW_leafP (d : DIn) (last : Bool) : pcsW (leafP d last) ≤ 2 := by
  unfold leafP
  split <;> (show _ ≤ 2; simp [pcsW, pW])
theorem pcsW_letPs (sc : Sc) : ∀ (ts : List Tr) (f : Nat), pcsW (letPs sc f ts) = wTs ts
  | [], _ => by unfold wTs; rfl
  | t :: ts, f => by
    unfold wTs
    show wT t + (1 + pcsW (letPs sc (f + 1) ts)) = _
    rw [pcsW_letPs sc ts (f + 1)]
    omega
theorem pcsW_trees (sc : Sc) : ∀ ts : List Tr, pcsW (ts.map fun t => Pc.tree t sc false) ≤ wTs ts
  | [] => by unfold wTs; exact Nat.le_refl _
  | t :: ts => by
    have := pcsW_trees sc ts
    unfold wTs
    show wT t + pcsW (ts.map fun t => Pc.tree t sc false) ≤ _
    omega
mutual
theorem szT_le : ∀ t : Tr, szT t ≤ wT t
  | .int _ => by unfold szT wT; omega
  | .loc _ => by unfold szT wT; omega
  | .glob _ _ => by unfold szT wT; omega
  | .prim _ => by unfold szT wT; omega
  | .fn ns b => by have := szT_le b; unfold szT wT; omega
  | .let_ ns ts b => by have := szT_le b; have := szTs_le ts; unfold szT wT; omega
  | .if_ a b c => by have := szT_le a; have := szT_le b; have := szT_le c; unfold szT wT; omega
  | .call f ts => by have := szT_le f; have := szTs_le ts; unfold szT wT; omega
theorem szTs_le : ∀ ts : List Tr, szTs ts ≤ wTs ts
  | [] => by unfold szTs wTs; omega
  | t :: ts => by have := szT_le t; have := szTs_le ts; unfold szTs wTs; omega
end
/-- a tree with its scope: every free number is there -/
structure Scd (t : Tr) (sc : Sc) : Prop where
  v : ∀ x, fv x t → ∃ s, scGet x sc = some s
  len : sc.length + wT t ≤ 300000
  small : wT t ≤ 100000
  dep : depT t ≤ 900
def PcOk : Pc → Prop
  | .tree t sc _ => Scd t sc
  | _ => True
theorem letSc_has {x : Int} : ∀ {ns : List Int} {f : Nat} {sc : Sc}, (x ∈ ns ∨ ∃ s, scGet x sc = some s) → ∃ s, scGet x (letSc f ns sc) = some s
  | [], f, sc, h => h.elim (fun z => by cases z) id
  | n :: ns, f, sc, h => by
    refine letSc_has (ns := ns) (f := f + 1) (sc := scPut n (.place f) sc) ?_
    by_cases c : n = x
    · exact .inr ⟨_, by rw [scGet_put, if_pos c]⟩
    · rcases h with h | ⟨s, h⟩
      · exact .inl ((List.mem_cons.mp h).resolve_left fun e => c e.symm)
      · exact .inr ⟨s, by rw [scGet_put, if_neg c]; exact h⟩
theorem kpSc_has {x : Int} : ∀ {ns : List Int} {i : Nat} {sc : Sc}, (x ∈ ns ∨ ∃ s, scGet x sc = some s) → ∃ s, scGet x (kpSc i ns sc) = some s
  | [], i, sc, h => h.elim (fun z => by cases z) id
  | n :: ns, i, sc, h => by
    refine kpSc_has (ns := ns) (i := i + 1) (sc := scPut n (.kept i) sc) ?_
    by_cases c : n = x
    · exact .inr ⟨_, by rw [scGet_put, if_pos c]⟩
    · rcases h with h | ⟨s, h⟩
      · exact .inl ((List.mem_cons.mp h).resolve_left fun e => c e.symm)
      · exact .inr ⟨s, by rw [scGet_put, if_neg c]; exact h⟩
theorem scPut_len2 (n : Int) (y : Src) (sc : Sc) : (scPut n y sc).length ≤ sc.length + 1 := by
  unfold scPut
  split
  · rw [List.length_map]; omega
  · simp
theorem letSc_len2 : ∀ (ns : List Int) (f : Nat) (sc : Sc), (letSc f ns sc).length ≤ sc.length + ns.length
  | [], f, sc => Nat.le_refl _
  | n :: ns, f, sc => by
    have h := letSc_len2 ns (f + 1) (scPut n (.place f) sc)
    have h2 := scPut_len2 n (.place f) sc
    show (letSc (f + 1) ns (scPut n (.place f) sc)).length ≤ sc.length + (ns.length + 1)
    omega
theorem kpSc_len2 : ∀ (ns : List Int) (i : Nat) (sc : Sc), (kpSc i ns sc).length ≤ sc.length + ns.length
  | [], i, sc => Nat.le_refl _
  | n :: ns, i, sc => by
    have h := kpSc_len2 ns (i + 1) (scPut n (.kept i) sc)
    have h2 := scPut_len2 n (.kept i) sc
    show (kpSc (i + 1) ns (scPut n (.kept i) sc)).length ≤ sc.length + (ns.length + 1)
    omega
theorem ssOf_some {sc : Sc} : ∀ {xs : List Int}, (∀ x ∈ xs, ∃ s, scGet x sc = some s) → ∃ ss, ssOf sc xs = some ss
  | [], _ => ⟨[], rfl⟩
  | x :: xs, h => by
    obtain ⟨s, h1⟩ := h x List.mem_cons_self
    obtain ⟨ss, h2⟩ := ssOf_some (xs := xs) fun y m => h y (List.mem_cons_of_mem _ m)
    exact ⟨s :: ss, by unfold ssOf; rw [h1, h2]⟩
/-- the body of a function by its own scope -/
theorem Scd.body {ns : List Int} {b : Tr} {sc : Sc} (h : Scd (.fn ns b) sc) : Scd b (fnSc (.fn ns b)) := by
  obtain ⟨h1, h2, h3, h4⟩ := h
  have e1 : wT (.fn ns b) = 4 + ns.length + wT b := by conv => lhs; unfold wT
  have e2 : depT (.fn ns b) = 1 + depT b := by conv => lhs; unfold depT
  refine ⟨fun x hx => ?_, ?_, by omega, by omega⟩
  · refine letSc_has ?_
    by_cases c : x ∈ ns
    · exact .inl c
    · refine .inr (kpSc_has (.inl (outT_mem.mpr ?_)))
      unfold fv
      exact ⟨hx, c⟩
  · have l1 := letSc_len2 ns 0 (kpSc 0 (outT (.fn ns b)) [])
    have l2 := kpSc_len2 (outT (.fn ns b)) 0 []
    have l3 := outT_len (.fn ns b)
    have l4 := szT_le (.fn ns b)
    have l5 : (fnSc (.fn ns b)).length ≤ (kpSc 0 (outT (.fn ns b)) []).length + ns.length := l1
    have l6 : ([] : Sc).length = 0 := rfl
    omega
end My
namespace My
open PySem PySem.Spec PyProof.Rows L2 TL
/-! ### small states of the writing go on -/
structure Sml (at_ : Nat) (w : WSt) : Prop where
  pcs : ∀ p ∈ w.rest, PcOk p
  lab : LabOk w
  ins : w.ins.length + pcsW w.rest ≤ 800000
  tgs : w.tgs.length + pcsW w.rest ≤ 800000
  news : at_ + w.news.length + pcsW w.rest ≤ 800000
  sc : ∀ d ∈ w.news, Scd d.t d.sc ∧ d.p ≤ 100000
structure StepOk (at_ : Nat) (w : WSt) (p : Pc) (r : List Pc) (w1 : WSt) (e : List Pc) : Prop where
  step : wrStep at_ { w with rest := r } p = some w1
  rest : w1.rest = e ++ r
  pcs : ∀ q ∈ e, PcOk q
  ins : w1.ins.length + pcsW e ≤ w.ins.length + pW p
  tgs : w1.tgs.length + pcsW e ≤ w.tgs.length + pW p
  news : w1.news.length + pcsW e ≤ w.news.length + pW p
  sc : ∀ d ∈ w1.news, Scd d.t d.sc ∧ d.p ≤ 100000
  less : pcsW e < pW p
  l : w1.l + pcsW e ≤ w.l + pW p
  ds : dsW w1.news + pcsW e ≤ dsW w.news + pW p
theorem PcOk_leafP (d : DIn) (last : Bool) : ∀ q ∈ leafP d last, PcOk q := by
  unfold leafP
  split
  · intro q m
    rcases List.mem_cons.mp m with e | m
    · rw [e]; trivial
    · rw [List.mem_singleton.mp m]; trivial
  · intro q m
    rw [List.mem_singleton.mp m]; trivial
theorem PcOk_trees {sc : Sc} {ts : List Tr} (h : ∀ t ∈ ts, Scd t sc) : ∀ q ∈ ts.map (fun t => Pc.tree t sc false), PcOk q := fun q m => by
  obtain ⟨t, mt, rfl⟩ := List.mem_map.mp m
  exact h t mt
theorem PcOk_letPs {sc : Sc} : ∀ {ts : List Tr} {f : Nat}, (∀ t ∈ ts, Scd t sc) → ∀ q ∈ letPs sc f ts, PcOk q
  | [], f, h, q, m => by cases m
  | t :: ts, f, h, q, m => by
    rcases List.mem_cons.mp m with e | m
    · rw [e]; exact h t List.mem_cons_self
    rcases List.mem_cons.mp m with e | m
    · rw [e]; trivial
    · exact PcOk_letPs (fun u mu => h u (List.mem_cons_of_mem _ mu)) q m
theorem wTs_mem : ∀ {ts : List Tr} {t : Tr}, t ∈ ts → wT t + 1 ≤ wTs ts
  | [], t, m => by cases m
  | u :: ts, t, m => by
    unfold wTs
    rcases List.mem_cons.mp m with e | m
    · rw [e]; omega
    · have := wTs_mem m
      omega
theorem wr_step {at_ : Nat} {w : WSt} {p : Pc} {r : List Pc} (e : w.rest = p :: r) (h : Sml at_ w) : ∃ w1 ex, StepOk at_ w p r w1 ex := by
  have hp : PcOk p := h.pcs p (by rw [e]; exact List.mem_cons_self)
  have eW : pcsW w.rest = pW p + pcsW r := by rw [e]; rfl
  have h1 := h.ins
  have h2 := h.tgs
  have h3 := h.news
  rw [eW] at h1 h2 h3
  have leaf : ∀ {t : Tr} {sc : Sc} {last : Bool} {d : DIn}, p = .tree t sc last → wT t = 3 → wrStep at_ { w with rest := r } p = some { w with rest := leafP d last ++ r } → ∃ w1 ex, StepOk at_ w p r w1 ex := fun {t sc last d} ep e3 st => by
    have l2 := pcsW_leafP d last
    have pw : pW p = 3 := by rw [ep]; exact e3
    exact ⟨_, leafP d last, st, rfl, PcOk_leafP d last, by rw [pw]; show w.ins.length + _ ≤ _; omega, by rw [pw]; show w.tgs.length + _ ≤ _; omega, by rw [pw]; show w.news.length + _ ≤ _; omega, h.sc, by rw [pw]; omega, by rw [pw]; show w.l + _ ≤ _; omega, by rw [pw]; show dsW w.news + _ ≤ _; omega⟩
  cases p with
  | write d =>
    have pw : pW (.write d) = 1 := rfl
    refine ⟨{ w with ins := w.ins ++ [d], rest := r }, [], ?_, rfl, (fun q m => by cases m), ?_, ?_, ?_, h.sc, ?_, ?_, ?_⟩
    · unfold wrStep
      exact gate_pos (show w.ins.length < 900000 by omega)
    · show (w.ins ++ [d]).length + 0 ≤ w.ins.length + 1
      simp
    · show w.tgs.length + 0 ≤ w.tgs.length + 1; omega
    · show w.news.length + 0 ≤ w.news.length + 1; omega
    · show 0 < 1; omega
    · show w.l + 0 ≤ w.l + 1; omega
    · show dsW w.news + 0 ≤ dsW w.news + 1; omega
  | label n =>
    have ln : n < w.tgs.length := h.lab.2 n (by rw [e]; exact List.mem_cons_self)
    refine ⟨{ w with tgs := w.tgs.set n (some w.ins.length), rest := r }, [], ?_, rfl, (fun q m => by cases m), ?_, ?_, ?_, h.sc, ?_, ?_, ?_⟩
    · unfold wrStep
      exact gate_pos ln
    · show w.ins.length + 0 ≤ w.ins.length + 1; omega
    · show (w.tgs.set n (some w.ins.length)).length + 0 ≤ w.tgs.length + 1
      rw [List.length_set]; omega
    · show w.news.length + 0 ≤ w.news.length + 1; omega
    · show 0 < 1; omega
    · show w.l + 0 ≤ w.l + 1; omega
    · show dsW w.news + 0 ≤ dsW w.news + 1; omega
  | tree t sc last =>
    have hp : Scd t sc := hp
    obtain ⟨hv, hl, hs, hd⟩ := hp
    cases t with
    | int i => exact leaf rfl (by unfold wT; rfl) rfl
    | prim q => exact leaf rfl (by unfold wT; rfl) rfl
    | glob m x => exact leaf rfl (by unfold wT; rfl) rfl
    | loc n =>
      obtain ⟨s, g⟩ := hv n (by unfold fv; rfl)
      exact leaf (d := .src s) rfl (by unfold wT; rfl) (by
        unfold wrStep
        dsimp only
        rw [g]
        rfl)
    | fn ns b =>
      have ew : wT (.fn ns b) = 4 + ns.length + wT b := by conv => lhs; unfold wT
      have pw : pW (.tree (.fn ns b) sc last) = 4 + ns.length + wT b := ew
      obtain ⟨ss, g⟩ := ssOf_some (sc := sc) (xs := outT (.fn ns b)) fun x m => hv x (outT_mem.mp m)
      have l2 := pcsW_leafP (.fn (at_ + w.news.length) ss) last
      have l3 := outT_len (.fn ns b)
      have l4 := szT_le (.fn ns b)
      refine ⟨{ w with rest := leafP (.fn (at_ + w.news.length) ss) last ++ r, news := w.news ++ [⟨ns.length, ns.length, [], [], b, fnSc (.fn ns b)⟩] }, leafP (.fn (at_ + w.news.length) ss) last, ?_, rfl, PcOk_leafP _ _, by rw [pw]; show w.ins.length + _ ≤ _; omega, by rw [pw]; show w.tgs.length + _ ≤ _; omega, ?_, ?_, by rw [pw]; omega, by rw [pw]; show w.l + _ ≤ _; omega, ?_⟩
      · unfold wrStep
        dsimp only
        rw [g]
        exact gate_pos (show at_ + w.news.length < 900000 ∧ depT (.fn ns b) ≤ 900 ∧ szT (.fn ns b) ≤ 900000 ∧ (outT (.fn ns b)).length ≤ 900000 from ⟨by omega, hd, by omega, by omega⟩)
      · rw [pw]
        show (w.news ++ [_]).length + _ ≤ _
        rw [List.length_append, List.length_singleton]
        omega
      · intro d m
        rcases List.mem_append.mp m with m | m
        · exact h.sc d m
        · rw [List.mem_singleton.mp m]
          exact ⟨Scd.body ⟨hv, hl, hs, hd⟩, by show ns.length ≤ 100000; omega⟩
      · rw [pw, dsW_app]
        show dsW w.news + (wT b + 2 + 0) + _ ≤ _
        omega
    | let_ ns ts b =>
      have ew : wT (.let_ ns ts b) = 1 + ns.length + wTs ts + wT b := by conv => lhs; unfold wT
      have pw : pW (.tree (.let_ ns ts b) sc last) = 1 + ns.length + wTs ts + wT b := ew
      have ed : depT (.let_ ns ts b) = 1 + max (depTs ts) (depT b) := by conv => lhs; unfold depT
      have el : pcsW (letP ns ts b w.l sc last) = wTs ts + wT b := by
        unfold letP
        rw [pcsW_app, pcsW_letPs]
        rfl
      have lb := letSc_len2 ns w.l sc
      refine ⟨{ w with l := w.l + ns.length, rest := letP ns ts b w.l sc last ++ r }, letP ns ts b w.l sc last, ?_, rfl, fun q m => ?_, by rw [pw, el]; show w.ins.length + _ ≤ _; omega, by rw [pw, el]; show w.tgs.length + _ ≤ _; omega, by rw [pw, el]; show w.news.length + _ ≤ _; omega, h.sc, by rw [pw, el]; omega, by rw [pw, el]; show w.l + ns.length + _ ≤ _; omega, by rw [pw, el]; show dsW w.news + _ ≤ _; omega⟩
      · unfold wrStep
        exact gate_pos (show sc.length + ns.length ≤ 1000000 by omega)
      · unfold letP at m
        rcases List.mem_append.mp m with m | m
        · refine PcOk_letPs (fun t mt => ?_) q m
          have := wTs_mem mt
          have := depTs_mem mt
          exact ⟨fun x hx => hv x (by unfold fv; exact .inl (fvs_mem.mpr ⟨t, mt, hx⟩)), by omega, by omega, by omega⟩
        · rw [List.mem_singleton.mp m]
          refine ⟨fun x hx => letSc_has ?_, by omega, by omega, by omega⟩
          by_cases c : x ∈ ns
          · exact .inl c
          · exact .inr (hv x (by unfold fv; exact .inr ⟨hx, c⟩))
    | call f ts =>
      have ew : wT (.call f ts) = 2 + wT f + wTs ts := by conv => lhs; unfold wT
      have pw : pW (.tree (.call f ts) sc last) = 2 + wT f + wTs ts := ew
      have ed : depT (.call f ts) = 1 + max (depT f) (depTs ts) := by conv => lhs; unfold depT
      have el : pcsW (callP f ts sc last) ≤ wT f + wTs ts + 1 := by
        unfold callP
        rw [pcsW_app]
        have := pcsW_trees sc ts
        show (wT f + pcsW (ts.map fun t => Pc.tree t sc false)) + (1 + 0) ≤ _
        omega
      refine ⟨{ w with rest := callP f ts sc last ++ r }, callP f ts sc last, rfl, rfl, fun q m => ?_, by rw [pw]; show w.ins.length + _ ≤ _; omega, by rw [pw]; show w.tgs.length + _ ≤ _; omega, by rw [pw]; show w.news.length + _ ≤ _; omega, h.sc, by rw [pw]; omega, by rw [pw]; show w.l + _ ≤ _; omega, by rw [pw]; show dsW w.news + _ ≤ _; omega⟩
      unfold callP at m
      rcases List.mem_append.mp m with m | m
      · refine PcOk_trees (ts := f :: ts) (fun t mt => ?_) q m
        rcases List.mem_cons.mp mt with e | mt
        · rw [e]
          exact ⟨fun x hx => hv x (by unfold fv; exact .inl hx), by omega, by omega, by omega⟩
        · have := wTs_mem mt
          have := depTs_mem mt
          exact ⟨fun x hx => hv x (by unfold fv; exact .inr (fvs_mem.mpr ⟨t, mt, hx⟩)), by omega, by omega, by omega⟩
      · rw [List.mem_singleton.mp m]; trivial
    | if_ a b c =>
      have ew : wT (.if_ a b c) = 8 + wT a + wT b + wT c := by conv => lhs; unfold wT
      have pw : pW (.tree (.if_ a b c) sc last) = 8 + wT a + wT b + wT c := ew
      have ed : depT (.if_ a b c) = 1 + max (depT a) (max (depT b) (depT c)) := by conv => lhs; unfold depT
      have el : pcsW (ifP a b c sc last w.tgs.length) ≤ wT a + wT b + wT c + 4 := by
        unfold ifP
        split
        · show wT a + (1 + (wT b + (1 + (wT c + 0)))) ≤ _
          omega
        · show wT a + (1 + (wT b + (1 + (1 + (wT c + (1 + 0)))))) ≤ _
          omega
      have eg : (ifG last w.tgs none).length ≤ w.tgs.length + 2 := by
        unfold ifG
        split <;> simp
      have sa : Scd a sc := ⟨fun x hx => hv x (by unfold fv; exact .inl hx), by omega, by omega, by omega⟩
      have sb : Scd b sc := ⟨fun x hx => hv x (by unfold fv; exact .inr (.inl hx)), by omega, by omega, by omega⟩
      have sd : Scd c sc := ⟨fun x hx => hv x (by unfold fv; exact .inr (.inr hx)), by omega, by omega, by omega⟩
      refine ⟨{ w with tgs := ifG last w.tgs none, rest := ifP a b c sc last w.tgs.length ++ r }, ifP a b c sc last w.tgs.length, ?_, rfl, fun q m => ?_, by rw [pw]; show w.ins.length + _ ≤ _; omega, by rw [pw]; show (ifG last w.tgs none).length + _ ≤ _; omega, by rw [pw]; show w.news.length + _ ≤ _; omega, h.sc, by rw [pw]; omega, by rw [pw]; show w.l + _ ≤ _; omega, by rw [pw]; show dsW w.news + _ ≤ _; omega⟩
      · unfold wrStep
        exact gate_pos (show w.tgs.length ≤ 900000 by omega)
      · unfold ifP at m
        split at m
        · simp only [List.mem_cons, List.not_mem_nil, or_false] at m
          rcases m with m | m | m | m | m <;> (rw [m]; first | trivial | exact sa | exact sb | exact sd)
        · simp only [List.mem_cons, List.not_mem_nil, or_false] at m
          rcases m with m | m | m | m | m | m | m <;> (rw [m]; first | trivial | exact sa | exact sb | exact sd)
theorem wrF_total {at_ : Nat} : ∀ (k : Nat) (w : WSt), Sml at_ w → pcsW w.rest < k → ∃ w', wrF at_ k w = some w' ∧ (∀ d ∈ w'.news, Scd d.t d.sc ∧ d.p ≤ 100000) ∧ w'.l ≤ w.l + pcsW w.rest ∧ dsW w'.news ≤ dsW w.news + pcsW w.rest
  | 0, w, h, hk => by omega
  | k + 1, w, h, hk => by
    cases e : w.rest with
    | nil =>
      refine ⟨w, ?_, h.sc, Nat.le_add_right _ _, Nat.le_add_right _ _⟩
      unfold wrF
      rw [e]
    | cons p r =>
      obtain ⟨w1, ex, s⟩ := wr_step e h
      have eW : pcsW w.rest = pW p + pcsW r := by rw [e]; rfl
      have e1 : pcsW w1.rest = pcsW ex + pcsW r := by rw [s.rest, pcsW_app]
      have lab := h.lab
      unfold LabOk at lab
      rw [e] at lab
      have i1 := s.ins
      have i2 := s.tgs
      have i3 := s.news
      have i4 := s.less
      have i5 := s.l
      have i6 := s.ds
      have j1 := h.ins
      have j2 := h.tgs
      have j3 := h.news
      have lr := pcsW_len r
      have sm : Sml at_ w1 := ⟨fun q m => by
        rw [s.rest] at m
        rcases List.mem_append.mp m with m | m
        · exact s.pcs q m
        · exact h.pcs q (by rw [e]; exact List.mem_cons_of_mem _ m), LabOk.step (stF s.step) lab, by omega, by omega, by omega, s.sc⟩
      obtain ⟨w', g1, g2, g3, g4⟩ := wrF_total k w1 sm (by omega)
      refine ⟨w', ?_, g2, by rw [← e]; omega, by rw [← e]; omega⟩
      unfold wrF
      rw [e]
      dsimp only
      rw [if_pos (show r.length ≤ 900000 by omega), s.step]
      exact g1
theorem wrAll_total {k : Nat} (hk : 100000 < k) : ∀ (n : Nat) (done rest : List DSt), (∀ d ∈ rest, Fresh d ∧ Scd d.t d.sc ∧ d.p ≤ 100000) → dsW rest < n → done.length + dsW rest ≤ 400000 → (∀ d ∈ done, d.l ≤ many) → ∃ ds, wrAll k n done rest = some ds ∧ (∀ d ∈ ds, d.l ≤ many) ∧ ds.length ≤ 400000
  | 0, done, rest, _, hn, _, _ => by omega
  | n + 1, done, [], _, hn, hd, hl => ⟨done, rfl, hl, by omega⟩
  | n + 1, done, d :: rest, hf, hn, hd, hl => by
    obtain ⟨⟨f1, f2, f3⟩, sc, hp⟩ := hf d List.mem_cons_self
    have eW : dsW (d :: rest) = wT d.t + 2 + dsW rest := rfl
    rw [eW] at hn hd
    have lr := dsW_len rest
    have sm := sc.small
    obtain ⟨w, g1, g2, g3, g4⟩ := wrF_total (at_ := done.length + 1 + rest.length) k ⟨d.l, d.ins, d.tgs, [.tree d.t d.sc true], []⟩ ⟨fun p m => by
      rw [List.mem_singleton.mp m]; exact sc, ⟨List.nodup_nil, fun n m => by cases m⟩, by rw [f2]; show 0 + (wT d.t + 0) ≤ _; omega, by rw [f3]; show 0 + (wT d.t + 0) ≤ _; omega, by show _ + 0 + (wT d.t + 0) ≤ _; omega, fun e m => by cases m⟩ (by show wT d.t + 0 < k; omega)
    have fr : ∀ e ∈ w.news, Fresh e := wrF_fresh k _ _ g1 (fun e m => by cases m)
    have g3 : w.l ≤ d.l + (wT d.t + 0) := g3
    have g4 : dsW w.news ≤ 0 + (wT d.t + 0) := g4
    have m6 : many = 1000000 := rfl
    obtain ⟨ds, a1, a2, a3⟩ := wrAll_total hk n (done ++ [{ d with l := w.l, ins := w.ins, tgs := w.tgs }]) (rest ++ w.news) (fun e m => (List.mem_append.mp m).elim (fun z => hf e (List.mem_cons_of_mem _ z)) fun z => ⟨fr e z, g2 e z⟩) (by rw [dsW_app]; omega) (by rw [dsW_app, List.length_append, List.length_singleton]; omega) (fun e m => (List.mem_append.mp m).elim (hl e) fun z => by
      rw [List.mem_singleton.mp z]
      show w.l ≤ many
      omega)
    refine ⟨ds, ?_, a2, a3⟩
    unfold wrAll
    have hw : wrD (done.length + 1 + rest.length) k d = some w := g1
    rw [hw]
    exact a1
end My
namespace My
open PySem PySem.Spec PyProof.Rows L2 TL
/-! ### what an instruction of a draft points at is there in the end -/
def RefI (at_ : Nat) (w : WSt) : DIn → Prop
  | .jump n => n ∈ labs w.rest ∨ ∃ a, w.tgs[n]? = some (some a)
  | .unless n => n ∈ labs w.rest ∨ ∃ a, w.tgs[n]? = some (some a)
  | .fn k _ => at_ ≤ k ∧ k < at_ + w.news.length
  | _ => True
theorem lab_next {w w1 : WSt} {p : Pc} {r : List Pc} {at_ n : Nat} (h : wrStep at_ { w with rest := r } p = some w1) (e : n ∈ labs (p :: r) ∨ ∃ a, w.tgs[n]? = some (some a)) : n ∈ labs w1.rest ∨ ∃ a, w1.tgs[n]? = some (some a) := by
  have f := stF h
  obtain ⟨ex, x1, _⟩ := f.rest
  by_cases c : p = .label n
  · subst c
    obtain ⟨ln, rfl⟩ := gate_ok h
    exact .inr ⟨_, List.getElem?_set_self ln⟩
  · rcases e with e | ⟨a, e⟩
    · left
      rw [x1, labs_app]
      refine List.mem_append_right _ ?_
      cases p with
      | label m =>
        rcases List.mem_cons.mp e with e | e
        · exact absurd (by rw [e]) c
        · exact e
      | tree _ _ _ => exact e
      | write _ => exact e
    · right
      exact ⟨a, (f.tg n (List.getElem?_eq_some_iff.mp e).1 c).trans e⟩
theorem RefI.next {w w1 : WSt} {p : Pc} {r : List Pc} {at_ : Nat} {d : DIn} (he : w.rest = p :: r) (h : wrStep at_ { w with rest := r } p = some w1) (q : RefI at_ w d) : RefI at_ w1 d := by
  cases d with
  | jump n =>
    have q : n ∈ labs w.rest ∨ ∃ a, w.tgs[n]? = some (some a) := q
    rw [he] at q
    exact lab_next h q
  | «unless» n =>
    have q : n ∈ labs w.rest ∨ ∃ a, w.tgs[n]? = some (some a) := q
    rw [he] at q
    exact lab_next h q
  | fn k ss =>
    obtain ⟨m, e⟩ := (stF h).news
    have e : w1.news = w.news ++ m := e
    have q : at_ ≤ k ∧ k < at_ + w.news.length := q
    show at_ ≤ k ∧ k < at_ + w1.news.length
    rw [e, List.length_append]
    omega
  | _ => trivial
theorem write_letPs {sc : Sc} {d : DIn} : ∀ {ts : List Tr} {f : Nat}, Pc.write d ∈ letPs sc f ts → ∃ n, d = .put n
  | [], f, m => by cases m
  | t :: ts, f, m => by
    rcases List.mem_cons.mp m with e | m
    · cases e
    rcases List.mem_cons.mp m with e | m
    · cases e; exact ⟨f, rfl⟩
    · exact write_letPs m
theorem write_leafP {d d' : DIn} {last : Bool} (m : Pc.write d ∈ leafP d' last) : d = d' ∨ d = .end_ := by
  unfold leafP at m
  split at m
  · rcases List.mem_cons.mp m with e | m
    · cases e; exact .inl rfl
    · cases List.mem_singleton.mp m; exact .inr rfl
  · cases List.mem_singleton.mp m; exact .inl rfl
theorem write_trees {sc : Sc} {d : DIn} {ts : List Tr} (m : Pc.write d ∈ ts.map fun t => Pc.tree t sc false) : False := by
  obtain ⟨t, _, e⟩ := List.mem_map.mp m
  cases e
structure Refs (at_ : Nat) (w : WSt) : Prop where
  i : ∀ d ∈ w.ins, RefI at_ w d
  r : ∀ d, Pc.write d ∈ w.rest → RefI at_ w d
theorem Refs.step {w w1 : WSt} {p : Pc} {r : List Pc} {at_ : Nat} (he : w.rest = p :: r) (h : wrStep at_ { w with rest := r } p = some w1) (q : Refs at_ w) : Refs at_ w1 := by
  have old : ∀ d, Pc.write d ∈ r → RefI at_ w1 d := fun d m => (q.r d (by rw [he]; exact List.mem_cons_of_mem _ m)).next he h
  have insO : ∀ d ∈ w.ins, RefI at_ w1 d := fun d m => (q.i d m).next he h
  have mk : ∀ {ex : List Pc}, w1.ins = w.ins → w1.rest = ex ++ r → (∀ d, Pc.write d ∈ ex → RefI at_ w1 d) → Refs at_ w1 := fun {ex} e1 e2 e3 => ⟨fun d m => insO d (by rw [← e1]; exact m), fun d m => by
    rw [e2] at m
    rcases List.mem_append.mp m with m | m
    · exact e3 d m
    · exact old d m⟩
  have leaf : ∀ {d0 : DIn} {last : Bool}, w1.ins = w.ins → w1.rest = leafP d0 last ++ r → RefI at_ w1 d0 → Refs at_ w1 := fun {d0 last} e1 e2 e3 => mk e1 e2 fun d m => by
    rcases write_leafP m with e | e
    · rw [e]; exact e3
    · rw [e]; trivial
  cases p with
  | write d =>
    have qd := (q.r d (by rw [he]; exact List.mem_cons_self)).next he h
    obtain ⟨_, rfl⟩ := gate_ok h
    refine ⟨fun x m => ?_, old⟩
    rcases List.mem_append.mp m with m | m
    · exact insO x m
    · rw [List.mem_singleton.mp m]; exact qd
  | label n => obtain ⟨_, rfl⟩ := gate_ok h; exact mk (ex := []) rfl rfl (fun d m => by cases m)
  | tree t sc last =>
    cases t with
    | int i => cases h; exact leaf rfl rfl trivial
    | prim s => cases h; exact leaf rfl rfl trivial
    | glob m x => cases h; exact leaf rfl rfl trivial
    | loc n =>
      unfold wrStep at h
      dsimp only at h
      cases hs : scGet n sc with
      | none => rw [hs] at h; cases h
      | some s => rw [hs] at h; cases h; exact leaf rfl rfl trivial
    | fn ns b =>
      unfold wrStep at h
      dsimp only at h
      cases hs : ssOf sc (outT (.fn ns b)) with
      | none => rw [hs] at h; cases h
      | some ss =>
        rw [hs] at h
        obtain ⟨_, rfl⟩ := gate_ok h
        refine leaf rfl rfl ?_
        show at_ ≤ at_ + w.news.length ∧ at_ + w.news.length < at_ + (w.news ++ [_]).length
        rw [List.length_append, List.length_singleton]
        omega
    | let_ ns ts b =>
      obtain ⟨_, rfl⟩ := gate_ok h
      refine mk (ex := letP ns ts b w.l sc last) rfl rfl fun d m => ?_
      unfold letP at m
      rcases List.mem_append.mp m with m | m
      · obtain ⟨n, e⟩ := write_letPs m
        rw [e]; trivial
      · cases List.mem_singleton.mp m
    | call f ts =>
      cases h
      refine mk (ex := callP f ts sc last) rfl rfl fun d m => ?_
      unfold callP at m
      rcases List.mem_append.mp m with m | m
      · exact (write_trees m).elim
      · have e := List.mem_singleton.mp m
        cases e
        split <;> trivial
    | if_ a b c =>
      obtain ⟨_, rfl⟩ := gate_ok h
      refine mk (ex := ifP a b c sc last w.tgs.length) rfl rfl fun d m => ?_
      have lb : ∀ n, n ∈ labs (ifP a b c sc last w.tgs.length) → n ∈ labs (ifP a b c sc last w.tgs.length ++ r) := fun n z => by
        rw [labs_app]; exact List.mem_append_left _ z
      cases last with
      | true =>
        simp only [ifP, if_true, List.mem_cons, List.not_mem_nil, or_false, Pc.write.injEq, reduceCtorEq, false_or] at m
        subst m
        exact .inl (lb _ (by simp [ifP, labs]))
      | false =>
        simp only [ifP, Bool.false_eq_true, if_false, List.mem_cons, List.not_mem_nil, or_false, Pc.write.injEq, reduceCtorEq, false_or] at m
        rcases m with m | m
        · subst m
          exact .inl (lb _ (by simp [ifP, labs]))
        · subst m
          exact .inl (lb _ (by simp [ifP, labs]))
theorem wrF_refs {at_ : Nat} : ∀ (k : Nat) (w w' : WSt), wrF at_ k w = some w' → Refs at_ w → w'.rest = [] ∧ Refs at_ w'
  | 0, w, w', h, _ => by cases h
  | k + 1, w, w', h, q => by
    cases e : w.rest with
    | nil =>
      unfold wrF at h
      rw [e] at h
      cases h
      exact ⟨e, q⟩
    | cons p r =>
      obtain ⟨w1, h1, h2⟩ := wrF_cons e h
      exact wrF_refs k w1 w' h2 (Refs.step e h1 q)
theorem wrF_ins {at_ : Nat} : ∀ (k : Nat) (w w' : WSt), wrF at_ k w = some w' → w.ins.length ≤ 900000 → w'.ins.length ≤ 900000
  | 0, w, w', h, _ => by cases h
  | k + 1, w, w', h, q => by
    cases e : w.rest with
    | nil =>
      unfold wrF at h
      rw [e] at h
      cases h
      exact q
    | cons p r =>
      obtain ⟨w1, h1, h2⟩ := wrF_cons e h
      refine wrF_ins k w1 w' h2 ?_
      cases p with
      | write d =>
        obtain ⟨l, rfl⟩ := gate_ok h1
        have l : w.ins.length < 900000 := l
        show (w.ins ++ [d]).length ≤ 900000
        rw [List.length_append, List.length_singleton]
        omega
      | label n => obtain ⟨_, rfl⟩ := gate_ok h1; exact q
      | tree t sc last =>
        cases t with
        | int i => cases h1; exact q
        | prim s => cases h1; exact q
        | glob m x => cases h1; exact q
        | loc n =>
          unfold wrStep at h1
          dsimp only at h1
          cases hs : scGet n sc with
          | none => rw [hs] at h1; cases h1
          | some s => rw [hs] at h1; cases h1; exact q
        | fn ns b =>
          unfold wrStep at h1
          dsimp only at h1
          cases hs : ssOf sc (outT (.fn ns b)) with
          | none => rw [hs] at h1; cases h1
          | some ss => rw [hs] at h1; obtain ⟨_, rfl⟩ := gate_ok h1; exact q
        | let_ ns ts b => obtain ⟨_, rfl⟩ := gate_ok h1; exact q
        | call f ts => cases h1; exact q
        | if_ a b c => obtain ⟨_, rfl⟩ := gate_ok h1; exact q
theorem finC_some {tgs : List (Option Nat)} {cs : Nat → Option Code} : ∀ {ds : List DIn}, (∀ d ∈ ds, ∃ i, finI tgs cs d = some i) → ∃ is, finC tgs cs ds = some is
  | [], _ => ⟨[], rfl⟩
  | d :: r, h => by
    obtain ⟨i, h1⟩ := h d List.mem_cons_self
    obtain ⟨is, h2⟩ := finC_some (ds := r) fun e m => h e (List.mem_cons_of_mem _ m)
    exact ⟨i :: is, by unfold finC; rw [h1, h2]⟩
theorem codesF_total {ds : List DSt} {k : Nat} (hw : ∀ idx, idx < ds.length → WrAt ds k idx) : ∀ (i : Nat) (cs : Nat → Option Code), i ≤ ds.length → (∀ j, i ≤ j → j < ds.length → ∃ c, cs j = some c) → ∃ cs', codesF ds i cs = some cs' ∧ ∀ j, j < ds.length → ∃ c, cs' j = some c
  | 0, cs, _, h => ⟨cs, rfl, fun j hj => h j (Nat.zero_le _) hj⟩
  | i + 1, cs, hi, h => by
    obtain ⟨d0, w, at_, ⟨f1, f2, f3⟩, hwd, hds, hlt, hn⟩ := hw i (by omega)
    unfold wrD at hwd
    obtain ⟨r0, rf⟩ := wrF_refs k _ _ hwd ⟨fun d m => (by rw [f2] at m; cases m), fun d m => (by cases List.mem_singleton.mp m)⟩
    have li := wrF_ins k _ _ hwd (by rw [f2]; exact Nat.zero_le _)
    obtain ⟨is, his⟩ := finC_some (tgs := w.tgs) (cs := cs) (ds := w.ins) fun d m => by
      have q := rf.i d m
      cases d with
      | jump n =>
        have q : n ∈ labs w.rest ∨ ∃ a, w.tgs[n]? = some (some a) := q
        rw [r0] at q
        rcases q with q | ⟨a, q⟩
        · cases q
        · exact ⟨.jump a, by rw [finI_jump, q]⟩
      | «unless» n =>
        have q : n ∈ labs w.rest ∨ ∃ a, w.tgs[n]? = some (some a) := q
        rw [r0] at q
        rcases q with q | ⟨a, q⟩
        · cases q
        · exact ⟨.unless a, by rw [finI_unless, q]⟩
      | fn c ss =>
        obtain ⟨q1, q2⟩ : at_ ≤ c ∧ c < at_ + w.news.length := q
        have lj : c - at_ < w.news.length := by omega
        obtain ⟨e', b1, _⟩ := hn (c - at_) _ (List.getElem?_eq_getElem lj)
        rw [show at_ + (c - at_) = c by omega] at b1
        obtain ⟨cc, hc⟩ := h c (by omega) (List.getElem?_eq_some_iff.mp b1).1
        exact ⟨.fn cc ss, by rw [finI_fn, hc]; rfl⟩
      | _ => exact ⟨_, rfl⟩
    obtain ⟨cs', g1, g2⟩ := codesF_total hw i (fun j => if j = i then some (.mk d0.p w.l is) else cs j) (by omega) (fun j h1 h2 => by
      by_cases c : j = i
      · exact ⟨_, if_pos c⟩
      · obtain ⟨cc, hc⟩ := h j (by omega) h2
        exact ⟨cc, (if_neg c).trans hc⟩)
    refine ⟨cs', ?_, g2⟩
    unfold codesF
    rw [hds]
    dsimp only
    rw [if_pos (show w.ins.length ≤ 1000000 by omega), his]
    exact g1
/-- every closed small tree is compiled, and lies in its code -/
theorem comp_ok {t : Tr} (hv : ∀ x, ¬ fv x t) (hs : wT t ≤ 100000) (hd : depT t ≤ 900) {k n : Nat} (hk : 100000 < k) (hn : wT t + 2 < n) : ∃ c, compF k n t = some c ∧ CodeOf t c := by
  have sc : Scd t [] := ⟨fun x h => absurd h (hv x), by show 0 + wT t ≤ _; omega, hs, hd⟩
  obtain ⟨ds, a1, a2, a3⟩ := wrAll_total hk n [] [⟨0, 0, [], [], t, []⟩] (fun d m => by
    rw [List.mem_singleton.mp m]
    exact ⟨⟨rfl, rfl, rfl⟩, sc, Nat.zero_le _⟩) (by show wT t + 2 + 0 < n; omega) (by show 0 + (wT t + 2 + 0) ≤ _; omega) (fun d m => by cases m)
  obtain ⟨_, b2, b3⟩ := wrAll_facts n [] _ ds a1 (fun e m => by rw [List.mem_singleton.mp m]; exact ⟨rfl, rfl, rfl⟩)
  obtain ⟨d', e1, _⟩ := b2 0 _ rfl
  obtain ⟨cs, g1, g2⟩ := codesF_total (fun idx hi => b3 idx (Nat.zero_le _) hi) ds.length (fun _ => none) (Nat.le_refl _) (fun j h1 h2 => by omega)
  obtain ⟨c, hc⟩ := g2 0 (List.getElem?_eq_some_iff.mp e1).1
  have hcomp : compF k n t = some c := by
    unfold compF
    rw [a1]
    dsimp only
    rw [if_pos (show ds.length ≤ 900000 by omega), g1]
    exact hc
  exact ⟨c, hcomp, comp_lay hcomp fun ds' h' d m => by rw [a1] at h'; cases h'; exact a2 d m⟩
end My
namespace My
open PySem PySem.Spec PyProof.Rows L2 TL
/-! ### the draws' state among frames -/
theorem Sm.kpT2 {H H' : Hp} {S L : Addr} (s : Sm (Two S L) H H') (l : LS H S L) : KpT H H' := fun a xs h => s.keep a _ (fun z => by
  obtain ⟨cs, d, h1, h2, _⟩ := l
  rcases z with z | z
  · rw [z, h1] at h; cases h
  · rw [z, h2] at h; cases h) rfl h
theorem frTwo {H H' : Hp} {S L : Addr} (s : Sm (Two S L) H H') (l : LS H S L) : Fr (Two S L) H H' := ⟨s, s.kpT2 l⟩
theorem LS.two {H : Hp} {S L p : Addr} (h : LS H S L) (hp : H p = none) : ¬ Two S L p := by
  obtain ⟨h1, h2⟩ := h.some
  rintro (z | z)
  · rw [z] at hp; exact h1 hp
  · rw [z] at hp; exact h2 hp
theorem LS.laid {H : Hp} {S L p : Addr} {o : HO} (h : LS H S L) (hp : H p = none) : LS (upd H p o) S L := h.sm (Sm.new hp)
theorem LS.put {H : Hp} {S L p : Addr} {o : HO} (h : LS H S L) (hp : ¬ Two S L p) : LS (upd H p o) S L := by
  obtain ⟨cs, d, a1, a2, a3⟩ := h
  exact ⟨cs, d, by rw [upd_ne (fun z => hp (.inl z.symm))]; exact a1, by rw [upd_ne (fun z => hp (.inr z.symm))]; exact a2, a3⟩
theorem nbs {n : Int} (h : n.natAbs ≤ 2000000000) : n.natAbs < 2 ^ 8000 :=
  Nat.lt_of_lt_of_le (Nat.lt_of_le_of_lt h (show 2000000000 < 2 ^ 32 by decide)) (Nat.pow_le_pow_right (by decide) (by decide))
end My
namespace My
open PySem PySem.Spec PyProof.Rows L2 TL
/-! ### the drawn programs of k50, k53, k54: what the trees are -/
def nmOk (n : Int) : Prop := 0 ≤ n ∧ n < 7
def globM : List Str := ["m", "ma", "n"]
def globX : List Str := ["a", "aa", "b", "e"]
def prims8 : List Str := ["+", "-", "*", "<", "=", "pair", "first", "second"]
mutual
def gdT : Tr → Prop
  | .int i => i.natAbs ≤ 10 ^ 40
  | .loc _ => True
  | .glob m x => m ∈ globM ∧ x ∈ globX
  | .prim p => p ∈ prims8
  | .fn ns b => ns.length ≤ 5 ∧ (∀ n ∈ ns, nmOk n) ∧ wT b ≤ 2741 ∧ gdT b
  | .let_ ns ts b => ns.length ≤ 5 ∧ ns.length = ts.length ∧ (∀ n ∈ ns, nmOk n) ∧ gdTs ts ∧ gdT b
  | .if_ a b c => gdT a ∧ gdT b ∧ gdT c
  | .call f ts => ts.length ≤ 5 ∧ gdT f ∧ gdTs ts
def gdTs : List Tr → Prop
  | [] => True
  | t :: ts => gdT t ∧ gdTs ts
end
mutual
theorem gd_wid : ∀ {t : Tr}, gdT t → widT t
  | .int _, _ => trivial
  | .loc _, _ => trivial
  | .glob m x, h => by
    obtain ⟨h1, h2⟩ : m ∈ globM ∧ x ∈ globX := h
    simp only [globM, globX, List.mem_cons, List.not_mem_nil, or_false] at h1 h2
    show m.length ≤ big ∧ x.length ≤ big
    rcases h1 with e | e | e <;> rcases h2 with g | g | g | g <;> subst e <;> subst g <;> exact ⟨by decide, by decide⟩
  | .prim _, _ => trivial
  | .fn ns b, h => by
    obtain ⟨h1, _, _, h3⟩ : ns.length ≤ 5 ∧ (∀ n ∈ ns, nmOk n) ∧ wT b ≤ 2741 ∧ gdT b := h
    exact ⟨by omega, gd_wid h3⟩
  | .let_ ns ts b, h => by
    obtain ⟨h1, _, _, h3, h4⟩ : ns.length ≤ 5 ∧ ns.length = ts.length ∧ (∀ n ∈ ns, nmOk n) ∧ gdTs ts ∧ gdT b := h
    exact ⟨by omega, gd_wids h3, gd_wid h4⟩
  | .if_ a b c, h => by
    obtain ⟨h1, h2, h3⟩ : gdT a ∧ gdT b ∧ gdT c := h
    exact ⟨gd_wid h1, gd_wid h2, gd_wid h3⟩
  | .call f ts, h => by
    obtain ⟨h1, h2, h3⟩ : ts.length ≤ 5 ∧ gdT f ∧ gdTs ts := h
    exact ⟨by omega, gd_wid h2, gd_wids h3⟩
theorem gd_wids : ∀ {ts : List Tr}, gdTs ts → widTs ts
  | [], _ => trivial
  | t :: ts, h => by
    obtain ⟨h1, h2⟩ : gdT t ∧ gdTs ts := h
    exact ⟨gd_wid h1, gd_wids h2⟩
end
theorem gdTs_mem : ∀ {ts : List Tr}, gdTs ts → ∀ t ∈ ts, gdT t
  | [], _, _, m => by cases m
  | x :: r, h, t, m => by
    obtain ⟨h1, h2⟩ : gdT x ∧ gdTs r := h
    rcases List.mem_cons.mp m with e | e
    · rw [e]; exact h1
    · exact gdTs_mem h2 t e
theorem gdTs_all : ∀ {ts : List Tr}, (∀ t ∈ ts, gdT t) → gdTs ts
  | [], _ => trivial
  | x :: r, h => ⟨h x List.mem_cons_self, gdTs_all fun t m => h t (List.mem_cons_of_mem _ m)⟩
/-- a drawn tree, small, of the known variables -/
structure GT (ks : List (Int × Int)) (W D : Nat) (t : Tr) : Prop where
  g : gdT t
  f : ∀ x, fv x t → x ∈ ks.map Prod.fst
  w : wT t ≤ W
  d : depT t ≤ D
theorem GT.wide {ks : List (Int × Int)} {W D W' D' : Nat} {t : Tr} (h : GT ks W D t) (hw : W ≤ W') (hd : D ≤ D') : GT ks W' D' t := ⟨h.g, h.f, Nat.le_trans h.w hw, Nat.le_trans h.d hd⟩
/-! ### the heap: what is known, the world -/
def RK (H : Hp) (u : V) (p : Int × Int) : Prop := ∃ r, u = .ref r ∧ H r = some (.tup [.int p.1, .int p.2])
theorem RK.keep {H H' : Hp} (k : KpT H H') {u : V} {p : Int × Int} (h : RK H u p) : RK H' u p := let ⟨r, e, h⟩ := h; ⟨r, e, k _ _ h⟩
structure KnR (S L : Addr) (H : Hp) (v : V) (ks : List (Int × Int)) : Prop where
  h : ∃ a us, v = .ref a ∧ H a = some (.lst us) ∧ Als (RK H) us ks ∧ ¬ Two S L a
  n : ∀ p ∈ ks, nmOk p.1
theorem KnR.fr {S L : Addr} {H H' : Hp} {v : V} {ks : List (Int × Int)} (h : KnR S L H v ks) (f : Fr (Two S L) H H') : KnR S L H' v ks := by
  obtain ⟨⟨a, us, e, h1, h2, h3⟩, n⟩ := h
  exact ⟨⟨a, us, e, f.keep h3 rfl h1, h2.mono fun _ _ r => r.keep f.tup, h3⟩, n⟩
def wdNames : List Str := ["m a", "ma a", "m aa", "m b"]
def WdR (H : Hp) (v : V) : Prop := ∃ (a : Addr) (ps : List (Str × Int)), v = .ref a ∧ H a = some (.dK (ps.map fun p => (Sum.inr p.1, V.int p.2))) ∧ ps.length ≤ 4 ∧ ∀ p ∈ ps, p.1 ∈ wdNames
theorem WdR.fr {S L : Addr} {H H' : Hp} {v : V} (h : WdR H v) (l : LS H S L) (f : Fr (Two S L) H H') : WdR H' v := by
  obtain ⟨a, ps, e, h1, h2, h3⟩ := h
  refine ⟨a, ps, e, f.keep (fun z => ?_) rfl h1, h2, h3⟩
  obtain ⟨cs, d, k1, k2, _⟩ := l
  rcases z with z | z
  · rw [z, k1] at h1; cases h1
  · rw [z, k2] at h1; cases h1
/-! ### _law_locals -/
abbrev sLoc : Stmt := top 20
abbrev NLo : List Str := ["known", "sort", "found", "seen", "k", "number", "own"]
def spLoc : Sp := fun vs H Q _ => ∃ (a : Addr) (us : List V) (ks : List (Int × Int)) (so : Int), vs = [.ref a, .int so] ∧ H a = some (.lst us) ∧ Als (RK H) us ks ∧ ks.length ≤ 200 ∧ ∀ p (ns : List Int) H', Fr No H H' → H p = none → H' p = some (.lst (ns.map V.int)) → (∀ n ∈ ns, n ∈ ks.map Prod.fst) → ns.length ≤ 200 → Q (.ref p) H'
theorem Als.at {α : Type} {R : V → α → Prop} {vs : List V} {xs : List α} (h : Als R vs xs) {i : Nat} (hi : i < vs.length) : ∃ v x, vs[i]? = some v ∧ xs[i]? = some x ∧ R v x := by
  obtain ⟨x, hx, r⟩ := h.get (List.getElem?_eq_getElem hi)
  exact ⟨_, x, List.getElem?_eq_getElem hi, hx, r⟩
section
variable {P : Program} {w : World} {K : PySem.W.Frag} {mg : Str → Option Value} {base : Heap}
theorem scLoc : FnScope NLo ["known", "sort"] (defScope sLoc) := ⟨rfl, rfl, rfl, by decide +kernel, rfl, by decide +kernel, by decide +kernel⟩
theorem ok_loc {f : Addr} {fd : FuncData} (F : Fun K "_law_locals" "_law_locals" sLoc f fd) (B : Blt mg) : FnOk P w K mg base CX0 1 f fd ["known", "sort"] spLoc := by
  refine F.ok scLoc (fun vs H Q E h => ?_) (fun cdv A outer s H vs Q E hr h => ?_)
  · obtain ⟨a, us, ks, so, rfl, _⟩ := h
    rfl
  obtain ⟨a, us, ks, so, rfl, ha, al, ll, q⟩ := h
  have nd := scLoc.nd
  refine ⟨_, (pss_cons (ps_set (i := 2) nd rfl (Or.inl rfl) (pe_lst pa_nil))
    (pss_cons (ps_set (i := 3) nd rfl (Or.inl rfl) (pe_lst pa_nil))
    (pss_cons (ps_for PassesOwn.never rfl (pi_range1 (by rfl) B.range (pa_cons (pe_callB call_len_seq (by rfl) B.len PySem.boot_len (pa_cons (pv 0) pa_nil)) pa_nil)) (pg_name (i := 4) nd rfl (Or.inl rfl))
      (pss_cons (ps_asg (pe_ix (r := rIxL K) ix_list (pv 0) (pe_op op_sub (pe_op op_sub (pe_callB call_len_seq (by rfl) B.len PySem.boot_len (pa_cons (pv 0) pa_nil)) pe_int) (pv 4)) (fun _ _ => rfl)) (pg_tup rfl (pgs_cons (pg_name (i := 5) nd rfl (Or.inl rfl)) (pgs_cons (pg_name (i := 6) nd rfl (Or.inl rfl)) pgs_nil))))
      (pss_one (ps_if (pt_cmpR op_notIn_seq (pv 5) (pv 3) (by rfl)) (pss_cons (ps_expr (pe_bm PySem.F.plainAttrs_list PySem.F.slot_list_append PySem.F.type_list_append mt_append (pv 3) (pa_cons (pv 5) pa_nil)))
        (pss_one (ps_if (pt_cmpR op_eq (pv 6) (pv 1) (nomark _)) (pss_one (ps_expr (pe_bm PySem.F.plainAttrs_list PySem.F.slot_list_append PySem.F.type_list_append mt_append (pv 2) (pa_cons (pv 5) pa_nil)))) pss_nil))) pss_nil))))
    (pss_one (ps_ret (pv 2)))))), ?_⟩
  have lu := al.len
  refine ⟨by show 0 ≤ sizeLine; decide, fun Fa hF => ?_⟩
  have f1 := Fr.new (X := No) (o := .lst []) hF
  refine ⟨by show 0 ≤ sizeLine; decide, fun Se hSe => ?_⟩
  have f2 := Fr.new (X := No) (o := .lst []) hSe
  have hF1 := f2.keep (fun z => z) rfl (show upd H Fa (.lst []) Fa = _ from upd_same)
  have nFS : Fa ≠ Se := ne_of_none (show upd H Fa (.lst []) Fa = some _ from upd_same) hSe
  have hSe0 : H Se = none := f1.dom hSe
  have f12 := f1.trans f2
  refine ⟨_, rfl, a, us, rfl, .inl (SqL.of (f12.keep (fun z => z) rfl ha)), us.length, rfl, by omega, by omega, for_range (n := us.length) (fun i σ H' => ∃ (v4 v5 v6 : Option V) (ns ss : List Int), σ = [some (.ref a), some (.int so), some (.ref Fa), some (.ref Se), v4, v5, v6] ∧ H' Fa = some (.lst (ns.map V.int)) ∧ H' Se = some (.lst (ss.map V.int)) ∧ Fr No H H' ∧ ns.length ≤ i ∧ ss.length ≤ i ∧ ∀ n ∈ ns, n ∈ ks.map Prod.fst)
    ⟨none, none, none, [], [], rfl, hF1, upd_same, f12, Nat.le_refl _, Nat.le_refl _, fun _ m => by cases m⟩ ?_ ?_⟩
  · rintro i σ H' hi ⟨v4, v5, v6, ns, ss, rfl, h1, h2, f, l1, l2, hn⟩
    have ha' := f.keep (fun z => z) rfl ha
    obtain ⟨u, ⟨n, so'⟩, hu, hk, ⟨r, rfl, hr0⟩⟩ := al.at (i := us.length - 1 - i) (by omega)
    refine ⟨_, rfl, _, rfl, a, us, rfl, .inl (SqL.of ha'), _, _, rfl, rfl, _, rfl, _, _, rfl, rfl, a, us, _, .ref r, rfl, rfl, SqL.of ha', ?_, ?_⟩
    · rw [show ((us.length : Int) - 1 - (0 + (i : Nat))) = ((us.length - 1 - i : Nat) : Int) by omega]
      exact atI_nat hu
    refine ⟨r, _, rfl, SqT.of (f.tup _ _ hr0), rfl, _, _, rfl, _, _, rfl, rfl, ?_⟩
    refine ⟨_, rfl, _, rfl, Se, _, rfl, .inl (SqL.of h2), rfl, flat_map V.int (fun _ => rfl) ss, _, rfl, ?_⟩
    have mem : n ∈ ks.map Prod.fst := List.mem_map.mpr ⟨_, List.mem_of_getElem? hk, rfl⟩
    refine ite2 (fun _ => ?_) (fun _ => ⟨_, _, _, ns, ss, rfl, h1, h2, f, by omega, by omega, hn⟩)
    refine ⟨_, rfl, .inl ⟨rfl, _, SqL.of h2⟩, _, rfl, Se, _, _, rfl, rfl, h2, Nat.lt_of_le_of_lt (show _ ≤ 1000000 by rw [List.length_map]; omega) (by decide), ?_⟩
    have h1' : upd H' Se (.lst (ss.map V.int ++ [.int n])) Fa = some (.lst (ns.map V.int)) := by rw [upd_ne nFS]; exact h1
    have f' : Fr No H (upd H' Se (.lst (ss.map V.int ++ [.int n]))) := f.mut hSe0 h2 rfl
    have h2' : upd H' Se (.lst (ss.map V.int ++ [.int n])) Se = some (.lst ((ss ++ [n]).map V.int)) := by rw [upd_same, List.map_append]; rfl
    refine ⟨_, rfl, _, rfl, rfl, _, rfl, ?_⟩
    refine ite2 (fun _ => ?_) (fun _ => ⟨_, _, _, ns, ss ++ [n], rfl, h1', h2', f', by omega, by rw [List.length_append]; exact Nat.succ_le_succ l2, hn⟩)
    refine ⟨_, rfl, .inl ⟨rfl, _, SqL.of h1'⟩, _, rfl, Fa, _, _, rfl, rfl, h1', Nat.lt_of_le_of_lt (show _ ≤ 1000000 by rw [List.length_map]; omega) (by decide), ?_⟩
    refine ⟨_, _, _, ns ++ [n], ss ++ [n], rfl, by rw [upd_same, List.map_append]; rfl, by rw [upd_ne (Ne.symm nFS)]; exact h2', f'.mut hF h1' rfl, by rw [List.length_append]; exact Nat.succ_le_succ l1, by rw [List.length_append]; exact Nat.succ_le_succ l2, fun m hm => ?_⟩
    rcases List.mem_append.mp hm with hm | hm
    · exact hn m hm
    · rw [List.mem_singleton.mp hm]; exact mem
  · rintro σ H' ⟨v4, v5, v6, ns, ss, rfl, h1, h2, f, l1, l2, hn⟩
    exact ⟨_, rfl, q Fa ns H' f hF h1 hn (by omega)⟩
end
end My
namespace My
open PySem PySem.Spec PyProof.Rows L2 TL
/-! ### _law_numbers, _law_small -/
abbrev sNus : Stmt := top 21
abbrev NNu : List Str := ["state", "count", "numbers", "k", "number", "j"]
def spNus : Sp := fun vs H Q _ => ∃ (S L : Addr) (c : Nat), vs = [.ref S, .int c] ∧ LS H S L ∧ c ≤ 100 ∧ ∀ p (ns : List Int) H', LS H' S L → Fr (Two S L) H H' → H p = none → H' p = some (.lst (ns.map V.int)) → ns.length = c → (∀ n ∈ ns, nmOk n) → ¬ Two S L p → Q (.ref p) H'
abbrev sSml : Stmt := top 22
abbrev NSm : List Str := ["state", "pick"]
def spSml : Sp := fun vs H Q _ => ∃ (S L : Addr), vs = [.ref S] ∧ LS H S L ∧ ∀ (i : Int) u H', i.natAbs ≤ 10 ^ 40 → LS H' S L → Fr (Two S L) H H' → RT H' u (.int i) → Q u H'
section
variable {P : Program} {w : World} {K : PySem.W.Frag} {mg : Str → Option Value} {base : Heap}
theorem scNus : FnScope NNu ["state", "count"] (defScope sNus) := ⟨rfl, rfl, rfl, by decide +kernel, rfl, by decide +kernel, by decide +kernel⟩
theorem ok_nus {f fT : Addr} {fd dT : FuncData} (F : Fun K "_law_numbers" "_law_numbers" sNus f fd) (B : Blt mg) (GT : Cal P w K mg base CX0 2 "_law_take" ["state", "limit"] spTake fT dT) : FnOk P w K mg base CX0 3 f fd ["state", "count"] spNus := by
  refine F.ok scNus (fun vs H Q E h => ?_) (fun cdv A outer s H vs Q E hr h => ?_)
  · obtain ⟨S, L, c, rfl, _⟩ := h
    rfl
  obtain ⟨S, L, c, rfl, hl, lc, q⟩ := h
  have nd := scNus.nd
  refine ⟨_, (pss_cons (ps_set (i := 2) nd rfl (Or.inl rfl) (pe_lst pa_nil))
    (pss_cons (ps_for PassesOwn.never rfl (pi_range1 (by rfl) B.range (pa_cons (pv 1) pa_nil)) (pg_name (i := 3) nd rfl (Or.inl rfl))
      (pss_cons (ps_set (i := 4) nd rfl (Or.inl rfl) (pe_call GT.ok hr rfl GT.g GT.k GT.b .nil pass0 (pa_cons (pv 0) (pa_cons pe_int pa_nil))))
      (pss_cons (ps_for PassesOwn.never rfl (pi_range1 (by rfl) B.range (pa_cons pe_int pa_nil)) (pg_name (i := 5) nd rfl (Or.inl rfl))
        (pss_one (ps_if (pt_cmpR op_in_seq (pv 4) (pv 2) (by rfl)) (pss_one (ps_set (i := 4) nd rfl (Or.inl rfl) (pe_op op_mod (pe_callTy call_int1 (by rfl) B.int (by decide +kernel) (pa_cons (pe_op op_add (pv 4) pe_int) pa_nil)) pe_int))) pss_nil)))
      (pss_one (ps_expr (pe_bm PySem.F.plainAttrs_list PySem.F.slot_list_append PySem.F.type_list_append mt_append (pv 2) (pa_cons (pv 4) pa_nil)))))))
    (pss_one (ps_ret (pv 2))))), ?_⟩
  refine ⟨by show 0 ≤ sizeLine; decide, fun D hD => ?_⟩
  have nD := hl.two hD
  refine ⟨_, rfl, c, rfl, by omega, by omega, for_range (n := c) (fun i σ H' => ∃ (v3 v4 v5 : Option V) (ns : List Int), σ = [some (.ref S), some (.int c), some (.ref D), v3, v4, v5] ∧ H' D = some (.lst (ns.map V.int)) ∧ ns.length = i ∧ (∀ n ∈ ns, nmOk n) ∧ LS H' S L ∧ Fr (Two S L) H H')
    ⟨none, none, none, [], rfl, upd_same, rfl, (fun _ m => by cases m), hl.laid hD, Fr.new hD⟩ ?_ ?_⟩
  · rintro i σ H1 hi ⟨v3, v4, v5, ns, rfl, h1, h2, h3, l1, f1⟩
    refine ⟨_, rfl, S, L, 7, rfl, l1, by decide, nbs (by decide), fun g H2 a2 b2 l2 s2 => ?_⟩
    have f2 := f1.trans (frTwo s2 l1)
    have hD2 := (frTwo s2 l1).keep nD rfl h1
    refine ⟨7, rfl, by decide, by decide, for_range (n := 7) (fun j σ H' => ∃ (v5 : Option V) (m : Int), σ = [some (.ref S), some (.int c), some (.ref D), some (.int (0 + (i : Nat))), some (.int m), v5] ∧ nmOk m ∧ H' = H2) ⟨_, g, rfl, ⟨a2, b2⟩, rfl⟩ ?_ ?_⟩
    · rintro j σ H' hj ⟨v5, m, rfl, hm, rfl⟩
      refine ⟨_, rfl, _, rfl, D, _, rfl, .inl (SqL.of hD2), rfl, flat_map V.int (fun _ => rfl) ns, _, rfl, ?_⟩
      refine ite2 (fun _ => ?_) (fun _ => ⟨_, m, rfl, hm, rfl⟩)
      refine ⟨_, rfl, _, _, rfl, rfl, .inl ⟨_, rfl, _, _, rfl, rfl, (by show (0 : Int) < 7; decide), ?_⟩⟩
      exact ⟨_, _, rfl, ⟨Int.emod_nonneg _ (by decide), Int.emod_lt_of_pos _ (by decide)⟩, rfl⟩
    · rintro σ H' ⟨v5, m, rfl, hm, rfl⟩
      refine ⟨_, rfl, .inl ⟨rfl, _, SqL.of hD2⟩, _, rfl, D, _, _, rfl, rfl, hD2, Nat.lt_of_le_of_lt (show _ ≤ 1000000 by rw [List.length_map]; omega) (by decide), ?_⟩
      refine ⟨_, _, _, ns ++ [m], rfl, by rw [upd_same, List.map_append]; rfl, by rw [List.length_append, h2]; rfl, fun n hn => ?_, l2.put nD, f2.mut hD hD2 rfl⟩
      rcases List.mem_append.mp hn with hn | hn
      · exact h3 n hn
      · rw [List.mem_singleton.mp hn]; exact hm
  · rintro σ H1 ⟨v3, v4, v5, ns, rfl, h1, h2, h3, l1, f1⟩
    exact ⟨_, rfl, q D ns H1 l1 f1 hD h1 h2 h3 nD⟩
theorem scSml : FnScope NSm ["state"] (defScope sSml) := ⟨rfl, rfl, rfl, by decide +kernel, rfl, by decide +kernel, by decide +kernel⟩
theorem ok_sml {f fT : Addr} {fd dT : FuncData} (F : Fun K "_law_small" "_law_small" sSml f fd) (GT : Cal P w K mg base CX0 2 "_law_take" ["state", "limit"] spTake fT dT) : FnOk P w K mg base CX0 3 f fd ["state"] spSml := by
  refine F.ok scSml (fun vs H Q E h => ?_) (fun cdv A outer s H vs Q E hr h => ?_)
  · obtain ⟨S, L, rfl, _⟩ := h
    rfl
  obtain ⟨S, L, rfl, hl, q⟩ := h
  have nd := scSml.nd
  refine ⟨_, (pss_cons (ps_set (i := 1) nd rfl (Or.inl rfl) (pe_call GT.ok hr rfl GT.g GT.k GT.b .nil pass0 (pa_cons (pv 0) (pa_cons pe_int pa_nil))))
    (pss_cons (ps_if (pt_cmpR op_eq (pv 1) pe_int (nomark _)) (pss_one (ps_ret (pe_tup (pa_cons pe_str (pa_cons (pe_ix (r := rIxL K) ix_list (pe_lst (pa_cons (pe_op op_sub (pe_op op_pow pe_int pe_int) pe_int) (pa_cons (pe_op op_sub pe_int (pe_op op_pow pe_int pe_int)) (pa_cons (pe_op op_pow pe_int pe_int) (pa_cons (pe_un un_neg pe_int) pa_nil))))) (pe_call GT.ok hr rfl GT.g GT.k GT.b .nil pass0 (pa_cons (pv 0) (pa_cons pe_int pa_nil))) (fun _ _ => rfl)) pa_nil))))) pss_nil)
    (pss_one (ps_ret (pe_tup (pa_cons pe_str (pa_cons (pe_call GT.ok hr rfl GT.g GT.k GT.b .nil pass0 (pa_cons (pv 0) (pa_cons pe_int pa_nil))) pa_nil))))))), ?_⟩
  refine ⟨_, rfl, S, L, 8, rfl, hl, by decide, nbs (by decide), fun g1 H1 a1 b1 l1 s1 => ?_⟩
  have f1 := frTwo s1 hl
  refine ⟨_, rfl, rfl, _, rfl, ?_⟩
  refine ite2 (fun _ => ?_) (fun _ => ?_)
  · have e30 : (10 : Int) ^ (30 : Int).toNat = 1000000000000000000000000000000 := by decide +kernel
    have e40 : (10 : Int) ^ (40 : Int).toNat = 10000000000000000000000000000000000000000 := by decide +kernel
    have b40 : (10 ^ 40 : Nat) = 10000000000000000000000000000000000000000 := by decide +kernel
    refine ⟨_, _, rfl, rfl, ⟨by decide, by decide, by decide⟩, _, _, rfl, rfl, _, _, rfl, rfl, ⟨by decide, by decide, by decide⟩, _, _, rfl, rfl, _, _, rfl, rfl, ⟨by decide, by decide, by decide⟩, ?_⟩
    dsimp only
    rw [e30, e40]
    refine ⟨_, rfl, by show 4 ≤ sizeLine; decide, fun p hp => ?_⟩
    refine ⟨_, rfl, S, L, 4, rfl, l1.laid hp, by decide, nbs (by decide), fun g2 H2 a2 b2 l2 s2 => ?_⟩
    have hp2 := s2.keep p _ (l1.two hp) rfl upd_same
    have f2 := f1.trans ((Fr.new hp).trans (frTwo s2 (l1.laid hp)))
    have pick : ∃ i : Int, atI [V.int (10000000000000000000000000000000000000000 - 1), V.int (1 - 10000000000000000000000000000000000000000), V.int 1000000000000000000000000000000, V.int (-7)] g2 = some (.int i) ∧ i.natAbs ≤ 10 ^ 40 := by
      rw [b40]
      have c : g2 = 0 ∨ g2 = 1 ∨ g2 = 2 ∨ g2 = 3 := by omega
      rcases c with e | e | e | e <;> rw [e]
      · exact ⟨_, rfl, by omega⟩
      · exact ⟨_, rfl, by omega⟩
      · exact ⟨_, rfl, by omega⟩
      · exact ⟨_, rfl, by omega⟩
    obtain ⟨i, ei, bi⟩ := pick
    refine ⟨p, _, g2, _, rfl, rfl, SqL.of hp2, ei, by show 2 ≤ sizeLine; decide, fun t ht => ?_⟩
    exact q i _ _ bi (l2.laid ht) (f2.trans (Fr.new ht)) (.int upd_same)
  · refine ⟨_, rfl, S, L, 4, rfl, l1, by decide, nbs (by decide), fun g2 H2 a2 b2 l2 s2 => ⟨by show 2 ≤ sizeLine; decide, fun t ht => ?_⟩⟩
    refine q g2 _ _ ?_ (l2.laid ht) ((f1.trans (frTwo s2 l1)).trans (Fr.new ht)) (.int upd_same)
    have : g2.natAbs ≤ 4 := by omega
    exact Nat.le_trans this (by decide +kernel)
end
end My
namespace My
open PySem PySem.Spec PyProof.Rows L2 TL
/-! ### the bounds by the room; _law_function -/
def ops5 : List Str := ["+", "-", "*", "<", "="]
def Wb : Nat → Nat
  | 0 => 3
  | 1 => 3
  | 2 => 74
  | 3 => 455
  | 4 => 2741
  | 5 => 16457
  | _ => 98753
def Fb (m : Nat) : Nat := 9 + Wb (m - 1)
def spPrt (m : Nat) : Sp := fun vs H Q _ => ∃ (S L : Addr) (kv wd : V) (ks : List (Int × Int)) (r : Int), vs = [.ref S, kv, wd, .int r] ∧ LS H S L ∧ KnR S L H kv ks ∧ WdR H wd ∧ r ≤ m ∧ ks.length + 6 * m ≤ 100 ∧ ∀ u t H', LS H' S L → Fr (Two S L) H H' → RT H' u t → GT ks (Wb m) (1 + 2 * m) t → Q u H'
def spFun (m : Nat) : Sp := fun vs H Q _ => ∃ (S L : Addr) (kv wd : V) (ks : List (Int × Int)) (r : Int) (c : Nat), vs = [.ref S, kv, wd, .int r, .int c] ∧ LS H S L ∧ KnR S L H kv ks ∧ WdR H wd ∧ r ≤ m ∧ (c ≤ 5 ∧ m ≤ 5) ∧ ks.length + 6 * m ≤ 100 ∧ ∀ u t H', LS H' S L → Fr (Two S L) H H' → RT H' u t → GT ks (Fb m) (2 * m) t → Q u H'
theorem dp_is {K : PySem.W.Frag} {H : Hp} : ∀ ns : List Int, DpAll K H (ns.map V.int) (ns.map PyData.int)
  | [] => .nil
  | n :: ns => .cons (.int n) (dp_is ns)
theorem dp_ss {K : PySem.W.Frag} {H : Hp} : ∀ ns : List Str, DpAll K H (ns.map V.str) (ns.map PyData.str)
  | [] => .nil
  | n :: ns => .cons (.str n) (dp_ss ns)
theorem lay_is : ∀ {xs : List Int}, PyData.canLayAll0 (xs.map PyData.int) = true
  | [] => by unfold List.map PyData.canLayAll0; rfl
  | x :: r => by
    rw [List.map_cons]
    unfold PyData.canLayAll0
    rw [lay_is]
    unfold PyData.canLay0
    rfl
theorem dep_is : ∀ {xs : List Int}, PyData.depthAll (xs.map PyData.int) ≤ 1
  | [] => by unfold List.map PyData.depthAll; omega
  | x :: r => by
    have := dep_is (xs := r)
    rw [List.map_cons]
    unfold PyData.depthAll
    unfold PyData.depth
    omega
theorem shaped_is {xs : List Int} : SeqAt.shaped (.list (xs.map PyData.int)) = true := by
  unfold SeqAt.shaped
  rw [show PyData.canLay0 (.list (xs.map PyData.int)) = true by unfold PyData.canLay0; exact lay_is]
  have := dep_is (xs := xs)
  rw [decide_eq_true (by unfold PyData.depth; omega)]
  rfl
theorem lay_ss : ∀ {xs : List Str}, (∀ x ∈ xs, PyData.strOk x = true) → PyData.canLayAll0 (xs.map PyData.str) = true
  | [], _ => by unfold List.map PyData.canLayAll0; rfl
  | x :: r, h => by
    rw [List.map_cons]
    unfold PyData.canLayAll0
    rw [lay_ss fun y m => h y (List.mem_cons_of_mem _ m)]
    unfold PyData.canLay0
    rw [h x List.mem_cons_self]
    rfl
theorem dep_ss : ∀ {xs : List Str}, PyData.depthAll (xs.map PyData.str) ≤ 1
  | [] => by unfold List.map PyData.depthAll; omega
  | x :: r => by
    have := dep_ss (xs := r)
    rw [List.map_cons]
    unfold PyData.depthAll
    unfold PyData.depth
    omega
theorem shaped_ss {xs : List Str} (h : ∀ x ∈ xs, PyData.strOk x = true) : SeqAt.shaped (.list (xs.map PyData.str)) = true := by
  unfold SeqAt.shaped
  rw [show PyData.canLay0 (.list (xs.map PyData.str)) = true by unfold PyData.canLay0; exact lay_ss h]
  have := dep_ss (xs := xs)
  rw [decide_eq_true (by unfold PyData.depth; omega)]
  rfl
theorem shaped_n0 : SeqAt.shaped (.list []) = true := by decide +kernel
theorem eqv_is {xs : List Int} : PyData.eqv (.list (xs.map PyData.int)) (.list []) = xs.isEmpty := by
  cases xs with
  | nil => unfold List.map PyData.eqv PyData.eqvAll; rfl
  | cons x r => unfold List.map PyData.eqv PyData.eqvAll; rfl
theorem eqv_ss {xs : List Str} : PyData.eqv (.list (xs.map PyData.str)) (.list []) = xs.isEmpty := by
  cases xs with
  | nil => unfold List.map PyData.eqv PyData.eqvAll; rfl
  | cons x r => unfold List.map PyData.eqv PyData.eqvAll; rfl
theorem wd_ok {x : Str} (h : x ∈ wdNames) : PyData.strOk x = true ∧ ∃ m y, Txt.split x " " = [m, y] ∧ m ∈ globM ∧ y ∈ globX ∧ x.length ≤ 10 := by
  simp only [wdNames, List.mem_cons, List.not_mem_nil, or_false] at h
  rcases h with e | e | e | e <;> subst e
  · exact ⟨by decide +kernel, "m", "a", by decide +kernel, by decide, by decide, by decide⟩
  · exact ⟨by decide +kernel, "ma", "a", by decide +kernel, by decide, by decide, by decide⟩
  · exact ⟨by decide +kernel, "m", "aa", by decide +kernel, by decide, by decide, by decide⟩
  · exact ⟨by decide +kernel, "m", "b", by decide +kernel, by decide, by decide, by decide⟩
/-- a list not empty has the drawn element -/
theorem pick_in {α : Type} {xs : List α} {g : Int} (h0 : 0 ≤ g) (h1 : g < xs.length) : ∃ x, x ∈ xs ∧ xs[g.toNat]? = some x ∧ g = ((g.toNat : Nat) : Int) := by
  have h : g.toNat < xs.length := by omega
  exact ⟨xs[g.toNat], List.getElem_mem h, List.getElem?_eq_getElem h, by omega⟩
theorem pick_map {α : Type} {f : α → V} {xs : List α} {g : Int} (h0 : 0 ≤ g) (h1 : g < xs.length) : ∃ x, x ∈ xs ∧ atI (xs.map f) g = some (f x) := by
  obtain ⟨x, m, e, eg⟩ := pick_in h0 h1
  refine ⟨x, m, ?_⟩
  rw [eg]
  exact atI_nat (by rw [List.getElem?_map, e]; rfl)
theorem gt_leaf {ks : List (Int × Int)} {W D : Nat} {t : Tr} (g : gdT t) (f : ∀ x, fv x t → x ∈ ks.map Prod.fst) (w : wT t = 3) (d : depT t = 1) (hW : 3 ≤ W) (hD : 1 ≤ D) : GT ks W D t := ⟨g, f, by omega, by omega⟩
theorem wb4 : ∀ {m : Nat}, m ≤ 4 → Wb m ≤ 2741
  | 0, _ => by decide
  | 1, _ => by decide
  | 2, _ => by decide
  | 3, _ => by decide
  | 4, _ => by decide
theorem Wb_ge : ∀ m, 3 ≤ Wb m
  | 0 => by decide
  | 1 => by decide
  | 2 => by decide
  | 3 => by decide
  | 4 => by decide
  | 5 => by decide
  | _ + 6 => by show 3 ≤ 98753; omega
theorem valV_ws {ps : List (Str × Int)} {x : Str} (h : x ∈ ps.map Prod.fst) : ∃ i : Int, valV (ps.map fun p => ((Sum.inr p.1 : Key), V.int p.2)) (.inr x) = some (.int i) ∧ (x, i) ∈ ps := by
  induction ps with
  | nil => cases h
  | cons p r ih =>
    by_cases c : p.1 = x
    · exact ⟨p.2, by rw [List.map_cons]; exact valV_pos (by rw [c]), by rw [← c]; exact List.mem_cons_self⟩
    · rw [List.map_cons] at h
      obtain ⟨i, hi, hm⟩ := ih ((List.mem_cons.mp h).resolve_left fun z => c z.symm)
      exact ⟨i, by rw [List.map_cons, valV_neg (fun z => c (Sum.inr.inj z))]; exact hi, List.mem_cons_of_mem _ hm⟩
theorem sl1 : 1 ≤ sizeLine := by decide
theorem sl2 : 2 ≤ sizeLine := by decide
theorem sl3 : 3 ≤ sizeLine := by decide
theorem sl4 : 4 ≤ sizeLine := by decide
abbrev sFnc : Stmt := top 23
abbrev NFn : List Str := ["state", "known", "world", "room", "arity", "pick", "names", "globals_there", "numbers", "inner", "name", "number"]
section
variable {P : Program} {w : World} {K : PySem.W.Frag} {mg : Str → Option Value} {base : Heap}
theorem scFnc : FnScope NFn ["state", "known", "world", "room", "arity"] (defScope sFnc) := ⟨rfl, rfl, rfl, by decide +kernel, rfl, by decide +kernel, by decide +kernel⟩
theorem ok_fnc {f fT fL fN fP : Addr} {fd dT dL dN dP : FuncData} {k m : Nat} (hk3 : 3 ≤ k) (F : Fun K "_law_function" "_law_function" sFnc f fd) (B : Blt mg) (BS : mg "sorted" = none) (GT : Cal P w K mg base CX0 2 "_law_take" ["state", "limit"] spTake fT dT) (GL : Cal P w K mg base CX0 1 "_law_locals" ["known", "sort"] spLoc fL dL)
    (GN : Cal P w K mg base CX0 3 "_law_numbers" ["state", "count"] spNus fN dN) (GP : Cal P w K mg base CX0 k "_law_part" ["state", "known", "world", "room"] (spPrt m) fP dP) : FnOk P w K mg base CX0 (k + 1) f fd ["state", "known", "world", "room", "arity"] (spFun (m + 1)) := by
  refine F.ok scFnc (fun vs H Q E h => ?_) (fun cdv A outer s H vs Q E hr h => ?_)
  · obtain ⟨S, L, kv, wd, ks, r, c, rfl, _⟩ := h
    rfl
  obtain ⟨S, L, kv, wd, ks, r, c, rfl, hl, kn, wr, rm, ⟨c5, m5⟩, kl, q⟩ := h
  have nd := scFnc.nd
  have hu := hu_of hr
  have r1 : Room 1 _ := hr.mono (show 1 ≤ k by omega)
  have r2 : Room 2 _ := hr.mono (show 2 ≤ k by omega)
  have r3 : Room 3 _ := hr.mono hk3
  refine ⟨_, (pss_cons (ps_set (i := 5) nd rfl (Or.inl rfl) (pe_call GT.ok r2 rfl GT.g GT.k GT.b .nil pass0 (pa_cons (pv 0) (pa_cons pe_int pa_nil))))
    (pss_cons (ps_set (i := 6) nd rfl (Or.inl rfl) (pe_call GL.ok r1 rfl GL.g GL.k GL.b .nil pass0 (pa_cons (pv 1) (pa_cons (pv 4) pa_nil))))
    (C8.pss_cut (ps_if (PW.pt (pw_and (pt_cmpR op_lt (pv 5) pe_int (nomark _)) (pw_and1 (pt_cmpR (op_neD hr.units) (pv 6) (pe_lst pa_nil) (nomark _))))) (pss_one (ps_ret (pe_tup (pa_cons pe_str (pa_cons (pe_ix (r := rIxL K) ix_list (pv 6) (pe_call GT.ok r2 rfl GT.g GT.k GT.b .nil pass0 (pa_cons (pv 0) (pa_cons (pe_callB call_len_seq (by rfl) B.len PySem.boot_len (pa_cons (pv 6) pa_nil)) pa_nil))) (fun _ _ => rfl)) pa_nil))))) pss_nil)
    (pss_cons (ps_setLc (i := 7) (own := [("name", 10)]) (g := gName 10) rfl nd rfl rfl (sw_true rfl rfl rfl (by decide +kernel)) (pi_list (pe_callB (call_sortedD rfl) (by rfl) BS (by decide +kernel) (pa_cons (pv 2) pa_nil))) (blkOk_by (N := NFn) (sc := defScope sFnc) (by decide +kernel)) (fun _ _ _ _ _ => (pg_name (i := 10) nd rfl (Or.inl rfl) (hf := Or.inr rfl))) (fun _ _ _ _ _ => pts_one (pt_cmpR op_eq (pe_dget hu (pv 2) (pv 10) (fun _ _ => rfl)) (pv 4) (nomark _))) (fun _ _ _ _ _ => (pv 10)))
    (C8.pss_cut (ps_if (PW.pt (pw_and (pt_cmpR op_eq (pv 5) pe_int (nomark _)) (pw_and1 (pt_cmpR (op_neD hr.units) (pv 7) (pe_lst pa_nil) (nomark _))))) (pss_one (ps_ret (pe_op op_catT (pe_tup (pa_cons pe_str pa_nil)) (pe_callTy call_tuple_of (by rfl) B.tuple (by decide +kernel) (pa_cons (pe_split (pe_ix (r := rIxL K) ix_list (pv 7) (pe_call GT.ok r2 rfl GT.g GT.k GT.b .nil pass0 (pa_cons (pv 0) (pa_cons (pe_callB call_len_seq (by rfl) B.len PySem.boot_len (pa_cons (pv 7) pa_nil)) pa_nil))) (fun _ _ => rfl)) pe_str) pa_nil))))) pss_nil)
    (C8.pss_cut (ps_if (PW.pt (pw_and (pt_cmpR op_eq (pv 4) pe_int (nomark _)) (pw_and1 (pt_cmpR op_eq (pv 5) pe_int (nomark _))))) (pss_one (ps_ret (pe_tup (pa_cons pe_str (pa_cons (pe_ix (r := rIxL K) ix_list (pe_lst (pa_cons pe_str (pa_cons pe_str (pa_cons pe_str (pa_cons pe_str (pa_cons pe_str pa_nil)))))) (pe_call GT.ok r2 rfl GT.g GT.k GT.b .nil pass0 (pa_cons (pv 0) (pa_cons pe_int pa_nil))) (fun _ _ => rfl)) pa_nil))))) pss_nil)
    (pss_cons (ps_set (i := 8) nd rfl (Or.inl rfl) (pe_call GN.ok r3 rfl GN.g GN.k GN.b .nil pass0 (pa_cons (pv 0) (pa_cons (pv 4) pa_nil))))
    (pss_cons (ps_set (i := 9) nd rfl (Or.inl rfl) (pe_op op_cat (pv 1) (pe_lc (own := [("number", 11)]) (g := gName 11) (tt := tYes) rfl nd (pi_list (pv 8)) (blkOk_by (N := NFn) (sc := defScope sFnc) (by decide +kernel)) (fun _ _ _ _ _ => (pg_name (i := 11) nd rfl (Or.inl rfl) (hf := Or.inr rfl))) (fun _ _ _ _ _ => pts_nil) (fun _ _ _ _ _ => (pe_tup (pa_cons (pv 11) (pa_cons (pe_un un_neg pe_int) pa_nil)))))))
    (pss_one (ps_ret (pe_tup (pa_cons pe_str (pa_cons (pe_callTy call_tuple_of (by rfl) B.tuple (by decide +kernel) (pa_cons (pv 8) pa_nil)) (pa_cons (pe_call GP.ok hr rfl GP.g GP.k GP.b .nil pass0 (pa_cons (pv 0) (pa_cons (pv 9) (pa_cons (pv 2) (pa_cons (pe_op op_sub (pv 3) pe_int) pa_nil))))) pa_nil)))))))))))))), ?_⟩
  refine ⟨_, rfl, S, L, 4, rfl, hl, by decide, nbs (by decide), fun g1 H1 a1 b1 l1 s1 => ?_⟩
  have f1 := frTwo s1 hl
  obtain ⟨⟨ka, us, ekv, hka, kal, kna⟩, knm⟩ := kn.fr f1
  subst ekv
  refine ⟨_, rfl, _, rfl, ka, us, ks, c, rfl, hka, kal, by omega, fun p ns H2 f2 hp0 hp mem ln => ?_⟩
  have l2 := l1.sm f2.sm
  have f02 := f1.trans f2.no
  have W3 := Wb_ge m
  have F3 : 3 ≤ Fb (m + 1) := by unfold Fb; omega
  refine ⟨fun σ H' => ∃ v6, σ = [some (.ref S), some (.ref ka), some wd, some (.int r), some (.int (c : Nat)), some (.int g1), v6, none, none, none, none, none] ∧ LS H' S L ∧ Fr (Two S L) H H', ?_, ?_⟩
  · refine ⟨_, rfl, _, _, rfl, rfl, _, rfl, ?_⟩
    refine ite2 (fun _ => ?_) (fun _ => ⟨_, rfl, l2, f02⟩)
    refine ⟨_, rfl, by show 0 ≤ sizeLine; decide, fun z hz => ?_⟩
    have fz : Fr No H2 (upd H2 z (.lst [])) := Fr.new hz
    have hp3 := fz.keep (fun z => z) rfl hp
    have l3 := l2.sm fz.sm
    refine ⟨.list (ns.map PyData.int), .list [], .lst (SqL.of hp3) (dp_is ns), .lst (SqL.of upd_same) .nil, shaped_is, shaped_n0, _, rfl, ?_⟩
    rw [eqv_is]
    refine ite2 (fun e => ?_) (fun _ => ⟨_, rfl, l3, f02.trans fz.no⟩)
    have ne : 0 < ns.length := by
      cases ns with
      | nil => cases e
      | cons a b => exact Nat.succ_pos _
    refine ⟨_, rfl, _, rfl, _, rfl, p, _, rfl, .inl (SqL.of hp3), S, L, _, rfl, l3, by rw [List.length_map]; omega, nbs (by rw [List.length_map]; omega), fun g2 H4 a2 b2 l4 s4 => ?_⟩
    rw [List.length_map] at b2
    have f4 := frTwo s4 l3
    have hp4 := f4.keep (l1.two hp0) rfl hp3
    obtain ⟨x, xm, ex⟩ := pick_map (f := V.int) a2 b2
    refine ⟨p, _, g2, .int x, rfl, rfl, SqL.of hp4, ex, sl2, fun t ht => ?_⟩
    have ft : Fr No H4 (upd H4 t (.tup [.str "local", .int x])) := Fr.new ht
    exact q _ (.loc x) _ (l4.sm ft.sm) ((f02.trans fz.no).trans (f4.trans ft.no)) (.loc upd_same) (gt_leaf trivial (fun y e => by cases e; exact mem x xm) rfl rfl F3 (by omega))
  rintro σ H3 ⟨v6, rfl, l3, f03⟩
  -- the definitions with as many parameters
  have wr3 := wr.fr hl f03
  obtain ⟨wa, ps, ewd, hwa, lps, wps⟩ := wr3
  subst ewd
  refine ⟨_, rfl, wa, _, ps.map Prod.fst, rfl, .inl hwa, by rw [List.map_map, List.map_map]; rfl, by rw [List.length_map]; omega, fun ys y1 perm srt hy1 => ?_⟩
  have fy : Fr No H3 (upd H3 y1 (.lst (ys.map V.str))) := Fr.new hy1
  have ey1 : upd H3 y1 (.lst (ys.map V.str)) y1 = some (.lst (ys.map V.str)) := upd_same
  have hwa4 := fy.keep (fun z => z) rfl hwa
  have l4 := l3.sm fy.sm
  generalize upd H3 y1 (.lst (ys.map V.str)) = H4 at fy ey1 hwa4 l4 ⊢
  have ylen : ys.length = ps.length := by rw [perm.length_eq, List.length_map]
  have yin : ∀ y ∈ ys, y ∈ ps.map Prod.fst := fun y m => perm.mem_iff.mp m
  refine ⟨y1, rfl, ⟨_, SqL.of ey1⟩, fun D hD => ?_⟩
  refine lc_list (xs := ys.map V.str) (fun i H' => ∃ zs : List Str, H' D = some (.lst (zs.map V.str)) ∧ (∀ z ∈ zs, z ∈ wdNames) ∧ zs.length ≤ i ∧ Fr No H4 H') ⟨[], upd_same, (fun _ m => by cases m), Nat.le_refl _, Fr.new hD⟩ (fun i H' _ ⟨_, _, _, _, z⟩ => SqL.of (z.keep (fun z => z) rfl ey1)) ?_ ?_
  · rintro i v H' hi ⟨zs, h1, h2, h3, f⟩
    rw [List.getElem?_map] at hi
    obtain ⟨y, hy, rfl⟩ := Option.map_eq_some_iff.mp hi
    have ym := yin y (List.mem_of_getElem? hy)
    have il : i < ys.length := (List.getElem?_eq_some_iff.mp hy).1
    obtain ⟨j, hj, _⟩ := valV_ws ym
    refine ⟨rfl, _, rfl, _, rfl, wa, .int j, rfl, ?_, ?_⟩
    · have := DGet.k (k := Sum.inr y) (f.keep (fun z => z) rfl hwa4)
      rw [hj] at this
      exact this
    refine ⟨_, rfl, rfl, _, rfl, ?_⟩
    refine ite2 (fun _ => ?_) (fun _ => ⟨zs, h1, h2, by omega, f⟩)
    refine ⟨_, rfl, _, h1, Nat.lt_of_le_of_lt (show _ ≤ 1000000 by rw [List.length_map]; omega) (by decide), zs ++ [y], by rw [upd_same, List.map_append]; rfl, fun z m => ?_, by rw [List.length_append]; exact Nat.succ_le_succ h3, f.mut hD h1 rfl⟩
    rcases List.mem_append.mp m with m | m
    · exact h2 z m
    · rw [List.mem_singleton.mp m]
      obtain ⟨pp, pm, e⟩ := List.mem_map.mp ym
      rw [← e]
      exact wps pp pm
  rintro H5 ⟨zs, h1, h2, h3, f45⟩
  rw [List.length_map] at h3
  have f35 := fy.trans f45
  have l5 := l3.sm f35.sm
  have f05 := f03.trans f35.no
  have nD : ¬ Two S L D := l4.two hD
  refine ⟨fun σ H' => ∃ v6 v7, σ = [some (.ref S), some (.ref ka), some (.ref wa), some (.int r), some (.int (c : Nat)), some (.int g1), v6, v7, none, none, none, none] ∧ LS H' S L ∧ Fr (Two S L) H H', ?_, ?_⟩
  · refine ⟨_, rfl, rfl, _, rfl, ?_⟩
    refine ite2 (fun _ => ?_) (fun _ => ⟨_, _, rfl, l5, f05⟩)
    refine ⟨_, rfl, by show 0 ≤ sizeLine; decide, fun z hz => ?_⟩
    have fz : Fr No H5 (upd H5 z (.lst [])) := Fr.new hz
    have hp3 := fz.keep (fun z => z) rfl h1
    have l6 := l5.sm fz.sm
    refine ⟨.list (zs.map PyData.str), .list [], .lst (SqL.of hp3) (dp_ss zs), .lst (SqL.of upd_same) .nil, shaped_ss (fun x m => (wd_ok (h2 x m)).1), shaped_n0, _, rfl, ?_⟩
    rw [eqv_ss]
    refine ite2 (fun e => ?_) (fun _ => ⟨_, _, rfl, l6, f05.trans fz.no⟩)
    have ne : 0 < zs.length := by
      cases zs with
      | nil => cases e
      | cons a b => exact Nat.succ_pos _
    refine ⟨sl1, fun t1 ht1 => ?_⟩
    have ft1 : Fr No (upd H5 z (.lst [])) (upd (upd H5 z (.lst [])) t1 (.tup [.str "global"])) := Fr.new ht1
    have et1 : upd (upd H5 z (.lst [])) t1 (.tup [.str "global"]) t1 = some (.tup [.str "global"]) := upd_same
    have l7 := l6.sm ft1.sm
    have hp4 := ft1.keep (fun z => z) rfl hp3
    have f07 := (f05.trans fz.no).trans ft1.no
    generalize upd (upd H5 z (.lst [])) t1 (.tup [.str "global"]) = H7 at ft1 et1 l7 hp4 f07 ⊢
    refine ⟨_, rfl, _, rfl, _, rfl, D, _, rfl, .inl (SqL.of hp4), S, L, _, rfl, l7, by rw [List.length_map]; omega, nbs (by rw [List.length_map]; omega), fun g2 H8 a2 b2 l8 s8 => ?_⟩
    rw [List.length_map] at b2
    have f8 := frTwo s8 l7
    have hp5 := f8.keep nD rfl hp4
    obtain ⟨x, xm, ex⟩ := pick_map (f := V.str) a2 b2
    obtain ⟨_, mm, yy, esp, hm, hy, hx10⟩ := wd_ok (h2 x xm)
    refine ⟨D, _, g2, .str x, rfl, rfl, SqL.of hp5, ex, ⟨_, rfl⟩, x, " ", rfl, rfl, rfl, Nat.le_trans (Nat.add_le_add_right hx10 2) (by decide), fun l hl0 => ?_⟩
    rw [esp]
    have fl : Fr No H8 (upd H8 l (.lst ([mm, yy].map V.str))) := Fr.new hl0
    refine ⟨l, [.str mm, .str yy], rfl, .inl ⟨SqL.of upd_same, fun l2 hl2 => ?_⟩⟩
    have fl2 : Fr No (upd H8 l (.lst ([mm, yy].map V.str))) (upd (upd H8 l (.lst ([mm, yy].map V.str))) l2 (.tup [.str mm, .str yy])) := Fr.new hl2
    have et3 := (f8.trans (fl.trans fl2).no).tup _ _ et1
    refine ⟨t1, l2, _, _, rfl, rfl, SqT.of et3, SqT.of upd_same, by simp, by show 3 ≤ sizeLine; decide, (fun z => by cases z), fun _ u hu0 => ?_⟩
    have fu : Fr No _ (upd (upd (upd H8 l (.lst ([mm, yy].map V.str))) l2 (.tup [.str mm, .str yy])) u (.tup ([.str "global"] ++ [.str mm, .str yy]))) := Fr.new hu0
    exact q _ (.glob mm yy) _ (l8.sm (fl.trans (fl2.trans fu)).sm) (f07.trans (f8.trans (fl.trans (fl2.trans fu)).no)) (.glob upd_same) (gt_leaf ⟨hm, hy⟩ (fun y e => e.elim) rfl rfl F3 (by omega))
  rintro σ H6 ⟨v6, v7, rfl, l6, f06⟩
  refine ⟨fun σ H' => ∃ v6 v7, σ = [some (.ref S), some (.ref ka), some (.ref wa), some (.int r), some (.int (c : Nat)), some (.int g1), v6, v7, none, none, none, none] ∧ LS H' S L ∧ Fr (Two S L) H H', ?_, ?_⟩
  · refine ⟨_, rfl, rfl, _, rfl, ?_⟩
    refine ite2 (fun _ => ?_) (fun _ => ⟨_, _, rfl, l6, f06⟩)
    refine ⟨_, rfl, rfl, _, rfl, ?_⟩
    refine ite2 (fun _ => ?_) (fun _ => ⟨_, _, rfl, l6, f06⟩)
    refine ⟨by show 5 ≤ sizeLine; decide, fun z hz => ?_⟩
    have fz : Fr No H6 (upd H6 z (.lst (ops5.map V.str))) := Fr.new hz
    have l7 := l6.sm fz.sm
    refine ⟨_, rfl, S, L, 5, rfl, l7, by decide, nbs (by decide), fun g2 H8 a2 b2 l8 s8 => ?_⟩
    have f8 := frTwo s8 l7
    have hz8 := f8.keep (l6.two hz) rfl (show upd H6 z (.lst (ops5.map V.str)) z = some _ from upd_same)
    obtain ⟨x, xm, ex⟩ := pick_map (f := V.str) (xs := ops5) a2 b2
    refine ⟨z, _, g2, .str x, rfl, rfl, SqL.of hz8, ex, sl2, fun t ht => ?_⟩
    have ft : Fr No H8 (upd H8 t (.tup [.str "prim", .str x])) := Fr.new ht
    refine q _ (.prim x) _ (l8.sm ft.sm) (f06.trans (fz.no.trans (f8.trans ft.no))) (.prim upd_same) (gt_leaf ?_ (fun y e => e.elim) rfl rfl F3 (by omega))
    simp only [ops5, List.mem_cons, List.not_mem_nil, or_false] at xm
    show x ∈ prims8
    rcases xm with e | e | e | e | e <;> subst e <;> decide
  rintro σ H7 ⟨v6', v7', rfl, l7, f07⟩
  -- a new function
  refine ⟨_, rfl, _, rfl, S, L, c, rfl, l7, by omega, fun D2 ns2 H8 l8 f8 hD20 hD2 ln2 hn2 nD2 => ?_⟩
  have f08 := f07.trans f8
  obtain ⟨⟨ka2, us2, ek2, hka2, kal2, kna2⟩, knm2⟩ := kn.fr f08
  cases ek2
  refine ⟨_, rfl, _, rfl, D2, rfl, ⟨_, SqL.of hD2⟩, fun E2 hE2 => ?_⟩
  refine lc_list (xs := ns2.map V.int) (fun i H' => ∃ ws, H' E2 = some (.lst ws) ∧ Als (RK H') ws ((ns2.map fun n => (n, (-1 : Int))).take i) ∧ ws.length = i ∧ Fr No H8 H') ⟨[], upd_same, by rw [List.take_zero]; exact .nil, rfl, Fr.new hE2⟩ (fun i H' _ ⟨_, _, _, _, z⟩ => SqL.of (z.keep (fun z => z) rfl hD2)) ?_ ?_
  · rintro i v H' hi ⟨ws, h1, h2, h3, f⟩
    rw [List.getElem?_map] at hi
    obtain ⟨n, hn, rfl⟩ := Option.map_eq_some_iff.mp hi
    have il : i < ns2.length := (List.getElem?_eq_some_iff.mp hn).1
    refine ⟨rfl, _, rfl, _, rfl, sl2, fun t ht => ?_⟩
    have ft : Fr No H' (upd H' t (.tup [.int n, .int (-1)])) := Fr.new ht
    have h11 := ft.keep (fun z => z) rfl h1
    have fm : Fr (fun b => b = E2) _ (upd (upd H' t (.tup [.int n, .int (-1)])) E2 (.lst (ws ++ [V.ref t]))) := Fr.set rfl h11 rfl
    refine ⟨ws, h11, Nat.lt_of_le_of_lt (show ws.length ≤ 1000000 by omega) (by decide), ws ++ [.ref t], upd_same, ?_, by simp [h3], (f.trans ft).mut hE2 h11 rfl⟩
    have hd2 : (ns2.map fun n => (n, (-1 : Int)))[i]? = some (n, -1) := by rw [List.getElem?_map, hn]; rfl
    rw [take_more hd2]
    exact (h2.mono fun _ _ z => z.keep (ft.tup.trans fm.tup)).app (.one ⟨t, rfl, fm.tup _ _ upd_same⟩)
  rintro H9 ⟨ws, h1, h2, h3, f9⟩
  rw [show (ns2.map V.int).length = (ns2.map fun n => (n, (-1 : Int))).length by rw [List.length_map, List.length_map], List.take_length] at h2
  have lks : us2.length = ks.length := kal2.len
  rw [List.length_map] at h3
  have hka9 := f9.keep (fun z => z) rfl hka2
  refine ⟨ka, E2, us2, ws, rfl, rfl, hka9, h1, Nat.le_trans (show us2.length + ws.length ≤ 1000 by omega) (by decide), fun I hI => ?_⟩
  have fI : Fr No H9 (upd H9 I (.lst (us2 ++ ws))) := Fr.new hI
  have f89 := f9.trans fI
  have l9 := l8.sm f9.sm
  have kI : KnR S L (upd H9 I (.lst (us2 ++ ws))) (.ref I) (ks ++ ns2.map fun n => (n, -1)) := by
    refine ⟨⟨I, _, rfl, upd_same, (kal2.mono fun _ _ z => z.keep f89.tup).app (h2.mono fun _ _ z => z.keep fI.tup), l9.two hI⟩, fun p hp => ?_⟩
    rcases List.mem_append.mp hp with hp | hp
    · exact knm p hp
    · obtain ⟨n, hn, rfl⟩ := List.mem_map.mp hp
      exact hn2 n hn
  have hD29 := f89.keep (fun z => z) rfl hD2
  have l10 := l9.sm fI.sm
  have f010 := f08.trans f89.no
  have wr10 := wr.fr hl f010
  generalize upd H9 I (.lst (us2 ++ ws)) = H10 at fI f89 kI hD29 l10 f010 wr10 ⊢
  refine ⟨_, rfl, D2, _, rfl, .inl ⟨SqL.of hD29, fun T1 hT1 => ?_⟩⟩
  have fT : Fr No H10 (upd H10 T1 (.tup (ns2.map V.int))) := Fr.new hT1
  have eT : upd H10 T1 (.tup (ns2.map V.int)) T1 = some (.tup (ns2.map V.int)) := upd_same
  have l11 := l10.sm fT.sm
  refine ⟨_, rfl, _, rfl, _, rfl, _, rfl, _, _, rfl, rfl, S, L, .ref I, .ref wa, _, r - 1, rfl, l11, kI.fr fT.no, wr10.fr l10 fT.no, by omega, by rw [List.length_append, List.length_map]; omega, fun u t H12 l12 f12 rt gt => ⟨sl3, fun y hy => ?_⟩⟩
  have fy : Fr No H12 (upd H12 y (.tup [.str "fn", .ref T1, u])) := Fr.new hy
  refine q _ (.fn ns2 t) _ (l12.sm fy.sm) (f010.trans (fT.no.trans (f12.trans fy.no))) (.fn upd_same (fy.tup _ _ (f12.tup _ _ eT)) (rt.keep fy.tup)) ?_
  refine ⟨⟨by omega, hn2, Nat.le_trans gt.w (wb4 (by omega)), gt.g⟩, fun x hx => ?_, ?_, ?_⟩
  · obtain ⟨x1, x2⟩ : fv x t ∧ x ∉ ns2 := hx
    have := gt.f x x1
    rw [List.map_append, List.map_map] at this
    rcases List.mem_append.mp this with m1 | m1
    · exact m1
    · obtain ⟨n, hn, e⟩ := List.mem_map.mp m1
      exact absurd (by rw [← e]; exact hn) x2
  · have := gt.w
    show 4 + ns2.length + wT t ≤ 9 + Wb m
    omega
  · have := gt.d
    show 1 + depT t ≤ 2 * (m + 1)
    omega
end
end My
namespace My
open PySem PySem.Spec PyProof.Rows L2 TL
/-! ### _law_strange -/
def str4 : List Str := ["+", "<", "pair", "first"]
def str3 : List Str := ["first", "second", "first"]
def str3b : List Str := ["+", "=", "*"]
abbrev sStr : Stmt := top 24
abbrev NSt : List Str := ["state", "known", "world", "room", "pick", "one"]
def spStr (m : Nat) : Sp := fun vs H Q _ => ∃ (S L : Addr) (kv wd : V) (ks : List (Int × Int)) (r : Int), vs = [.ref S, kv, wd, .int r] ∧ LS H S L ∧ KnR S L H kv ks ∧ WdR H wd ∧ r ≤ (m : Int) + 1 ∧ ks.length + 6 * m ≤ 100 ∧ ∀ u t H', LS H' S L → Fr (Two S L) H H' → RT H' u t → GT ks (Wb (m + 1)) (1 + 2 * (m + 1)) t → Q u H'
theorem six_of {m : Nat} (h1 : 1 ≤ m) (h5 : m ≤ 5) {p : Nat → Prop} (a : p 1) (b : p 2) (c : p 3) (d : p 4) (e : p 5) : p m := by
  have : m = 1 ∨ m = 2 ∨ m = 3 ∨ m = 4 ∨ m = 5 := by omega
  rcases this with z | z | z | z | z <;> subst z <;> assumption
theorem wb_str {m : Nat} (h1 : 1 ≤ m) (h5 : m ≤ 5) : Fb m + 30 ≤ Wb (m + 1) := six_of (p := fun m => Fb m + 30 ≤ Wb (m + 1)) h1 h5 (by decide) (by decide) (by decide) (by decide) (by decide)
theorem wT_call {f : Tr} {ts : List Tr} : wT (.call f ts) = 2 + wT f + wTs ts := by conv => lhs; unfold wT
theorem depT_call {f : Tr} {ts : List Tr} : depT (.call f ts) = 1 + max (depT f) (depTs ts) := by conv => lhs; unfold depT
section
variable {P : Program} {w : World} {K : PySem.W.Frag} {mg : Str → Option Value} {base : Heap}
theorem scStr : FnScope NSt ["state", "known", "world", "room"] (defScope sStr) := ⟨rfl, rfl, rfl, by decide +kernel, rfl, by decide +kernel, by decide +kernel⟩
theorem ok_str {f fT fS fF : Addr} {fd dT dS dF : FuncData} {k m : Nat} (hk3 : 3 ≤ k) (m1 : 1 ≤ m) (m5 : m ≤ 5) (F : Fun K "_law_strange" "_law_strange" sStr f fd) (GT_ : Cal P w K mg base CX0 2 "_law_take" ["state", "limit"] spTake fT dT) (GS : Cal P w K mg base CX0 3 "_law_small" ["state"] spSml fS dS)
    (GF : Cal P w K mg base CX0 k "_law_function" ["state", "known", "world", "room", "arity"] (spFun m) fF dF) : FnOk P w K mg base CX0 (k + 1) f fd ["state", "known", "world", "room"] (spStr m) := by
  refine F.ok scStr (fun vs H Q E h => ?_) (fun cdv A outer s H vs Q E hr h => ?_)
  · obtain ⟨S, L, kv, wd, ks, r, rfl, _⟩ := h
    rfl
  obtain ⟨S, L, kv, wd, ks, r, rfl, hl, kn, wr, rm, kl, q⟩ := h
  have nd := scStr.nd
  have r2 : Room 2 _ := hr.mono (show 2 ≤ k by omega)
  have r3 : Room 3 _ := hr.mono hk3
  refine ⟨_, (pss_cons (ps_set (i := 4) nd rfl (Or.inl rfl) (pe_call GT_.ok r2 rfl GT_.g GT_.k GT_.b .nil pass0 (pa_cons (pv 0) (pa_cons pe_int pa_nil))))
    (pss_cons (ps_set (i := 5) nd rfl (Or.inl rfl) (pe_call GS.ok r3 rfl GS.g GS.k GS.b .nil pass0 (pa_cons (pv 0) pa_nil)))
    (pss_cons (ps_if (pt_cmpR op_eq (pv 4) pe_int (nomark _)) (pss_one (ps_ret (pe_tup (pa_cons pe_str (pa_cons (pv 5) (pa_cons (pe_tup (pa_cons (pv 5) pa_nil)) pa_nil)))))) pss_nil)
    (pss_cons (ps_if (pt_cmpR op_eq (pv 4) pe_int (nomark _)) (pss_one (ps_ret (pe_tup (pa_cons pe_str (pa_cons (pe_call GF.ok hr rfl GF.g GF.k GF.b .nil pass0 (pa_cons (pv 0) (pa_cons (pv 1) (pa_cons (pv 2) (pa_cons (pe_op op_sub (pv 3) pe_int) (pa_cons pe_int pa_nil)))))) (pa_cons (pe_ix (r := rIxL K) ix_list (pe_lst (pa_cons (pe_tup pa_nil) (pa_cons (pe_tup (pa_cons (pv 5) (pa_cons (pv 5) pa_nil))) pa_nil))) (pe_call GT_.ok r2 rfl GT_.g GT_.k GT_.b .nil pass0 (pa_cons (pv 0) (pa_cons pe_int pa_nil))) (fun _ _ => rfl)) pa_nil)))))) pss_nil)
    (pss_cons (ps_if (pt_cmpR op_eq (pv 4) pe_int (nomark _)) (pss_one (ps_ret (pe_tup (pa_cons pe_str (pa_cons (pe_tup (pa_cons pe_str (pa_cons (pe_ix (r := rIxL K) ix_list (pe_lst (pa_cons pe_str (pa_cons pe_str (pa_cons pe_str (pa_cons pe_str pa_nil))))) (pe_call GT_.ok r2 rfl GT_.g GT_.k GT_.b .nil pass0 (pa_cons (pv 0) (pa_cons pe_int pa_nil))) (fun _ _ => rfl)) pa_nil))) (pa_cons (pe_tup (pa_cons (pv 5) (pa_cons (pv 5) (pa_cons (pv 5) pa_nil)))) pa_nil)))))) pss_nil)
    (pss_cons (ps_if (pt_cmpR op_eq (pv 4) pe_int (nomark _)) (pss_one (ps_ret (pe_tup (pa_cons pe_str (pa_cons (pe_tup (pa_cons pe_str (pa_cons (pe_ix (r := rIxL K) ix_list (pe_lst (pa_cons pe_str (pa_cons pe_str (pa_cons pe_str pa_nil)))) (pe_call GT_.ok r2 rfl GT_.g GT_.k GT_.b .nil pass0 (pa_cons (pv 0) (pa_cons pe_int pa_nil))) (fun _ _ => rfl)) pa_nil))) (pa_cons (pe_tup (pa_cons (pv 5) pa_nil)) pa_nil)))))) pss_nil)
    (pss_cons (ps_if (pt_cmpR op_eq (pv 4) pe_int (nomark _)) (pss_one (ps_ret (pe_tup (pa_cons pe_str (pa_cons (pe_tup (pa_cons pe_str (pa_cons (pe_ix (r := rIxL K) ix_list (pe_lst (pa_cons pe_str (pa_cons pe_str (pa_cons pe_str pa_nil)))) (pe_call GT_.ok r2 rfl GT_.g GT_.k GT_.b .nil pass0 (pa_cons (pv 0) (pa_cons pe_int pa_nil))) (fun _ _ => rfl)) pa_nil))) (pa_cons (pe_tup (pa_cons (pv 5) (pa_cons (pe_tup (pa_cons pe_str (pa_cons pe_str pa_nil))) pa_nil))) pa_nil)))))) pss_nil)
    (pss_cons (ps_if (pt_cmpR op_eq (pv 4) pe_int (nomark _)) (pss_one (ps_ret (pe_tup (pa_cons pe_str (pa_cons (pe_ix (r := rIxL K) ix_list (pe_lst (pa_cons pe_str (pa_cons pe_str (pa_cons pe_str pa_nil)))) (pe_call GT_.ok r2 rfl GT_.g GT_.k GT_.b .nil pass0 (pa_cons (pv 0) (pa_cons pe_int pa_nil))) (fun _ _ => rfl)) (pa_cons (pe_ix (r := rIxL K) ix_list (pe_lst (pa_cons pe_str (pa_cons pe_str (pa_cons pe_str (pa_cons pe_str pa_nil))))) (pe_call GT_.ok r2 rfl GT_.g GT_.k GT_.b .nil pass0 (pa_cons (pv 0) (pa_cons pe_int pa_nil))) (fun _ _ => rfl)) pa_nil)))))) pss_nil)
    (pss_cons (ps_if (pt_cmpR op_eq (pv 4) pe_int (nomark _)) (pss_one (ps_ret (pe_tup (pa_cons pe_str (pa_cons (pe_call GF.ok hr rfl GF.g GF.k GF.b .nil pass0 (pa_cons (pv 0) (pa_cons (pv 1) (pa_cons (pv 2) (pa_cons (pe_op op_sub (pv 3) pe_int) (pa_cons pe_int pa_nil)))))) (pa_cons (pv 5) (pa_cons (pe_tup (pa_cons pe_str (pa_cons pe_int pa_nil))) pa_nil))))))) pss_nil)
    (pss_one (ps_ret (pe_tup (pa_cons pe_str (pa_cons (pe_tup (pa_cons pe_str (pa_cons pe_str pa_nil))) (pa_cons (pe_tup (pa_cons (pv 5) (pa_cons (pe_call GF.ok hr rfl GF.g GF.k GF.b .nil pass0 (pa_cons (pv 0) (pa_cons (pv 1) (pa_cons (pv 2) (pa_cons (pe_op op_sub (pv 3) pe_int) (pa_cons pe_int pa_nil)))))) pa_nil))) pa_nil))))))))))))))), ?_⟩
  have wb := wb_str m1 m5
  have fb : 9 ≤ Fb m := by unfold Fb; omega
  refine ⟨_, rfl, S, L, 8, rfl, hl, by decide, nbs (by decide), fun g1 H1 a1 b1 l1 s1 => ?_⟩
  have f1 := frTwo s1 hl
  refine ⟨_, rfl, S, L, rfl, l1, fun i o H2 bi l2 f2 ro => ?_⟩
  have f02 := f1.trans f2
  have kn2 := kn.fr f02
  have wr2 := wr.fr hl f02
  have go : gdT (.int i) := bi
  -- the call of _law_function, in any of the three places
  have fun_at : ∀ (H3 : Hp) (Q3 : VK), LS H3 S L → Fr (Two S L) H H3 → (∀ u t H', LS H' S L → Fr (Two S L) H3 H' → RT H' u t → GT ks (Fb m) (2 * m) t → Q3 u H') → spFun m [.ref S, kv, wd, .int (r - 1), .int 1] H3 Q3 E0 :=
    fun H3 Q3 l f q3 => ⟨S, L, kv, wd, ks, r - 1, 1, rfl, l, kn.fr f, wr.fr hl f, by omega, by omega, kl, q3⟩
  refine ⟨_, rfl, rfl, _, rfl, ?_⟩
  refine ite2 (fun _ => ?_) (fun _ => ?_)
  · refine ⟨_, rfl, _, rfl, sl1, fun t1 h1 => ⟨sl3, fun t2 h2 => ?_⟩⟩
    have g1 := Fr.new (X := No) (o := .tup [o]) h1
    have g2 := Fr.new (X := No) (o := .tup [V.str "call", o, .ref t1]) h2
    have g := g1.trans g2
    exact q _ (.call (.int i) [.int i]) _ (l2.sm g.sm) (f02.trans g.no) (.call upd_same (g2.tup _ _ upd_same) (ro.keep g.tup) (.cons (ro.keep g.tup) .nil))
      ⟨⟨by show 1 ≤ 5; omega, go, go, trivial⟩, fun x h => (by simp [fv, fvs] at h), by simp [wT, wTs]; omega, by simp [depT, depTs]; omega⟩
  refine ⟨_, rfl, rfl, _, rfl, ?_⟩
  refine ite2 (fun _ => ?_) (fun _ => ?_)
  · refine ⟨_, rfl, _, rfl, _, rfl, _, rfl, _, _, rfl, rfl, fun_at H2 _ l2 f02 fun u t H3 l3 f3 rt gt => ?_⟩
    refine ⟨by show 0 ≤ sizeLine; decide, fun e he => ⟨_, rfl, _, rfl, sl2, fun d hd => ⟨sl2, fun z hz => ?_⟩⟩⟩
    have g1 := Fr.new (X := No) (o := .tup []) he
    have g2 := Fr.new (X := No) (o := .tup [o, o]) hd
    have g3 := Fr.new (X := No) (o := .lst [V.ref e, .ref d]) hz
    have g13 := g1.trans (g2.trans g3)
    have l4 := l3.sm g13.sm
    refine ⟨_, rfl, S, L, 2, rfl, l4, by decide, nbs (by decide), fun gg H5 a5 b5 l5 s5 => ?_⟩
    have f5 := frTwo s5 l4
    have hz5 := f5.keep ((l3.sm (g1.trans g2).sm).two hz) rfl upd_same
    have e5 := f5.tup _ _ ((g2.trans g3).tup _ _ (show upd H3 e (.tup []) e = some (.tup []) from upd_same))
    have d5 := f5.tup _ _ (g3.tup _ _ (show upd (upd H3 e (.tup [])) d (.tup [o, o]) d = some (.tup [o, o]) from upd_same))
    have o5 := ((ro.keep f3.tup).keep g13.tup).keep f5.tup
    have pick : ∃ (b : Addr) (vs : List V) (ts : List Tr), atI [V.ref e, .ref d] gg = some (.ref b) ∧ H5 b = some (.tup vs) ∧ RTs H5 vs ts ∧ gdTs ts ∧ ts.length ≤ 2 ∧ (∀ x, ¬ fvs x ts) ∧ wTs ts ≤ 8 ∧ depTs ts ≤ 1 := by
      have c : gg = 0 ∨ gg = 1 := by omega
      rcases c with c | c <;> rw [c]
      · exact ⟨e, [], [], rfl, e5, .nil, trivial, by show 0 ≤ 2; omega, fun x h => h.elim, by show 0 ≤ 8; omega, by show 0 ≤ 1; omega⟩
      · exact ⟨d, [o, o], [.int i, .int i], rfl, d5, .cons o5 (.cons o5 .nil), ⟨go, go, trivial⟩, by show 2 ≤ 2; omega, fun x h => (by simp [fv, fvs] at h), by simp [wT, wTs], by simp [depT, depTs]⟩
    obtain ⟨b, vs, ts, ea, hb, rts, gts, l2', nf, wts, dts⟩ := pick
    refine ⟨z, _, gg, _, rfl, rfl, SqL.of hz5, ea, sl3, fun y hy => ?_⟩
    have g6 := Fr.new (X := No) (o := .tup [V.str "call", u, .ref b]) hy
    have ff : Fr (Two S L) H3 _ := (g13.no.trans f5).trans g6.no
    refine q _ (.call t ts) _ (l5.sm g6.sm) (f02.trans (f3.trans ff)) (.call upd_same (g6.tup _ _ hb) (rt.keep ff.tup) (rts.keep g6.tup)) ⟨⟨by omega, gt.g, gts⟩, fun x h => ?_, ?_, ?_⟩
    · rcases h with h | h
      · exact gt.f x h
      · exact (nf x h).elim
    · have := gt.w; rw [wT_call]; omega
    · have := gt.d; rw [depT_call]; omega
  refine ⟨_, rfl, rfl, _, rfl, ?_⟩
  refine ite2 (fun _ => ?_) (fun _ => ?_)
  · refine ⟨by show 4 ≤ sizeLine; decide, fun z hz => ?_⟩
    have fz : Fr No H2 (upd H2 z (.lst (str4.map V.str))) := Fr.new hz
    refine ⟨_, rfl, S, L, 4, rfl, l2.laid hz, by decide, nbs (by decide), fun gg H5 a5 b5 l5 s5 => ?_⟩
    have f5 := frTwo s5 (l2.laid hz)
    have hz5 := f5.keep (l2.two hz) rfl (show upd H2 z (.lst (str4.map V.str)) z = some _ from upd_same)
    obtain ⟨x, xm, ex⟩ := pick_map (f := V.str) (xs := str4) a5 b5
    refine ⟨z, _, gg, .str x, rfl, rfl, SqL.of hz5, ex, sl2, fun t1 h1 => ⟨_, rfl, _, rfl, _, rfl, sl3, fun t2 h2 => ⟨sl3, fun t3 h3 => ?_⟩⟩⟩
    have g1 := Fr.new (X := No) (o := .tup [V.str "prim", .str x]) h1
    have g2 := Fr.new (X := No) (o := .tup [o, o, o]) h2
    have g3 := Fr.new (X := No) (o := .tup [V.str "call", .ref t1, .ref t2]) h3
    have g23 := g2.trans g3
    have ff : Fr (Two S L) H2 _ := (fz.no.trans f5).trans (g1.trans g23).no
    have o6 := ro.keep ff.tup
    have xp : x ∈ prims8 := by
      simp only [str4, List.mem_cons, List.not_mem_nil, or_false] at xm
      rcases xm with e | e | e | e <;> subst e <;> decide
    exact q _ (.call (.prim x) [.int i, .int i, .int i]) _ (l5.sm (g1.trans g23).sm) (f02.trans ff) (.call upd_same (g3.tup _ _ upd_same) (.prim (g23.tup _ _ upd_same)) (.cons o6 (.cons o6 (.cons o6 .nil))))
      ⟨⟨by show 3 ≤ 5; omega, xp, go, go, go, trivial⟩, fun x h => (by simp [fv, fvs] at h), by simp [wT, wTs]; omega, by simp [depT, depTs]; omega⟩
  refine ⟨_, rfl, rfl, _, rfl, ?_⟩
  refine ite2 (fun _ => ?_) (fun _ => ?_)
  · refine ⟨by show 3 ≤ sizeLine; decide, fun z hz => ?_⟩
    have fz : Fr No H2 (upd H2 z (.lst (str3.map V.str))) := Fr.new hz
    refine ⟨_, rfl, S, L, 3, rfl, l2.laid hz, by decide, nbs (by decide), fun gg H5 a5 b5 l5 s5 => ?_⟩
    have f5 := frTwo s5 (l2.laid hz)
    have hz5 := f5.keep (l2.two hz) rfl (show upd H2 z (.lst (str3.map V.str)) z = some _ from upd_same)
    obtain ⟨x, xm, ex⟩ := pick_map (f := V.str) (xs := str3) a5 b5
    refine ⟨z, _, gg, .str x, rfl, rfl, SqL.of hz5, ex, sl2, fun t1 h1 => ⟨_, rfl, sl1, fun t2 h2 => ⟨sl3, fun t3 h3 => ?_⟩⟩⟩
    have g1 := Fr.new (X := No) (o := .tup [V.str "prim", .str x]) h1
    have g2 := Fr.new (X := No) (o := .tup [o]) h2
    have g3 := Fr.new (X := No) (o := .tup [V.str "call", .ref t1, .ref t2]) h3
    have g23 := g2.trans g3
    have ff : Fr (Two S L) H2 _ := (fz.no.trans f5).trans (g1.trans g23).no
    have o6 := ro.keep ff.tup
    have xp : x ∈ prims8 := by
      simp only [str3, List.mem_cons, List.not_mem_nil, or_false] at xm
      rcases xm with e | e | e <;> subst e <;> decide
    exact q _ (.call (.prim x) [.int i]) _ (l5.sm (g1.trans g23).sm) (f02.trans ff) (.call upd_same (g3.tup _ _ upd_same) (.prim (g23.tup _ _ upd_same)) (.cons o6 .nil))
      ⟨⟨by show 1 ≤ 5; omega, xp, go, trivial⟩, fun x h => (by simp [fv, fvs] at h), by simp [wT, wTs]; omega, by simp [depT, depTs]; omega⟩
  refine ⟨_, rfl, rfl, _, rfl, ?_⟩
  refine ite2 (fun _ => ?_) (fun _ => ?_)
  · refine ⟨by show 3 ≤ sizeLine; decide, fun z hz => ?_⟩
    have fz : Fr No H2 (upd H2 z (.lst (str3b.map V.str))) := Fr.new hz
    refine ⟨_, rfl, S, L, 3, rfl, l2.laid hz, by decide, nbs (by decide), fun gg H5 a5 b5 l5 s5 => ?_⟩
    have f5 := frTwo s5 (l2.laid hz)
    have hz5 := f5.keep (l2.two hz) rfl (show upd H2 z (.lst (str3b.map V.str)) z = some _ from upd_same)
    obtain ⟨x, xm, ex⟩ := pick_map (f := V.str) (xs := str3b) a5 b5
    refine ⟨z, _, gg, .str x, rfl, rfl, SqL.of hz5, ex, sl2, fun t1 h1 => ⟨_, rfl, sl2, fun t4 h4 => ⟨sl2, fun t2 h2 => ⟨sl3, fun t3 h3 => ?_⟩⟩⟩⟩
    have g1 := Fr.new (X := No) (o := .tup [V.str "prim", .str x]) h1
    have g4 := Fr.new (X := No) (o := .tup [V.str "prim", .str "+"]) h4
    have g2 := Fr.new (X := No) (o := .tup [o, .ref t4]) h2
    have g3 := Fr.new (X := No) (o := .tup [V.str "call", .ref t1, .ref t2]) h3
    have g23 := g2.trans g3
    have g423 := g4.trans g23
    have ff : Fr (Two S L) H2 _ := (fz.no.trans f5).trans (g1.trans g423).no
    have o6 := ro.keep ff.tup
    have xp : x ∈ prims8 := by
      simp only [str3b, List.mem_cons, List.not_mem_nil, or_false] at xm
      rcases xm with e | e | e <;> subst e <;> decide
    exact q _ (.call (.prim x) [.int i, .prim "+"]) _ (l5.sm (g1.trans g423).sm) (f02.trans ff) (.call upd_same (g3.tup _ _ upd_same) (.prim (g423.tup _ _ upd_same)) (.cons o6 (.cons (.prim (g23.tup _ _ upd_same)) .nil)))
      ⟨⟨by show 2 ≤ 5; omega, xp, go, (by show ("+" : Str) ∈ prims8; decide), trivial⟩, fun x h => (by simp [fv, fvs] at h), by simp [wT, wTs]; omega, by simp [depT, depTs]; omega⟩
  refine ⟨_, rfl, rfl, _, rfl, ?_⟩
  refine ite2 (fun _ => ?_) (fun _ => ?_)
  · refine ⟨by show 3 ≤ sizeLine; decide, fun z hz => ?_⟩
    have fz : Fr No H2 (upd H2 z (.lst (globM.map V.str))) := Fr.new hz
    refine ⟨_, rfl, S, L, 3, rfl, l2.laid hz, by decide, nbs (by decide), fun gg H5 a5 b5 l5 s5 => ?_⟩
    have f5 := frTwo s5 (l2.laid hz)
    have hz5 := f5.keep (l2.two hz) rfl (show upd H2 z (.lst (globM.map V.str)) z = some _ from upd_same)
    obtain ⟨x, xm, ex⟩ := pick_map (f := V.str) (xs := globM) a5 b5
    refine ⟨z, _, gg, .str x, rfl, rfl, SqL.of hz5, ex, by show 4 ≤ sizeLine; decide, fun z2 hz2 => ?_⟩
    have fz2 : Fr No H5 (upd H5 z2 (.lst (globX.map V.str))) := Fr.new hz2
    refine ⟨_, rfl, S, L, 4, rfl, l5.laid hz2, by decide, nbs (by decide), fun g6 H6 a6 b6 l6 s6 => ?_⟩
    have f6 := frTwo s6 (l5.laid hz2)
    have hz6 := f6.keep (l5.two hz2) rfl (show upd H5 z2 (.lst (globX.map V.str)) z2 = some _ from upd_same)
    obtain ⟨y, ym, ey⟩ := pick_map (f := V.str) (xs := globX) a6 b6
    refine ⟨z2, _, g6, .str y, rfl, rfl, SqL.of hz6, ey, sl3, fun t1 h1 => ?_⟩
    have g1 := Fr.new (X := No) (o := .tup [V.str "global", .str x, .str y]) h1
    exact q _ (.glob x y) _ (l6.sm g1.sm) (f02.trans ((fz.no.trans f5).trans ((fz2.no.trans f6).trans g1.no))) (.glob upd_same) (gt_leaf ⟨xm, ym⟩ (fun _ h => h.elim) rfl rfl (by omega) (by omega))
  refine ⟨_, rfl, rfl, _, rfl, ?_⟩
  refine ite2 (fun _ => ?_) (fun _ => ?_)
  · refine ⟨_, rfl, _, rfl, _, rfl, _, rfl, _, _, rfl, rfl, fun_at H2 _ l2 f02 fun u t H3 l3 f3 rt gt => ?_⟩
    refine ⟨_, rfl, sl2, fun t1 h1 => ⟨sl4, fun t2 h2 => ?_⟩⟩
    have g1 := Fr.new (X := No) (o := .tup [V.str "int", .int 9]) h1
    have g2 := Fr.new (X := No) (o := .tup [V.str "if", u, o, .ref t1]) h2
    have g := g1.trans g2
    refine q _ (.if_ t (.int i) (.int 9)) _ (l3.sm g.sm) (f02.trans (f3.trans g.no)) (.if_ upd_same (rt.keep g.tup) (ro.keep (f3.tup.trans g.tup)) (.int (g2.tup _ _ upd_same))) ⟨⟨gt.g, go, (by show (9 : Int).natAbs ≤ 10 ^ 40; decide +kernel)⟩, fun x h => ?_, ?_, ?_⟩
    · rcases h with h | h | h
      · exact gt.f x h
      · exact h.elim
      · exact h.elim
    · have := gt.w
      show 8 + wT t + 3 + 3 ≤ _
      omega
    · have := gt.d
      show 1 + max (depT t) (max 1 1) ≤ _
      omega
  refine ⟨sl2, fun t1 h1 => ?_⟩
  have g1 : Fr No H2 (upd H2 t1 (.tup [.str "prim", .str "pair"])) := Fr.new h1
  refine ⟨_, rfl, _, rfl, _, rfl, _, rfl, _, rfl, _, _, rfl, rfl, fun_at _ _ (l2.laid h1) (f02.trans g1.no) fun u t H3 l3 f3 rt gt => ?_⟩
  refine ⟨sl2, fun t2 h2 => ⟨sl3, fun t3 h3 => ?_⟩⟩
  have g2 := Fr.new (X := No) (o := .tup [o, u]) h2
  have g3 := Fr.new (X := No) (o := .tup [V.str "call", .ref t1, .ref t2]) h3
  have g := g2.trans g3
  have ff : Fr (Two S L) H2 _ := g1.no.trans (f3.trans g.no)
  refine q _ (.call (.prim "pair") [.int i, t]) _ (l3.sm g.sm) (f02.trans ff) (.call upd_same (g3.tup _ _ upd_same) (.prim (g.tup _ _ (f3.tup _ _ upd_same))) (.cons (ro.keep ff.tup) (.cons (rt.keep g.tup) .nil))) ⟨⟨by show 2 ≤ 5; omega, (by show ("pair" : Str) ∈ prims8; decide), go, gt.g, trivial⟩, fun x h => ?_, ?_, ?_⟩
  · rcases h with h | h | h | h
    · exact h.elim
    · exact h.elim
    · exact gt.f x h
    · exact h.elim
  · have := gt.w
    show 2 + 3 + (1 + 3 + (1 + wT t + 0)) ≤ _
    omega
  · have := gt.d
    show 1 + max 1 (max 1 (max (depT t) 0)) ≤ _
    omega
end
end My
namespace My
open PySem PySem.Spec PyProof.Rows L2 TL
/-! ### _law_let -/
theorem wTs_le {W : Nat} : ∀ {ts : List Tr}, (∀ t ∈ ts, wT t ≤ W) → wTs ts ≤ ts.length * (1 + W)
  | [], _ => by unfold wTs; omega
  | t :: ts, h => by
    have h1 := h t List.mem_cons_self
    have h2 := wTs_le (ts := ts) fun u m => h u (List.mem_cons_of_mem _ m)
    unfold wTs
    rw [List.length_cons, Nat.succ_mul]
    omega
theorem depTs_le {D : Nat} : ∀ {ts : List Tr}, (∀ t ∈ ts, depT t ≤ D) → depTs ts ≤ D
  | [], _ => by unfold depTs; omega
  | t :: ts, h => by
    have h1 := h t List.mem_cons_self
    have h2 := depTs_le (ts := ts) fun u m => h u (List.mem_cons_of_mem _ m)
    unfold depTs
    omega
theorem wb_let {m : Nat} (h1 : 1 ≤ m) (h5 : m ≤ 5) : 11 + 5 * max (Wb m) (Fb m) + Wb m ≤ Wb (m + 1) := six_of (p := fun m => 11 + 5 * max (Wb m) (Fb m) + Wb m ≤ Wb (m + 1)) h1 h5 (by decide) (by decide) (by decide) (by decide) (by decide)
theorem two_of {x y : Int} {g : Int} (h0 : 0 ≤ g) (h1 : g < 2) : ∃ z, atI [V.int x, .int y] g = some (.int z) ∧ (z = x ∨ z = y) := by
  have c : g = 0 ∨ g = 1 := by omega
  rcases c with c | c <;> rw [c]
  · exact ⟨x, rfl, .inl rfl⟩
  · exact ⟨y, rfl, .inr rfl⟩
abbrev sLtt : Stmt := top 25
abbrev NLt : List Str := ["state", "known", "world", "room", "numbers", "pairs", "inner", "number", "sort"]
def spLtt (m : Nat) : Sp := fun vs H Q _ => ∃ (S L : Addr) (kv wd : V) (ks : List (Int × Int)) (r : Int), vs = [.ref S, kv, wd, .int r] ∧ LS H S L ∧ KnR S L H kv ks ∧ WdR H wd ∧ r ≤ (m : Int) + 1 ∧ ks.length + 6 * (m + 1) ≤ 100 ∧ ∀ u t H', LS H' S L → Fr (Two S L) H H' → RT H' u t → GT ks (Wb (m + 1)) (1 + 2 * (m + 1)) t → Q u H'
section
variable {P : Program} {w : World} {K : PySem.W.Frag} {mg : Str → Option Value} {base : Heap}
theorem scLtt : FnScope NLt ["state", "known", "world", "room"] (defScope sLtt) := ⟨rfl, rfl, rfl, by decide +kernel, rfl, by decide +kernel, by decide +kernel⟩
theorem ok_ltt {f fT fN fP fF : Addr} {fd dT dN dP dF : FuncData} {k m : Nat} (hk3 : 3 ≤ k) (m1 : 1 ≤ m) (m5 : m ≤ 5) (F : Fun K "_law_let" "_law_let" sLtt f fd) (B : Blt mg) (GT_ : Cal P w K mg base CX0 2 "_law_take" ["state", "limit"] spTake fT dT) (GN : Cal P w K mg base CX0 3 "_law_numbers" ["state", "count"] spNus fN dN)
    (GP : Cal P w K mg base CX0 k "_law_part" ["state", "known", "world", "room"] (spPrt m) fP dP) (GF : Cal P w K mg base CX0 k "_law_function" ["state", "known", "world", "room", "arity"] (spFun m) fF dF) : FnOk P w K mg base CX0 (k + 1) f fd ["state", "known", "world", "room"] (spLtt m) := by
  refine F.ok scLtt (fun vs H Q E h => ?_) (fun cdv A outer s H vs Q E hr h => ?_)
  · obtain ⟨S, L, kv, wd, ks, r, rfl, _⟩ := h
    rfl
  obtain ⟨S, L, kv, wd, ks, r, rfl, hl, kn, wr, rm, kl, q⟩ := h
  have nd := scLtt.nd
  have r2 : Room 2 _ := hr.mono (show 2 ≤ k by omega)
  have r3 : Room 3 _ := hr.mono hk3
  refine ⟨_, (pss_cons (ps_set (i := 4) nd rfl (Or.inl rfl) (pe_call GN.ok r3 rfl GN.g GN.k GN.b .nil pass0 (pa_cons (pv 0) (pa_cons (pe_ix (r := rIxL K) ix_list (pe_lst (pa_cons (pe_call GT_.ok r2 rfl GT_.g GT_.k GT_.b .nil pass0 (pa_cons (pv 0) (pa_cons pe_int pa_nil))) (pa_cons (pe_call GT_.ok r2 rfl GT_.g GT_.k GT_.b .nil pass0 (pa_cons (pv 0) (pa_cons pe_int pa_nil))) pa_nil))) (pe_call GT_.ok r2 rfl GT_.g GT_.k GT_.b .nil pass0 (pa_cons (pv 0) (pa_cons pe_int pa_nil))) (fun _ _ => rfl)) pa_nil))))
    (pss_cons (ps_set (i := 5) nd rfl (Or.inl rfl) (pe_lst pa_nil))
    (pss_cons (ps_set (i := 6) nd rfl (Or.inl rfl) (pe_callTy call_list_of (by rfl) B.list (by decide +kernel) (pa_cons (pv 1) pa_nil)))
    (pss_cons (ps_for PassesOwn.never rfl (pi_list (pv 4)) (pg_name (i := 7) nd rfl (Or.inl rfl))
      (pss_cons (ps_set (i := 8) nd rfl (Or.inl rfl) (pe_op op_sub (pe_ix (r := rIxL K) ix_list (pe_lst (pa_cons (pe_call GT_.ok r2 rfl GT_.g GT_.k GT_.b .nil pass0 (pa_cons (pv 0) (pa_cons pe_int pa_nil))) (pa_cons (pe_call GT_.ok r2 rfl GT_.g GT_.k GT_.b .nil pass0 (pa_cons (pv 0) (pa_cons pe_int pa_nil))) pa_nil))) (pe_call GT_.ok r2 rfl GT_.g GT_.k GT_.b .nil pass0 (pa_cons (pv 0) (pa_cons pe_int pa_nil))) (fun _ _ => rfl)) pe_int))
      (C8.pss_cut (ps_if (pt_cmpR op_lt (pv 8) pe_int (nomark _)) (pss_one (ps_expr (pe_bm PySem.F.plainAttrs_list PySem.F.slot_list_append PySem.F.type_list_append mt_append (pv 5) (pa_cons (pe_tup (pa_cons (pv 7) (pa_cons (pe_call GP.ok hr rfl GP.g GP.k GP.b .nil pass0 (pa_cons (pv 0) (pa_cons (pv 1) (pa_cons (pv 2) (pa_cons (pe_op op_sub (pv 3) pe_int) pa_nil))))) pa_nil))) pa_nil)))) (pss_one (ps_expr (pe_bm PySem.F.plainAttrs_list PySem.F.slot_list_append PySem.F.type_list_append mt_append (pv 5) (pa_cons (pe_tup (pa_cons (pv 7) (pa_cons (pe_call GF.ok hr rfl GF.g GF.k GF.b .nil pass0 (pa_cons (pv 0) (pa_cons (pv 1) (pa_cons (pv 2) (pa_cons (pe_op op_sub (pv 3) pe_int) (pa_cons (pv 8) pa_nil)))))) pa_nil))) pa_nil)))))
      (pss_one (ps_expr (pe_bm PySem.F.plainAttrs_list PySem.F.slot_list_append PySem.F.type_list_append mt_append (pv 6) (pa_cons (pe_tup (pa_cons (pv 7) (pa_cons (pv 8) pa_nil))) pa_nil)))))))
    (pss_one (ps_ret (pe_tup (pa_cons pe_str (pa_cons (pe_callTy call_tuple_of (by rfl) B.tuple (by decide +kernel) (pa_cons (pv 5) pa_nil)) (pa_cons (pe_call GP.ok hr rfl GP.g GP.k GP.b .nil pass0 (pa_cons (pv 0) (pa_cons (pv 6) (pa_cons (pv 2) (pa_cons (pe_op op_sub (pv 3) pe_int) pa_nil))))) pa_nil)))))))))), ?_⟩
  have wb := wb_let m1 m5
  refine ⟨_, rfl, _, rfl, S, L, 3, rfl, hl, by decide, nbs (by decide), fun g1 H1 a1 b1 l1 s1 => ⟨_, rfl, S, L, 6, rfl, l1, by decide, nbs (by decide), fun g2 H2 a2 b2 l2 s2 => ⟨sl2, fun z hz => ?_⟩⟩⟩
  have fz : Fr No H2 (upd H2 z (.lst [.int g1, .int g2])) := Fr.new hz
  refine ⟨_, rfl, S, L, 2, rfl, l2.laid hz, by decide, nbs (by decide), fun g3 H3 a3 b3 l3 s3 => ?_⟩
  have f3 := frTwo s3 (l2.laid hz)
  have f03 : Fr (Two S L) H H3 := (frTwo s1 hl).trans ((frTwo s2 l1).trans (fz.no.trans f3))
  have hz3 := f3.keep (l2.two hz) rfl (show upd H2 z (.lst [.int g1, .int g2]) z = some _ from upd_same)
  obtain ⟨ci, eci, cc⟩ := two_of (x := g1) (y := g2) a3 b3
  obtain ⟨c, rfl⟩ : ∃ c : Nat, ci = c := ⟨ci.toNat, by omega⟩
  have c5 : c ≤ 5 := by omega
  refine ⟨z, _, g3, _, rfl, rfl, SqL.of hz3, eci, S, L, c, rfl, l3, by omega, fun D ns H4 l4 f4 hD0 hD ln hn nD => ?_⟩
  have f04 := f03.trans f4
  obtain ⟨⟨ka, us, ekv, hka, kal, kna⟩, knm⟩ := kn.fr f04
  subst ekv
  have lus := kal.len
  refine ⟨by show 0 ≤ sizeLine; decide, fun Pz hPz => ?_⟩
  have fP : Fr No H4 (upd H4 Pz (.lst [])) := Fr.new hPz
  refine ⟨_, rfl, ka, us, rfl, .inl (SqL.of (fP.keep (fun z => z) rfl hka)), fun I hI => ?_⟩
  have fI : Fr No (upd H4 Pz (.lst [])) (upd (upd H4 Pz (.lst [])) I (.lst us)) := Fr.new hI
  have fPI := fP.trans fI
  have hI0 : H4 I = none := fP.dom hI
  have nPI : Pz ≠ I := ne_of_none (show upd H4 Pz (.lst []) Pz = some _ from upd_same) hI
  have nP := l4.two hPz
  have nI := l4.two hI0
  have hD4 := fPI.keep (fun z => z) rfl hD
  have nDP : D ≠ Pz := ne_of_none hD hPz
  have nDI : D ≠ I := ne_of_none hD hI0
  refine ⟨_, rfl, D, rfl, ⟨_, SqL.of hD4⟩, for_list (xs := ns.map V.int) (fun i σ H' => ∃ (v7 v8 : Option V) (up : List V) (ts : List Tr) (ui : List V) (ks' : List (Int × Int)), σ = [some (.ref S), some (.ref ka), some wd, some (.int r), some (.ref D), some (.ref Pz), some (.ref I), v7, v8] ∧ H' Pz = some (.lst up) ∧ RTp H' up (ns.take i) ts ∧ H' I = some (.lst ui) ∧ Als (RK H') ui ks' ∧ (∀ p ∈ ks', nmOk p.1) ∧ ks'.length = ks.length + i ∧ (∀ p ∈ ks', p.1 ∈ ks.map Prod.fst ∨ p.1 ∈ ns) ∧ (∀ t ∈ ts, GT ks (max (Wb m) (Fb m)) (1 + 2 * m) t) ∧ LS H' S L ∧ Fr (Two S L) H4 H')
    ⟨none, none, [], [], us, ks, rfl, fI.keep (fun z => z) rfl upd_same, by rw [List.take_zero]; exact .nil, upd_same, kal.mono fun _ _ z => z.keep fPI.tup, knm, rfl, (fun p hp => .inl (List.mem_map.mpr ⟨p, hp, rfl⟩)), (fun _ m => by cases m), l4.sm fPI.sm, fPI.no⟩ (fun i σ H' _ ⟨_, _, _, _, _, _, _, _, _, _, _, _, _, _, _, _, z⟩ => SqL.of (z.keep nD rfl hD)) ?_ ?_⟩
  · rintro i v σ H5 hi ⟨v7, v8, up, ts, ui, ks', rfl, h1, h2, h3, h4, h5, h6, h7, h8, l5, f5⟩
    rw [List.getElem?_map] at hi
    obtain ⟨n, hn0, rfl⟩ := Option.map_eq_some_iff.mp hi
    have il : i < ns.length := (List.getElem?_eq_some_iff.mp hn0).1
    have l2' := h2.len
    have lup : up.length ≤ 5 := by rw [l2'.1, List.length_take]; omega
    have lui : ui.length ≤ 100 := by rw [h4.len]; omega
    refine ⟨_, rfl, S, L, 4, rfl, l5, by decide, nbs (by decide), fun g5 H6 a5 b5 l6 s6 => ⟨_, rfl, S, L, 6, rfl, l6, by decide, nbs (by decide), fun g6 H7 a6 b6 l7 s7 => ⟨sl2, fun z hz => ?_⟩⟩⟩
    have fz : Fr No H7 (upd H7 z (.lst [.int g5, .int g6])) := Fr.new hz
    refine ⟨_, rfl, S, L, 2, rfl, l7.laid hz, by decide, nbs (by decide), fun g8 H8 a8 b8 l8 s8 => ?_⟩
    have f8 := frTwo s8 (l7.laid hz)
    have f58 : Fr (Two S L) H5 H8 := (frTwo s6 l5).trans ((frTwo s7 l6).trans (fz.no.trans f8))
    have hz8 := f8.keep (l7.two hz) rfl (show upd H7 z (.lst [.int g5, .int g6]) z = some _ from upd_same)
    obtain ⟨sv, esv, cs⟩ := two_of (x := g5) (y := g6) a8 b8
    refine ⟨z, _, g8, _, rfl, rfl, SqL.of hz8, esv, _, _, rfl, rfl, ?_⟩
    have f48 := f5.trans f58
    have kn8 := (kn.fr f04).fr f48
    have wr8 := (wr.fr hl f04).fr l4 f48
    have hP8 := f58.keep nP rfl h1
    have hI8 := f58.keep nI rfl h3
    refine ⟨fun σ H' => ∃ (u : V) (t : Tr) (q0 : Addr), σ = [some (.ref S), some (.ref ka), some wd, some (.int r), some (.ref D), some (.ref Pz), some (.ref I), some (.int n), some (.int (sv - 1))] ∧ H' Pz = some (.lst (up ++ [.ref q0])) ∧ H' q0 = some (.tup [.int n, u]) ∧ RT H' u t ∧ GT ks (max (Wb m) (Fb m)) (1 + 2 * m) t ∧ H' I = some (.lst ui) ∧ LS H' S L ∧ Fr (Two S L) H4 H' ∧ KpT H5 H', ?_, ?_⟩
    · refine ⟨_, rfl, _, _, rfl, rfl, _, rfl, ?_⟩
      have fin : ∀ (H9 : Hp) u t, LS H9 S L → Fr (Two S L) H8 H9 → RT H9 u t → GT ks (max (Wb m) (Fb m)) (1 + 2 * m) t → ∀ y, H9 y = none → ∃ l xs y', V.ref Pz = .ref l ∧ [V.ref y] = [y'] ∧ (upd H9 y (.tup [.int n, u])) l = some (.lst xs) ∧ xs.length < sizeLine ∧ ∃ (u1 : V) (t1 : Tr) (q0 : Addr), [some (V.ref S), some (.ref ka), some wd, some (.int r), some (.ref D), some (.ref Pz), some (.ref I), some (.int n), some (.int (sv - 1))] = [some (.ref S), some (.ref ka), some wd, some (.int r), some (.ref D), some (.ref Pz), some (.ref I), some (.int n), some (.int (sv - 1))] ∧ (upd (upd H9 y (.tup [.int n, u])) l (.lst (xs ++ [y']))) Pz = some (.lst (up ++ [.ref q0])) ∧ (upd (upd H9 y (.tup [.int n, u])) l (.lst (xs ++ [y']))) q0 = some (.tup [.int n, u1]) ∧ RT (upd (upd H9 y (.tup [.int n, u])) l (.lst (xs ++ [y']))) u1 t1 ∧ GT ks (max (Wb m) (Fb m)) (1 + 2 * m) t1 ∧ (upd (upd H9 y (.tup [.int n, u])) l (.lst (xs ++ [y']))) I = some (.lst ui) ∧ LS (upd (upd H9 y (.tup [.int n, u])) l (.lst (xs ++ [y']))) S L ∧ Fr (Two S L) H4 (upd (upd H9 y (.tup [.int n, u])) l (.lst (xs ++ [y']))) ∧ KpT H5 (upd (upd H9 y (.tup [.int n, u])) l (.lst (xs ++ [y']))) := by
        intro H9 u t l9 f9 rt gt y hy
        have fy : Fr No H9 (upd H9 y (.tup [.int n, u])) := Fr.new hy
        have f89 := f9.trans fy.no
        have hP9 := f89.keep nP rfl hP8
        have hI9 := f89.keep nI rfl hI8
        have fm : Fr (fun b => b = Pz) _ (upd (upd H9 y (.tup [.int n, u])) Pz (.lst (up ++ [V.ref y]))) := Fr.set rfl hP9 rfl
        refine ⟨Pz, up, _, rfl, rfl, hP9, Nat.lt_of_le_of_lt (show up.length ≤ 1000000 by omega) (by decide), u, t, y, rfl, upd_same, fm.tup _ _ upd_same, (rt.keep fy.tup).keep fm.tup, gt, by rw [upd_ne (Ne.symm nPI)]; exact hI9, (l9.sm fy.sm).put nP, (f48.trans f89).mut hPz hP9 rfl, (f58.tup.trans f89.tup).trans fm.tup⟩
      refine ite2 (fun _ => ?_) (fun cge => ?_)
      · refine ⟨_, rfl, .inl ⟨rfl, _, SqL.of hP8⟩, _, rfl, _, rfl, _, rfl, _, rfl, _, rfl, _, _, rfl, rfl, S, L, .ref ka, wd, ks, r - 1, rfl, l8, kn8, wr8, by omega, by omega, fun u t H9 l9 f9 rt gt => ⟨sl2, fun y hy => ?_⟩⟩
        obtain ⟨l, xs, y', e1, e2, e3, e4, u', t', q', _, rest⟩ := fin H9 u t l9 f9 rt (gt.wide (Nat.le_max_left _ _) (Nat.le_refl _)) y hy
        exact ⟨l, xs, y', e1, e2, e3, e4, u', t', q', rfl, rest⟩
      · have cge : ¬ (sv - 1 < 0) := fun z => cge (decide_eq_true z)
        obtain ⟨sn, esn⟩ : ∃ sn : Nat, sv - 1 = sn := ⟨(sv - 1).toNat, by omega⟩
        refine ⟨_, rfl, .inl ⟨rfl, _, SqL.of hP8⟩, _, rfl, _, rfl, _, rfl, _, rfl, _, rfl, _, _, rfl, rfl, _, rfl, S, L, .ref ka, wd, ks, r - 1, sn, by rw [← esn]; rfl, l8, kn8, wr8, by omega, by omega, by omega, fun u t H9 l9 f9 rt gt => ⟨sl2, fun y hy => ?_⟩⟩
        obtain ⟨l, xs, y', e1, e2, e3, e4, u', t', q', _, rest⟩ := fin H9 u t l9 f9 rt (gt.wide (Nat.le_max_right _ _) (by omega)) y hy
        exact ⟨l, xs, y', e1, e2, e3, e4, u', t', q', rfl, rest⟩
    rintro σ H9 ⟨u, t, q0, rfl, p1, p2, p3, p4, p5, l9, f9, kk⟩
    refine ⟨_, rfl, .inl ⟨rfl, _, SqL.of p5⟩, _, rfl, _, rfl, sl2, fun y hy => ?_⟩
    have fy : Fr No H9 (upd H9 y (.tup [.int n, .int (sv - 1)])) := Fr.new hy
    have p55 := fy.keep (fun z => z) rfl p5
    have fm : Fr (fun b => b = I) _ (upd (upd H9 y (.tup [.int n, .int (sv - 1)])) I (.lst (ui ++ [V.ref y]))) := Fr.set rfl p55 rfl
    have nm : nmOk n := hn n (List.mem_of_getElem? hn0)
    refine ⟨I, ui, _, rfl, rfl, p55, Nat.lt_of_le_of_lt (show ui.length ≤ 1000000 by omega) (by decide), _, _, up ++ [.ref q0], ts ++ [t], ui ++ [.ref y], ks' ++ [(n, sv - 1)], rfl, ?_, ?_, upd_same, ?_, fun p hp => ?_, by rw [List.length_append, h6]; rfl, fun p hp => ?_, fun x hx => ?_, (l9.sm fy.sm).put nI, (f9.trans fy.no).mut hI0 p55 rfl⟩
    · rw [upd_ne nPI]
      exact fy.keep (fun z => z) rfl p1
    · rw [take_more hn0]
      have kt := fy.tup.trans fm.tup
      exact (h2.keep (kk.trans kt)).snoc (kt _ _ p2) (p3.keep kt)
    · have kt := fy.tup.trans fm.tup
      exact (h4.mono fun _ _ z => z.keep (kk.trans kt)).app (.one ⟨y, rfl, fm.tup _ _ upd_same⟩)
    · rcases List.mem_append.mp hp with hp | hp
      · exact h5 p hp
      · rw [List.mem_singleton.mp hp]; exact nm
    · rcases List.mem_append.mp hp with hp | hp
      · exact h7 p hp
      · rw [List.mem_singleton.mp hp]; exact .inr (List.mem_of_getElem? hn0)
    · rcases List.mem_append.mp hx with hx | hx
      · exact h8 x hx
      · rw [List.mem_singleton.mp hx]; exact p4
  rintro σ H5 ⟨v7, v8, up, ts, ui, ks', rfl, h1, h2, h3, h4, h5, h6, h7, h8, l5, f5⟩
  rw [List.length_map, List.take_length] at h2
  rw [List.length_map] at h6
  have lts := h2.len.2
  refine ⟨_, rfl, Pz, _, rfl, .inl ⟨SqL.of h1, fun T1 hT1 => ?_⟩⟩
  have fT : Fr No H5 (upd H5 T1 (.tup up)) := Fr.new hT1
  have eT : upd H5 T1 (.tup up) T1 = some (.tup up) := upd_same
  have kI : KnR S L (upd H5 T1 (.tup up)) (.ref I) ks' := ⟨⟨I, ui, rfl, fT.keep (fun z => z) rfl h3, h4.mono fun _ _ z => z.keep fT.tup, nI⟩, h5⟩
  have wr5 := ((wr.fr hl f04).fr l4 f5).fr l5 fT.no
  refine ⟨_, rfl, _, rfl, _, rfl, _, rfl, _, _, rfl, rfl, S, L, .ref I, wd, ks', r - 1, rfl, l5.sm fT.sm, kI, wr5, by omega, by omega, fun u t H6 l6 f6 rt gt => ⟨sl3, fun y hy => ?_⟩⟩
  have fy : Fr No H6 (upd H6 y (.tup [.str "let", .ref T1, u])) := Fr.new hy
  have ff : Fr (Two S L) H5 _ := fT.no.trans (f6.trans fy.no)
  refine q _ (.let_ ns ts t) _ (l6.sm fy.sm) (f04.trans (f5.trans ff)) (.let_ upd_same (fy.tup _ _ (f6.tup _ _ eT)) (h2.keep ff.tup) (rt.keep fy.tup)) ?_
  refine ⟨⟨by omega, lts.symm, hn, gdTs_all fun x m => (h8 x m).g, gt.g⟩, fun x hx => ?_, ?_, ?_⟩
  · rcases hx with hx | ⟨hx, nx⟩
    · obtain ⟨y, ym, hy⟩ := fvs_mem.mp hx
      exact (h8 y ym).f x hy
    · obtain ⟨p, pm, e⟩ := List.mem_map.mp (gt.f x hx)
      rw [← e]
      exact (h7 p pm).resolve_right fun z => nx (by rw [← e]; exact z)
  · have w1 := wTs_le (ts := ts) (W := max (Wb m) (Fb m)) fun x m => (h8 x m).w
    have w2 := gt.w
    have w3 : ts.length * (1 + max (Wb m) (Fb m)) ≤ 5 * (1 + max (Wb m) (Fb m)) := Nat.mul_le_mul_right _ (by omega)
    show 1 + ns.length + wTs ts + wT t ≤ _
    omega
  · have d1 := depTs_le (ts := ts) (D := 1 + 2 * m) fun x m => (h8 x m).d
    have d2 := gt.d
    show 1 + max (depTs ts) (depT t) ≤ _
    omega
end
end My
namespace My
open PySem PySem.Spec PyProof.Rows L2 TL
/-! ### _law_part, and all of them by the room -/
def halves : List Str := ["first", "second"]
abbrev sPrt : Stmt := top 26
abbrev NPt : List Str := ["state", "known", "world", "room", "pick", "names", "parts", "arity", "function", "k"]
theorem wb_mono {m : Nat} (h1 : 1 ≤ m) (h5 : m ≤ 5) : 60 + 6 * Wb m ≤ Wb (m + 1) + 49 ∧ 7 + Fb m + 5 * Wb m ≤ Wb (m + 1) ∧ 13 + 2 * Wb m ≤ Wb (m + 1) := six_of (p := fun m => 60 + 6 * Wb m ≤ Wb (m + 1) + 49 ∧ 7 + Fb m + 5 * Wb m ≤ Wb (m + 1) ∧ 13 + 2 * Wb m ≤ Wb (m + 1)) h1 h5 (by decide) (by decide) (by decide) (by decide) (by decide)
section
variable {P : Program} {w : World} {K : PySem.W.Frag} {mg : Str → Option Value} {base : Heap}
theorem scPrt : FnScope NPt ["state", "known", "world", "room"] (defScope sPrt) := ⟨rfl, rfl, rfl, by decide +kernel, rfl, by decide +kernel, by decide +kernel⟩
theorem ok_prt {f fT fL fS fP fF fE fX : Addr} {fd dT dL dS dP dF dE dX : FuncData} {k M : Nat} {sP sF sE sX : Sp} (hk3 : 4 ≤ k) (hM : M ≤ 1 ∨ ∃ m, M = m + 1 ∧ 1 ≤ m ∧ m ≤ 5 ∧ sP = spPrt m ∧ sF = spFun m ∧ sE = spLtt m ∧ sX = spStr m) (F : Fun K "_law_part" "_law_part" sPrt f fd) (B : Blt mg) (GT_ : Cal P w K mg base CX0 2 "_law_take" ["state", "limit"] spTake fT dT) (GL : Cal P w K mg base CX0 1 "_law_locals" ["known", "sort"] spLoc fL dL)
    (GS : Cal P w K mg base CX0 3 "_law_small" ["state"] spSml fS dS) (GP : Cal P w K mg base CX0 k "_law_part" ["state", "known", "world", "room"] sP fP dP) (GF : Cal P w K mg base CX0 k "_law_function" ["state", "known", "world", "room", "arity"] sF fF dF)
    (GE : Cal P w K mg base CX0 k "_law_let" ["state", "known", "world", "room"] sE fE dE) (GX : Cal P w K mg base CX0 k "_law_strange" ["state", "known", "world", "room"] sX fX dX) : FnOk P w K mg base CX0 (k + 1) f fd ["state", "known", "world", "room"] (spPrt M) := by
  refine F.ok scPrt (fun vs H Q E h => ?_) (fun cdv A outer s H vs Q E hr h => ?_)
  · obtain ⟨S, L, kv, wd, ks, r, rfl, _⟩ := h
    rfl
  obtain ⟨S, L, kv, wd, ks, r, rfl, hl, kn, wr, rm, kl, q⟩ := h
  have nd := scPrt.nd
  have r1 : Room 1 _ := hr.mono (show 1 ≤ k by omega)
  have r2 : Room 2 _ := hr.mono (show 2 ≤ k by omega)
  have r3 : Room 3 _ := hr.mono (show 3 ≤ k by omega)
  refine ⟨_, (pss_cons (ps_set (i := 4) nd rfl (Or.inl rfl) (pe_call GT_.ok r2 rfl GT_.g GT_.k GT_.b .nil pass0 (pa_cons (pv 0) (pa_cons pe_int pa_nil))))
    (pss_cons (ps_set (i := 5) nd rfl (Or.inl rfl) (pe_call GL.ok r1 rfl GL.g GL.k GL.b .nil pass0 (pa_cons (pv 1) (pa_cons (pe_un un_neg pe_int) pa_nil))))
    (C8.pss_cut (ps_if (PW.pt (pw_or (pt_cmpR op_lt (pv 3) pe_int (nomark _)) (pw_or1 (pt_cmpR op_lt (pv 4) pe_int (nomark _))))) (pss_cons (ps_if (PW.pt (pw_and (pt_cmpR (op_neD hr.units) (pv 5) (pe_lst pa_nil) (nomark _)) (pw_and1 (pt_cmpR op_gt (pe_call GT_.ok r2 rfl GT_.g GT_.k GT_.b .nil pass0 (pa_cons (pv 0) (pa_cons pe_int pa_nil))) pe_int (nomark _))))) (pss_one (ps_ret (pe_tup (pa_cons pe_str (pa_cons (pe_ix (r := rIxL K) ix_list (pv 5) (pe_call GT_.ok r2 rfl GT_.g GT_.k GT_.b .nil pass0 (pa_cons (pv 0) (pa_cons (pe_callB call_len_seq (by rfl) B.len PySem.boot_len (pa_cons (pv 5) pa_nil)) pa_nil))) (fun _ _ => rfl)) pa_nil))))) pss_nil)
      (pss_one (ps_ret (pe_call GS.ok r3 rfl GS.g GS.k GS.b .nil pass0 (pa_cons (pv 0) pa_nil))))) pss_nil)
    (pss_cons (ps_if (pt_cmpR op_lt (pv 4) pe_int (nomark _)) (pss_cons (ps_set (i := 6) nd rfl (Or.inl rfl) (pe_tup (pa_cons (pe_call GP.ok hr rfl GP.g GP.k GP.b .nil pass0 (pa_cons (pv 0) (pa_cons (pv 1) (pa_cons (pv 2) (pa_cons (pe_op op_sub (pv 3) pe_int) pa_nil))))) (pa_cons (pe_call GP.ok hr rfl GP.g GP.k GP.b .nil pass0 (pa_cons (pv 0) (pa_cons (pv 1) (pa_cons (pv 2) (pa_cons (pe_op op_sub (pv 3) pe_int) pa_nil))))) pa_nil))))
      (pss_one (ps_ret (pe_tup (pa_cons pe_str (pa_cons (pe_tup (pa_cons pe_str (pa_cons (pe_ix (r := rIxL K) ix_list (pe_lst (pa_cons pe_str (pa_cons pe_str (pa_cons pe_str (pa_cons pe_str (pa_cons pe_str pa_nil)))))) (pe_call GT_.ok r2 rfl GT_.g GT_.k GT_.b .nil pass0 (pa_cons (pv 0) (pa_cons pe_int pa_nil))) (fun _ _ => rfl)) pa_nil))) (pa_cons (pv 6) pa_nil))))))) pss_nil)
    (pss_cons (ps_if (pt_cmpR op_lt (pv 4) pe_int (nomark _)) (pss_cons (ps_setLc (i := 6) (own := [("k", 9)]) (g := gName 9) (tt := tYes) rfl nd rfl rfl (sw_true rfl rfl rfl (by decide +kernel)) (pi_range1 (by rfl) B.range (pa_cons pe_int pa_nil)) (blkOk_by (N := NPt) (sc := defScope sPrt) (by decide +kernel)) (fun _ _ _ _ _ => (pg_name (i := 9) nd rfl (Or.inl rfl) (hf := Or.inr rfl))) (fun _ _ _ _ _ => pts_nil) (fun _ _ _ _ _ => (pe_call GP.ok hr rfl GP.g GP.k GP.b .nil pass0 (pa_cons (pv 0) (pa_cons (pv 1) (pa_cons (pv 2) (pa_cons (pe_op op_sub (pv 3) pe_int) pa_nil)))))))
      (pss_one (ps_ret (pe_tup (pa_cons pe_str (pa_cons (pe_ix (r := rIxL K) ix_list (pv 6) pe_int (fun _ _ => rfl)) (pa_cons (pe_ix (r := rIxL K) ix_list (pv 6) pe_int (fun _ _ => rfl)) (pa_cons (pe_ix (r := rIxL K) ix_list (pv 6) pe_int (fun _ _ => rfl)) pa_nil)))))))) pss_nil)
    (pss_cons (ps_if (pt_cmpR op_lt (pv 4) pe_int (nomark _)) (pss_one (ps_ret (pe_call GE.ok hr rfl GE.g GE.k GE.b .nil pass0 (pa_cons (pv 0) (pa_cons (pv 1) (pa_cons (pv 2) (pa_cons (pv 3) pa_nil))))))) pss_nil)
    (pss_cons (ps_if (pt_cmpR op_lt (pv 4) pe_int (nomark _)) (pss_cons (ps_set (i := 7) nd rfl (Or.inl rfl) (pe_ix (r := rIxL K) ix_list (pe_lst (pa_cons (pe_call GT_.ok r2 rfl GT_.g GT_.k GT_.b .nil pass0 (pa_cons (pv 0) (pa_cons pe_int pa_nil))) (pa_cons (pe_call GT_.ok r2 rfl GT_.g GT_.k GT_.b .nil pass0 (pa_cons (pv 0) (pa_cons pe_int pa_nil))) pa_nil))) (pe_call GT_.ok r2 rfl GT_.g GT_.k GT_.b .nil pass0 (pa_cons (pv 0) (pa_cons pe_int pa_nil))) (fun _ _ => rfl)))
      (pss_cons (ps_set (i := 8) nd rfl (Or.inl rfl) (pe_call GF.ok hr rfl GF.g GF.k GF.b .nil pass0 (pa_cons (pv 0) (pa_cons (pv 1) (pa_cons (pv 2) (pa_cons (pe_op op_sub (pv 3) pe_int) (pa_cons (pv 7) pa_nil)))))))
      (pss_one (ps_ret (pe_tup (pa_cons pe_str (pa_cons (pv 8) (pa_cons (pe_callTy call_tuple_of (by rfl) B.tuple (by decide +kernel) (pa_cons (pe_lc (own := [("k", 9)]) (g := gName 9) (tt := tYes) rfl nd (pi_range1 (by rfl) B.range (pa_cons (pv 7) pa_nil)) (blkOk_by (N := NPt) (sc := defScope sPrt) (by decide +kernel)) (fun _ _ _ _ _ => (pg_name (i := 9) nd rfl (Or.inl rfl) (hf := Or.inr rfl))) (fun _ _ _ _ _ => pts_nil) (fun _ _ _ _ _ => (pe_call GP.ok hr rfl GP.g GP.k GP.b .nil pass0 (pa_cons (pv 0) (pa_cons (pv 1) (pa_cons (pv 2) (pa_cons (pe_op op_sub (pv 3) pe_int) pa_nil))))))) pa_nil)) pa_nil)))))))) pss_nil)
    (pss_cons (ps_if (pt_cmpR op_eq (pv 4) pe_int (nomark _)) (pss_cons (ps_set (i := 6) nd rfl (Or.inl rfl) (pe_tup (pa_cons (pe_call GP.ok hr rfl GP.g GP.k GP.b .nil pass0 (pa_cons (pv 0) (pa_cons (pv 1) (pa_cons (pv 2) (pa_cons (pe_op op_sub (pv 3) pe_int) pa_nil))))) (pa_cons (pe_call GP.ok hr rfl GP.g GP.k GP.b .nil pass0 (pa_cons (pv 0) (pa_cons (pv 1) (pa_cons (pv 2) (pa_cons (pe_op op_sub (pv 3) pe_int) pa_nil))))) pa_nil))))
      (pss_one (ps_ret (pe_tup (pa_cons pe_str (pa_cons (pe_tup (pa_cons pe_str (pa_cons (pe_ix (r := rIxL K) ix_list (pe_lst (pa_cons pe_str (pa_cons pe_str pa_nil))) (pe_call GT_.ok r2 rfl GT_.g GT_.k GT_.b .nil pass0 (pa_cons (pv 0) (pa_cons pe_int pa_nil))) (fun _ _ => rfl)) pa_nil))) (pa_cons (pe_tup (pa_cons (pe_tup (pa_cons pe_str (pa_cons (pe_tup (pa_cons pe_str (pa_cons pe_str pa_nil))) (pa_cons (pv 6) pa_nil)))) pa_nil)) pa_nil))))))) pss_nil)
    (pss_one (ps_ret (pe_call GX.ok hr rfl GX.g GX.k GX.b .nil pass0 (pa_cons (pv 0) (pa_cons (pv 1) (pa_cons (pv 2) (pa_cons (pv 3) pa_nil))))))))))))))), ?_⟩
  refine ⟨_, rfl, S, L, 14, rfl, hl, by decide, nbs (by decide), fun g1 H1 a1 b1 l1 s1 => ?_⟩
  have f1 := frTwo s1 hl
  obtain ⟨⟨ka, us, ekv, hka, kal, kna⟩, knm⟩ := kn.fr f1
  subst ekv
  refine ⟨_, rfl, _, rfl, ka, us, ks, -1, rfl, hka, kal, by omega, fun p ns H2 f2 hp0 hp mem ln => ?_⟩
  have l2 := l1.sm f2.sm
  have f02 := f1.trans f2.no
  have W3 := Wb_ge M
  refine ⟨fun σ H' => σ = [some (.ref S), some (.ref ka), some wd, some (.int r), some (.int g1), some (.ref p), none, none, none, none] ∧ 2 ≤ r ∧ LS H' S L ∧ Fr (Two S L) H H', ?_, ?_⟩
  · have leafq : ∀ (i : Int) u H', i.natAbs ≤ 10 ^ 40 → LS H' S L → Fr (Two S L) H H' → RT H' u (.int i) → Q u H' := fun i u H' bi l f rt => q u (.int i) H' l f rt (gt_leaf bi (fun _ h => h.elim) rfl rfl W3 (by omega))
    refine ⟨_, rfl, _, _, rfl, rfl, _, rfl, ?_⟩
    refine ite2 (fun _ => iteT ?_) (fun nr => ?_)
    · refine ⟨_, rfl, by show 0 ≤ sizeLine; decide, fun z hz => ?_⟩
      have fz : Fr No H2 (upd H2 z (.lst [])) := Fr.new hz
      have hp3 := fz.keep (fun z => z) rfl hp
      have l3 := l2.sm fz.sm
      have f03 := f02.trans fz.no
      refine ⟨.list (ns.map PyData.int), .list [], .lst (SqL.of hp3) (dp_is ns), .lst (SqL.of upd_same) .nil, shaped_is, shaped_n0, _, rfl, ?_⟩
      rw [eqv_is]
      refine ite2 (fun e => ?_) (fun _ => ⟨_, rfl, S, L, rfl, l3, fun i u H' bi l f rt => leafq i u H' bi l (f03.trans f) rt⟩)
      have ne : 0 < ns.length := by
        cases ns with
        | nil => cases e
        | cons a b => exact Nat.succ_pos _
      refine ⟨_, rfl, S, L, 3, rfl, l3, by decide, nbs (by decide), fun g2 H4 a2 b2 l4 s4 => ⟨_, _, rfl, rfl, _, rfl, ?_⟩⟩
      have f4 := frTwo s4 l3
      refine ite2 (fun _ => ?_) (fun _ => ⟨_, rfl, S, L, rfl, l4, fun i u H' bi l f rt => leafq i u H' bi l (f03.trans (f4.trans f)) rt⟩)
      have hp4 := f4.keep (l1.two hp0) rfl hp3
      refine ⟨_, rfl, _, rfl, _, rfl, p, _, rfl, .inl (SqL.of hp4), S, L, _, rfl, l4, by rw [List.length_map]; omega, nbs (by rw [List.length_map]; omega), fun g5 H5 a5 b5 l5 s5 => ?_⟩
      rw [List.length_map] at b5
      have f5 := frTwo s5 l4
      have hp5 := f5.keep (l1.two hp0) rfl hp4
      obtain ⟨x, xm, ex⟩ := pick_map (f := V.int) a5 b5
      refine ⟨p, _, g5, .int x, rfl, rfl, SqL.of hp5, ex, sl2, fun t ht => ?_⟩
      have ft : Fr No H5 (upd H5 t (.tup [.str "local", .int x])) := Fr.new ht
      exact q _ (.loc x) _ (l5.sm ft.sm) (f03.trans (f4.trans (f5.trans ft.no))) (.loc upd_same) (gt_leaf trivial (fun y e => by cases e; exact mem x xm) rfl rfl W3 (by omega))
    · have nr : ¬ (r < 2) := fun z => nr (decide_eq_true z)
      refine ⟨_, rfl, _, _, rfl, rfl, _, rfl, ?_⟩
      refine ite2 (fun _ => ?_) (fun _ => ⟨rfl, by omega, l2, f02⟩)
      · refine ⟨_, rfl, by show 0 ≤ sizeLine; decide, fun z hz => ?_⟩
        have fz : Fr No H2 (upd H2 z (.lst [])) := Fr.new hz
        have hp3 := fz.keep (fun z => z) rfl hp
        have l3 := l2.sm fz.sm
        have f03 := f02.trans fz.no
        refine ⟨.list (ns.map PyData.int), .list [], .lst (SqL.of hp3) (dp_is ns), .lst (SqL.of upd_same) .nil, shaped_is, shaped_n0, _, rfl, ?_⟩
        rw [eqv_is]
        refine ite2 (fun e => ?_) (fun _ => ⟨_, rfl, S, L, rfl, l3, fun i u H' bi l f rt => leafq i u H' bi l (f03.trans f) rt⟩)
        have ne : 0 < ns.length := by
          cases ns with
          | nil => cases e
          | cons a b => exact Nat.succ_pos _
        refine ⟨_, rfl, S, L, 3, rfl, l3, by decide, nbs (by decide), fun g2 H4 a2 b2 l4 s4 => ⟨_, _, rfl, rfl, _, rfl, ?_⟩⟩
        have f4 := frTwo s4 l3
        refine ite2 (fun _ => ?_) (fun _ => ⟨_, rfl, S, L, rfl, l4, fun i u H' bi l f rt => leafq i u H' bi l (f03.trans (f4.trans f)) rt⟩)
        have hp4 := f4.keep (l1.two hp0) rfl hp3
        refine ⟨_, rfl, _, rfl, _, rfl, p, _, rfl, .inl (SqL.of hp4), S, L, _, rfl, l4, by rw [List.length_map]; omega, nbs (by rw [List.length_map]; omega), fun g5 H5 a5 b5 l5 s5 => ?_⟩
        rw [List.length_map] at b5
        have f5 := frTwo s5 l4
        have hp5 := f5.keep (l1.two hp0) rfl hp4
        obtain ⟨x, xm, ex⟩ := pick_map (f := V.int) a5 b5
        refine ⟨p, _, g5, .int x, rfl, rfl, SqL.of hp5, ex, sl2, fun t ht => ?_⟩
        have ft : Fr No H5 (upd H5 t (.tup [.str "local", .int x])) := Fr.new ht
        exact q _ (.loc x) _ (l5.sm ft.sm) (f03.trans (f4.trans (f5.trans ft.no))) (.loc upd_same) (gt_leaf trivial (fun y e => by cases e; exact mem x xm) rfl rfl W3 (by omega))
  rintro σ H3 ⟨rfl, r2', l3, f3⟩
  obtain ⟨m, rfl, m1, m5, rfl, rfl, rfl, rfl⟩ := hM.resolve_left (by omega)
  obtain ⟨wb1, wb2, wb3⟩ := wb_mono m1 m5
  have part_at : ∀ (H4 : Hp) (Q4 : VK), LS H4 S L → Fr (Two S L) H H4 → (∀ u t H', LS H' S L → Fr (Two S L) H4 H' → RT H' u t → GT ks (Wb m) (1 + 2 * m) t → Q4 u H') → spPrt m [.ref S, .ref ka, wd, .int (r - 1)] H4 Q4 E0 :=
    fun H4 Q4 l f q4 => ⟨S, L, .ref ka, wd, ks, r - 1, rfl, l, kn.fr f, wr.fr hl f, by omega, by omega, q4⟩
  have parts2 : ∀ {ts : List Tr}, (∀ t ∈ ts, GT ks (Wb m) (1 + 2 * m) t) → gdTs ts ∧ (∀ x, fvs x ts → x ∈ ks.map Prod.fst) ∧ wTs ts ≤ ts.length * (1 + Wb m) ∧ depTs ts ≤ 1 + 2 * m :=
    fun h => ⟨gdTs_all fun t m => (h t m).g, fun x hx => by obtain ⟨y, ym, hy⟩ := fvs_mem.mp hx; exact (h y ym).f x hy, wTs_le fun t m => (h t m).w, depTs_le fun t m => (h t m).d⟩
  -- a primitive
  refine ⟨_, rfl, _, _, rfl, rfl, _, rfl, ?_⟩
  refine ite2 (fun _ => ?_) (fun _ => ?_)
  · refine ⟨_, rfl, _, rfl, _, rfl, _, rfl, _, _, rfl, rfl, part_at H3 _ l3 f3 fun u1 t1 H4 l4 f4 rt1 gt1 => ⟨_, rfl, _, rfl, _, rfl, _, rfl, _, _, rfl, rfl, part_at H4 _ l4 (f3.trans f4) fun u2 t2 H5 l5 f5 rt2 gt2 => ⟨sl2, fun tp htp => ?_⟩⟩⟩
    have ftp : Fr No H5 (upd H5 tp (.tup [u1, u2])) := Fr.new htp
    have etp : upd H5 tp (.tup [u1, u2]) tp = some (.tup [u1, u2]) := upd_same
    have l6 := l5.sm ftp.sm
    refine ⟨by show 5 ≤ sizeLine; decide, fun z hz => ?_⟩
    have fz : Fr No _ (upd (upd H5 tp (.tup [u1, u2])) z (.lst (ops5.map V.str))) := Fr.new hz
    refine ⟨_, rfl, S, L, 5, rfl, l6.laid hz, by decide, nbs (by decide), fun gg H7 a7 b7 l7 s7 => ?_⟩
    have f7 := frTwo s7 (l6.laid hz)
    have hz7 := f7.keep (l6.two hz) rfl (show upd (upd H5 tp (.tup [u1, u2])) z (.lst (ops5.map V.str)) z = some _ from upd_same)
    obtain ⟨x, xm, ex⟩ := pick_map (f := V.str) (xs := ops5) a7 b7
    refine ⟨z, _, gg, .str x, rfl, rfl, SqL.of hz7, ex, sl2, fun y1 hy1 => ⟨_, rfl, sl3, fun y2 hy2 => ?_⟩⟩
    have g1 := Fr.new (X := No) (o := .tup [V.str "prim", .str x]) hy1
    have g2 := Fr.new (X := No) (o := .tup [V.str "call", .ref y1, .ref tp]) hy2
    have g := g1.trans g2
    have f57 : Fr (Two S L) H5 H7 := (ftp.trans fz).no.trans f7
    have xp : x ∈ prims8 := by
      simp only [ops5, List.mem_cons, List.not_mem_nil, or_false] at xm
      rcases xm with e | e | e | e | e <;> subst e <;> decide
    obtain ⟨p1, p2, p3, p4⟩ := parts2 (ts := [t1, t2]) fun t ht => by
      rcases List.mem_cons.mp ht with e | ht
      · rw [e]; exact gt1
      · rw [List.mem_singleton.mp ht]; exact gt2
    have k57 := f57.tup.trans g.tup
    refine q _ (.call (.prim x) [t1, t2]) _ (l7.sm g.sm) (f3.trans (f4.trans (f5.trans (f57.trans g.no)))) (.call upd_same (g.tup _ _ (f7.tup _ _ (fz.tup _ _ etp))) (.prim (g2.tup _ _ upd_same)) (.cons ((rt1.keep f5.tup).keep k57) (.cons (rt2.keep k57) .nil))) ⟨⟨by show 2 ≤ 5; omega, xp, p1⟩, fun y h => h.elim (fun z => z.elim) (p2 y), ?_, ?_⟩
    · rw [wT_call]
      show 2 + 3 + wTs [t1, t2] ≤ _
      have : [t1, t2].length * (1 + Wb m) = 2 * (1 + Wb m) := rfl
      omega
    · rw [depT_call]
      show 1 + max 1 (depTs [t1, t2]) ≤ _
      omega
  -- an if
  refine ⟨_, rfl, _, _, rfl, rfl, _, rfl, ?_⟩
  refine ite2 (fun _ => ?_) (fun _ => ?_)
  · refine ⟨3, rfl, by decide, by decide, fun D hD => ?_⟩
    have nD := l3.two hD
    refine lc_range (lo := 0) (n := 3) (fun i H' => ∃ us ts, H' D = some (.lst us) ∧ Als (fun u t => RT H' u t ∧ GT ks (Wb m) (1 + 2 * m) t) us ts ∧ us.length = i ∧ LS H' S L ∧ Fr (Two S L) H3 H') ⟨[], [], upd_same, .nil, rfl, l3.laid hD, Fr.new hD⟩ ?_ ?_
    · rintro i H4 hi ⟨us, ts, h1, h2, h3, l4, f4⟩
      refine ⟨rfl, _, rfl, _, rfl, _, rfl, _, rfl, _, _, rfl, rfl, part_at H4 _ l4 (f3.trans f4) fun u t H5 l5 f5 rt gt => ?_⟩
      have h15 := f5.keep nD rfl h1
      have fm : Fr (fun b => b = D) H5 (upd H5 D (.lst (us ++ [u]))) := Fr.set rfl h15 rfl
      exact ⟨us, h15, Nat.lt_of_le_of_lt (show us.length ≤ 1000000 by omega) (by decide), us ++ [u], ts ++ [t], upd_same, (h2.mono fun _ _ z => ⟨z.1.keep (f5.tup.trans fm.tup), z.2⟩).app (.one ⟨rt.keep fm.tup, gt⟩), by simp [h3], l5.put nD, (f4.trans f5).mut hD h15 rfl⟩
    rintro H4 ⟨us, ts, h1, h2, h3, l4, f4⟩
    obtain ⟨u1, u2, u3, rfl⟩ : ∃ a b c, us = [a, b, c] := by
      match us, h3 with
      | [a, b, c], _ => exact ⟨a, b, c, rfl⟩
    cases h2 with
    | cons q1 h2 =>
    cases h2 with
    | cons q2 h2 =>
    cases h2 with
    | cons q3 h2 =>
    cases h2
    refine ⟨_, rfl, D, _, 0, _, rfl, rfl, SqL.of h1, rfl, _, rfl, D, _, 1, _, rfl, rfl, SqL.of h1, rfl, _, rfl, D, _, 2, _, rfl, rfl, SqL.of h1, rfl, sl4, fun y hy => ?_⟩
    have g : Fr No H4 (upd H4 y (.tup [.str "if", u1, u2, u3])) := Fr.new hy
    refine q _ (.if_ _ _ _) _ (l4.sm g.sm) (f3.trans (f4.trans g.no)) (.if_ upd_same (q1.1.keep g.tup) (q2.1.keep g.tup) (q3.1.keep g.tup)) ⟨⟨q1.2.g, q2.2.g, q3.2.g⟩, fun x h => ?_, ?_, ?_⟩
    · rcases h with h | h | h
      · exact q1.2.f x h
      · exact q2.2.f x h
      · exact q3.2.f x h
    · have a1 := q1.2.w
      have a2 := q2.2.w
      have a3 := q3.2.w
      have w3 := Wb_ge m
      show 8 + _ + _ + _ ≤ _
      omega
    · have a1 := q1.2.d
      have a2 := q2.2.d
      have a3 := q3.2.d
      show 1 + max _ (max _ _) ≤ _
      omega
  -- a let
  refine ⟨_, rfl, _, _, rfl, rfl, _, rfl, ?_⟩
  refine ite2 (fun _ => ?_) (fun _ => ?_)
  · exact ⟨_, rfl, _, rfl, _, rfl, _, rfl, S, L, .ref ka, wd, ks, r, rfl, l3, kn.fr f3, wr.fr hl f3, by omega, kl, fun u t H4 l4 f4 rt gt => q u t H4 l4 (f3.trans f4) rt gt⟩
  -- a call
  refine ⟨_, rfl, _, _, rfl, rfl, _, rfl, ?_⟩
  refine ite2 (fun _ => ?_) (fun _ => ?_)
  · refine ⟨_, rfl, S, L, 3, rfl, l3, by decide, nbs (by decide), fun g4 H4 a4 b4 l4 s4 => ⟨_, rfl, S, L, 6, rfl, l4, by decide, nbs (by decide), fun g5 H5 a5 b5 l5 s5 => ⟨sl2, fun z hz => ?_⟩⟩⟩
    have fz : Fr No H5 (upd H5 z (.lst [.int g4, .int g5])) := Fr.new hz
    refine ⟨_, rfl, S, L, 2, rfl, l5.laid hz, by decide, nbs (by decide), fun g6 H6 a6 b6 l6 s6 => ?_⟩
    have f6 := frTwo s6 (l5.laid hz)
    have hz6 := f6.keep (l5.two hz) rfl (show upd H5 z (.lst [.int g4, .int g5]) z = some _ from upd_same)
    have f36 : Fr (Two S L) H3 H6 := (frTwo s4 l3).trans ((frTwo s5 l4).trans (fz.no.trans f6))
    have f06 := f3.trans f36
    obtain ⟨ci, eci, cc⟩ := two_of (x := g4) (y := g5) a6 b6
    obtain ⟨c, rfl⟩ : ∃ c : Nat, ci = c := ⟨ci.toNat, by omega⟩
    refine ⟨z, _, g6, _, rfl, rfl, SqL.of hz6, eci, _, rfl, _, rfl, _, rfl, _, rfl, _, _, rfl, rfl, _, rfl, S, L, .ref ka, wd, ks, r - 1, c, rfl, l6, kn.fr f06, wr.fr hl f06, by omega, by omega, by omega, fun uf tf H7 l7 f7 rtf gtf => ?_⟩
    refine ⟨_, rfl, _, rfl, c, rfl, by omega, by omega, fun D hD => ?_⟩
    have nD := l7.two hD
    have f07 := f06.trans f7
    refine lc_range (lo := 0) (n := c) (fun i H' => ∃ us ts, H' D = some (.lst us) ∧ Als (fun u t => RT H' u t ∧ GT ks (Wb m) (1 + 2 * m) t) us ts ∧ us.length = i ∧ LS H' S L ∧ Fr (Two S L) H7 H') ⟨[], [], upd_same, .nil, rfl, l7.laid hD, Fr.new hD⟩ ?_ ?_
    · rintro i H8 hi ⟨us, ts, h1, h2, h3, l8, f8⟩
      refine ⟨rfl, _, rfl, _, rfl, _, rfl, _, rfl, _, _, rfl, rfl, part_at H8 _ l8 (f07.trans f8) fun u t H9 l9 f9 rt gt => ?_⟩
      have h15 := f9.keep nD rfl h1
      have fm : Fr (fun b => b = D) H9 (upd H9 D (.lst (us ++ [u]))) := Fr.set rfl h15 rfl
      exact ⟨us, h15, Nat.lt_of_le_of_lt (show us.length ≤ 1000000 by omega) (by decide), us ++ [u], ts ++ [t], upd_same, (h2.mono fun _ _ z => ⟨z.1.keep (f9.tup.trans fm.tup), z.2⟩).app (.one ⟨rt.keep fm.tup, gt⟩), by simp [h3], l9.put nD, (f8.trans f9).mut hD h15 rfl⟩
    rintro H8 ⟨us, ts, h1, h2, h3, l8, f8⟩
    refine ⟨D, us, rfl, .inl ⟨SqL.of h1, fun T hT => ⟨sl3, fun y hy => ?_⟩⟩⟩
    have g1 := Fr.new (X := No) (o := .tup us) hT
    have g2 := Fr.new (X := No) (o := .tup [V.str "call", uf, .ref T]) hy
    have g := g1.trans g2
    have lts := h2.len
    have rts : ∀ {us : List V} {ts : List Tr}, Als (fun u t => RT H8 u t ∧ GT ks (Wb m) (1 + 2 * m) t) us ts → RTs H8 us ts ∧ ∀ t ∈ ts, GT ks (Wb m) (1 + 2 * m) t := by
      intro us ts h
      induction h with
      | nil => exact ⟨.nil, fun _ m => by cases m⟩
      | cons r _ ih => exact ⟨.cons r.1 ih.1, fun t ht => (List.mem_cons.mp ht).elim (fun e => by rw [e]; exact r.2) (ih.2 t)⟩
    obtain ⟨rr, gg⟩ := rts h2
    obtain ⟨p1, p2, p3, p4⟩ := parts2 gg
    refine q _ (.call tf ts) _ (l8.sm g.sm) (f07.trans (f8.trans g.no)) (.call upd_same (g2.tup _ _ upd_same) ((rtf.keep f8.tup).keep g.tup) (rr.keep g.tup)) ⟨⟨by omega, gtf.g, p1⟩, fun y h => h.elim (gtf.f y) (p2 y), ?_, ?_⟩
    · rw [wT_call]
      have a1 := gtf.w
      have a2 : ts.length * (1 + Wb m) ≤ 5 * (1 + Wb m) := Nat.mul_le_mul_right _ (by omega)
      omega
    · rw [depT_call]
      have a1 := gtf.d
      omega
  -- a half of a pair
  refine ⟨_, rfl, rfl, _, rfl, ?_⟩
  refine ite2 (fun _ => ?_) (fun _ => ?_)
  · refine ⟨_, rfl, _, rfl, _, rfl, _, rfl, _, _, rfl, rfl, part_at H3 _ l3 f3 fun u1 t1 H4 l4 f4 rt1 gt1 => ⟨_, rfl, _, rfl, _, rfl, _, rfl, _, _, rfl, rfl, part_at H4 _ l4 (f3.trans f4) fun u2 t2 H5 l5 f5 rt2 gt2 => ⟨sl2, fun tp htp => ?_⟩⟩⟩
    have ftp : Fr No H5 (upd H5 tp (.tup [u1, u2])) := Fr.new htp
    have etp : upd H5 tp (.tup [u1, u2]) tp = some (.tup [u1, u2]) := upd_same
    have l6 := l5.sm ftp.sm
    refine ⟨sl2, fun z hz => ?_⟩
    have fz : Fr No _ (upd (upd H5 tp (.tup [u1, u2])) z (.lst (halves.map V.str))) := Fr.new hz
    refine ⟨_, rfl, S, L, 2, rfl, l6.laid hz, by decide, nbs (by decide), fun gg H7 a7 b7 l7 s7 => ?_⟩
    have f7 := frTwo s7 (l6.laid hz)
    have hz7 := f7.keep (l6.two hz) rfl (show upd (upd H5 tp (.tup [u1, u2])) z (.lst (halves.map V.str)) z = some _ from upd_same)
    obtain ⟨x, xm, ex⟩ := pick_map (f := V.str) (xs := halves) a7 b7
    refine ⟨z, _, gg, .str x, rfl, rfl, SqL.of hz7, ex, sl2, fun y1 hy1 => ⟨sl2, fun y2 hy2 => ⟨_, rfl, sl3, fun y3 hy3 => ⟨sl1, fun y4 hy4 => ⟨sl3, fun y5 hy5 => ?_⟩⟩⟩⟩⟩
    have g1 := Fr.new (X := No) (o := .tup [V.str "prim", .str x]) hy1
    have g2 := Fr.new (X := No) (o := .tup [V.str "prim", .str "pair"]) hy2
    have g3 := Fr.new (X := No) (o := .tup [V.str "call", .ref y2, .ref tp]) hy3
    have g4 := Fr.new (X := No) (o := .tup [V.ref y3]) hy4
    have g5 := Fr.new (X := No) (o := .tup [V.str "call", .ref y1, .ref y4]) hy5
    have g45 := g4.trans g5
    have g35 := g3.trans g45
    have g25 := g2.trans g35
    have g := g1.trans g25
    have f57 : Fr (Two S L) H5 H7 := (ftp.trans fz).no.trans f7
    have xp : x ∈ prims8 := by
      simp only [halves, List.mem_cons, List.not_mem_nil, or_false] at xm
      rcases xm with e | e <;> subst e <;> decide
    obtain ⟨p1, p2, p3, p4⟩ := parts2 (ts := [t1, t2]) fun t ht => by
      rcases List.mem_cons.mp ht with e | ht
      · rw [e]; exact gt1
      · rw [List.mem_singleton.mp ht]; exact gt2
    have k57 := f57.tup.trans g.tup
    refine q _ (.call (.prim x) [.call (.prim "pair") [t1, t2]]) _ (l7.sm g.sm) (f3.trans (f4.trans (f5.trans (f57.trans g.no)))) (.call upd_same (g5.tup _ _ upd_same) (.prim (g25.tup _ _ upd_same)) (.cons (.call (g45.tup _ _ upd_same) (g.tup _ _ (f7.tup _ _ (fz.tup _ _ etp))) (.prim (g35.tup _ _ upd_same)) (.cons ((rt1.keep f5.tup).keep k57) (.cons (rt2.keep k57) .nil))) .nil)) ⟨⟨by show 1 ≤ 5; omega, xp, ⟨by show 2 ≤ 5; omega, (by show ("pair" : Str) ∈ prims8; decide), p1⟩, trivial⟩, fun y h => ?_, ?_, ?_⟩
    · rcases h with h | (h | h) | h
      · exact h.elim
      · exact h.elim
      · exact p2 y h
      · exact h.elim
    · have : [t1, t2].length * (1 + Wb m) = 2 * (1 + Wb m) := rfl
      show 2 + 3 + (1 + (2 + 3 + wTs [t1, t2]) + 0) ≤ _
      omega
    · show 1 + max 1 (max (1 + max 1 (depTs [t1, t2])) 0) ≤ _
      omega
  exact ⟨_, rfl, _, rfl, _, rfl, _, rfl, S, L, .ref ka, wd, ks, r, rfl, l3, kn.fr f3, wr.fr hl f3, by omega, by omega, fun u t H4 l4 f4 rt gt => q u t H4 l4 (f3.trans f4) rt gt⟩
end
end My
namespace My
open PySem PySem.Spec PyProof.Rows L2 TL
/-! ### the generator by the room; _law_program -/
abbrev sPgm : Stmt := top 27
abbrev NPg : List Str := ["state", "world", "names", "name", "definitions", "module", "own"]
/-- a drawn program: definitions that are closed, and a closed tree -/
structure PgOk (ds : List ((Str × Str) × Tr)) (t : Tr) : Prop where
  l : ds.length ≤ 4
  d : ∀ d ∈ ds, GT [] 98753 13 d.2 ∧ d.1.1 ∈ globM ∧ d.1.2 ∈ globX
  t : GT [] 98753 13 t
def RDg (H : Hp) (v : V) (d : (Str × Str) × Tr) : Prop := ∃ (a : Addr) (c : V), v = .ref a ∧ H a = some (.tup [.str d.1.1, .str d.1.2, c]) ∧ RT H c d.2
theorem RDg.keep {H H' : Hp} (k : KpT H H') {v : V} {d : (Str × Str) × Tr} (h : RDg H v d) : RDg H' v d := by
  obtain ⟨a, c, e, h1, h2⟩ := h
  exact ⟨a, c, e, k _ _ h1, h2.keep k⟩
def spPgm : Sp := fun vs H Q _ => ∃ (S L : Addr), vs = [.ref S] ∧ LS H S L ∧ ∀ (r D : Addr) (us : List V) (c : V) (ds : List ((Str × Str) × Tr)) (t : Tr) H', LS H' S L → Fr (Two S L) H H' → H' r = some (.tup [.ref D, c]) → H' D = some (.lst us) → H D = none → Als (RDg H') us ds → RT H' c t → PgOk ds t → Q (.ref r) H'
/-- what stands for the generator -/
structure Gen (P : Program) (w : World) (K : PySem.W.Frag) (mg : Str → Option Value) (base : Heap) (m : Nat) (fP fF : Addr) (dP dF : FuncData) : Prop where
  p : FnOk P w K mg base CX0 (5 + 3 * m) fP dP ["state", "known", "world", "room"] (spPrt m)
  f : 1 ≤ m → FnOk P w K mg base CX0 (5 + 3 * m) fF dF ["state", "known", "world", "room", "arity"] (spFun m)
theorem cutV_strs (ns : List Str) (k : Nat) : cutV (ns.map V.str) none (some (k : Int)) = ((ns.take k).map V.str) := by
  unfold cutV
  rw [HT.sIx_none, HT.sIx_nat, List.drop_zero, List.length_map, ← List.map_take]
  congr 1
  rw [show min k ns.length - 0 = min k ns.length by omega, List.take_eq_take_iff.mpr]
  omega
def wdF (p : Str × Int) : Key × V := (Sum.inr p.1, .int p.2)
theorem pk_ws {x : Str} {j : Int} : ∀ {ps : List (Str × Int)}, ∃ ps' : List (Str × Int), putK (ps.map wdF) (.inr x) (.int j) = ps'.map wdF ∧ ps'.length ≤ ps.length + 1 ∧ (∀ p ∈ ps', (p.1 = x ∧ p.2 = j) ∨ p ∈ ps) ∧ x ∈ ps'.map Prod.fst ∧ (∀ y ∈ ps.map Prod.fst, y ∈ ps'.map Prod.fst) := by
  intro ps
  unfold putK
  by_cases c : ((ps.map wdF).any fun kv => decide (kv.1 = Sum.inr x)) = true
  · rw [if_pos c]
    refine ⟨ps.map fun p => if p.1 = x then (p.1, j) else p, ?_, by rw [List.length_map]; omega, fun p hp => ?_, ?_, fun y hy => ?_⟩
    · rw [List.map_map, List.map_map]
      refine List.map_congr_left fun p _ => ?_
      show (if (Sum.inr p.1 : Key) = Sum.inr x then (Sum.inr p.1, V.int j) else wdF p) = wdF (if p.1 = x then (p.1, j) else p)
      by_cases e : p.1 = x
      · rw [if_pos (by rw [e]), if_pos e]; rfl
      · rw [if_neg (fun z => e (Sum.inr.inj z)), if_neg e]
    · obtain ⟨p0, h0, rfl⟩ := List.mem_map.mp hp
      by_cases e : p0.1 = x
      · rw [if_pos e]; exact .inl ⟨e, rfl⟩
      · rw [if_neg e]; exact .inr h0
    · obtain ⟨kv, h1, h2⟩ := List.any_eq_true.mp c
      obtain ⟨p0, h0, rfl⟩ := List.mem_map.mp h1
      have e : p0.1 = x := Sum.inr.inj (of_decide_eq_true h2)
      refine List.mem_map.mpr ⟨_, List.mem_map.mpr ⟨p0, h0, rfl⟩, ?_⟩
      rw [if_pos e]; exact e
    · obtain ⟨p0, h0, rfl⟩ := List.mem_map.mp hy
      refine List.mem_map.mpr ⟨_, List.mem_map.mpr ⟨p0, h0, rfl⟩, ?_⟩
      split <;> rfl
  · rw [if_neg c]
    refine ⟨ps ++ [(x, j)], by rw [List.map_append]; rfl, by rw [List.length_append]; exact Nat.le_refl _, fun p hp => ?_, ?_, fun y hy => ?_⟩
    · rcases List.mem_append.mp hp with hp | hp
      · exact .inr hp
      · rw [List.mem_singleton.mp hp]; exact .inl ⟨rfl, rfl⟩
    · rw [List.map_append]; exact List.mem_append_right _ List.mem_cons_self
    · rw [List.map_append]; exact List.mem_append_left _ hy
section
variable {P : Program} {w : World} {K : PySem.W.Frag} {mg : Str → Option Value} {base : Heap}
theorem gen_all {fT fL fN fS fP fF fE fX : Addr} {dT dL dN dS dP dF dE dX : FuncData} (B : Blt mg) (BS : mg "sorted" = none) (GT_ : Cal P w K mg base CX0 2 "_law_take" ["state", "limit"] spTake fT dT) (GL : Cal P w K mg base CX0 1 "_law_locals" ["known", "sort"] spLoc fL dL)
    (GN : Cal P w K mg base CX0 3 "_law_numbers" ["state", "count"] spNus fN dN) (GS : Cal P w K mg base CX0 3 "_law_small" ["state"] spSml fS dS) (FP : Fun K "_law_part" "_law_part" sPrt fP dP) (FF : Fun K "_law_function" "_law_function" sFnc fF dF) (FE : Fun K "_law_let" "_law_let" sLtt fE dE) (FX : Fun K "_law_strange" "_law_strange" sStr fX dX)
    (gP : mg "_law_part" = some (.ref fP)) (gF : mg "_law_function" = some (.ref fF)) (gE : mg "_law_let" = some (.ref fE)) (gX : mg "_law_strange" = some (.ref fX)) (bP : Binds K dP ["state", "known", "world", "room"] []) (bF : Binds K dF ["state", "known", "world", "room", "arity"] []) (bE : Binds K dE ["state", "known", "world", "room"] []) (bX : Binds K dX ["state", "known", "world", "room"] []) :
    ∀ m : Nat, m ≤ 6 → Gen P w K mg base m fP fF dP dF
  | 0, _ => by
    refine ⟨FnOk.mono (ok_prt (k := 4) (M := 0) (sP := fun _ _ _ _ => False) (sF := fun _ _ _ _ => False) (sE := fun _ _ _ _ => False) (sX := fun _ _ _ _ => False) (Nat.le_refl _) (.inl (by omega)) FP B GT_ GL GS ⟨fn_none, FP.kp, gP, bP⟩ ⟨fn_none, FF.kp, gF, bF⟩ ⟨fn_none, FE.kp, gE, bE⟩ ⟨fn_none, FX.kp, gX, bX⟩) (by omega), fun h => absurd h (by omega)⟩
  | 1, _ => by
    obtain ⟨p0, _⟩ := gen_all B BS GT_ GL GN GS FP FF FE FX gP gF gE gX bP bF bE bX 0 (by omega)
    refine ⟨FnOk.mono (ok_prt (k := 4) (M := 1) (sP := fun _ _ _ _ => False) (sF := fun _ _ _ _ => False) (sE := fun _ _ _ _ => False) (sX := fun _ _ _ _ => False) (Nat.le_refl _) (.inl (by omega)) FP B GT_ GL GS ⟨fn_none, FP.kp, gP, bP⟩ ⟨fn_none, FF.kp, gF, bF⟩ ⟨fn_none, FE.kp, gE, bE⟩ ⟨fn_none, FX.kp, gX, bX⟩) (by omega), fun _ => ?_⟩
    exact FnOk.mono (ok_fnc (m := 0) (by omega) FF B BS GT_ GL GN ⟨p0, FP.kp, gP, bP⟩) (by omega)
  | m + 2, h => by
    obtain ⟨p, f⟩ := gen_all B BS GT_ GL GN GS FP FF FE FX gP gF gE gX bP bF bE bX (m + 1) (by omega)
    have f := f (by omega)
    have e := ok_ltt (k := 5 + 3 * (m + 1)) (m := m + 1) (by omega) (by omega) (by omega) FE B GT_ GN ⟨p, FP.kp, gP, bP⟩ ⟨f, FF.kp, gF, bF⟩
    have x := ok_str (k := 5 + 3 * (m + 1)) (m := m + 1) (by omega) (by omega) (by omega) FX GT_ GS ⟨f, FF.kp, gF, bF⟩
    refine ⟨FnOk.mono (ok_prt (k := 5 + 3 * (m + 1) + 1) (M := m + 1 + 1) (by omega) (.inr ⟨m + 1, rfl, by omega, by omega, rfl, rfl, rfl, rfl⟩) FP B GT_ GL GS ⟨FnOk.mono p (by omega), FP.kp, gP, bP⟩ ⟨FnOk.mono f (by omega), FF.kp, gF, bF⟩ ⟨e, FE.kp, gE, bE⟩ ⟨x, FX.kp, gX, bX⟩) (by omega), fun _ => ?_⟩
    exact FnOk.mono (ok_fnc (m := m + 1) (by omega) FF B BS GT_ GL GN ⟨p, FP.kp, gP, bP⟩) (by omega)
theorem scPgm : FnScope NPg ["state"] (defScope sPgm) := ⟨rfl, rfl, rfl, by decide +kernel, rfl, by decide +kernel, by decide +kernel⟩
theorem Wb_le6 : ∀ m, Wb m ≤ 98753
  | 0 => by decide
  | 1 => by decide
  | 2 => by decide
  | 3 => by decide
  | 4 => by decide
  | 5 => by decide
  | _ + 6 => by show 98753 ≤ 98753; omega
theorem ok_pgm {f fT fP fF : Addr} {fd dT dP dF : FuncData} (F : Fun K "_law_program" "_law_program" sPgm f fd) (B : Blt mg) (GT_ : Cal P w K mg base CX0 2 "_law_take" ["state", "limit"] spTake fT dT)
    (GP : Cal P w K mg base CX0 23 "_law_part" ["state", "known", "world", "room"] (spPrt 6) fP dP) (GF : Cal P w K mg base CX0 23 "_law_function" ["state", "known", "world", "room", "arity"] (spFun 5) fF dF) : FnOk P w K mg base CX0 24 f fd ["state"] spPgm := by
  refine F.ok scPgm (fun vs H Q E h => ?_) (fun cdv A outer s H vs Q E hr h => ?_)
  · obtain ⟨S, L, rfl, _⟩ := h
    rfl
  obtain ⟨S, L, rfl, hl, q⟩ := h
  have nd := scPgm.nd
  have hu := hu_of hr
  have r2 : Room 2 _ := hr.mono (show 2 ≤ 23 by decide)
  refine ⟨_, (pss_cons (ps_set (i := 1) nd rfl (Or.inl rfl) pe_dnewK)
    (pss_cons (ps_set (i := 2) nd rfl (Or.inl rfl) (pe_slice sl_list (pe_lst (pa_cons pe_str (pa_cons pe_str (pa_cons pe_str (pa_cons pe_str pa_nil))))) po_none (po_some (pe_call GT_.ok r2 rfl GT_.g GT_.k GT_.b .nil pass0 (pa_cons (pv 0) (pa_cons pe_int pa_nil))))))
    (pss_cons (ps_for PassesOwn.never rfl (pi_list (pv 2)) (pg_name (i := 3) nd rfl (Or.inl rfl))
      (pss_one (ps_dput hu (pv 1) (pv 3) (pe_op op_sub (pe_call GT_.ok r2 rfl GT_.g GT_.k GT_.b .nil pass0 (pa_cons (pv 0) (pa_cons pe_int pa_nil))) pe_int) rfl)))
    (pss_cons (ps_set (i := 4) nd rfl (Or.inl rfl) (pe_lst pa_nil))
    (pss_cons (ps_for PassesOwn.never rfl (pi_list (pv 2)) (pg_name (i := 3) nd rfl (Or.inl rfl))
      (pss_cons (ps_asg (pe_split (pv 3) pe_str) (pg_lst rfl (pgs_cons (pg_name (i := 5) nd rfl (Or.inl rfl)) (pgs_cons (pg_name (i := 6) nd rfl (Or.inl rfl)) pgs_nil))))
      (pss_one (ps_if (pt_cmpR op_lt (pe_dget hu (pv 1) (pv 3) (fun _ _ => rfl)) pe_int (nomark _)) (pss_one (ps_expr (pe_bm PySem.F.plainAttrs_list PySem.F.slot_list_append PySem.F.type_list_append mt_append (pv 4) (pa_cons (pe_tup (pa_cons (pv 5) (pa_cons (pv 6) (pa_cons (pe_call GP.ok hr rfl GP.g GP.k GP.b .nil pass0 (pa_cons (pv 0) (pa_cons (pe_lst pa_nil) (pa_cons (pv 1) (pa_cons pe_int pa_nil))))) pa_nil)))) pa_nil)))) (pss_one (ps_expr (pe_bm PySem.F.plainAttrs_list PySem.F.slot_list_append PySem.F.type_list_append mt_append (pv 4) (pa_cons (pe_tup (pa_cons (pv 5) (pa_cons (pv 6) (pa_cons (pe_call GF.ok hr rfl GF.g GF.k GF.b .nil pass0 (pa_cons (pv 0) (pa_cons (pe_lst pa_nil) (pa_cons (pv 1) (pa_cons pe_int (pa_cons (pe_dget hu (pv 1) (pv 3) (fun _ _ => rfl)) pa_nil)))))) pa_nil)))) pa_nil))))))))
    (pss_one (ps_ret (pe_tup (pa_cons (pv 4) (pa_cons (pe_call GP.ok hr rfl GP.g GP.k GP.b .nil pass0 (pa_cons (pv 0) (pa_cons (pe_lst pa_nil) (pa_cons (pv 1) (pa_cons pe_int pa_nil))))) pa_nil)))))))))), ?_⟩
  refine fun Wd hWd => ?_
  have f1 : Fr No H (upd H Wd (.dK [])) := Fr.new hWd
  have l1 := hl.laid (o := .dK []) hWd
  refine ⟨by show 4 ≤ sizeLine; decide, fun z hz => ?_⟩
  have f2 : Fr No (upd H Wd (.dK [])) (upd (upd H Wd (.dK [])) z (.lst (wdNames.map V.str))) := Fr.new hz
  have l2 := l1.laid (o := .lst (wdNames.map V.str)) hz
  have nW := hl.two hWd
  refine ⟨_, rfl, S, L, 5, rfl, l2, by decide, nbs (by decide), fun g H3 a3 b3 l3 s3 => ?_⟩
  obtain ⟨k, rfl⟩ : ∃ k : Nat, g = k := ⟨g.toNat, by omega⟩
  have f3 := frTwo s3 l2
  have hz3 := f3.keep (l1.two hz) rfl (show upd (upd H Wd (.dK [])) z (.lst (wdNames.map V.str)) z = some _ from upd_same)
  have hW3 := f3.keep nW rfl (f2.keep (fun z => z) rfl (show upd H Wd (.dK []) Wd = some (.dK []) from upd_same))
  have f03 : Fr (Two S L) H H3 := f1.no.trans (f2.no.trans f3)
  refine ⟨(k : Int), rfl, z, _, rfl, SqL.of hz3, fun p hp => ?_⟩
  rw [cutV_strs]
  have nmk : ∀ x ∈ wdNames.take k, x ∈ wdNames := fun x m => List.mem_of_mem_take m
  have lnm : (wdNames.take k).length ≤ 4 := by
    have : wdNames.length = 4 := rfl
    rw [List.length_take]; omega
  generalize wdNames.take k = nms at nmk lnm ⊢
  have fp : Fr No H3 (upd H3 p (.lst (nms.map V.str))) := Fr.new hp
  have ep : upd H3 p (.lst (nms.map V.str)) p = some (.lst (nms.map V.str)) := upd_same
  have l4 := l3.laid (o := .lst (nms.map V.str)) hp
  have hW4 := fp.keep (fun z => z) rfl hW3
  have np := l3.two hp
  have nWp : p ≠ Wd := fun z => by rw [z] at hp; rw [hW3] at hp; cases hp
  generalize upd H3 p (.lst (nms.map V.str)) = H4 at fp ep l4 hW4 ⊢
  have f04 := f03.trans fp.no
  refine ⟨_, rfl, p, rfl, ⟨_, SqL.of ep⟩, for_list (xs := nms.map V.str) (fun i σ H' => ∃ (v3 : Option V) (ps : List (Str × Int)), σ = [some (.ref S), some (.ref Wd), some (.ref p), v3, none, none, none] ∧ H' Wd = some (.dK (ps.map wdF)) ∧ H' p = some (.lst (nms.map V.str)) ∧ (∀ x ∈ nms.take i, x ∈ ps.map Prod.fst) ∧ (∀ q ∈ ps, q.1 ∈ wdNames ∧ q.2 ≤ 4) ∧ ps.length ≤ i ∧ LS H' S L ∧ Fr (Two S L) H H')
    ⟨none, [], rfl, hW4, ep, (fun x m => by rw [List.take_zero] at m; cases m), (fun _ m => by cases m), Nat.le_refl _, l4, f04⟩ (fun i σ H' _ ⟨_, _, _, _, z, _⟩ => SqL.of z) ?_ ?_⟩
  · rintro i v σ H5 hi ⟨v3, ps, rfl, h1, h2, h3, h4, h5, l5, f5⟩
    rw [List.getElem?_map] at hi
    obtain ⟨x, hx, rfl⟩ := Option.map_eq_some_iff.mp hi
    have il : i < nms.length := (List.getElem?_eq_some_iff.mp hx).1
    refine ⟨_, rfl, S, L, 6, rfl, l5, by decide, nbs (by decide), fun g6 H6 a6 b6 l6 s6 => ⟨_, _, rfl, rfl, ?_⟩⟩
    have f6 := frTwo s6 l5
    have h16 := f6.keep nW rfl h1
    refine ⟨_, rfl, _, rfl, Wd, _, rfl, DPut.k (k := Sum.inr x) h16 (Nat.lt_of_le_of_lt (show _ ≤ 1000000 by rw [List.length_map]; omega) (by decide)), ?_⟩
    obtain ⟨ps', e1, e2, e3, e4, e5⟩ := pk_ws (x := x) (j := g6 - 1) (ps := ps)
    refine ⟨_, ps', rfl, by rw [upd_same]; dsimp only; rw [e1], by rw [upd_ne nWp]; exact f6.keep np rfl h2, fun y m => ?_, fun q hq => ?_, by omega, l6.put nW, (f5.trans f6).mut hWd h16 rfl⟩
    · rw [take_more hx] at m
      rcases List.mem_append.mp m with m | m
      · exact e5 y (h3 y m)
      · rw [List.mem_singleton.mp m]; exact e4
    · rcases e3 q hq with ⟨e, e'⟩ | e
      · rw [e, e']; exact ⟨nmk x (List.mem_of_getElem? hx), by omega⟩
      · exact h4 q e
  rintro σ H5 ⟨v3, ps, rfl, h1, h2, h3, h4, h5, l5, f5⟩
  rw [List.length_map] at h5
  rw [List.length_map, List.take_length] at h3
  refine ⟨by show 0 ≤ sizeLine; decide, fun D hD => ?_⟩
  have nD := l5.two hD
  have fD : Fr No H5 (upd H5 D (.lst [])) := Fr.new hD
  have npD : p ≠ D := ne_of_none h2 hD
  refine ⟨_, rfl, p, rfl, ⟨_, SqL.of (fD.keep (fun z => z) rfl h2)⟩, for_list (xs := nms.map V.str) (fun i σ H' => ∃ (v3 v5 v6 : Option V) (us : List V) (ds : List ((Str × Str) × Tr)), σ = [some (.ref S), some (.ref Wd), some (.ref p), v3, some (.ref D), v5, v6] ∧ H' D = some (.lst us) ∧ Als (RDg H') us ds ∧ ds.length = i ∧ (∀ d ∈ ds, GT [] 98753 13 d.2 ∧ d.1.1 ∈ globM ∧ d.1.2 ∈ globX) ∧ LS H' S L ∧ Fr (Two S L) H5 H')
    ⟨_, none, none, [], [], rfl, upd_same, .nil, rfl, (fun _ m => by cases m), l5.laid hD, fD.no⟩ (fun i σ H' _ ⟨_, _, _, _, _, _, _, _, _, _, _, z⟩ => SqL.of (z.keep np rfl h2)) ?_ ?_⟩
  · rintro i v σ H6 hi ⟨v3, v5, v6, us, ds, rfl, k1, k2, k3, k4, l6, f6⟩
    rw [List.getElem?_map] at hi
    obtain ⟨x, hx, rfl⟩ := Option.map_eq_some_iff.mp hi
    have il : i < nms.length := (List.getElem?_eq_some_iff.mp hx).1
    have xm := List.mem_of_getElem? hx
    obtain ⟨_, mm, yy, esp, hmg, hyg, hx10⟩ := wd_ok (nmk x xm)
    refine ⟨_, rfl, ⟨_, rfl⟩, x, " ", rfl, rfl, rfl, Nat.le_trans (Nat.add_le_add_right hx10 2) (by decide), fun l hl0 => ?_⟩
    rw [esp]
    have fl : Fr No H6 (upd H6 l (.lst ([mm, yy].map V.str))) := Fr.new hl0
    refine ⟨l, _, rfl, SqL.of upd_same, rfl, _, _, rfl, _, _, rfl, rfl, ?_⟩
    have l7 := l6.sm fl.sm
    have f7 := f6.trans fl.no
    have kD7 := fl.keep (fun z => z) rfl k1
    have al7 := k2.mono fun _ _ z => z.keep fl.tup
    generalize upd H6 l (.lst ([mm, yy].map V.str)) = H7 at fl l7 f7 kD7 al7 ⊢
    obtain ⟨j, hj, jm⟩ := valV_ws (h3 x xm)
    have j4 := (h4 _ jm).2
    dsimp only at j4
    have hW7 := f7.keep nW rfl h1
    have wr7 : WdR H7 (.ref Wd) := ⟨Wd, ps, rfl, hW7, by omega, fun q hq => (h4 q hq).1⟩
    have lus : us.length ≤ 4 := by rw [k2.len, k3]; omega
    have dg : DGet H7 Wd (V.str x) (some (.int j)) := by
      have := DGet.k (k := Sum.inr x) hW7
      rw [show valV (ps.map wdF) (.inr x) = some (.int j) from hj] at this
      exact this
    refine ⟨_, rfl, _, rfl, Wd, .int j, rfl, dg, _, _, rfl, rfl, _, rfl, ?_⟩
    have fin : ∀ (u : V) (t : Tr) (e : Addr) (H8 H9 : Hp), Fr No H7 H8 → LS H9 S L → Fr (Two S L) H8 H9 → RT H9 u t → GT [] 98753 13 t → ∀ y, H9 y = none → (upd H9 y (.tup [.str mm, .str yy, u])) D = some (.lst us) ∧ us.length < sizeLine ∧ ∃ us' ds', (upd (upd H9 y (.tup [.str mm, .str yy, u])) D (.lst (us ++ [.ref y]))) D = some (.lst us') ∧ Als (RDg (upd (upd H9 y (.tup [.str mm, .str yy, u])) D (.lst (us ++ [.ref y])))) us' ds' ∧ ds'.length = i + 1 ∧ (∀ d ∈ ds', GT [] 98753 13 d.2 ∧ d.1.1 ∈ globM ∧ d.1.2 ∈ globX) ∧ LS (upd (upd H9 y (.tup [.str mm, .str yy, u])) D (.lst (us ++ [.ref y]))) S L ∧ Fr (Two S L) H5 (upd (upd H9 y (.tup [.str mm, .str yy, u])) D (.lst (us ++ [.ref y]))) := by
      intro u t e H8 H9 f78 l9 f89 rt gt y hy
      have fy : Fr No H9 (upd H9 y (.tup [.str mm, .str yy, u])) := Fr.new hy
      have f79 := f78.no.trans (f89.trans fy.no)
      have kD9 := f79.keep nD rfl kD7
      have fm : Fr (fun b => b = D) _ (upd (upd H9 y (.tup [.str mm, .str yy, u])) D (.lst (us ++ [V.ref y]))) := Fr.set rfl kD9 rfl
      refine ⟨kD9, Nat.lt_of_le_of_lt (show us.length ≤ 1000000 by omega) (by decide), us ++ [.ref y], ds ++ [((mm, yy), t)], upd_same, ?_, by rw [List.length_append, k3]; rfl, fun d hd => ?_, (l9.sm fy.sm).put nD, (f7.trans f79).mut hD kD9 rfl⟩
      · exact (al7.mono fun _ _ z => z.keep (f79.tup.trans fm.tup)).app (.one ⟨y, u, rfl, fm.tup _ _ upd_same, (rt.keep fy.tup).keep fm.tup⟩)
      · rcases List.mem_append.mp hd with hd | hd
        · exact k4 d hd
        · rw [List.mem_singleton.mp hd]; exact ⟨gt, hmg, hyg⟩
    have kn0 : ∀ {H' : Hp} {e : Addr}, H' e = some (.lst []) → ¬ Two S L e → KnR S L H' (.ref e) [] := fun h n => ⟨⟨_, [], rfl, h, .nil, n⟩, fun _ m => by cases m⟩
    refine ite2 (fun _ => ?_) (fun cge => ?_)
    · refine ⟨_, rfl, .inl ⟨rfl, _, SqL.of kD7⟩, _, rfl, _, rfl, _, rfl, by show 0 ≤ sizeLine; decide, fun e he => ⟨_, rfl, ?_⟩⟩
      have fe : Fr No H7 (upd H7 e (.lst [])) := Fr.new he
      refine ⟨S, L, .ref e, .ref Wd, [], 3, rfl, l7.laid he, kn0 upd_same (l7.two he), (wr7.fr l7 fe.no), by decide, by decide, fun u t H9 l9 f9 rt gt => ⟨sl3, fun y hy => ?_⟩⟩
      obtain ⟨q1, q2, us', ds', q3⟩ := fin u t e _ H9 fe l9 f9 rt (gt.wide (Nat.le_refl _) (by omega)) y hy
      exact ⟨D, us, _, rfl, rfl, q1, q2, _, _, _, us', ds', rfl, q3⟩
    · have cge : ¬ (j < 0) := fun z => cge (decide_eq_true z)
      obtain ⟨jn, rfl⟩ : ∃ jn : Nat, j = jn := ⟨j.toNat, by omega⟩
      refine ⟨_, rfl, .inl ⟨rfl, _, SqL.of kD7⟩, _, rfl, _, rfl, _, rfl, by show 0 ≤ sizeLine; decide, fun e he => ?_⟩
      have fe : Fr No H7 (upd H7 e (.lst [])) := Fr.new he
      refine ⟨_, rfl, _, rfl, _, rfl, Wd, .int (jn : Nat), rfl, ?_, S, L, .ref e, .ref Wd, [], 5, jn, rfl, l7.laid he, kn0 upd_same (l7.two he), (wr7.fr l7 fe.no), by decide, by omega, by decide, fun u t H9 l9 f9 rt gt => ⟨sl3, fun y hy => ?_⟩⟩
      · have := DGet.k (k := Sum.inr x) (fe.keep (fun z => z) rfl hW7)
        rw [show valV (ps.map wdF) (.inr x) = some (.int (jn : Nat)) from hj] at this
        exact this
      obtain ⟨q1, q2, us', ds', q3⟩ := fin u t e _ H9 fe l9 f9 rt (gt.wide (by decide) (by decide)) y hy
      exact ⟨D, us, _, rfl, rfl, q1, q2, _, _, _, us', ds', rfl, q3⟩
  rintro σ H6 ⟨v3', v5, v6, us, ds, rfl, k1, k2, k3, k4, l6, f6⟩
  rw [List.length_map] at k3
  refine ⟨_, rfl, _, rfl, by show 0 ≤ sizeLine; decide, fun e he => ⟨_, rfl, ?_⟩⟩
  have fe : Fr No H6 (upd H6 e (.lst [])) := Fr.new he
  have hW6 := f6.keep nW rfl h1
  have wr6 : WdR H6 (.ref Wd) := ⟨Wd, ps, rfl, hW6, by omega, fun q hq => (h4 q hq).1⟩
  refine ⟨S, L, .ref e, .ref Wd, [], 6, rfl, l6.laid he, ⟨⟨_, [], rfl, upd_same, .nil, l6.two he⟩, fun _ m => by cases m⟩, (wr6.fr l6 fe.no), by decide, by decide, fun u t H9 l9 f9 rt gt => ⟨sl2, fun y hy => ?_⟩⟩
  have fy : Fr No H9 (upd H9 y (.tup [.ref D, u])) := Fr.new hy
  have f69 := fe.no.trans (f9.trans fy.no)
  refine q y D us u ds t _ (l9.sm fy.sm) (f5.trans (f6.trans f69)) upd_same (f69.keep nD rfl k1) (f5.dom hD) (k2.mono fun _ _ z => z.keep f69.tup) (rt.keep fy.tup) ⟨by omega, k4, gt.wide (by decide) (by decide)⟩
end
end My
namespace My
open PySem PySem.Spec PyProof.Rows L2 TL
/-! ### code that is well made: heights of the stack, leads, the codes in it -/
def SrIn (np nk : Nat) : Src → Prop
  | .place n => n < np
  | .kept n => n < nk
/-- taken from the stack, put there -/
def tkn : Ins → Nat × Nat
  | .put _ => (1, 0)
  | .unless _ => (1, 0)
  | .call m => (m + 1, 1)
  | .tail m => (m + 1, 1)
  | .end_ => (1, 0)
  | .jump _ => (0, 0)
  | _ => (0, 1)
def lds (a : Nat) : Ins → List Nat
  | .jump b => [b]
  | .unless b => [a + 1, b]
  | .tail _ => []
  | .end_ => []
  | _ => [a + 1]
def RowS (l kept : Nat) : Ins → Prop
  | .put n => n < l
  | .src s => SrIn l kept s
  | .fn _ ss => ∀ s ∈ ss, SrIn l kept s
  | _ => True
/-- from a to b: heights, k at a and k' at b; without `o` no way leads out -/
structure Seg (l kept : Nat) (is : List Ins) (a b k k' : Nat) (o : Bool) (hs : Nat → Nat) : Prop where
  le : a ≤ b
  len : b ≤ is.length
  ne : o = false → a < b
  s : hs a = k
  e : o = true → hs b = k'
  row : ∀ q i, a ≤ q → q < b → is[q]? = some i → RowS l kept i ∧ (tkn i).1 ≤ hs q ∧ ∀ r ∈ lds q i, q < r ∧ r ≤ b ∧ (r = b → o = true) ∧ hs r + (tkn i).1 = hs q + (tkn i).2
  reach : ∀ q, a < q → q ≤ b → (q = b → o = true) → ∃ p i, a ≤ p ∧ p < q ∧ is[p]? = some i ∧ q ∈ lds p i
section
variable {l kept : Nat} {is : List Ins}
theorem Seg.nil {a k : Nat} (h : a ≤ is.length) : Seg l kept is a a k k true (fun _ => k) := ⟨Nat.le_refl _, h, fun z => (by cases z), rfl, fun _ => rfl, fun q i h1 h2 => (by omega), fun q h1 h2 => (by omega)⟩
theorem Seg.glue {a b c k k' k'' : Nat} {o : Bool} {h1 h2 : Nat → Nat} (x : Seg l kept is a b k k' true h1) (y : Seg l kept is b c k' k'' o h2) : Seg l kept is a c k k'' o (fun q => if q < b then h1 q else h2 q) := by
  have xl := x.le
  have yl := y.le
  refine ⟨by omega, y.len, fun z => by have := y.ne z; omega, ?_, fun z => ?_, fun q i q1 q2 e => ?_, fun q q1 q2 qo => ?_⟩
  · by_cases c1 : a < b
    · simp only [if_pos c1]; exact x.s
    · have : a = b := by omega
      subst this
      simp only [if_neg c1]
      rw [y.s, ← x.e rfl, x.s]
  · simp only [if_neg (show ¬ c < b by omega)]
    exact y.e z
  · by_cases c1 : q < b
    · obtain ⟨r1, r2, r3⟩ := x.row q i q1 c1 e
      refine ⟨r1, by simp only [if_pos c1]; exact r2, fun r m => ?_⟩
      obtain ⟨s1, s2, _, s4⟩ := r3 r m
      refine ⟨s1, by omega, fun z => ?_, ?_⟩
      · subst z
        cases o with
        | true => rfl
        | false => have := y.ne rfl; omega
      · simp only [if_pos c1]
        by_cases c2 : r < b
        · simp only [if_pos c2]; exact s4
        · have : r = b := by omega
          subst this
          simp only [if_neg c2]
          rw [y.s, ← x.e rfl]
          exact s4
    · obtain ⟨r1, r2, r3⟩ := y.row q i (by omega) q2 e
      refine ⟨r1, by simp only [if_neg c1]; exact r2, fun r m => ?_⟩
      obtain ⟨s1, s2, s3, s4⟩ := r3 r m
      refine ⟨s1, s2, s3, ?_⟩
      simp only [if_neg c1, if_neg (show ¬ r < b by omega)]
      exact s4
  · by_cases c1 : q ≤ b
    · obtain ⟨p, i, p1, p2, p3⟩ := x.reach q q1 c1 fun _ => rfl
      exact ⟨p, i, p1, p2, p3⟩
    · obtain ⟨p, i, p1, p2, p3⟩ := y.reach q (by omega) q2 qo
      exact ⟨p, i, by omega, p2, p3⟩
/-- one row that leads on -/
theorem Seg.one {a k : Nat} {i : Ins} (h : is[a]? = some i) (r : RowS l kept i) (t : (tkn i).1 ≤ k) (e : lds a i = [a + 1]) : Seg l kept is a (a + 1) k (k - (tkn i).1 + (tkn i).2) true (fun q => if q = a then k else k - (tkn i).1 + (tkn i).2) := by
  have la := (List.getElem?_eq_some_iff.mp h).1
  refine ⟨by omega, by omega, fun z => (by cases z), if_pos rfl, fun _ => if_neg (by omega), fun q j q1 q2 ej => ?_, fun q q1 q2 qo => ⟨a, i, Nat.le_refl _, q1, h, ?_⟩⟩
  · have : q = a := by omega
    subst this
    rw [h] at ej
    cases ej
    refine ⟨r, by rw [if_pos rfl]; exact t, fun x m => ?_⟩
    rw [e, List.mem_singleton] at m
    subst m
    exact ⟨by omega, Nat.le_refl _, fun _ => rfl, by rw [if_pos rfl, if_neg (by omega)]; omega⟩
  · rw [e, show q = a + 1 by omega]
    exact List.mem_singleton.mpr rfl
/-- one row that leads nowhere -/
theorem Seg.last {a k k' : Nat} {i : Ins} (h : is[a]? = some i) (r : RowS l kept i) (t : (tkn i).1 ≤ k) (e : lds a i = []) : Seg l kept is a (a + 1) k k' false (fun _ => k) := by
  have la := (List.getElem?_eq_some_iff.mp h).1
  refine ⟨by omega, by omega, fun _ => (by omega), rfl, fun z => (by cases z), fun q j q1 q2 ej => ?_, fun q q1 q2 qo => (by have := qo (by omega); cases this)⟩
  have : q = a := by omega
  subst this
  rw [h] at ej
  cases ej
  exact ⟨r, t, fun x m => by rw [e] at m; cases m⟩
/-- a test, and its two ways -/
theorem Seg.ways {a1 a2 b k : Nat} {h2 h3 : Nat → Nat} (hu : is[a1]? = some (.unless a2)) (y : Seg l kept is (a1 + 1) a2 k (k + 1) false h2) (z : Seg l kept is a2 b k (k + 1) false h3) :
    Seg l kept is a1 b (k + 1) (k + 1) false (fun q => if q = a1 then k + 1 else if q < a2 then h2 q else h3 q) := by
  have yl := y.ne rfl
  have zl := z.ne rfl
  refine ⟨by omega, z.len, fun _ => (by omega), if_pos rfl, fun z => (by cases z), fun q i q1 q2 e => ?_, fun q q1 q2 qo => ?_⟩
  · by_cases c0 : q = a1
    · subst c0
      rw [hu] at e
      cases e
      refine ⟨trivial, by rw [if_pos rfl]; show 1 ≤ k + 1; omega, fun r m => ?_⟩
      have m : r ∈ [q + 1, a2] := m
      simp only [List.mem_cons, List.not_mem_nil, or_false] at m
      rcases m with m | m <;> subst m
      · refine ⟨by omega, by omega, fun w => by omega, ?_⟩
        rw [if_pos rfl, if_neg (by omega), if_pos yl, y.s]
        rfl
      · refine ⟨by omega, by omega, fun w => by omega, ?_⟩
        rw [if_pos rfl, if_neg (by omega), if_neg (by omega), z.s]
        rfl
    · by_cases c1 : q < a2
      · obtain ⟨r1, r2, r3⟩ := y.row q i (by omega) c1 e
        refine ⟨r1, by rw [if_neg c0, if_pos c1]; exact r2, fun r m => ?_⟩
        obtain ⟨s1, s2, s3, s4⟩ := r3 r m
        have nr : r ≠ a2 := fun w => by have := s3 w; cases this
        exact ⟨s1, by omega, fun w => by omega, by rw [if_neg c0, if_pos c1, if_neg (show ¬ r = a1 by omega), if_pos (show r < a2 by omega)]; exact s4⟩
      · obtain ⟨r1, r2, r3⟩ := z.row q i (by omega) q2 e
        refine ⟨r1, by rw [if_neg c0, if_neg c1]; exact r2, fun r m => ?_⟩
        obtain ⟨s1, s2, s3, s4⟩ := r3 r m
        exact ⟨s1, s2, s3, by rw [if_neg c0, if_neg c1, if_neg (show ¬ r = a1 by omega), if_neg (show ¬ r < a2 by omega)]; exact s4⟩
  · by_cases c1 : q = a1 + 1
    · exact ⟨a1, _, Nat.le_refl _, q1, hu, by rw [c1]; exact List.mem_cons_self⟩
    by_cases c2 : q = a2
    · exact ⟨a1, _, Nat.le_refl _, q1, hu, by rw [c2]; exact List.mem_cons_of_mem _ List.mem_cons_self⟩
    by_cases c3 : q < a2
    · obtain ⟨p, i, p1, p2, p3⟩ := y.reach q (by omega) (by omega) (fun w => absurd w c2)
      exact ⟨p, i, by omega, p2, p3⟩
    · obtain ⟨p, i, p1, p2, p3⟩ := z.reach q (by omega) q2 qo
      exact ⟨p, i, by omega, p2, p3⟩
theorem Seg.ways2 {a1 a2 b k : Nat} {h2 h3 : Nat → Nat} (hu : is[a1]? = some (.unless (a2 + 1))) (y : Seg l kept is (a1 + 1) a2 k (k + 1) true h2) (hj : is[a2]? = some (.jump b)) (z : Seg l kept is (a2 + 1) b k (k + 1) true h3) (ne1 : a1 + 1 < a2) (ne2 : a2 + 1 < b) :
    Seg l kept is a1 b (k + 1) (k + 1) true (fun q => if q = a1 then k + 1 else if q ≤ a2 then h2 q else h3 q) := by
  refine ⟨by omega, z.len, fun z => (by cases z), if_pos rfl, fun _ => ?_, fun q i q1 q2 e => ?_, fun q q1 q2 qo => ?_⟩
  · rw [if_neg (by omega), if_neg (by omega)]
    exact z.e rfl
  · by_cases c0 : q = a1
    · subst c0
      rw [hu] at e
      cases e
      refine ⟨trivial, by rw [if_pos rfl]; show 1 ≤ k + 1; omega, fun r m => ?_⟩
      have m : r ∈ [q + 1, a2 + 1] := m
      simp only [List.mem_cons, List.not_mem_nil, or_false] at m
      rcases m with m | m <;> subst m
      · refine ⟨by omega, by omega, fun _ => rfl, ?_⟩
        rw [if_pos rfl, if_neg (by omega), if_pos (by omega), y.s]
        rfl
      · refine ⟨by omega, by omega, fun _ => rfl, ?_⟩
        rw [if_pos rfl, if_neg (by omega), if_neg (by omega), z.s]
        rfl
    by_cases cj : q = a2
    · subst cj
      rw [hj] at e
      cases e
      refine ⟨trivial, Nat.zero_le _, fun r m => ?_⟩
      have m : r ∈ [b] := m
      rw [List.mem_singleton] at m
      subst m
      refine ⟨by omega, Nat.le_refl _, fun _ => rfl, ?_⟩
      rw [if_neg (show ¬ r = a1 by omega), if_neg (show ¬ r ≤ q by omega), if_neg c0, if_pos (Nat.le_refl _), z.e rfl, y.e rfl]
      rfl
    · by_cases c1 : q < a2
      · obtain ⟨r1, r2, r3⟩ := y.row q i (by omega) c1 e
        refine ⟨r1, by rw [if_neg c0, if_pos (show q ≤ a2 by omega)]; exact r2, fun r m => ?_⟩
        obtain ⟨s1, s2, s3, s4⟩ := r3 r m
        exact ⟨s1, by omega, fun _ => rfl, by rw [if_neg c0, if_pos (show q ≤ a2 by omega), if_neg (show ¬ r = a1 by omega), if_pos (show r ≤ a2 by omega)]; exact s4⟩
      · obtain ⟨r1, r2, r3⟩ := z.row q i (by omega) q2 e
        refine ⟨r1, by rw [if_neg c0, if_neg (show ¬ q ≤ a2 by omega)]; exact r2, fun r m => ?_⟩
        obtain ⟨s1, s2, s3, s4⟩ := r3 r m
        exact ⟨s1, s2, s3, by rw [if_neg c0, if_neg (show ¬ q ≤ a2 by omega), if_neg (show ¬ r = a1 by omega), if_neg (show ¬ r ≤ a2 by omega)]; exact s4⟩
  · by_cases c1 : q = a1 + 1
    · exact ⟨a1, _, Nat.le_refl _, q1, hu, by rw [c1]; exact List.mem_cons_self⟩
    by_cases c2 : q = a2 + 1
    · exact ⟨a1, _, Nat.le_refl _, q1, hu, by rw [c2]; exact List.mem_cons_of_mem _ List.mem_cons_self⟩
    by_cases c3 : q ≤ a2
    · obtain ⟨p, i, p1, p2, p3⟩ := y.reach q (by omega) (by omega) (fun _ => rfl)
      exact ⟨p, i, by omega, p2, p3⟩
    · obtain ⟨p, i, p1, p2, p3⟩ := z.reach q (by omega) q2 qo
      exact ⟨p, i, by omega, p2, p3⟩
end
/-! ### well made codes -/
inductive CRt : Nat → Code → Nat → Prop
  | mk {d p l kept : Nat} {is : List Ins} {k' : Nat} (hs : Nat → Nat) (hp : p ≤ l) (hl : is.length ≤ many) (hm : l ≤ many) (sg : Seg l kept is 0 is.length 0 k' false hs) (sub : ∀ (q : Nat) (c : Code) (ss : List Src), is[q]? = some (Ins.fn c ss) → CRt d c ss.length) : CRt (d + 1) (.mk p l is) kept
mutual
/-- the codes in a code: parameters, kept values -/
def cdC : Code → List (Nat × Nat)
  | .mk _ _ is => cdIs is
def cdI : Ins → List (Nat × Nat)
  | .fn c ss => (c.params, ss.length) :: cdC c
  | _ => []
def cdIs : List Ins → List (Nat × Nat)
  | [] => []
  | i :: is => cdI i ++ cdIs is
end
mutual
/-- the functions in a tree -/
def fnT : Tr → List (List Int × Tr)
  | .fn ns b => (ns, b) :: fnT b
  | .let_ _ ts b => fnTs ts ++ fnT b
  | .if_ a b c => fnT a ++ (fnT b ++ fnT c)
  | .call f ts => fnT f ++ fnTs ts
  | _ => []
def fnTs : List Tr → List (List Int × Tr)
  | [] => []
  | t :: ts => fnT t ++ fnTs ts
end
def dueC (x : List (List Int × Tr)) : List (Nat × Nat) := x.map fun p => (p.1.length, (outT (.fn p.1 p.2)).length)
theorem dueC_app (x y : List (List Int × Tr)) : dueC (x ++ y) = dueC x ++ dueC y := List.map_append
theorem cdIs_app : ∀ (x y : List Ins), cdIs (x ++ y) = cdIs x ++ cdIs y
  | [], y => rfl
  | i :: x, y => by
    show cdI i ++ cdIs (x ++ y) = (cdI i ++ cdIs x) ++ cdIs y
    rw [cdIs_app x y, List.append_assoc]
/-- the codes in the rows from a to b -/
def cdR (is : List Ins) (a b : Nat) : List (Nat × Nat) := cdIs ((is.drop a).take (b - a))
theorem cdR_nil {is : List Ins} {a : Nat} : cdR is a a = [] := by unfold cdR; rw [Nat.sub_self, List.take_zero]; rfl
theorem cdR_split {is : List Ins} {a b c : Nat} (h1 : a ≤ b) (h2 : b ≤ c) : cdR is a c = cdR is a b ++ cdR is b c := by
  unfold cdR
  rw [← cdIs_app]
  congr 1
  rw [show c - a = (b - a) + (c - b) by omega, List.take_add, List.drop_drop]
  congr 3
  omega
theorem cdR_one {is : List Ins} {a : Nat} {i : Ins} (h : is[a]? = some i) : cdR is a (a + 1) = cdI i := by
  obtain ⟨la, e⟩ := List.getElem?_eq_some_iff.mp h
  unfold cdR
  rw [show a + 1 - a = 1 by omega, List.drop_eq_getElem_cons la, e]
  show cdI i ++ [] = cdI i
  rw [List.append_nil]
theorem cdR_all (is : List Ins) : cdR is 0 is.length = cdIs is := by unfold cdR; rw [List.drop_zero, Nat.sub_zero, List.take_length]
end My
namespace My
open PySem PySem.Spec PyProof.Rows L2 TL
/-! ### a tree that lies in its code: the code is well made -/
def SubR (D : Nat) (is : List Ins) (a b : Nat) : Prop := ∀ (q : Nat) (c : Code) (ss : List Src), a ≤ q → q < b → is[q]? = some (Ins.fn c ss) → CRt D c ss.length
theorem SubR.glue {D : Nat} {is : List Ins} {a b c : Nat} (x : SubR D is a b) (y : SubR D is b c) : SubR D is a c := fun q d ss h1 h2 e => by
  by_cases z : q < b
  · exact x q d ss h1 z e
  · exact y q d ss (by omega) h2 e
theorem SubR.one {D : Nat} {is : List Ins} {a : Nat} {i : Ins} (h : is[a]? = some i) (n : ∀ c ss, i ≠ .fn c ss) : SubR D is a (a + 1) := fun q d ss h1 h2 e => by
  have : q = a := by omega
  subst this
  rw [h] at e
  exact absurd (Option.some.inj e) (n _ _)
/-- what a tree from a to b gives -/
def Wel (D l kept : Nat) (is : List Ins) (a b k k' : Nat) (o : Bool) (fs : List (List Int × Tr)) : Prop := (∃ hs, Seg l kept is a b k k' o hs) ∧ SubR D is a b ∧ cdR is a b = dueC fs
section
variable {D l kept : Nat} {is : List Ins}
theorem Wel.le {a b k k' : Nat} {o : Bool} {fs : List (List Int × Tr)} (h : Wel D l kept is a b k k' o fs) : a ≤ b := h.1.elim fun _ s => s.le
theorem Wel.nil {a k : Nat} (h : a ≤ is.length) : Wel D l kept is a a k k true [] := ⟨⟨_, Seg.nil h⟩, fun q c ss h1 h2 => by omega, cdR_nil⟩
theorem Wel.glue {a b c k k' k'' : Nat} {o : Bool} {fs gs : List (List Int × Tr)} (x : Wel D l kept is a b k k' true fs) (y : Wel D l kept is b c k' k'' o gs) : Wel D l kept is a c k k'' o (fs ++ gs) := by
  obtain ⟨⟨h1, x1⟩, x2, x3⟩ := x
  obtain ⟨⟨h2, y1⟩, y2, y3⟩ := y
  exact ⟨⟨_, x1.glue y1⟩, x2.glue y2, by rw [cdR_split x1.le y1.le, x3, y3, dueC_app]⟩
theorem Wel.one {a k k' : Nat} {i : Ins} (h : is[a]? = some i) (r : RowS l kept i) (t : (tkn i).1 ≤ k) (e : lds a i = [a + 1]) (n : ∀ c ss, i ≠ .fn c ss) (hk : k - (tkn i).1 + (tkn i).2 = k') : Wel D l kept is a (a + 1) k k' true [] := by
  subst hk
  refine ⟨⟨_, Seg.one h r t e⟩, SubR.one h n, ?_⟩
  rw [cdR_one h]
  cases i with
  | fn c ss => exact absurd rfl (n c ss)
  | _ => rfl
theorem Wel.last {a k k' : Nat} {i : Ins} (h : is[a]? = some i) (r : RowS l kept i) (t : (tkn i).1 ≤ k) (e : lds a i = []) : Wel D l kept is a (a + 1) k k' false [] := by
  have n : ∀ c ss, i ≠ .fn c ss := fun c ss z => by subst z; cases e
  refine ⟨⟨_, Seg.last h r t e⟩, SubR.one h n, ?_⟩
  rw [cdR_one h]
  cases i with
  | fn c ss => exact absurd rfl (n c ss)
  | _ => rfl
/-- a leaf, and the end behind it in last place -/
theorem Wel.leaf {a b k : Nat} {i : Ins} {last : Bool} {fs : List (List Int × Tr)} (h : Leaf is i last a b) (x : is[a]? = some i → Wel D l kept is a (a + 1) k (k + 1) true fs) : Wel D l kept is a b k (k + 1) (!last) fs := by
  obtain ⟨h1, h2⟩ := h
  cases last with
  | true =>
    rw [if_pos rfl] at h2
    obtain ⟨e, rfl⟩ := h2
    have := (x h1).glue (Wel.last (k' := k + 1) e trivial (show 1 ≤ k + 1 by omega) rfl)
    rw [List.append_nil] at this
    exact this
  | false =>
    rw [if_neg Bool.false_ne_true] at h2
    subst h2
    exact x h1
theorem Wel.app {a b k k' : Nat} {o : Bool} {fs gs : List (List Int × Tr)} (h : Wel D l kept is a b k k' o fs) (e : fs = gs) : Wel D l kept is a b k k' o gs := e ▸ h
end
theorem letSc_get {x : Int} {s : Src} : ∀ {ns : List Int} {f : Nat} {sc : Sc}, scGet x (letSc f ns sc) = some s → scGet x sc = some s ∨ ∃ j, s = .place (f + j) ∧ j < ns.length
  | [], f, sc, h => .inl h
  | n :: ns, f, sc, h => by
    rcases letSc_get (ns := ns) (f := f + 1) (sc := scPut n (.place f) sc) h with h | ⟨j, h1, h2⟩
    · rw [scGet_put] at h
      by_cases c : n = x
      · rw [if_pos c] at h
        cases h
        exact .inr ⟨0, rfl, by simp⟩
      · rw [if_neg c] at h
        exact .inl h
    · exact .inr ⟨j + 1, by rw [h1, Nat.add_assoc, Nat.add_comm 1 j], by simp; omega⟩
theorem ssOf_all {sc : Sc} {p : Src → Prop} (h : ∀ x s, scGet x sc = some s → p s) : ∀ {xs : List Int} {ss : List Src}, ssOf sc xs = some ss → ss.length = xs.length ∧ ∀ s ∈ ss, p s
  | [], ss, e => by cases e; exact ⟨rfl, fun s m => by cases m⟩
  | x :: xs, ss, e => by
    unfold ssOf at e
    cases h1 : scGet x sc with
    | none => rw [h1] at e; cases e
    | some s =>
    cases h2 : ssOf sc xs with
    | none => rw [h1, h2] at e; cases e
    | some ss' =>
    rw [h1, h2] at e
    cases e
    obtain ⟨k1, k2⟩ := ssOf_all h h2
    exact ⟨by simp [k1], fun y m => by
      rcases List.mem_cons.mp m with m | m
      · rw [m]; exact h _ _ h1
      · exact k2 y m⟩
theorem fnSc_ok {ns : List Int} {bd : Tr} {l nk : Nat} (hl : ns.length ≤ l) (hn : (outT (.fn ns bd)).length = nk) : ∀ x s, scGet x (fnSc (.fn ns bd)) = some s → SrIn l nk s := by
  intro x s h
  unfold fnSc at h
  rcases letSc_get h with h | ⟨j, h1, h2⟩
  · rcases kpSc_get h with h | ⟨j, h1, h2⟩
    · cases h
    · subst h1
      have := (List.getElem?_eq_some_iff.mp h2).1
      show 0 + j < nk
      omega
  · subst h1
    have h2 : j < ns.length := h2
    show 0 + j < l
    omega
theorem depT_pos : ∀ t : Tr, 1 ≤ depT t := fun t => by cases t <;> (unfold depT; omega)
theorem leaf_lt {is : List Ins} {i : Ins} {last : Bool} {a b : Nat} (h : Leaf is i last a b) : a < b := by
  obtain ⟨_, h2⟩ := h
  cases last with
  | true => rw [if_pos rfl] at h2; omega
  | false => rw [if_neg Bool.false_ne_true] at h2; omega
mutual
theorem lay_lt : ∀ (t : Tr) {np : Nat} {is : List Ins} {sc : Sc} {last : Bool} {a lo b hi : Nat}, Lay np is t sc last a lo b hi → a < b
  | .int i, np, is, sc, last, a, lo, b, hi, h => by unfold Lay at h; exact leaf_lt h.1
  | .loc x, np, is, sc, last, a, lo, b, hi, h => by unfold Lay at h; obtain ⟨s, _, h, _⟩ := h; exact leaf_lt h
  | .glob m x, np, is, sc, last, a, lo, b, hi, h => by unfold Lay at h; exact leaf_lt h.1
  | .prim p, np, is, sc, last, a, lo, b, hi, h => by unfold Lay at h; exact leaf_lt h.1
  | .fn ns bd, np, is, sc, last, a, lo, b, hi, h => by unfold Lay at h; obtain ⟨l, js, ss, b', hi', h, _⟩ := h; exact leaf_lt h
  | .let_ ns ts bd, np, is, sc, last, a, lo, b, hi, h => by
    unfold Lay at h
    obtain ⟨a1, lo1, _, h1, h2⟩ := h
    have := LayLet_a ts h1
    have := lay_lt bd h2
    omega
  | .if_ c t e, np, is, sc, last, a, lo, b, hi, h => by
    unfold Lay at h
    obtain ⟨a1, lo1, a2, lo2, h1, h2⟩ := h
    have := lay_lt c h1
    cases last with
    | true =>
      rw [if_pos rfl] at h2
      have := lay_lt t h2.2.1
      have := lay_lt e h2.2.2
      omega
    | false =>
      rw [if_neg Bool.false_ne_true] at h2
      have := lay_lt t h2.2.1
      have := lay_lt e h2.2.2.2
      omega
  | .call g ts, np, is, sc, last, a, lo, b, hi, h => by
    unfold Lay at h
    obtain ⟨a0, lo0, a1, h1, h2, _, h4⟩ := h
    have := lay_lt g h1
    have := LayL_a ts h2
    omega
theorem LayL_a : ∀ (ts : List Tr) {np : Nat} {is : List Ins} {sc : Sc} {a lo b hi : Nat}, LayL np is ts sc a lo b hi → a ≤ b
  | [], np, is, sc, a, lo, b, hi, h => by unfold LayL at h; omega
  | t :: ts, np, is, sc, a, lo, b, hi, h => by
    unfold LayL at h
    obtain ⟨a1, lo1, h1, h2⟩ := h
    have := lay_lt t h1
    have := LayL_a ts h2
    omega
theorem LayLet_a : ∀ (ts : List Tr) {np : Nat} {is : List Ins} {sc : Sc} {f a lo b hi : Nat}, LayLet np is ts sc f a lo b hi → a ≤ b
  | [], np, is, sc, f, a, lo, b, hi, h => by unfold LayLet at h; omega
  | t :: ts, np, is, sc, f, a, lo, b, hi, h => by
    unfold LayLet at h
    obtain ⟨a1, lo1, h1, _, h2⟩ := h
    have := lay_lt t h1
    have := LayLet_a ts h2
    omega
end
mutual
theorem lay_W : ∀ (t : Tr) {D np0 np nk : Nat} {is : List Ins} {sc : Sc} {last : Bool} {a lo b hi k : Nat}, Lay np0 is t sc last a lo b hi → np0 ≤ np → (∀ x s, scGet x sc = some s → SrIn np nk s) → gdT t → depT t ≤ D + 1 → Wel D np nk is a b k (k + 1) (!last) (fnT t)
  | .int i, D, np0, np, nk, is, sc, last, a, lo, b, hi, k, h, hnp, hs, g, hd => by
    unfold Lay at h
    exact Wel.leaf h.1 fun e => Wel.one e trivial (Nat.zero_le _) rfl (fun _ _ z => by cases z) rfl
  | .loc x, D, np0, np, nk, is, sc, last, a, lo, b, hi, k, h, hnp, hs, g, hd => by
    unfold Lay at h
    obtain ⟨s, h1, h2, _⟩ := h
    exact Wel.leaf h2 fun e => Wel.one e (hs _ _ h1) (Nat.zero_le _) rfl (fun _ _ z => by cases z) rfl
  | .glob m x, D, np0, np, nk, is, sc, last, a, lo, b, hi, k, h, hnp, hs, g, hd => by
    unfold Lay at h
    exact Wel.leaf h.1 fun e => Wel.one e trivial (Nat.zero_le _) rfl (fun _ _ z => by cases z) rfl
  | .prim p, D, np0, np, nk, is, sc, last, a, lo, b, hi, k, h, hnp, hs, g, hd => by
    unfold Lay at h
    exact Wel.leaf h.1 fun e => Wel.one e trivial (Nat.zero_le _) rfl (fun _ _ z => by cases z) rfl
  | .fn ns bd, D, np0, np, nk, is, sc, last, a, lo, b, hi, k, h, hnp, hs, g, hd => by
    unfold Lay at h
    obtain ⟨l, js, ss, b', hi', h1, _, h3, h4, ⟨h5, h7, h8, h9⟩, h6⟩ := h
    obtain ⟨_, _, _, g3⟩ : ns.length ≤ 5 ∧ (∀ n ∈ ns, nmOk n) ∧ wT bd ≤ 2741 ∧ gdT bd := g
    obtain ⟨e1, e2⟩ := ssOf_all hs h3
    unfold depT at hd
    have dp := depT_pos bd
    obtain ⟨D, rfl⟩ : ∃ D', D = D' + 1 := ⟨D - 1, by omega⟩
    obtain ⟨⟨hs', w1⟩, w2, w3⟩ := lay_W bd (np := l) (nk := ss.length) (k := 0) h6 (Nat.le_refl _) (fnSc_ok h8 e1.symm) g3 (D := D) (by omega)
    subst h7
    refine Wel.leaf h1 fun e => ⟨⟨_, Seg.one e e2 (Nat.zero_le _) rfl⟩, ?_, ?_⟩
    · intro q c ss' q1 q2 e'
      have : q = a := by omega
      subst this
      rw [e] at e'
      cases e'
      exact .mk hs' h8 h9 h5 w1 fun q c ss' e => w2 q c ss' (Nat.zero_le _) (List.getElem?_eq_some_iff.mp e).1 e
    · rw [cdR_one e]
      rw [cdR_all] at w3
      show (ns.length, ss.length) :: cdIs js = (ns.length, (outT (.fn ns bd)).length) :: dueC (fnT bd)
      rw [w3, e1]
  | .let_ ns ts bd, D, np0, np, nk, is, sc, last, a, lo, b, hi, k, h, hnp, hs, g, hd => by
    unfold Lay at h
    obtain ⟨a1, lo1, h0, h1, h2⟩ := h
    obtain ⟨_, e2, _, g3, g4⟩ : ns.length ≤ 5 ∧ ns.length = ts.length ∧ (∀ n ∈ ns, nmOk n) ∧ gdTs ts ∧ gdT bd := g
    unfold depT at hd
    have y := lay_W bd (k := k) h2 hnp (fun x s e => by
      rcases letSc_get e with e | ⟨j, e1, e2⟩
      · exact hs _ _ e
      · subst e1
        show lo + j < np
        omega) g4 (D := D) (by omega)
    have la : a ≤ is.length := by
      have := LayLet_a ts h1
      have := y.1.elim fun _ s => s.len
      have := y.le
      omega
    exact (lets_W ts h1 hnp hs g3 (by omega) (by omega) la).glue y
  | .if_ c t e, D, np0, np, nk, is, sc, last, a, lo, b, hi, k, h, hnp, hs, g, hd => by
    unfold Lay at h
    obtain ⟨a1, lo1, a2, lo2, h1, h2⟩ := h
    obtain ⟨g1, g2, g3⟩ : gdT c ∧ gdT t ∧ gdT e := g
    unfold depT at hd
    have x := lay_W c (D := D) (k := k) h1 hnp hs g1 (by omega)
    refine x.glue ?_
    cases last with
    | true =>
      rw [if_pos rfl] at h2
      obtain ⟨⟨hy, y1⟩, y2, y3⟩ := lay_W t (k := k) h2.2.1 hnp hs g2 (D := D) (by omega)
      obtain ⟨⟨hz, z1⟩, z2, z3⟩ := lay_W e (k := k) h2.2.2 hnp hs g3 (D := D) (by omega)
      have l1 := y1.le
      have l2 := z1.le
      refine ⟨⟨_, Seg.ways h2.1 y1 z1⟩, (SubR.one h2.1 fun _ _ z => by cases z).glue (y2.glue z2), ?_⟩
      rw [cdR_split (show a1 ≤ a1 + 1 by omega) (show a1 + 1 ≤ b by omega), cdR_split l1 l2, y3, z3, cdR_one h2.1, dueC_app]
      rfl
    | false =>
      rw [if_neg Bool.false_ne_true] at h2
      obtain ⟨u1, u2, u3, u4⟩ := h2
      obtain ⟨⟨hy, y1⟩, y2, y3⟩ := lay_W t (k := k) u2 hnp hs g2 (D := D) (by omega)
      obtain ⟨⟨hz, z1⟩, z2, z3⟩ := lay_W e (k := k) u4 hnp hs g3 (D := D) (by omega)
      have l1 := lay_lt t u2
      have l2 := lay_lt e u4
      refine ⟨⟨_, Seg.ways2 u1 y1 u3 z1 l1 l2⟩, (SubR.one u1 fun _ _ z => by cases z).glue (y2.glue ((SubR.one u3 fun _ _ z => by cases z).glue z2)), ?_⟩
      rw [cdR_split (show a1 ≤ a1 + 1 by omega) (show a1 + 1 ≤ b by omega), cdR_split (show a1 + 1 ≤ a2 by omega) (show a2 ≤ b by omega), cdR_split (show a2 ≤ a2 + 1 by omega) (show a2 + 1 ≤ b by omega), y3, z3, cdR_one u1, cdR_one u3, dueC_app]
      rfl
  | .call g0 ts, D, np0, np, nk, is, sc, last, a, lo, b, hi, k, h, hnp, hs, g, hd => by
    unfold Lay at h
    obtain ⟨a0, lo0, a1, h1, h2, h3, h4⟩ := h
    obtain ⟨e1, g1, g2⟩ : ts.length ≤ 5 ∧ gdT g0 ∧ gdTs ts := g
    unfold depT at hd
    have x := lay_W g0 (D := D) (k := k) h1 hnp hs g1 (by omega)
    have l1 := (List.getElem?_eq_some_iff.mp h3).1
    have l2 := LayL_a ts h2
    have y := args_W ts (D := D) (k := k + 1) h2 hnp hs g2 (by omega) (by omega)
    subst h4
    refine Wel.app ((x.glue y).glue (c := a1 + 1) (k'' := k + 1) (o := !last) (gs := []) ?_) (List.append_nil _)
    cases last with
    | true =>
      rw [if_pos rfl] at h3
      exact Wel.last h3 trivial (show ts.length + 1 ≤ k + 1 + ts.length by omega) rfl
    | false =>
      rw [if_neg Bool.false_ne_true] at h3
      exact Wel.one h3 trivial (show ts.length + 1 ≤ k + 1 + ts.length by omega) rfl (fun _ _ z => by cases z) (show k + 1 + ts.length - (ts.length + 1) + 1 = k + 1 by omega)
theorem args_W : ∀ (ts : List Tr) {D np0 np nk : Nat} {is : List Ins} {sc : Sc} {a lo b hi k : Nat}, LayL np0 is ts sc a lo b hi → np0 ≤ np → (∀ x s, scGet x sc = some s → SrIn np nk s) → gdTs ts → depTs ts ≤ D + 1 → a ≤ is.length → Wel D np nk is a b k (k + ts.length) true (fnTs ts)
  | [], D, np0, np, nk, is, sc, a, lo, b, hi, k, h, hnp, hs, g, hd, la => by
    unfold LayL at h
    obtain ⟨rfl, _⟩ := h
    exact Wel.nil la
  | t :: ts, D, np0, np, nk, is, sc, a, lo, b, hi, k, h, hnp, hs, g, hd, la => by
    unfold LayL at h
    obtain ⟨a1, lo1, h1, h2⟩ := h
    obtain ⟨g1, g2⟩ : gdT t ∧ gdTs ts := g
    unfold depTs at hd
    have x := lay_W t (D := D) (k := k) h1 hnp hs g1 (by omega)
    have y := args_W ts (D := D) (k := k + 1) h2 hnp hs g2 (by omega) (x.1.elim fun _ s => s.len)
    rw [show k + 1 + ts.length = k + (t :: ts).length by simp; omega] at y
    exact x.glue y
theorem lets_W : ∀ (ts : List Tr) {D np0 np nk : Nat} {is : List Ins} {sc : Sc} {f a lo b hi k : Nat}, LayLet np0 is ts sc f a lo b hi → np0 ≤ np → (∀ x s, scGet x sc = some s → SrIn np nk s) → gdTs ts → depTs ts ≤ D + 1 → f + ts.length ≤ np0 → a ≤ is.length → Wel D np nk is a b k k true (fnTs ts)
  | [], D, np0, np, nk, is, sc, f, a, lo, b, hi, k, h, hnp, hs, g, hd, hf, la => by
    unfold LayLet at h
    obtain ⟨rfl, _⟩ := h
    exact Wel.nil la
  | t :: ts, D, np0, np, nk, is, sc, f, a, lo, b, hi, k, h, hnp, hs, g, hd, hf, la => by
    unfold LayLet at h
    obtain ⟨a1, lo1, h1, h2, h3⟩ := h
    obtain ⟨g1, g2⟩ : gdT t ∧ gdTs ts := g
    have hf : f + (ts.length + 1) ≤ np0 := hf
    unfold depTs at hd
    have x := lay_W t (D := D) (k := k) h1 hnp hs g1 (by omega)
    have l1 := (List.getElem?_eq_some_iff.mp h2).1
    have y := lets_W ts (D := D) (k := k) h3 hnp hs g2 (by omega) (by omega) (by omega)
    have z : Wel D np nk is a1 (a1 + 1) (k + 1) k true [] := Wel.one h2 (show f < np by omega) (show 1 ≤ k + 1 by omega) rfl (fun _ _ z => by cases z) rfl
    exact x.glue (z.glue y)
end
end My
namespace My
open PySem PySem.Spec PyProof.Rows L2
/-! ### len(set(xs)), numbers twice among them or not -/
def fMet (ns : List Int) : List Int := PyProof.Rows.firstMet (fun i => ns.getD i 0) ns.length
theorem met_all (val : Nat → Int) : ∀ i, (PyProof.Rows.firstMet val i).length = i → PyProof.Rows.firstMet val i = (List.range i).map val ∧ ((List.range i).map val).Nodup
  | 0, _ => ⟨rfl, List.nodup_nil⟩
  | i + 1, h => by
    have le := PyProof.Rows.firstMet_length_le val i
    rw [PyProof.Rows.firstMet_succ] at h ⊢
    unfold PyProof.Rows.step_dedup at h ⊢
    by_cases c : (PyProof.Rows.firstMet val i).any (· == val i) = true
    · rw [if_pos c] at h
      omega
    · rw [if_neg c] at h ⊢
      rw [List.length_append, List.length_singleton] at h
      obtain ⟨e, n⟩ := met_all val i (by omega)
      refine ⟨by rw [e, List.range_succ, List.map_append]; rfl, ?_⟩
      rw [List.range_succ, List.map_append, List.nodup_append]
      refine ⟨n, by simp, fun a ha b hb eq => c ?_⟩
      rw [e, List.any_eq_true]
      refine ⟨a, ha, ?_⟩
      rw [List.map_singleton, List.mem_singleton] at hb
      rw [eq, hb, beq_self_eq_true]
theorem range_getD (ns : List Int) : (List.range ns.length).map (fun i => ns.getD i 0) = ns := by
  refine List.ext_getElem (by simp) fun i h1 h2 => ?_
  rw [List.getElem_map, List.getElem_range, List.getD_eq_getElem?_getD, List.getElem?_eq_getElem h2]
  rfl
theorem fMet_iff (ns : List Int) : (fMet ns).length = ns.length ↔ ns.Nodup := by
  constructor
  · intro h
    have := (met_all _ _ h).2
    rw [range_getD] at this
    exact this
  · intro h
    unfold fMet
    rw [RZ.firstMet_nodup h ns.length (Nat.le_refl _), List.take_length]
def tLenSet (K : PySem.W.Frag) (ta : TE) : TE := fun σ H Q => ta σ H fun x H1 => ∃ (l : Addr) (ns : List Int), x = .ref l ∧ SqL K H1 l (ns.map V.int) ∧ ns.length ≤ 4000 ∧ Q (.int ((fMet ns).length : Nat)) H1
theorem pe_lenSet {X : Cx} {a : Expr} {ta : TE} {p p2 q pos : Pos} (hg : L2.Gl X "len") (hm : X.mg "len" = none) (hg2 : L2.Gl X "set") (hm2 : X.mg "set" = none) (ha : PE X a ta) (hc : X.calm = true := by rfl)
    (na : starEach [a] X.env = (false, eval a X.env) :: starEach [] X.env := by rfl) : PE X (.Call (.Name "len" p) [.Call (.Name "set" p2) [a] [] q] [] pos) (tLenSet X.K ta) := by
  refine ⟨fun pins s σ H Q I h => Call_ (ld_blt I hg hm boot_len (PyProof.Rows.callWith_builtin1 (PyProof.Rows.args_cons (Call_ (ld_blt I hg2 hm2 boot_set (PyProof.Rows.callWith_type1
    (PyProof.Rows.args_cons (thn (ha.run pins s σ H _ I h) fun v s1 z => PyProof.Rows.args_nil ?_) na) na rfl))) rfl) rfl rfl))⟩
  obtain ⟨x, H1, J, rx, l, ns, rfl, hq, hl, qq⟩ := z
  cases rx
  obtain ⟨its, rv, pl, hz⟩ := J.list hq
  have sz : its.toArray.size = ns.length := by rw [List.size_toArray, ← rv.length, List.length_map]
  refine call_set_list (J.ok.hd hc) pl.isList (by simpa using RZ.intsAre_vals rv) (by rw [sz]; unfold scanBound; omega) fun h' tk hS hk => PyProof.Rows.args_nil ?_
  rw [sz] at hS
  obtain ⟨o, es, ep, t, ho, hex, hd, _, _, _, hf, hn⟩ := hS
  have J2 : Inv X pins σ H1 { s1 with heap := h', toks := tk } := J.kept fun b o e => hk b o (Heap.lt_size e) e
  have le := PyProof.Rows.firstMet_length_le (fun i => ns.getD i 0) ns.length
  exact call_len_set ho hex hd hf (by rw [hn]; omega) ⟨.int (fMet ns).length, H1, J2.tok _, ⟨_, by rw [hn]; rfl⟩, qq⟩
end My
namespace My
open PySem PySem.Spec PyProof.Rows L2 TL
/-! ### the code of a whole part; the free numbers, one by one -/
theorem codeOf_W {D : Nat} {t : Tr} {c : Code} (h : CodeOf t c) (g : gdT t) (hd : depT t ≤ D + 1) : CRt (D + 1) c 0 ∧ c.params = 0 ∧ cdC c = dueC (fnT t) := by
  obtain ⟨l, is, b, hi, rfl, ⟨h1, h2, h3, h4⟩, lay⟩ := h
  obtain ⟨⟨hs, w1⟩, w2, w3⟩ := lay_W t (np := l) (nk := 0) (k := 0) lay (Nat.le_refl _) (fun x s e => by cases e) g hd
  subst h2
  refine ⟨.mk hs h3 h4 h1 w1 fun q c ss e => w2 q c ss (Nat.zero_le _) (List.getElem?_eq_some_iff.mp e).1 e, rfl, ?_⟩
  rw [cdR_all] at w3
  exact w3
mutual
def freeL : Tr → List Int → List Int
  | .loc n, bd => if n ∈ bd then [] else [n]
  | .fn ns b, bd => freeL b (bd ++ ns)
  | .let_ ns ts b, bd => freeLs ts bd ++ freeL b (bd ++ ns)
  | .if_ a b c, bd => freeL a bd ++ (freeL b bd ++ freeL c bd)
  | .call f ts, bd => freeL f bd ++ freeLs ts bd
  | _, _ => []
def freeLs : List Tr → List Int → List Int
  | [], _ => []
  | t :: ts, bd => freeL t bd ++ freeLs ts bd
end
mutual
theorem freeL_mem {x : Int} : ∀ (t : Tr) (bd : List Int), x ∈ freeL t bd ↔ fv x t ∧ x ∉ bd
  | .int _, bd => ⟨fun h => (by cases h), fun h => h.1.elim⟩
  | .prim _, bd => ⟨fun h => (by cases h), fun h => h.1.elim⟩
  | .glob _ _, bd => ⟨fun h => (by cases h), fun h => h.1.elim⟩
  | .loc n, bd => by
    unfold freeL fv
    by_cases c : n ∈ bd
    · rw [if_pos c]
      exact ⟨fun h => (by cases h), fun ⟨h1, h2⟩ => absurd (h1 ▸ c) h2⟩
    · rw [if_neg c, List.mem_singleton]
      exact ⟨fun h => ⟨h.symm, fun z => c (h ▸ z)⟩, fun h => h.1.symm⟩
  | .fn ns b, bd => by
    unfold freeL fv
    rw [freeL_mem b, List.mem_append, not_or]
    exact ⟨fun ⟨a, b, c⟩ => ⟨⟨a, c⟩, b⟩, fun ⟨⟨a, c⟩, b⟩ => ⟨a, b, c⟩⟩
  | .let_ ns ts b, bd => by
    unfold freeL fv
    rw [List.mem_append, freeLs_mem ts, freeL_mem b, List.mem_append, not_or]
    constructor
    · rintro (⟨a, b⟩ | ⟨a, b, c⟩)
      · exact ⟨.inl a, b⟩
      · exact ⟨.inr ⟨a, c⟩, b⟩
    · rintro ⟨a | ⟨a, c⟩, b⟩
      · exact .inl ⟨a, b⟩
      · exact .inr ⟨a, b, c⟩
  | .if_ a b c, bd => by
    unfold freeL fv
    rw [List.mem_append, List.mem_append, freeL_mem a, freeL_mem b, freeL_mem c]
    constructor
    · rintro (⟨u, v⟩ | ⟨u, v⟩ | ⟨u, v⟩)
      · exact ⟨.inl u, v⟩
      · exact ⟨.inr (.inl u), v⟩
      · exact ⟨.inr (.inr u), v⟩
    · rintro ⟨u | u | u, v⟩
      · exact .inl ⟨u, v⟩
      · exact .inr (.inl ⟨u, v⟩)
      · exact .inr (.inr ⟨u, v⟩)
  | .call f ts, bd => by
    unfold freeL fv
    rw [List.mem_append, freeL_mem f, freeLs_mem ts]
    constructor
    · rintro (⟨u, v⟩ | ⟨u, v⟩)
      · exact ⟨.inl u, v⟩
      · exact ⟨.inr u, v⟩
    · rintro ⟨u | u, v⟩
      · exact .inl ⟨u, v⟩
      · exact .inr ⟨u, v⟩
theorem freeLs_mem {x : Int} : ∀ (ts : List Tr) (bd : List Int), x ∈ freeLs ts bd ↔ fvs x ts ∧ x ∉ bd
  | [], bd => ⟨fun h => (by cases h), fun h => (by have := h.1; unfold fvs at this; exact this.elim)⟩
  | t :: ts, bd => by
    unfold freeLs fvs
    rw [List.mem_append, freeL_mem t, freeLs_mem ts]
    constructor
    · rintro (⟨u, v⟩ | ⟨u, v⟩)
      · exact ⟨.inl u, v⟩
      · exact ⟨.inr u, v⟩
    · rintro ⟨u | u, v⟩
      · exact .inl ⟨u, v⟩
      · exact .inr ⟨u, v⟩
end
mutual
theorem freeL_len : ∀ (t : Tr) (bd : List Int), (freeL t bd).length ≤ wT t
  | .int _, bd => Nat.zero_le _
  | .prim _, bd => Nat.zero_le _
  | .glob _ _, bd => Nat.zero_le _
  | .loc n, bd => by
    unfold freeL
    have := wT_pos (.loc n)
    split <;> simp <;> omega
  | .fn ns b, bd => by
    have := freeL_len b (bd ++ ns)
    unfold freeL wT
    omega
  | .let_ ns ts b, bd => by
    have := freeLs_len ts bd
    have := freeL_len b (bd ++ ns)
    unfold freeL wT
    rw [List.length_append]
    omega
  | .if_ a b c, bd => by
    have := freeL_len a bd
    have := freeL_len b bd
    have := freeL_len c bd
    unfold freeL wT
    rw [List.length_append, List.length_append]
    omega
  | .call f ts, bd => by
    have := freeL_len f bd
    have := freeLs_len ts bd
    unfold freeL wT
    rw [List.length_append]
    omega
theorem freeLs_len : ∀ (ts : List Tr) (bd : List Int), (freeLs ts bd).length ≤ wTs ts
  | [], bd => Nat.zero_le _
  | t :: ts, bd => by
    have := freeL_len t bd
    have := freeLs_len ts bd
    unfold freeLs wTs
    rw [List.length_append]
    omega
end
theorem insNew_nodup {n : Int} {found : List Int} (h : found.Nodup) : (insNew n found).Nodup := by
  unfold insNew
  split
  · exact h
  · rename_i c
    rw [List.nodup_append]
    refine ⟨h, by simp, fun a ha b hb e => c ?_⟩
    rw [List.mem_singleton] at hb
    rw [← hb, ← e]
    exact ha
theorem outF_nodup : ∀ (k : Nat) (rest : List (Tr × List Int)) (found : List Int), found.Nodup → (outF k rest found).Nodup
  | 0, _, found, h => h
  | _ + 1, [], found, h => h
  | k + 1, (t, kn) :: rest, found, h => by
    unfold outF
    refine outF_nodup k _ _ ?_
    cases t with
    | loc n =>
      show (if n ∈ kn then found else insNew n found).Nodup
      by_cases c : n ∈ kn
      · rw [if_pos c]; exact h
      · rw [if_neg c]; exact insNew_nodup h
    | _ => exact h
theorem outT_nodup (t : Tr) : (outT t).Nodup := outF_nodup _ _ _ List.nodup_nil
theorem met_mem (val : Nat → Int) (x : Int) : ∀ i, x ∈ PyProof.Rows.firstMet val i ↔ ∃ j, j < i ∧ val j = x
  | 0 => ⟨fun h => (by cases h), fun ⟨j, h, _⟩ => (by omega)⟩
  | i + 1 => by
    rw [PyProof.Rows.firstMet_succ]
    unfold PyProof.Rows.step_dedup
    have ih := met_mem val x i
    by_cases c : (PyProof.Rows.firstMet val i).any (· == val i) = true
    · rw [if_pos c, ih]
      constructor
      · rintro ⟨j, h, e⟩
        exact ⟨j, by omega, e⟩
      · rintro ⟨j, h, e⟩
        by_cases z : j = i
        · subst z
          obtain ⟨y, hy, ey⟩ := List.any_eq_true.mp c
          have ey : y = val j := eq_of_beq ey
          rw [ey, e] at hy
          exact ih.mp hy
        · exact ⟨j, by omega, e⟩
    · rw [if_neg c, List.mem_append, ih, List.mem_singleton]
      constructor
      · rintro (⟨j, h, e⟩ | e)
        · exact ⟨j, by omega, e⟩
        · exact ⟨i, by omega, e.symm⟩
      · rintro ⟨j, h, e⟩
        by_cases z : j = i
        · subst z; exact .inr e.symm
        · exact .inl ⟨j, by omega, e⟩
theorem met_nodup (val : Nat → Int) : ∀ i, (PyProof.Rows.firstMet val i).Nodup
  | 0 => List.nodup_nil
  | i + 1 => by
    rw [PyProof.Rows.firstMet_succ]
    unfold PyProof.Rows.step_dedup
    by_cases c : (PyProof.Rows.firstMet val i).any (· == val i) = true
    · rw [if_pos c]; exact met_nodup val i
    · rw [if_neg c, List.nodup_append]
      refine ⟨met_nodup val i, by simp, fun a ha b hb e => c ?_⟩
      rw [List.mem_singleton] at hb
      exact List.any_eq_true.mpr ⟨a, ha, by rw [e, hb, beq_self_eq_true]⟩
theorem fMet_mem {ns : List Int} {x : Int} : x ∈ fMet ns ↔ x ∈ ns := by
  unfold fMet
  rw [met_mem, List.mem_iff_getElem?]
  constructor
  · rintro ⟨j, h, e⟩
    refine ⟨j, ?_⟩
    rw [List.getD_eq_getElem?_getD, List.getElem?_eq_getElem h] at e
    rw [List.getElem?_eq_getElem h]
    exact congrArg some e
  · rintro ⟨j, e⟩
    have h := (List.getElem?_eq_some_iff.mp e).1
    exact ⟨j, h, by rw [List.getD_eq_getElem?_getD, e]; rfl⟩
theorem nodup_le : ∀ (xs ys : List Int), xs.Nodup → (∀ x ∈ xs, x ∈ ys) → xs.length ≤ ys.length
  | [], ys, _, _ => Nat.zero_le _
  | x :: xs, ys, h, m => by
    obtain ⟨h1, h2⟩ := List.nodup_cons.mp h
    have mx := m x List.mem_cons_self
    have := nodup_le xs (ys.erase x) h2 fun y my => by
      have ne : y ≠ x := fun z => h1 (z ▸ my)
      exact (List.mem_erase_of_ne ne).mpr (m y (List.mem_cons_of_mem _ my))
    rw [List.length_erase_of_mem mx] at this
    have := List.length_pos_of_mem mx
    simp only [List.length_cons]
    omega
theorem nodup_len {xs ys : List Int} (hx : xs.Nodup) (hy : ys.Nodup) (h : ∀ x, x ∈ xs ↔ x ∈ ys) : xs.length = ys.length :=
  Nat.le_antisymm (nodup_le _ _ hx fun x m => (h x).mp m) (nodup_le _ _ hy fun x m => (h x).mpr m)
theorem due_len (ns : List Int) (b : Tr) : (fMet (freeL (.fn ns b) [])).length = (outT (.fn ns b)).length :=
  nodup_len (met_nodup _ _) (outT_nodup _) fun x => by rw [fMet_mem, freeL_mem, outT_mem]; simp
end My
namespace My
open PySem PySem.Spec PyProof.Rows L2 TL
/-! ### _law_taken -/
abbrev sTkn : Stmt := top 31
abbrev NTkn : List Str := ["row", "kind"]
def spTkn : Sp := fun vs H Q _ => ∃ (v : V) (i : Ins), vs = [v] ∧ RI H v i ∧ ∀ p H', Fr No H H' → H' p = some (.tup [.int ((tkn i).1 : Nat), .int ((tkn i).2 : Nat)]) → Q (.ref p) H'
def tStrs : List Str → TA
  | [] => tNil
  | s :: r => tCons (tC (.str s)) (tStrs r)
theorem tStrs_is {σ : L2.St} {H : Hp} : ∀ {ws : List Str} {Q : List V → Hp → Prop}, Q (ws.map V.str) H → tStrs ws σ H Q
  | [], _, q => q
  | s :: r, Q, q => by
    show tStrs r σ H fun vs H2 => Q (.str s :: vs) H2
    exact tStrs_is q
/-- a word in a written list -/
theorem ev_in {K : PySem.W.Frag} {σ : L2.St} {H : Hp} {i : Nat} {x : Str} {ws : List Str} {b : Bool} {Q : Bool → Hp → Prop} (h : σ[i]? = some (some (.str x))) (hw : ws.length ≤ 100) (hb : inV (.str x) (ws.map V.str) = b) (q : ∀ H', Fr No H H' → Q b H') : tTest (tOp (rIn K false) (tVar i) (tLst (tStrs ws))) σ H Q := by
  refine ⟨_, h, tStrs_is ⟨Nat.le_trans (show (ws.map V.str).length ≤ 100 by simp; exact hw) (by decide), fun D hD => ⟨D, _, rfl, .inl (SqL.of upd_same), rfl, flat_map V.str (fun _ => rfl) ws, _, rfl, ?_⟩⟩⟩
  show Q (inV (.str x) (ws.map V.str)) _
  rw [hb]
  exact q _ (Fr.new hD)
def wI : Ins → Str
  | .int _ => "int"
  | .prim _ => "prim"
  | .glob _ _ => "global"
  | .src (.place _) => "place"
  | .src (.kept _) => "kept"
  | .fn _ _ => "fn"
  | .put _ => "put"
  | .jump _ => "jump"
  | .unless _ => "unless"
  | .call _ => "call"
  | .tail _ => "tail"
  | .end_ => "end"
theorem RI.hd {H : Hp} {v : V} {i : Ins} (r : RI H v i) : ∃ (a : Addr) (xs : List V), v = .ref a ∧ H a = some (.tup (.str (wI i) :: xs)) ∧ xs.length ≤ 3 := by
  cases r with
  | int h => exact ⟨_, _, rfl, h, by simp⟩
  | prim h => exact ⟨_, _, rfl, h, by simp⟩
  | glob h => exact ⟨_, _, rfl, h, by simp⟩
  | @src a s h =>
    cases s with
    | place n => exact ⟨_, [.int n], rfl, h, by simp⟩
    | kept n => exact ⟨_, [.int n], rfl, h, by simp⟩
  | fn h => exact ⟨_, _, rfl, h, by simp⟩
  | put h => exact ⟨_, _, rfl, h, by simp⟩
  | jump h => exact ⟨_, _, rfl, h, by simp⟩
  | «unless» h => exact ⟨_, _, rfl, h, by simp⟩
  | call h => exact ⟨_, _, rfl, h, by simp⟩
  | tail h => exact ⟨_, _, rfl, h, by simp⟩
  | end_ h => exact ⟨_, _, rfl, h, by simp⟩
section
variable {P : Program} {w : World} {K : PySem.W.Frag} {mg : Str → Option Value} {base : Heap}
theorem scTkn : FnScope NTkn ["row"] (defScope sTkn) := ⟨rfl, rfl, rfl, by decide +kernel, rfl, by decide +kernel, by decide +kernel⟩
theorem ok_tkn {f : Addr} {fd : FuncData} (F : Fun K "_law_taken" "_law_taken" sTkn f fd) (B : Blt mg) : FnOk P w K mg base CX0 1 f fd ["row"] spTkn := by
  refine F.ok scTkn (fun vs H Q E h => ?_) (fun cdv A outer s H vs Q E hr h => ?_)
  · obtain ⟨v, i, rfl, _⟩ := h
    rfl
  obtain ⟨v, i, rfl, ri, q⟩ := h
  have nd := scTkn.nd
  refine ⟨_, (pss_cons (ps_set (i := 1) nd rfl (Or.inl rfl) (pe_ix (r := rIxT K) ix_tup (pv 0) pe_int (fun _ _ => rfl)))
    (pss_cons (ps_if (pt_cmpR op_in_seq (pv 1) (pe_lst (pa_cons pe_str (pa_cons pe_str pa_nil))) (by rfl)) (pss_one (ps_ret (pe_tup (pa_cons pe_int (pa_cons pe_int pa_nil))))) pss_nil)
    (pss_cons (ps_if (pt_cmpR op_in_seq (pv 1) (pe_lst (pa_cons pe_str (pa_cons pe_str pa_nil))) (by rfl)) (pss_one (ps_ret (pe_tup (pa_cons (pe_op op_add (pe_ix (r := rIxT K) ix_tup (pv 0) pe_int (fun _ _ => rfl)) pe_int) (pa_cons pe_int pa_nil))))) pss_nil)
    (pss_cons (ps_if (pt_cmpR op_eq (pv 1) pe_str (nomark _)) (pss_one (ps_ret (pe_tup (pa_cons pe_int (pa_cons pe_int pa_nil))))) pss_nil)
    (pss_one (ps_ret (pe_tup (pa_cons pe_int (pa_cons (pe_callTy call_int1 (by rfl) B.int (by decide +kernel) (pa_cons (pe_cmpR op_ne (pv 1) pe_str (nomark _)) pa_nil)) pa_nil))))))))), ?_⟩
  obtain ⟨a, xs, rfl, ha, _⟩ := ri.hd
  refine ⟨_, rfl, a, _, 0, _, rfl, rfl, SqT.of ha, at0 _ _, ?_⟩
  have fin : ∀ {x y : Nat} {H1 : Hp}, Fr No H H1 → tkn i = (x, y) → ∀ z, H1 z = none → Q (.ref z) (upd H1 z (.tup [.int (x : Nat), .int (y : Nat)])) := fun {x y H1} f e z hz => by
    refine q z _ (f.trans (Fr.new hz)) ?_
    rw [e]
    exact upd_same
  -- the four kinds of rows
  have plain : ∀ {b : Bool}, inV (.str (wI i)) [.str "put", .str "unless"] = false → inV (.str (wI i)) [.str "call", .str "tail"] = false → wI i ≠ "end" → decide (wI i ≠ "jump") = b → tkn i = (0, if b = true then 1 else 0) → True := fun _ _ _ _ _ => trivial
  cases i with
  | put m =>
    refine ev_in (K := K) (x := "put") (ws := ["put", "unless"]) (b := true) rfl (by decide) (by decide +kernel) fun H1 f1 => iteT ?_
    exact ⟨sl2, fun z hz => fin f1 rfl z hz⟩
  | «unless» m =>
    refine ev_in (K := K) (x := "unless") (ws := ["put", "unless"]) (b := true) rfl (by decide) (by decide +kernel) fun H1 f1 => iteT ?_
    exact ⟨sl2, fun z hz => fin f1 rfl z hz⟩
  | call m =>
    cases ri with
    | call h =>
    refine ev_in (K := K) (x := "call") (ws := ["put", "unless"]) (b := false) rfl (by decide) (by decide +kernel) fun H1 f1 => iteF ?_
    refine ev_in (K := K) (x := "call") (ws := ["call", "tail"]) (b := true) rfl (by decide) (by decide +kernel) fun H2 f2 => iteT ?_
    refine ⟨_, rfl, a, _, 1, _, rfl, rfl, SqT.of ((f1.trans f2).tup _ _ h), at1 _ _ _, _, _, rfl, rfl, sl2, fun z hz => ?_⟩
    exact fin (x := m + 1) (f1.trans f2) rfl z hz
  | tail m =>
    cases ri with
    | tail h =>
    refine ev_in (K := K) (x := "tail") (ws := ["put", "unless"]) (b := false) rfl (by decide) (by decide +kernel) fun H1 f1 => iteF ?_
    refine ev_in (K := K) (x := "tail") (ws := ["call", "tail"]) (b := true) rfl (by decide) (by decide +kernel) fun H2 f2 => iteT ?_
    refine ⟨_, rfl, a, _, 1, _, rfl, rfl, SqT.of ((f1.trans f2).tup _ _ h), at1 _ _ _, _, _, rfl, rfl, sl2, fun z hz => ?_⟩
    exact fin (x := m + 1) (f1.trans f2) rfl z hz
  | end_ =>
    refine ev_in (K := K) (x := "end") (ws := ["put", "unless"]) (b := false) rfl (by decide) (by decide +kernel) fun H1 f1 => iteF ?_
    refine ev_in (K := K) (x := "end") (ws := ["call", "tail"]) (b := false) rfl (by decide) (by decide +kernel) fun H2 f2 => iteF ?_
    refine ev_eqs (x := "end") rfl ?_
    rw [decide_eq_true rfl]
    exact iteT ⟨sl2, fun z hz => fin (f1.trans f2) rfl z hz⟩
  | jump m =>
    refine ev_in (K := K) (x := "jump") (ws := ["put", "unless"]) (b := false) rfl (by decide) (by decide +kernel) fun H1 f1 => iteF ?_
    refine ev_in (K := K) (x := "jump") (ws := ["call", "tail"]) (b := false) rfl (by decide) (by decide +kernel) fun H2 f2 => iteF ?_
    refine ev_eqs (x := "jump") rfl ?_
    rw [decide_eq_false (show ¬ ("jump" : Str) = "end" by decide +kernel)]
    refine iteF ⟨_, rfl, rfl, .inr ⟨false, congrArg (fun b => [V.bl b]) (show (!decide (V.str "jump" = V.str "jump")) = false by rw [decide_eq_true rfl]; rfl), sl2, fun z hz => ?_⟩⟩
    exact fin (x := 0) (y := 0) (f1.trans f2) rfl z hz
  | src s =>
    cases s with
    | place n =>
      refine ev_in (K := K) (x := "place") (ws := ["put", "unless"]) (b := false) rfl (by decide) (by decide +kernel) fun H1 f1 => iteF ?_
      refine ev_in (K := K) (x := "place") (ws := ["call", "tail"]) (b := false) rfl (by decide) (by decide +kernel) fun H2 f2 => iteF ?_
      refine ev_eqs (x := "place") rfl ?_
      rw [decide_eq_false (show ¬ ("place" : Str) = "end" by decide +kernel)]
      refine iteF ⟨_, rfl, rfl, .inr ⟨true, congrArg (fun b => [V.bl b]) (show (!decide (V.str "place" = V.str "jump")) = true by rw [decide_eq_false (fun z => absurd (V.str.inj z) (by decide +kernel))]; rfl), sl2, fun z hz => ?_⟩⟩
      exact fin (x := 0) (y := 1) (f1.trans f2) rfl z hz
    | kept n =>
      refine ev_in (K := K) (x := "kept") (ws := ["put", "unless"]) (b := false) rfl (by decide) (by decide +kernel) fun H1 f1 => iteF ?_
      refine ev_in (K := K) (x := "kept") (ws := ["call", "tail"]) (b := false) rfl (by decide) (by decide +kernel) fun H2 f2 => iteF ?_
      refine ev_eqs (x := "kept") rfl ?_
      rw [decide_eq_false (show ¬ ("kept" : Str) = "end" by decide +kernel)]
      refine iteF ⟨_, rfl, rfl, .inr ⟨true, congrArg (fun b => [V.bl b]) (show (!decide (V.str "kept" = V.str "jump")) = true by rw [decide_eq_false (fun z => absurd (V.str.inj z) (by decide +kernel))]; rfl), sl2, fun z hz => ?_⟩⟩
      exact fin (x := 0) (y := 1) (f1.trans f2) rfl z hz
  | int n =>
    refine ev_in (K := K) (x := "int") (ws := ["put", "unless"]) (b := false) rfl (by decide) (by decide +kernel) fun H1 f1 => iteF ?_
    refine ev_in (K := K) (x := "int") (ws := ["call", "tail"]) (b := false) rfl (by decide) (by decide +kernel) fun H2 f2 => iteF ?_
    refine ev_eqs (x := "int") rfl ?_
    rw [decide_eq_false (show ¬ ("int" : Str) = "end" by decide +kernel)]
    refine iteF ⟨_, rfl, rfl, .inr ⟨true, congrArg (fun b => [V.bl b]) (show (!decide (V.str "int" = V.str "jump")) = true by rw [decide_eq_false (fun z => absurd (V.str.inj z) (by decide +kernel))]; rfl), sl2, fun z hz => ?_⟩⟩
    exact fin (x := 0) (y := 1) (f1.trans f2) rfl z hz
  | prim n =>
    refine ev_in (K := K) (x := "prim") (ws := ["put", "unless"]) (b := false) rfl (by decide) (by decide +kernel) fun H1 f1 => iteF ?_
    refine ev_in (K := K) (x := "prim") (ws := ["call", "tail"]) (b := false) rfl (by decide) (by decide +kernel) fun H2 f2 => iteF ?_
    refine ev_eqs (x := "prim") rfl ?_
    rw [decide_eq_false (show ¬ ("prim" : Str) = "end" by decide +kernel)]
    refine iteF ⟨_, rfl, rfl, .inr ⟨true, congrArg (fun b => [V.bl b]) (show (!decide (V.str "prim" = V.str "jump")) = true by rw [decide_eq_false (fun z => absurd (V.str.inj z) (by decide +kernel))]; rfl), sl2, fun z hz => ?_⟩⟩
    exact fin (x := 0) (y := 1) (f1.trans f2) rfl z hz
  | glob m n =>
    refine ev_in (K := K) (x := "global") (ws := ["put", "unless"]) (b := false) rfl (by decide) (by decide +kernel) fun H1 f1 => iteF ?_
    refine ev_in (K := K) (x := "global") (ws := ["call", "tail"]) (b := false) rfl (by decide) (by decide +kernel) fun H2 f2 => iteF ?_
    refine ev_eqs (x := "global") rfl ?_
    rw [decide_eq_false (show ¬ ("global" : Str) = "end" by decide +kernel)]
    refine iteF ⟨_, rfl, rfl, .inr ⟨true, congrArg (fun b => [V.bl b]) (show (!decide (V.str "global" = V.str "jump")) = true by rw [decide_eq_false (fun z => absurd (V.str.inj z) (by decide +kernel))]; rfl), sl2, fun z hz => ?_⟩⟩
    exact fin (x := 0) (y := 1) (f1.trans f2) rfl z hz
  | fn c ss =>
    refine ev_in (K := K) (x := "fn") (ws := ["put", "unless"]) (b := false) rfl (by decide) (by decide +kernel) fun H1 f1 => iteF ?_
    refine ev_in (K := K) (x := "fn") (ws := ["call", "tail"]) (b := false) rfl (by decide) (by decide +kernel) fun H2 f2 => iteF ?_
    refine ev_eqs (x := "fn") rfl ?_
    rw [decide_eq_false (show ¬ ("fn" : Str) = "end" by decide +kernel)]
    refine iteF ⟨_, rfl, rfl, .inr ⟨true, congrArg (fun b => [V.bl b]) (show (!decide (V.str "fn" = V.str "jump")) = true by rw [decide_eq_false (fun z => absurd (V.str.inj z) (by decide +kernel))]; rfl), sl2, fun z hz => ?_⟩⟩
    exact fin (x := 0) (y := 1) (f1.trans f2) rfl z hz
end
end My
namespace My
open PySem PySem.Spec PyProof.Rows L2 TL
/-! ### _law_free -/
abbrev sLfr : Stmt := top 28
abbrev NLfr : List Str := ["core", "bound", "kind", "found", "pair", "parts", "part", "number"]
def spLfr : Nat → Sp
  | 0 => fun _ _ _ _ => False
  | n + 1 => fun vs H Q _ => ∃ (v : V) (t : Tr) (bp : Addr) (bd : List Int), vs = [v, .ref bp] ∧ RT H v t ∧ H bp = some (.lst (bd.map V.int)) ∧ depT t ≤ n + 1 ∧ gdT t ∧ bd.length + 5 * (n + 1) ≤ 5000 ∧ wT t ≤ 100000 ∧ ∀ p H', Fr No H H' → H' p = some (.lst ((freeL t bd).map V.int)) → Q (.ref p) H'
theorem freeLs_app (bd : List Int) : ∀ (x y : List Tr), freeLs (x ++ y) bd = freeLs x bd ++ freeLs y bd
  | [], y => rfl
  | t :: x, y => by
    show freeL t bd ++ freeLs (x ++ y) bd = (freeL t bd ++ freeLs x bd) ++ freeLs y bd
    rw [freeLs_app bd x y, List.append_assoc]
theorem freeLs_one (t : Tr) (bd : List Int) : freeLs [t] bd = freeL t bd := List.append_nil _
/-- what an if, a call is made of -/
def ptIf : Tr → List Tr
  | .if_ a b c => [a, b, c]
  | _ => []
def ptIc : Tr → List Tr
  | .if_ a b c => [a, b, c]
  | .call f ts => f :: ts
  | _ => []
theorem freeL_pt {t : Tr} (bd : List Int) (h1 : word t ≠ "local") (h2 : word t ≠ "fn") (h3 : word t ≠ "let") : freeL t bd = freeLs (ptIc t) bd := by
  cases t with
  | loc n => exact absurd rfl h1
  | fn ns b => exact absurd rfl h2
  | let_ ns ts b => exact absurd rfl h3
  | if_ a b c =>
    show freeL a bd ++ (freeL b bd ++ freeL c bd) = freeL a bd ++ (freeL b bd ++ (freeL c bd ++ []))
    rw [List.append_nil]
  | _ => rfl
theorem wTs_take (ts : List Tr) (i : Nat) : wTs (ts.take i) ≤ wTs ts := by
  induction ts generalizing i with
  | nil => rw [List.take_nil]; exact Nat.le_refl _
  | cons t r ih =>
    cases i with
    | zero => exact Nat.zero_le _
    | succ i =>
      have := ih i
      rw [List.take_succ_cons]
      unfold wTs
      omega
theorem ptIc_ok {t : Tr} : gdT t → (∀ u ∈ ptIc t, gdT u ∧ depT u + 1 ≤ depT t ∧ wT u ≤ wT t) ∧ wTs (ptIc t) ≤ wT t + 3 ∧ (ptIc t).length ≤ 6 := by
  intro g
  cases t with
  | if_ a b c =>
    obtain ⟨g1, g2, g3⟩ : gdT a ∧ gdT b ∧ gdT c := g
    refine ⟨fun u m => ?_, ?_, by show 3 ≤ 6; omega⟩
    · have m : u ∈ [a, b, c] := m
      simp only [List.mem_cons, List.not_mem_nil, or_false] at m
      have e1 : depT (.if_ a b c) = 1 + max (depT a) (max (depT b) (depT c)) := by rw [depT]
      have e2 : wT (.if_ a b c) = 8 + wT a + wT b + wT c := by rw [wT]
      rcases m with rfl | rfl | rfl
      · exact ⟨g1, by omega, by omega⟩
      · exact ⟨g2, by omega, by omega⟩
      · exact ⟨g3, by omega, by omega⟩
    · show wTs [a, b, c] ≤ _
      have e2 : wT (.if_ a b c) = 8 + wT a + wT b + wT c := by rw [wT]
      have e3 : wTs [a, b, c] = 1 + wT a + (1 + wT b + (1 + wT c + 0)) := by rw [wTs, wTs, wTs, wTs]
      omega
  | call f ts =>
    obtain ⟨g1, g2, g3⟩ : ts.length ≤ 5 ∧ gdT f ∧ gdTs ts := g
    have e1 : depT (.call f ts) = 1 + max (depT f) (depTs ts) := by rw [depT]
    have e2 : wT (.call f ts) = 2 + wT f + wTs ts := by rw [wT]
    refine ⟨fun u m => ?_, ?_, by show ts.length + 1 ≤ 6; omega⟩
    · have m : u ∈ f :: ts := m
      rcases List.mem_cons.mp m with m | m
      · subst m
        exact ⟨g2, by omega, by omega⟩
      · have := depTs_mem m
        have := wTs_mem m
        exact ⟨gdTs_mem g3 u m, by omega, by omega⟩
    · show wTs (f :: ts) ≤ _
      have e3 : wTs (f :: ts) = 1 + wT f + wTs ts := by rw [wTs]
      omega
  | _ => exact ⟨fun u m => (by cases m), Nat.zero_le _, Nat.zero_le _⟩
theorem map_app_i (x y : List Int) : x.map V.int ++ y.map V.int = (x ++ y).map V.int := List.map_append.symm
section
variable {P : Program} {w : World} {K : PySem.W.Frag} {mg : Str → Option Value} {base : Heap}
theorem scLfr : FnScope NLfr ["core", "bound"] (defScope sLfr) := ⟨rfl, rfl, rfl, by decide +kernel, rfl, by decide +kernel, by decide +kernel⟩
theorem ok_lfr {f : Addr} {fd : FuncData} (F : Fun K "_law_free" "_law_free" sLfr f fd) (B : Blt mg) (gS : mg "_law_free" = some (.ref f)) (kS : PySem.W.keepIn K (.ref f) = true) (bS : Binds K fd ["core", "bound"] []) : ∀ n : Nat, FnOk P w K mg base CX0 n f fd ["core", "bound"] (spLfr n)
  | 0 => fn_none
  | n + 1 => by
    have IH : Cal P w K mg base CX0 n "_law_free" ["core", "bound"] (spLfr n) f fd := ⟨ok_lfr F B gS kS bS n, kS, gS, bS⟩
    refine F.ok scLfr (fun vs H Q E h => ?_) (fun cdv A outer s H vs Q E hr h => ?_)
    · obtain ⟨v, t, bp, bd, rfl, _⟩ := h
      rfl
    obtain ⟨v, t, bp, bd, rfl, rt, hb, hd, g, lb, lw, q⟩ := h
    have nd := scLfr.nd
    refine ⟨_, (pss_cons (ps_set (i := 2) nd rfl (Or.inl rfl) (pe_ix (r := rIxT K) ix_tup (pv 0) pe_int (fun _ _ => rfl)))
    (pss_cons (ps_if (pt_cmpR op_eq (pv 2) pe_str (nomark _)) (pss_one (ps_ret (pe_lc (own := [("number", 7)]) (g := gName 7) rfl nd (pi_list (pe_lst (pa_cons (pe_ix (r := rIxT K) ix_tup (pv 0) pe_int (fun _ _ => rfl)) pa_nil))) (blkOk_by (N := NLfr) (sc := defScope sLfr) (by decide +kernel)) (fun _ _ _ _ _ => (pg_name (i := 7) nd rfl (Or.inl rfl) (hf := Or.inr rfl))) (fun _ _ _ _ _ => pts_one (pt_cmpR (r := rIn K true) op_notIn_seq (pv 7) (pv 1) (by rfl))) (fun _ _ _ _ _ => (pv 7))))) pss_nil)
    (pss_cons (ps_if (pt_cmpR op_eq (pv 2) pe_str (nomark _)) (pss_one (ps_ret (pe_call IH.ok hr rfl IH.g IH.k IH.b .nil pass0 (pa_cons (pe_ix (r := rIxT K) ix_tup (pv 0) pe_int (fun _ _ => rfl)) (pa_cons (pe_op op_cat (pv 1) (pe_callTy call_list_of (by rfl) B.list (by decide +kernel) (pa_cons (pe_ix (r := rIxT K) ix_tup (pv 0) pe_int (fun _ _ => rfl)) pa_nil))) pa_nil))))) pss_nil)
    (pss_cons (ps_set (i := 3) nd rfl (Or.inl rfl) (pe_lst pa_nil))
    (pss_cons (ps_if (pt_cmpR op_eq (pv 2) pe_str (nomark _)) (pss_cons (ps_for PassesOwn.never rfl (pi_tup (pe_ix (r := rIxT K) ix_tup (pv 0) pe_int (fun _ _ => rfl))) (pg_name (i := 4) nd rfl (Or.inl rfl))
        (pss_one (ps_set (i := 3) nd rfl (Or.inl rfl) (pe_op op_cat (pv 3) (pe_call IH.ok hr rfl IH.g IH.k IH.b .nil pass0 (pa_cons (pe_ix (r := rIxT K) ix_tup (pv 4) pe_int (fun _ _ => rfl)) (pa_cons (pv 1) pa_nil)))))))
      (pss_one (ps_ret (pe_op op_cat (pv 3) (pe_call IH.ok hr rfl IH.g IH.k IH.b .nil pass0 (pa_cons (pe_ix (r := rIxT K) ix_tup (pv 0) pe_int (fun _ _ => rfl)) (pa_cons (pe_op op_cat (pv 1) (pe_lc (own := [("pair", 4)]) (g := gName 4) (tt := tYes) rfl nd (pi_tup (pe_ix (r := rIxT K) ix_tup (pv 0) pe_int (fun _ _ => rfl))) (blkOk_by (N := NLfr) (sc := defScope sLfr) (by decide +kernel)) (fun _ _ _ _ _ => (pg_name (i := 4) nd rfl (Or.inl rfl) (hf := Or.inr rfl))) (fun _ _ _ _ _ => pts_nil) (fun _ _ _ _ _ => (pe_ix (r := rIxT K) ix_tup (pv 4) pe_int (fun _ _ => rfl))))) pa_nil))))))) pss_nil)
    (pss_cons (ps_set (i := 5) nd rfl (Or.inl rfl) (pe_tup pa_nil))
    (C8.pss_cut (ps_if (pt_cmpR op_eq (pv 2) pe_str (nomark _)) (pss_one (ps_set (i := 5) nd rfl (Or.inl rfl) (pe_slice sl_tup (pv 0) (po_some pe_int) po_none))) pss_nil)
    (C8.pss_cut (ps_if (pt_cmpR op_eq (pv 2) pe_str (nomark _)) (pss_one (ps_set (i := 5) nd rfl (Or.inl rfl) (pe_op op_catT (pe_tup (pa_cons (pe_ix (r := rIxT K) ix_tup (pv 0) pe_int (fun _ _ => rfl)) pa_nil)) (pe_ix (r := rIxT K) ix_tup (pv 0) pe_int (fun _ _ => rfl))))) pss_nil)
    (pss_cons (ps_for PassesOwn.never rfl (pi_tup (pv 5)) (pg_name (i := 6) nd rfl (Or.inl rfl))
      (pss_one (ps_set (i := 3) nd rfl (Or.inl rfl) (pe_op op_cat (pv 3) (pe_call IH.ok hr rfl IH.g IH.k IH.b .nil pass0 (pa_cons (pv 6) (pa_cons (pv 1) pa_nil)))))))
    (pss_one (ps_ret (pv 3)))))))))))), ?_⟩
    obtain ⟨a, xs, rfl, ha, lxs⟩ := rt.head
    refine ⟨_, rfl, a, _, 0, _, rfl, rfl, SqT.of ha, at0 _ _, ?_⟩
    refine ev_eqs (x := word t) rfl ?_
    by_cases c1 : word t = "local"
    · rw [decide_eq_true c1]
      refine iteT ?_
      obtain ⟨x, rfl⟩ := word_local c1
      cases rt with
      | loc h =>
      refine ⟨_, rfl, a, _, 1, _, rfl, rfl, SqT.of h, at1 _ _ _, sl1, fun D0 hD0 => ⟨D0, rfl, ⟨_, SqL.of upd_same⟩, fun R hR => ?_⟩⟩
      have f0 : Fr No H (upd H D0 (.lst [.int x])) := Fr.new hD0
      have f1 : Fr No _ (upd (upd H D0 (.lst [.int x])) R (.lst [])) := Fr.new hR
      refine lc_list (xs := [V.int x]) (fun i H' => ∃ us : List Int, H' R = some (.lst (us.map V.int)) ∧ us = (if i = 0 then [] else freeL (.loc x) bd) ∧ Fr No (upd H D0 (.lst [.int x])) H') ⟨[], upd_same, rfl, f1⟩ (fun i H' _ ⟨_, _, _, z⟩ => SqL.of (z.keep (fun z => z) rfl upd_same)) ?_ ?_
      · rintro j u H' hj ⟨us, k1, k2, k3⟩
        have j0 : j = 0 := by have := (List.getElem?_eq_some_iff.mp hj).1; simp at this; exact this
        subst j0
        have eu : u = .int x := (Option.some.inj hj).symm
        subst eu
        rw [if_pos rfl] at k2
        subst k2
        refine ⟨rfl, _, rfl, _, rfl, bp, _, rfl, .inl (SqL.of ((f0.trans k3).keep (fun z => z) rfl hb)), rfl, flat_map V.int (fun _ => rfl) bd, _, rfl, ?_⟩
        show if (!inV (V.int x) (bd.map V.int)) = true then _ else _
        rw [inV_ints]
        by_cases c : x ∈ bd
        · rw [decide_eq_true c]
          refine iteF ⟨[], k1, ?_, k3⟩
          rw [if_neg (by omega)]
          unfold freeL
          rw [if_pos c]
        · rw [decide_eq_false c]
          refine iteT ⟨_, rfl, _, k1, by show 0 < sizeLine; decide, [x], upd_same, ?_, k3.mut hR k1 rfl⟩
          rw [if_neg (by omega)]
          unfold freeL
          rw [if_neg c]
      · rintro H' ⟨us, k1, k2, k3⟩
        rw [if_neg (show ¬ [V.int x].length = 0 by simp)] at k2
        subst k2
        exact q _ _ (f0.trans k3) k1
    rw [decide_eq_false c1]
    refine iteF ?_
    refine ev_eqs (x := word t) rfl ?_
    by_cases c2 : word t = "fn"
    · rw [decide_eq_true c2]
      refine iteT ?_
      obtain ⟨ns, b, rfl⟩ := word_fn c2
      cases rt with
      | fn h hq r =>
      rw [h] at ha
      obtain ⟨g1, _, _, g3⟩ : ns.length ≤ 5 ∧ (∀ n ∈ ns, nmOk n) ∧ wT b ≤ 2741 ∧ gdT b := g
      unfold depT at hd
      unfold wT at lw
      have dp := depT_pos b
      obtain ⟨n, rfl⟩ : ∃ n', n = n' + 1 := ⟨n - 1, by omega⟩
      refine ⟨_, rfl, a, _, 2, _, rfl, rfl, SqT.of h, atI_nat (j := 2) rfl, _, rfl, _, rfl, a, _, 1, _, rfl, rfl, SqT.of h, at1 _ _ _, _, _, rfl, .inr (SqT.of hq), fun l hl => ?_⟩
      have f1 : Fr No H (upd H l (.lst (ns.map V.int))) := Fr.new hl
      refine ⟨bp, l, _, _, rfl, rfl, f1.keep (fun z => z) rfl hb, upd_same, ?_, fun z hz => ?_⟩
      · rw [List.length_map, List.length_map]
        exact Nat.le_trans (show bd.length + ns.length ≤ 10000 by omega) (by decide)
      have f2 : Fr No _ (upd (upd H l (.lst (ns.map V.int))) z (.lst (bd.map V.int ++ ns.map V.int))) := Fr.new hz
      refine ⟨_, b, z, bd ++ ns, rfl, r.keep (f1.trans f2).tup, by rw [← map_app_i]; exact upd_same, by omega, g3, by rw [List.length_append]; omega, by omega, fun p H3 f3 hp => ?_⟩
      exact q _ _ ((f1.trans f2).trans f3) hp
    rw [decide_eq_false c2]
    refine iteF ?_
    refine ⟨by show 0 ≤ sizeLine; decide, fun D hD => ?_⟩
    have fD : Fr No H (upd H D (.lst [])) := Fr.new hD
    refine ev_eqs (x := word t) rfl ?_
    by_cases c3 : word t = "let"
    · rw [decide_eq_true c3]
      refine iteT ?_
      obtain ⟨ns, ts, b, rfl⟩ := word_let c3
      cases rt with
      | @let_ _ qa _ vs _ _ _ h hq rp r =>
      obtain ⟨g1, g2, _, g3, g4⟩ : ns.length ≤ 5 ∧ ns.length = ts.length ∧ (∀ n ∈ ns, nmOk n) ∧ gdTs ts ∧ gdT b := g
      unfold depT at hd
      unfold wT at lw
      have dp := depT_pos b
      obtain ⟨n, rfl⟩ : ∃ n', n = n' + 1 := ⟨n - 1, by omega⟩
      obtain ⟨lv, lt⟩ := rp.len
      refine ⟨_, rfl, a, _, 1, _, rfl, rfl, SqT.of (fD.tup _ _ h), at1 _ _ _, _, rfl, ⟨_, SqT.of (fD.tup _ _ hq)⟩, for_tup (xs := vs) (fun i σ H' => ∃ (v4 : Option V) (Fa : Addr), σ = [some (.ref a), some (.ref bp), some (.str "let"), some (.ref Fa), v4, none, none, none] ∧ H' Fa = some (.lst ((freeLs (ts.take i) bd).map V.int)) ∧ Fr No H H')
        ⟨none, D, rfl, upd_same, fD⟩ (fun i σ H' _ ⟨_, _, _, _, f⟩ => SqT.of (f.tup _ _ hq)) ?_ ?_⟩
      · rintro i u σ H' hi ⟨v4, Fa, rfl, k1, k2⟩
        obtain ⟨q0, x, n0, t0, rfl, e1, e2, e3, e4⟩ := rp.get hi
        have m3 := List.mem_of_getElem? e3
        have d3 := depTs_mem m3
        have w3 := wTs_mem m3
        refine ⟨_, rfl, _, rfl, q0, _, 1, _, rfl, rfl, SqT.of (k2.tup _ _ e1), at1 _ _ _, _, rfl, x, t0, bp, bd, rfl, e4.keep k2.tup, k2.keep (fun z => z) rfl hb, by omega, gdTs_mem g3 _ m3, by omega, by omega, fun p H2 f2 hp => ?_⟩
        refine ⟨Fa, p, _, _, rfl, rfl, f2.keep (fun z => z) rfl k1, hp, ?_, fun z hz => ⟨_, z, rfl, ?_, (k2.trans f2).trans (Fr.new hz)⟩⟩
        · rw [List.length_map, List.length_map]
          have := freeLs_len (ts.take i) bd
          have := wTs_take ts i
          have := freeL_len t0 bd
          exact Nat.le_trans (show _ ≤ 200000 by omega) (by decide)
        · rw [take_more e3, freeLs_app, freeLs_one, ← map_app_i]
          exact upd_same
      · rintro σ H' ⟨v4, Fa, rfl, k1, k2⟩
        rw [show vs.length = ts.length by omega, List.take_length] at k1
        refine ⟨_, rfl, _, rfl, a, _, 2, _, rfl, rfl, SqT.of (k2.tup _ _ h), atI_nat (j := 2) rfl, _, rfl, _, rfl, a, _, 1, _, rfl, rfl, SqT.of (k2.tup _ _ h), at1 _ _ _, _, rfl, ⟨_, SqT.of (k2.tup _ _ hq)⟩, fun R hR => ?_⟩
        refine lc_tup (xs := vs) (fun i H2 => H2 R = some (.lst ((ns.take i).map V.int)) ∧ Fr No H' H2) ⟨upd_same, Fr.new hR⟩ (fun i H2 _ ⟨_, z⟩ => SqT.of ((k2.trans z).tup _ _ hq)) ?_ ?_
        · rintro i u H2 hi ⟨j1, j2⟩
          obtain ⟨q0, x, n0, t0, rfl, e1, e2, e3, e4⟩ := rp.get hi
          refine ⟨rfl, _, rfl, _, _, 0, _, rfl, rfl, SqT.of ((k2.trans j2).tup _ _ e1), at0 _ _, _, j1, ?_, ?_, j2.mut hR j1 rfl⟩
          · rw [List.length_map]
            exact Nat.lt_of_le_of_lt (show _ ≤ 5 by rw [List.length_take]; omega) (by decide)
          · rw [take_more e2, List.map_append]
            exact upd_same
        · rintro H2 ⟨j1, j2⟩
          rw [show vs.length = ns.length by omega, List.take_length] at j1
          refine ⟨bp, R, _, _, rfl, rfl, (k2.trans j2).keep (fun z => z) rfl hb, j1, ?_, fun z hz => ?_⟩
          · rw [List.length_map, List.length_map]
            exact Nat.le_trans (show bd.length + ns.length ≤ 10000 by omega) (by decide)
          have f2 : Fr No H2 (upd H2 z (.lst (bd.map V.int ++ ns.map V.int))) := Fr.new hz
          have f02 := k2.trans (j2.trans f2)
          refine ⟨_, b, z, bd ++ ns, rfl, r.keep f02.tup, by rw [← map_app_i]; exact upd_same, by omega, g4, by rw [List.length_append]; omega, by omega, fun p H3 f3 hp => ?_⟩
          refine ⟨Fa, p, _, _, rfl, rfl, (j2.trans (f2.trans f3)).keep (fun z => z) rfl k1, hp, ?_, fun y hy => ?_⟩
          · rw [List.length_map, List.length_map]
            have := freeLs_len ts bd
            have := freeL_len b (bd ++ ns)
            exact Nat.le_trans (show _ ≤ 200000 by omega) (by decide)
          refine q _ _ ((f02.trans f3).trans (Fr.new hy)) ?_
          rw [map_app_i]
          exact upd_same
    rw [decide_eq_false c3]
    refine iteF ?_
    refine ⟨by show 0 ≤ sizeLine; decide, fun T hT => ?_⟩
    have fT : Fr No _ (upd (upd H D (.lst [])) T (.tup [])) := Fr.new hT
    have hDT := fT.keep (fun z => z) rfl (show upd H D (.lst []) D = some (.lst []) from upd_same)
    have f02 := fD.trans fT
    obtain ⟨p1, p2, p3⟩ := ptIc_ok g
    refine ⟨fun σ H' => ∃ (T : Addr) (us : List V), σ = [some (.ref a), some (.ref bp), some (.str (word t)), some (.ref D), none, some (.ref T), none, none] ∧ H' T = some (.tup us) ∧ RTs H' us (ptIf t) ∧ H' D = some (.lst []) ∧ Fr No H H', ?_, ?_⟩
    · refine ev_eqs (x := word t) rfl ?_
      by_cases c4 : word t = "if"
      · rw [decide_eq_true c4]
        refine iteT ?_
        obtain ⟨x, y, z, rfl⟩ := word_if c4
        cases rt with
        | @if_ _ x1 y1 z1 _ _ _ h rx ry rz =>
        refine ⟨_, rfl, _, rfl, a, _, rfl, SqT.of (f02.tup _ _ h), fun e => absurd (show HT.sIx 4 0 (some 1) = 0 from e.1) (by decide), fun T2 hT2 => ?_⟩
        have ec : cutV [.str "if", x1, y1, z1] (some 1) none = [x1, y1, z1] := rfl
        rw [ec]
        have f3 : Fr No _ (upd (upd (upd H D (.lst [])) T (.tup [])) T2 (.tup [x1, y1, z1])) := Fr.new hT2
        have f03 := f02.trans f3
        exact ⟨T2, _, rfl, upd_same, .cons (rx.keep f03.tup) (.cons (ry.keep f03.tup) (.cons (rz.keep f03.tup) .nil)), f3.keep (fun z => z) rfl hDT, f03⟩
      · rw [decide_eq_false c4]
        refine iteF ⟨T, [], rfl, upd_same, ?_, hDT, f02⟩
        cases t with
        | if_ x y z => exact absurd rfl c4
        | _ => exact .nil
    rintro σ H1 ⟨T1, us1, rfl, k1, k2, k3, k4⟩
    refine ⟨fun σ H' => ∃ (T : Addr) (us : List V), σ = [some (.ref a), some (.ref bp), some (.str (word t)), some (.ref D), none, some (.ref T), none, none] ∧ H' T = some (.tup us) ∧ RTs H' us (ptIc t) ∧ H' D = some (.lst []) ∧ Fr No H H', ?_, ?_⟩
    · refine ev_eqs (x := word t) rfl ?_
      by_cases c5 : word t = "call"
      · rw [decide_eq_true c5]
        refine iteT ?_
        obtain ⟨g0, ts, rfl⟩ := word_call c5
        cases rt with
        | @call _ qa x vs _ _ h hq r rs =>
        refine ⟨_, rfl, a, _, 1, _, rfl, rfl, SqT.of (k4.tup _ _ h), at1 _ _ _, sl1, fun T2 hT2 => ?_⟩
        have f3 : Fr No H1 (upd H1 T2 (.tup [x])) := Fr.new hT2
        refine ⟨_, rfl, a, _, 2, _, rfl, rfl, SqT.of ((k4.trans f3).tup _ _ h), atI_nat (j := 2) rfl, T2, _, _, _, rfl, rfl, SqT.of upd_same, SqT.of ((k4.trans f3).tup _ _ hq), (by simp), ?_, fun e => ?_, fun _ T3 hT3 => ?_⟩
        · show 1 + vs.length ≤ sizeLine
          have := rs.len
          have : ts.length + 1 ≤ 6 := p3
          exact Nat.le_trans (show 1 + vs.length ≤ 6 by omega) (by decide)
        · subst e
          exact ⟨T2, [x], rfl, upd_same, .cons (r.keep (k4.trans f3).tup) (rs.keep (k4.trans f3).tup), f3.keep (fun z => z) rfl k3, k4.trans f3⟩
        have f4 : Fr No _ (upd (upd H1 T2 (.tup [x])) T3 (.tup ([x] ++ vs))) := Fr.new hT3
        have f34 := k4.trans (f3.trans f4)
        exact ⟨T3, x :: vs, rfl, upd_same, .cons (r.keep f34.tup) (rs.keep f34.tup), (f3.trans f4).keep (fun z => z) rfl k3, f34⟩
      · rw [decide_eq_false c5]
        refine iteF ⟨T1, us1, rfl, k1, ?_, k3, k4⟩
        cases t with
        | call g0 ts => exact absurd rfl c5
        | _ => exact k2
    rintro σ H2 ⟨T2, us, rfl, k1, k2, k3, k4⟩
    have lus := k2.len
    refine ⟨_, rfl, T2, rfl, ⟨_, SqT.of k1⟩, for_tup (xs := us) (fun i σ H' => ∃ (v6 : Option V) (Fa : Addr), σ = [some (.ref a), some (.ref bp), some (.str (word t)), some (.ref Fa), none, some (.ref T2), v6, none] ∧ H' Fa = some (.lst ((freeLs ((ptIc t).take i) bd).map V.int)) ∧ Fr No H2 H')
      ⟨none, D, rfl, k3, Fr.refl _ _⟩ (fun i σ H' _ ⟨_, _, _, _, f⟩ => SqT.of (f.tup _ _ k1)) ?_ ?_⟩
    · rintro i u σ H' hi ⟨v6, Fa, rfl, j1, j2⟩
      obtain ⟨t0, e1, e2⟩ := k2.get hi
      have m3 := List.mem_of_getElem? e1
      obtain ⟨m4, m5, m6⟩ := p1 t0 m3
      have dp := depT_pos t0
      obtain ⟨n, rfl⟩ : ∃ n', n = n' + 1 := ⟨n - 1, by omega⟩
      refine ⟨_, rfl, _, rfl, _, rfl, u, t0, bp, bd, rfl, e2.keep j2.tup, (k4.trans j2).keep (fun z => z) rfl hb, by omega, m4, by omega, by omega, fun p H3 f3 hp => ?_⟩
      refine ⟨Fa, p, _, _, rfl, rfl, f3.keep (fun z => z) rfl j1, hp, ?_, fun z hz => ⟨_, z, rfl, ?_, (j2.trans f3).trans (Fr.new hz)⟩⟩
      · rw [List.length_map, List.length_map]
        have := freeLs_len ((ptIc t).take i) bd
        have := wTs_take (ptIc t) i
        have := freeL_len t0 bd
        exact Nat.le_trans (show _ ≤ 300000 by omega) (by decide)
      · rw [take_more e1, freeLs_app, freeLs_one, ← map_app_i]
        exact upd_same
    · rintro σ H' ⟨v6, Fa, rfl, j1, j2⟩
      rw [show us.length = (ptIc t).length by omega, List.take_length, ← freeL_pt bd c1 c2 c3] at j1
      exact ⟨_, rfl, q _ _ (k4.trans j2) j1⟩
end
end My
namespace My
open PySem PySem.Spec PyProof.Rows L2 TL
/-! ### _law_functions -/
abbrev sLfn : Stmt := top 29
abbrev NLfn : List Str := ["core", "kind", "parts", "found", "part", "pair"]
def RFn (H : Hp) (u : V) (p : List Int × Tr) : Prop := RT H u (.fn p.1 p.2)
theorem RFn.keep {H H' : Hp} (k : KpT H H') {u : V} {p : List Int × Tr} (h : RFn H u p) : RFn H' u p := RT.keep k h
def spLfn : Nat → Sp
  | 0 => fun _ _ _ _ => False
  | n + 1 => fun vs H Q _ => ∃ (v : V) (t : Tr), vs = [v] ∧ RT H v t ∧ depT t ≤ n + 1 ∧ gdT t ∧ wT t ≤ 100000 ∧ ∀ p us H', Fr No H H' → H' p = some (.lst us) → Als (RFn H') us (fnT t) → Q (.ref p) H'
theorem fnTs_app : ∀ (x y : List Tr), fnTs (x ++ y) = fnTs x ++ fnTs y
  | [], y => rfl
  | t :: x, y => by
    show fnT t ++ fnTs (x ++ y) = (fnT t ++ fnTs x) ++ fnTs y
    rw [fnTs_app x y, List.append_assoc]
theorem fnTs_one (t : Tr) : fnTs [t] = fnT t := List.append_nil _
mutual
theorem fnT_len : ∀ (t : Tr), (fnT t).length ≤ wT t
  | .int _ => Nat.zero_le _
  | .prim _ => Nat.zero_le _
  | .glob _ _ => Nat.zero_le _
  | .loc n => Nat.zero_le _
  | .fn ns b => by
    have := fnT_len b
    unfold fnT wT
    rw [List.length_cons]
    omega
  | .let_ ns ts b => by
    have := fnTs_len ts
    have := fnT_len b
    unfold fnT wT
    rw [List.length_append]
    omega
  | .if_ a b c => by
    have := fnT_len a
    have := fnT_len b
    have := fnT_len c
    unfold fnT wT
    rw [List.length_append, List.length_append]
    omega
  | .call f ts => by
    have := fnT_len f
    have := fnTs_len ts
    unfold fnT wT
    rw [List.length_append]
    omega
theorem fnTs_len : ∀ (ts : List Tr), (fnTs ts).length ≤ wTs ts
  | [] => Nat.zero_le _
  | t :: ts => by
    have := fnT_len t
    have := fnTs_len ts
    unfold fnTs wTs
    rw [List.length_append]
    omega
end
/-- the parts that are looked through: first a let's, then an if's, then a call's -/
def ptL : Tr → List Tr
  | .let_ _ ts b => ts ++ [b]
  | _ => []
def ptLI : Tr → List Tr
  | .let_ _ ts b => ts ++ [b]
  | .if_ a b c => [a, b, c]
  | _ => []
def ptA : Tr → List Tr
  | .let_ _ ts b => ts ++ [b]
  | .if_ a b c => [a, b, c]
  | .call f ts => f :: ts
  | _ => []
theorem fnT_pt {t : Tr} (h2 : word t ≠ "fn") : fnT t = fnTs (ptA t) := by
  cases t with
  | fn ns b => exact absurd rfl h2
  | let_ ns ts b =>
    show fnTs ts ++ fnT b = fnTs (ts ++ [b])
    rw [fnTs_app, fnTs_one]
  | if_ a b c =>
    show fnT a ++ (fnT b ++ fnT c) = fnT a ++ (fnT b ++ (fnT c ++ []))
    rw [List.append_nil]
  | _ => rfl
theorem wTs_app : ∀ (x y : List Tr), wTs (x ++ y) = wTs x + wTs y
  | [], y => (Nat.zero_add _).symm
  | t :: x, y => by
    show 1 + wT t + wTs (x ++ y) = (1 + wT t + wTs x) + wTs y
    rw [wTs_app x y]
    omega
theorem ptA_ok {t : Tr} : gdT t → (∀ u ∈ ptA t, gdT u ∧ depT u + 1 ≤ depT t ∧ wT u ≤ wT t) ∧ wTs (ptA t) ≤ wT t + 3 ∧ (ptA t).length ≤ 6 := by
  intro g
  cases t with
  | let_ ns ts b =>
    obtain ⟨g1, g2, _, g3, g4⟩ : ns.length ≤ 5 ∧ ns.length = ts.length ∧ (∀ n ∈ ns, nmOk n) ∧ gdTs ts ∧ gdT b := g
    have e1 : depT (.let_ ns ts b) = 1 + max (depTs ts) (depT b) := by rw [depT]
    have e2 : wT (.let_ ns ts b) = 1 + ns.length + wTs ts + wT b := by rw [wT]
    refine ⟨fun u m => ?_, ?_, by show (ts ++ [b]).length ≤ 6; simp; omega⟩
    · have m : u ∈ ts ++ [b] := m
      rcases List.mem_append.mp m with m | m
      · have := depTs_mem m
        have := wTs_mem m
        exact ⟨gdTs_mem g3 u m, by omega, by omega⟩
      · rw [List.mem_singleton] at m
        subst m
        exact ⟨g4, by omega, by omega⟩
    · show wTs (ts ++ [b]) ≤ _
      have e3 : wTs [b] = 1 + wT b + 0 := by rw [wTs, wTs]
      rw [wTs_app]
      omega
  | if_ a b c => exact ptIc_ok (t := .if_ a b c) g
  | call f ts => exact ptIc_ok (t := .call f ts) g
  | _ => exact ⟨fun u m => (by cases m), Nat.zero_le _, Nat.zero_le _⟩
section
variable {P : Program} {w : World} {K : PySem.W.Frag} {mg : Str → Option Value} {base : Heap}
theorem scLfn : FnScope NLfn ["core"] (defScope sLfn) := ⟨rfl, rfl, rfl, by decide +kernel, rfl, by decide +kernel, by decide +kernel⟩
theorem ok_lfn {f : Addr} {fd : FuncData} (F : Fun K "_law_functions" "_law_functions" sLfn f fd) (B : Blt mg) (gS : mg "_law_functions" = some (.ref f)) (kS : PySem.W.keepIn K (.ref f) = true) (bS : Binds K fd ["core"] []) : ∀ n : Nat, FnOk P w K mg base CX0 n f fd ["core"] (spLfn n)
  | 0 => fn_none
  | n + 1 => by
    have IH : Cal P w K mg base CX0 n "_law_functions" ["core"] (spLfn n) f fd := ⟨ok_lfn F B gS kS bS n, kS, gS, bS⟩
    refine F.ok scLfn (fun vs H Q E h => ?_) (fun cdv A outer s H vs Q E hr h => ?_)
    · obtain ⟨v, t, rfl, _⟩ := h
      rfl
    obtain ⟨v, t, rfl, rt, hd, g, lw, q⟩ := h
    have nd := scLfn.nd
    refine ⟨_, (pss_cons (ps_set (i := 1) nd rfl (Or.inl rfl) (pe_ix (r := rIxT K) ix_tup (pv 0) pe_int (fun _ _ => rfl)))
    (pss_cons (ps_if (pt_cmpR op_eq (pv 1) pe_str (nomark _)) (pss_one (ps_ret (pe_op op_cat (pe_lst (pa_cons (pv 0) pa_nil)) (pe_call IH.ok hr rfl IH.g IH.k IH.b .nil pass0 (pa_cons (pe_ix (r := rIxT K) ix_tup (pv 0) pe_int (fun _ _ => rfl)) pa_nil))))) pss_nil)
    (pss_cons (ps_set (i := 2) nd rfl (Or.inl rfl) (pe_tup pa_nil))
    (C8.pss_cut (ps_if (pt_cmpR op_eq (pv 1) pe_str (nomark _)) (pss_one (ps_set (i := 2) nd rfl (Or.inl rfl) (pe_op op_catA (pe_callTy call_tuple_of (by rfl) B.tuple (by decide +kernel) (pa_cons (pe_lc (own := [("pair", 5)]) (g := gName 5) (tt := tYes) rfl nd (pi_tup (pe_ix (r := rIxT K) ix_tup (pv 0) pe_int (fun _ _ => rfl))) (blkOk_by (N := NLfn) (sc := defScope sLfn) (by decide +kernel)) (fun _ _ _ _ _ => (pg_name (i := 5) nd rfl (Or.inl rfl) (hf := Or.inr rfl))) (fun _ _ _ _ _ => pts_nil) (fun _ _ _ _ _ => (pe_ix (r := rIxT K) ix_tup (pv 5) pe_int (fun _ _ => rfl)))) pa_nil)) (pe_tup (pa_cons (pe_ix (r := rIxT K) ix_tup (pv 0) pe_int (fun _ _ => rfl)) pa_nil))))) pss_nil)
    (C8.pss_cut (ps_if (pt_cmpR op_eq (pv 1) pe_str (nomark _)) (pss_one (ps_set (i := 2) nd rfl (Or.inl rfl) (pe_slice sl_tup (pv 0) (po_some pe_int) po_none))) pss_nil)
    (C8.pss_cut (ps_if (pt_cmpR op_eq (pv 1) pe_str (nomark _)) (pss_one (ps_set (i := 2) nd rfl (Or.inl rfl) (pe_op op_catT (pe_tup (pa_cons (pe_ix (r := rIxT K) ix_tup (pv 0) pe_int (fun _ _ => rfl)) pa_nil)) (pe_ix (r := rIxT K) ix_tup (pv 0) pe_int (fun _ _ => rfl))))) pss_nil)
    (pss_cons (ps_set (i := 3) nd rfl (Or.inl rfl) (pe_lst pa_nil))
    (pss_cons (ps_for PassesOwn.never rfl (pi_tup (pv 2)) (pg_name (i := 4) nd rfl (Or.inl rfl))
      (pss_one (ps_set (i := 3) nd rfl (Or.inl rfl) (pe_op op_cat (pv 3) (pe_call IH.ok hr rfl IH.g IH.k IH.b .nil pass0 (pa_cons (pv 4) pa_nil))))))
    (pss_one (ps_ret (pv 3))))))))))), ?_⟩
    obtain ⟨a, xs, rfl, ha, lxs⟩ := rt.head
    refine ⟨_, rfl, a, _, 0, _, rfl, rfl, SqT.of ha, at0 _ _, ?_⟩
    refine ev_eqs (x := word t) rfl ?_
    by_cases c2 : word t = "fn"
    · rw [decide_eq_true c2]
      refine iteT ?_
      obtain ⟨ns, b, rfl⟩ := word_fn c2
      have rt0 := rt
      cases rt with
      | @fn _ _ x _ _ h hq r =>
      obtain ⟨g1, _, _, g3⟩ : ns.length ≤ 5 ∧ (∀ n ∈ ns, nmOk n) ∧ wT b ≤ 2741 ∧ gdT b := g
      unfold depT at hd
      unfold wT at lw
      have dp := depT_pos b
      have fl := fnT_len b
      obtain ⟨n, rfl⟩ : ∃ n', n = n' + 1 := ⟨n - 1, by omega⟩
      refine ⟨_, rfl, sl1, fun l hl => ?_⟩
      have f1 : Fr No H (upd H l (.lst [.ref a])) := Fr.new hl
      refine ⟨_, rfl, a, _, 2, _, rfl, rfl, SqT.of (f1.tup _ _ h), atI_nat (j := 2) rfl, x, b, rfl, r.keep f1.tup, by omega, g3, by omega, fun p us H3 f3 hp al => ?_⟩
      refine ⟨l, p, _, _, rfl, rfl, f3.keep (fun z => z) rfl (show upd H l (.lst [.ref a]) l = _ from upd_same), hp, ?_, fun z hz => ?_⟩
      · rw [List.length_singleton, al.len]
        exact Nat.le_trans (show _ ≤ 200000 by omega) (by decide)
      have f4 : Fr No H3 (upd H3 z (.lst ([.ref a] ++ us))) := Fr.new hz
      exact q _ _ _ ((f1.trans f3).trans f4) upd_same (.cons (RT.keep ((f1.trans f3).trans f4).tup rt0) (al.mono fun _ _ z => z.keep f4.tup))
    rw [decide_eq_false c2]
    refine iteF ?_
    refine ⟨by show 0 ≤ sizeLine; decide, fun T hT => ?_⟩
    have fT : Fr No _ (upd H T (.tup [])) := Fr.new hT
    obtain ⟨p1, p2, p3⟩ := ptA_ok g
    refine ⟨fun σ H' => ∃ (T : Addr) (us : List V), σ = [some (.ref a), some (.str (word t)), some (.ref T), none, none, none] ∧ H' T = some (.tup us) ∧ RTs H' us (ptL t) ∧ Fr No H H', ?_, ?_⟩
    · refine ev_eqs (x := word t) rfl ?_
      by_cases c3 : word t = "let"
      · rw [decide_eq_true c3]
        refine iteT ?_
        obtain ⟨ns, ts, b, rfl⟩ := word_let c3
        cases rt with
        | @let_ _ qa x vs _ _ _ h hq rp r =>
        obtain ⟨g1, g2, _, g3, g4⟩ : ns.length ≤ 5 ∧ ns.length = ts.length ∧ (∀ n ∈ ns, nmOk n) ∧ gdTs ts ∧ gdT b := g
        obtain ⟨lv, lt⟩ := rp.len
        refine ⟨_, rfl, a, _, 1, _, rfl, rfl, SqT.of (fT.tup _ _ h), at1 _ _ _, _, rfl, ⟨_, SqT.of (fT.tup _ _ hq)⟩, fun R hR => ?_⟩
        refine lc_tup (xs := vs) (fun i H2 => ∃ us, H2 R = some (.lst us) ∧ RTs H2 us (ts.take i) ∧ us.length = i ∧ Fr No (upd H T (.tup [])) H2) ⟨[], upd_same, .nil, rfl, Fr.new hR⟩ (fun i H2 _ ⟨_, _, _, _, z⟩ => SqT.of ((fT.trans z).tup _ _ hq)) ?_ ?_
        · rintro i u H2 hi ⟨us, j1, j2, j3, j4⟩
          obtain ⟨q0, y, n0, t0, rfl, e1, e2, e3, e4⟩ := rp.get hi
          have il := (List.getElem?_eq_some_iff.mp hi).1
          have fm : Fr (fun b => b = R) H2 (upd H2 R (.lst (us ++ [y]))) := Fr.set rfl j1 rfl
          refine ⟨rfl, _, rfl, _, _, 1, _, rfl, rfl, SqT.of ((fT.trans j4).tup _ _ e1), at1 _ _ _, us, j1, Nat.lt_of_le_of_lt (show us.length ≤ 5 by omega) (by decide), us ++ [y], upd_same, ?_, by simp [j3], j4.mut hR j1 rfl⟩
          rw [take_more e3]
          exact (j2.keep fm.tup).snoc (e4.keep ((fT.trans j4).tup.trans fm.tup))
        · rintro H2 ⟨us, j1, j2, j3, j4⟩
          rw [show vs.length = ts.length by omega, List.take_length] at j2
          have lus := j2.len
          refine ⟨R, us, rfl, .inl ⟨SqL.of j1, fun T2 hT2 => ?_⟩⟩
          have f2 : Fr No H2 (upd H2 T2 (.tup us)) := Fr.new hT2
          have f02 := fT.trans (j4.trans f2)
          refine ⟨_, rfl, a, _, 2, _, rfl, rfl, SqT.of (f02.tup _ _ h), atI_nat (j := 2) rfl, sl1, fun T3 hT3 => ?_⟩
          have f3 : Fr No _ (upd (upd H2 T2 (.tup us)) T3 (.tup [x])) := Fr.new hT3
          have hT23 := f3.tup _ _ (show upd H2 T2 (.tup us) T2 = some (.tup us) from upd_same)
          have f03 := f02.trans f3
          refine ⟨T2, T3, us, [x], rfl, rfl, SqT.of hT23, SqT.of upd_same, ?_⟩
          refine ⟨?_, fun e => ?_, fun _ e => (by cases e), fun _ _ T4 hT4 => ?_⟩
          · show us.length + 1 ≤ sizeLine
            exact Nat.le_trans (show us.length + 1 ≤ 6 by omega) (by decide)
          · subst e
            exact ⟨T3, [x], rfl, upd_same, RTs.snoc (vs := []) (j2.keep (f2.trans f3).tup) (r.keep f03.tup), f03⟩
          have f4 : Fr No _ (upd (upd (upd H2 T2 (.tup us)) T3 (.tup [x])) T4 (.tup (us ++ [x]))) := Fr.new hT4
          have f04 := f02.trans (f3.trans f4)
          exact ⟨T4, _, rfl, upd_same, (j2.keep (f2.trans (f3.trans f4)).tup).snoc (r.keep f04.tup), f04⟩
      · rw [decide_eq_false c3]
        refine iteF ⟨T, [], rfl, upd_same, ?_, fT⟩
        cases t with
        | let_ x y z => exact absurd rfl c3
        | _ => exact .nil
    rintro σ H1 ⟨T1, us1, rfl, k1, k2, k4⟩
    refine ⟨fun σ H' => ∃ (T : Addr) (us : List V), σ = [some (.ref a), some (.str (word t)), some (.ref T), none, none, none] ∧ H' T = some (.tup us) ∧ RTs H' us (ptLI t) ∧ Fr No H H', ?_, ?_⟩
    · refine ev_eqs (x := word t) rfl ?_
      by_cases c4 : word t = "if"
      · rw [decide_eq_true c4]
        refine iteT ?_
        obtain ⟨x, y, z, rfl⟩ := word_if c4
        cases rt with
        | @if_ _ x1 y1 z1 _ _ _ h rx ry rz =>
        refine ⟨_, rfl, _, rfl, a, _, rfl, SqT.of (k4.tup _ _ h), fun e => absurd (show HT.sIx 4 0 (some 1) = 0 from e.1) (by decide), fun T2 hT2 => ?_⟩
        have ec : cutV [.str "if", x1, y1, z1] (some 1) none = [x1, y1, z1] := rfl
        rw [ec]
        have f3 : Fr No _ (upd H1 T2 (.tup [x1, y1, z1])) := Fr.new hT2
        have f03 := k4.trans f3
        exact ⟨T2, _, rfl, upd_same, .cons (rx.keep f03.tup) (.cons (ry.keep f03.tup) (.cons (rz.keep f03.tup) .nil)), f03⟩
      · rw [decide_eq_false c4]
        refine iteF ⟨T1, us1, rfl, k1, ?_, k4⟩
        cases t with
        | if_ x y z => exact absurd rfl c4
        | _ => exact k2
    rintro σ H1 ⟨T1, us1, rfl, k1, k2, k4⟩
    refine ⟨fun σ H' => ∃ (T : Addr) (us : List V), σ = [some (.ref a), some (.str (word t)), some (.ref T), none, none, none] ∧ H' T = some (.tup us) ∧ RTs H' us (ptA t) ∧ Fr No H H', ?_, ?_⟩
    · refine ev_eqs (x := word t) rfl ?_
      by_cases c5 : word t = "call"
      · rw [decide_eq_true c5]
        refine iteT ?_
        obtain ⟨g0, ts, rfl⟩ := word_call c5
        cases rt with
        | @call _ qa x vs _ _ h hq r rs =>
        refine ⟨_, rfl, a, _, 1, _, rfl, rfl, SqT.of (k4.tup _ _ h), at1 _ _ _, sl1, fun T2 hT2 => ?_⟩
        have f3 : Fr No H1 (upd H1 T2 (.tup [x])) := Fr.new hT2
        refine ⟨_, rfl, a, _, 2, _, rfl, rfl, SqT.of ((k4.trans f3).tup _ _ h), atI_nat (j := 2) rfl, T2, _, _, _, rfl, rfl, SqT.of upd_same, SqT.of ((k4.trans f3).tup _ _ hq), (by simp), ?_, fun e => ?_, fun _ T3 hT3 => ?_⟩
        · show 1 + vs.length ≤ sizeLine
          have := rs.len
          have : ts.length + 1 ≤ 6 := p3
          exact Nat.le_trans (show 1 + vs.length ≤ 6 by omega) (by decide)
        · subst e
          exact ⟨T2, [x], rfl, upd_same, .cons (r.keep (k4.trans f3).tup) (rs.keep (k4.trans f3).tup), k4.trans f3⟩
        have f4 : Fr No _ (upd (upd H1 T2 (.tup [x])) T3 (.tup ([x] ++ vs))) := Fr.new hT3
        have f34 := k4.trans (f3.trans f4)
        exact ⟨T3, x :: vs, rfl, upd_same, .cons (r.keep f34.tup) (rs.keep f34.tup), f34⟩
      · rw [decide_eq_false c5]
        refine iteF ⟨T1, us1, rfl, k1, ?_, k4⟩
        cases t with
        | call g0 ts => exact absurd rfl c5
        | _ => exact k2
    rintro σ H2 ⟨T2, us, rfl, k1, k2, k4⟩
    have lus := k2.len
    refine ⟨by show 0 ≤ sizeLine; decide, fun D hD => ?_⟩
    have fD : Fr No H2 (upd H2 D (.lst [])) := Fr.new hD
    refine ⟨_, rfl, T2, rfl, ⟨_, SqT.of (fD.tup _ _ k1)⟩, for_tup (xs := us) (fun i σ H' => ∃ (v4 : Option V) (Fa : Addr) (ws : List V), σ = [some (.ref a), some (.str (word t)), some (.ref T2), some (.ref Fa), v4, none] ∧ H' Fa = some (.lst ws) ∧ Als (RFn H') ws (fnTs ((ptA t).take i)) ∧ Fr No H2 H')
      ⟨none, D, [], rfl, upd_same, .nil, fD⟩ (fun i σ H' _ ⟨_, _, _, _, _, _, f⟩ => SqT.of (f.tup _ _ k1)) ?_ ?_⟩
    · rintro i u σ H' hi ⟨v6, Fa, ws, rfl, j1, j3, j2⟩
      obtain ⟨t0, e1, e2⟩ := k2.get hi
      have m3 := List.mem_of_getElem? e1
      obtain ⟨m4, m5, m6⟩ := p1 t0 m3
      have dp := depT_pos t0
      obtain ⟨n, rfl⟩ : ∃ n', n = n' + 1 := ⟨n - 1, by omega⟩
      refine ⟨_, rfl, _, rfl, u, t0, rfl, e2.keep j2.tup, by omega, m4, by omega, fun p us2 H3 f3 hp al => ?_⟩
      refine ⟨Fa, p, _, _, rfl, rfl, f3.keep (fun z => z) rfl j1, hp, ?_, fun z hz => ?_⟩
      · rw [j3.len, al.len]
        have := fnTs_len ((ptA t).take i)
        have := wTs_take (ptA t) i
        have := fnT_len t0
        exact Nat.le_trans (show _ ≤ 300000 by omega) (by decide)
      have f4 : Fr No H3 (upd H3 z (.lst (ws ++ us2))) := Fr.new hz
      refine ⟨_, z, _, rfl, upd_same, ?_, (j2.trans f3).trans f4⟩
      rw [take_more e1, fnTs_app, fnTs_one]
      exact (j3.mono fun _ _ z => z.keep (f3.trans f4).tup).app (al.mono fun _ _ z => z.keep f4.tup)
    · rintro σ H' ⟨v6, Fa, ws, rfl, j1, j3, j2⟩
      rw [show us.length = (ptA t).length by omega, List.take_length, ← fnT_pt c2] at j3
      exact ⟨_, rfl, q _ _ _ (k4.trans j2) j1 j3⟩
end
end My
namespace My
open PySem PySem.Spec PyProof.Rows L2 TL
/-! ### _law_codes -/
abbrev sLcd : Stmt := top 30
abbrev NLcd : List Str := ["code", "found", "row"]
def RPr (H : Hp) (u : V) (p : Nat × Nat) : Prop := ∃ a, u = .ref a ∧ H a = some (.tup [.int (p.1 : Nat), .int (p.2 : Nat)])
theorem RPr.keep {H H' : Hp} (k : KpT H H') {u : V} {p : Nat × Nat} (h : RPr H u p) : RPr H' u p := let ⟨a, e, h⟩ := h; ⟨a, e, k _ _ h⟩
def spLcd : Nat → Sp
  | 0 => fun _ _ _ _ => False
  | n + 1 => fun vs H Q _ => ∃ (v : V) (c : Code) (k : Nat), vs = [v] ∧ RC H v c ∧ CRt (n + 1) c k ∧ (cdC c).length ≤ 200000 ∧ ∀ p us H', Fr No H H' → H' p = some (.lst us) → Als (RPr H') us (cdC c) → Q (.ref p) H'
theorem RSs.at {H : Hp} : ∀ {vs : List V} {ss : List Src} {i : Nat} {v : V}, RSs H vs ss → vs[i]? = some v → ∃ s, ss[i]? = some s ∧ RSr H v s
  | _, _, _, _, .nil, e => by simp at e
  | _, _, 0, _, .cons r _, e => by cases e; exact ⟨_, rfl, r⟩
  | _, _, i + 1, _, .cons _ rs, e => by
    obtain ⟨t, h1, h2⟩ := RSs.at (i := i) rs (by simpa using e)
    exact ⟨t, by simpa using h1, h2⟩
theorem RIs.at {H : Hp} : ∀ {vs : List V} {is : List Ins} {i : Nat} {v : V}, RIs H vs is → vs[i]? = some v → ∃ s, is[i]? = some s ∧ RI H v s
  | _, _, _, _, .nil, e => by simp at e
  | _, _, 0, _, .cons r _, e => by cases e; exact ⟨_, rfl, r⟩
  | _, _, i + 1, _, .cons _ rs, e => by
    obtain ⟨t, h1, h2⟩ := RIs.at (i := i) rs (by simpa using e)
    exact ⟨t, by simpa using h1, h2⟩
theorem RIs.leng {H : Hp} : ∀ {vs : List V} {is : List Ins}, RIs H vs is → vs.length = is.length
  | _, _, .nil => rfl
  | _, _, .cons _ r => congrArg (· + 1) (RIs.leng r)
theorem wI_fn {i : Ins} (h : wI i = "fn") : ∃ c ss, i = .fn c ss := by
  cases i with
  | fn c ss => exact ⟨c, ss, rfl⟩
  | src s =>
    cases s with
    | place n => exact absurd (show ("place" : Str) = "fn" from h) (by decide +kernel)
    | kept n => exact absurd (show ("kept" : Str) = "fn" from h) (by decide +kernel)
  | int n => exact absurd (show ("int" : Str) = "fn" from h) (by decide +kernel)
  | prim n => exact absurd (show ("prim" : Str) = "fn" from h) (by decide +kernel)
  | glob m n => exact absurd (show ("global" : Str) = "fn" from h) (by decide +kernel)
  | put n => exact absurd (show ("put" : Str) = "fn" from h) (by decide +kernel)
  | jump n => exact absurd (show ("jump" : Str) = "fn" from h) (by decide +kernel)
  | «unless» n => exact absurd (show ("unless" : Str) = "fn" from h) (by decide +kernel)
  | call n => exact absurd (show ("call" : Str) = "fn" from h) (by decide +kernel)
  | tail n => exact absurd (show ("tail" : Str) = "fn" from h) (by decide +kernel)
  | end_ => exact absurd (show ("end" : Str) = "fn" from h) (by decide +kernel)
theorem cdI_nil {i : Ins} (h : wI i ≠ "fn") : cdI i = [] := by
  cases i with
  | fn c ss => exact absurd rfl h
  | _ => rfl
theorem cdIs_one (i : Ins) : cdIs [i] = cdI i := List.append_nil _
theorem cdIs_take (is : List Ins) (i : Nat) : (cdIs (is.take i)).length ≤ (cdIs is).length := by
  conv => rhs; rw [← List.take_append_drop i is, cdIs_app]
  rw [List.length_append]
  omega
section
variable {P : Program} {w : World} {K : PySem.W.Frag} {mg : Str → Option Value} {base : Heap}
theorem scLcd : FnScope NLcd ["code"] (defScope sLcd) := ⟨rfl, rfl, rfl, by decide +kernel, rfl, by decide +kernel, by decide +kernel⟩
theorem ok_lcd {f : Addr} {fd : FuncData} (F : Fun K "_law_codes" "_law_codes" sLcd f fd) (B : Blt mg) (gS : mg "_law_codes" = some (.ref f)) (kS : PySem.W.keepIn K (.ref f) = true) (bS : Binds K fd ["code"] []) : ∀ n : Nat, FnOk P w K mg base CX0 n f fd ["code"] (spLcd n)
  | 0 => fn_none
  | n + 1 => by
    have IH : Cal P w K mg base CX0 n "_law_codes" ["code"] (spLcd n) f fd := ⟨ok_lcd F B gS kS bS n, kS, gS, bS⟩
    refine F.ok scLcd (fun vs H Q E h => ?_) (fun cdv A outer s H vs Q E hr h => ?_)
    · obtain ⟨v, c, k, rfl, _⟩ := h
      rfl
    obtain ⟨v, c, k, rfl, rc, crt, lc, q⟩ := h
    have nd := scLcd.nd
    refine ⟨_, (pss_cons (ps_set (i := 1) nd rfl (Or.inl rfl) (pe_lst pa_nil))
    (pss_cons (ps_for PassesOwn.never rfl (pi_tup (pe_ix (r := rIxT K) ix_tup (pv 0) pe_int (fun _ _ => rfl))) (pg_name (i := 2) nd rfl (Or.inl rfl))
      (pss_one (ps_if (pt_cmpR op_eq (pe_ix (r := rIxT K) ix_tup (pv 2) pe_int (fun _ _ => rfl)) pe_str (nomark _)) (pss_one (ps_set (i := 1) nd rfl (Or.inl rfl) (pe_op op_cat (pe_op op_cat (pv 1) (pe_lst (pa_cons (pe_tup (pa_cons (pe_ix (r := rIxT K) ix_tup (pe_ix (r := rIxT K) ix_tup (pv 2) pe_int (fun _ _ => rfl)) pe_int (fun _ _ => rfl)) (pa_cons (pe_callB call_len_seq (by rfl) B.len PySem.boot_len (pa_cons (pe_ix (r := rIxT K) ix_tup (pv 2) pe_int (fun _ _ => rfl)) pa_nil)) pa_nil))) pa_nil))) (pe_call IH.ok hr rfl IH.g IH.k IH.b .nil pass0 (pa_cons (pe_ix (r := rIxT K) ix_tup (pv 2) pe_int (fun _ _ => rfl)) pa_nil))))) pss_nil)))
    (pss_one (ps_ret (pv 1))))), ?_⟩
    cases crt with
    | @mk _ p l _ is k' hs hp hl hm sg sub =>
    cases rc with
    | @mk a qa _ _ vs _ h hq rs =>
    have lc : (cdIs is).length ≤ 200000 := lc
    have lvs := rs.leng
    refine ⟨by show 0 ≤ sizeLine; decide, fun D hD => ?_⟩
    have fD : Fr No H (upd H D (.lst [])) := Fr.new hD
    refine ⟨_, rfl, a, _, 3, _, rfl, rfl, SqT.of (fD.tup _ _ h), atI_nat (j := 3) rfl, qa, rfl, ⟨_, SqT.of (fD.tup _ _ hq)⟩, for_tup (xs := vs) (fun i σ H' => ∃ (v2 : Option V) (Fa : Addr) (us : List V), σ = [some (.ref a), some (.ref Fa), v2] ∧ H' Fa = some (.lst us) ∧ Als (RPr H') us (cdIs (is.take i)) ∧ Fr No H H')
      ⟨none, D, [], rfl, upd_same, .nil, fD⟩ (fun i σ H' _ ⟨_, _, _, _, _, _, f⟩ => SqT.of (f.tup _ _ hq)) ?_ ?_⟩
    · rintro i u σ H' hi ⟨v2, Fa, us, rfl, j1, j2, j3⟩
      obtain ⟨ins, e1, e2⟩ := rs.at hi
      have e2' := e2.keep j3.tup
      obtain ⟨b, xs, rfl, hb, _⟩ := e2'.hd
      refine ⟨_, rfl, b, _, 0, _, rfl, rfl, SqT.of hb, at0 _ _, rfl, _, rfl, ?_⟩
      rw [show decide (V.str (wI ins) = V.str "fn") = decide (wI ins = "fn") from decide_eq_decide.mpr ⟨fun z => V.str.inj z, fun z => by rw [z]⟩]
      by_cases c : wI ins = "fn"
      · rw [decide_eq_true c]
        refine iteT ?_
        obtain ⟨cc, ss, rfl⟩ := wI_fn c
        have csub := sub i cc ss e1
        cases e2' with
        | @fn _ qb cv ws _ _ h1 h2 r1 r2 =>
        obtain ⟨pc, lcc, js⟩ := cc
        cases r1 with
        | @mk ca qc _ _ cvs _ hc hcq rcs =>
        have lws := r2.len
        obtain ⟨n, rfl⟩ : ∃ n', n = n' + 1 := by cases csub; exact ⟨_, rfl⟩
        have lsub : (cdC (.mk pc lcc js)).length + 1 ≤ 200000 := by
          have := cdIs_take is (i + 1)
          rw [take_more e1, cdIs_app, cdIs_one, List.length_append] at this
          have : (cdIs (is.take i)).length + ((cdC (.mk pc lcc js)).length + 1) ≤ (cdIs is).length := this
          omega
        have ltk : (cdIs (is.take i)).length ≤ 200000 := Nat.le_trans (cdIs_take is i) lc
        refine ⟨_, rfl, _, rfl, b, _, 1, _, rfl, rfl, SqT.of h1, at1 _ _ _, ca, _, 1, _, rfl, rfl, SqT.of hc, at1 _ _ _, _, rfl, b, _, 2, _, rfl, rfl, SqT.of h1, atI_nat (j := 2) rfl, qb, ws, rfl, .inr (SqT.of h2), sl2, fun T hT => ⟨sl1, fun L hL => ?_⟩⟩
        have f1 : Fr No H' (upd H' T (.tup [.int (pc : Nat), .int (ws.length : Nat)])) := Fr.new hT
        have f2 : Fr No _ (upd (upd H' T (.tup [.int (pc : Nat), .int (ws.length : Nat)])) L (.lst [.ref T])) := Fr.new hL
        refine ⟨Fa, L, _, _, rfl, rfl, (f1.trans f2).keep (fun z => z) rfl j1, upd_same, ?_, fun Z hZ => ?_⟩
        · rw [j2.len]
          exact Nat.le_trans (show _ + 1 ≤ 300000 by omega) (by decide)
        have f3 : Fr No _ (upd (upd (upd H' T (.tup [.int (pc : Nat), .int (ws.length : Nat)])) L (.lst [.ref T])) Z (.lst (us ++ [.ref T]))) := Fr.new hZ
        have f03 := f1.trans (f2.trans f3)
        have hT3 := (f2.trans f3).tup _ _ (show upd H' T (.tup [.int (pc : Nat), .int (ws.length : Nat)]) T = _ from upd_same)
        refine ⟨_, rfl, b, _, 1, _, rfl, rfl, SqT.of (f03.tup _ _ h1), at1 _ _ _, _, .mk pc lcc js, _, rfl, (RC.mk hc hcq rcs).keep f03.tup, csub, by omega, fun p2 us2 H4 f4 hp2 al2 => ?_⟩
        refine ⟨Z, p2, _, _, rfl, rfl, f4.keep (fun z => z) rfl upd_same, hp2, ?_, fun Y hY => ?_⟩
        · rw [List.length_append, j2.len, al2.len, List.length_singleton]
          exact Nat.le_trans (show _ ≤ 600000 by omega) (by decide)
        have f5 : Fr No H4 (upd H4 Y (.lst ((us ++ [.ref T]) ++ us2))) := Fr.new hY
        have fE := f03.trans (f4.trans f5)
        have hT5 := (f4.trans f5).tup _ _ hT3
        rw [lws] at hT5
        refine ⟨_, Y, _, rfl, upd_same, ?_, j3.trans fE⟩
        have al1 : Als (RPr (upd H4 Y (.lst ((us ++ [.ref T]) ++ us2)))) (us ++ [.ref T]) (cdIs (is.take i) ++ [(pc, ss.length)]) := (j2.mono fun _ _ z => z.keep fE.tup).app (.one ⟨T, rfl, hT5⟩)
        have al3 := al1.app (al2.mono fun _ _ z => z.keep f5.tup)
        rw [List.append_assoc (cdIs (is.take i))] at al3
        rw [take_more e1, cdIs_app, cdIs_one]
        exact al3
      · rw [decide_eq_false c]
        refine iteF ⟨_, Fa, us, rfl, j1, ?_, j3⟩
        rw [take_more e1, cdIs_app, cdIs_one, cdI_nil c, List.append_nil]
        exact j2
    · rintro σ H' ⟨v2, Fa, us, rfl, j1, j2, j3⟩
      rw [lvs, List.take_length] at j2
      exact ⟨_, rfl, q _ _ _ j3 j1 j2⟩
end
end My
namespace My
open PySem PySem.Spec PyProof.Rows L2 TL
/-! ### _law_row_right -/
abbrev sRrt : Stmt := top 32
abbrev NRrt : List Str := ["row", "code", "kept", "at", "kind", "source"]
theorem in_str {K : PySem.W.Frag} {σ : L2.St} {H : Hp} {x : Str} {ws : List Str} {b : Bool} {ta : TE} {Q : VK} (ht : ∀ Q : VK, Q (.str x) H → ta σ H Q) (hw : ws.length ≤ 100) (hb : inV (.str x) (ws.map V.str) = b) (q : ∀ H', Fr No H H' → Q (.bl b) H') : tOp (rIn K false) ta (tLst (tStrs ws)) σ H Q := by
  refine ht _ (tStrs_is ⟨Nat.le_trans (show (ws.map V.str).length ≤ 100 by simp; exact hw) (by decide), fun D hD => ⟨D, _, rfl, .inl (SqL.of upd_same), rfl, flat_map V.str (fun _ => rfl) ws, ?_⟩⟩)
  show Q (.bl (inV (.str x) (ws.map V.str))) _
  rw [hb]
  exact q _ (Fr.new hD)
theorem nin_str {K : PySem.W.Frag} {σ : L2.St} {H : Hp} {x : Str} {ws : List Str} {b : Bool} {ta : TE} {Q : VK} (ht : ∀ Q : VK, Q (.str x) H → ta σ H Q) (hw : ws.length ≤ 100) (hb : inV (.str x) (ws.map V.str) = b) (q : ∀ H', Fr No H H' → Q (.bl (!b)) H') : tOp (rIn K true) ta (tLst (tStrs ws)) σ H Q := by
  refine ht _ (tStrs_is ⟨Nat.le_trans (show (ws.map V.str).length ≤ 100 by simp; exact hw) (by decide), fun D hD => ⟨D, _, rfl, .inl (SqL.of upd_same), rfl, flat_map V.str (fun _ => rfl) ws, ?_⟩⟩)
  show Q (.bl (!inV (.str x) (ws.map V.str))) _
  rw [hb]
  exact q _ (Fr.new hD)
def spRsr : Sp := fun vs H Q _ => ∃ (u cv : V) (s : Src) (p l : Nat) (is : List Ins) (k at_ : Nat), vs = [u, cv, .int (k : Nat), .int (at_ : Nat)] ∧ RSr H u s ∧ RC H cv (.mk p l is) ∧ SrIn l k s ∧ ∀ H', Fr No H H' → Q (.bl true) H'
def spCrt : Nat → Sp
  | 0 => fun _ _ _ _ => False
  | d + 1 => fun vs H Q _ => ∃ (v : V) (c : Code) (k : Nat), vs = [v, .int (k : Nat)] ∧ RC H v c ∧ CRt (d + 1) c k ∧ ∀ H', Fr No H H' → Q (.bl true) H'
def spRrt (d : Nat) : Sp := fun vs H Q _ => ∃ (u cv : V) (i : Ins) (p l : Nat) (is : List Ins) (k at_ : Nat), vs = [u, cv, .int (k : Nat), .int (at_ : Nat)] ∧ RI H u i ∧ RC H cv (.mk p l is) ∧ RowS l k i ∧ (∀ r ∈ lds at_ i, at_ < r ∧ r < is.length) ∧ (∀ c ss, i = .fn c ss → CRt d c ss.length) ∧ ∀ H', Fr No H H' → Q (.bl true) H'
section
variable {P : Program} {w : World} {K : PySem.W.Frag} {mg : Str → Option Value} {base : Heap}
theorem scRrt : FnScope NRrt ["row", "code", "kept", "at"] (defScope sRrt) := ⟨rfl, rfl, rfl, by decide +kernel, rfl, by decide +kernel, by decide +kernel⟩
theorem ok_rsr {f fR fC : Addr} {fd dR dC : FuncData} {sR sC : Sp} (F : Fun K "_law_row_right" "_law_row_right" sRrt f fd) (B : Blt mg) (GR : Cal P w K mg base CX0 0 "_law_row_right" ["row", "code", "kept", "at"] sR fR dR) (GC : Cal P w K mg base CX0 0 "_law_code_right" ["code", "kept"] sC fC dC) : FnOk P w K mg base CX0 1 f fd ["row", "code", "kept", "at"] spRsr := by
  refine F.ok scRrt (fun vs H Q E h => ?_) (fun cdv A outer s H vs Q E hr h => ?_)
  · obtain ⟨u, cv, s, p, l, is, k, at_, rfl, _⟩ := h
    rfl
  obtain ⟨u, cv, s, p, l, is, k, at_, rfl, rs, rc, hs, q⟩ := h
  have nd := scRrt.nd
  refine ⟨_, (pss_cons (ps_set (i := 4) nd rfl (Or.inl rfl) (pe_ix (r := rIxT K) ix_tup (pv 0) pe_int (fun _ _ => rfl)))
    (pss_cons (ps_if (pt_cmpR op_in_seq (pv 4) (pe_lst (pa_cons pe_str (pa_cons pe_str pa_nil))) (by rfl)) (pss_one (ps_ret (pe_chain op_lt op_lt (pv 3) (pe_ix (r := rIxT K) ix_tup (pv 0) pe_int (fun _ _ => rfl)) (pe_callB call_len_seq (by rfl) B.len PySem.boot_len (pa_cons (pe_ix (r := rIxT K) ix_tup (pv 1) pe_int (fun _ _ => rfl)) pa_nil))))) pss_nil)
    (pss_cons (ps_if (pt_cmpR op_in_seq (pv 4) (pe_lst (pa_cons pe_str (pa_cons pe_str pa_nil))) (by rfl)) (pss_one (ps_ret (pe_chain op_le op_lt pe_int (pe_ix (r := rIxT K) ix_tup (pv 0) pe_int (fun _ _ => rfl)) (pe_ix (r := rIxT K) ix_tup (pv 1) pe_int (fun _ _ => rfl))))) pss_nil)
    (pss_cons (ps_if (pt_cmpR op_eq (pv 4) pe_str (nomark _)) (pss_one (ps_ret (pe_chain op_le op_lt pe_int (pe_ix (r := rIxT K) ix_tup (pv 0) pe_int (fun _ _ => rfl)) (pv 2)))) pss_nil)
    (pss_cons (ps_if (pt_cmpR op_eq (pv 4) pe_str (nomark _)) (pss_cons (ps_for PassesOwn.never rfl (pi_tup (pe_ix (r := rIxT K) ix_tup (pv 0) pe_int (fun _ _ => rfl))) (pg_name (i := 5) nd rfl (Or.inl rfl))
        (pss_one (ps_if (PW.pt (pw_or (pt_cmpR op_notIn_seq (pe_ix (r := rIxT K) ix_tup (pv 5) pe_int (fun _ _ => rfl)) (pe_lst (pa_cons pe_str (pa_cons pe_str pa_nil))) (by rfl)) (pw_or1 (pt_not (pt_val (pe_call GR.ok hr rfl GR.g GR.k GR.b .nil pass0 (pa_cons (pv 5) (pa_cons (pv 1) (pa_cons (pv 2) (pa_cons (pv 3) pa_nil)))))))))) (pss_one (ps_ret pe_bl)) pss_nil)))
      (pss_one (ps_ret (pe_call GC.ok hr rfl GC.g GC.k GC.b .nil pass0 (pa_cons (pe_ix (r := rIxT K) ix_tup (pv 0) pe_int (fun _ _ => rfl)) (pa_cons (pe_callB call_len_seq (by rfl) B.len PySem.boot_len (pa_cons (pe_ix (r := rIxT K) ix_tup (pv 0) pe_int (fun _ _ => rfl)) pa_nil)) pa_nil)))))) pss_nil)
    (pss_one (ps_ret (pe_cmpR op_in_seq (pv 4) (pe_lst (pa_cons pe_str (pa_cons pe_str (pa_cons pe_str (pa_cons pe_str (pa_cons pe_str (pa_cons pe_str pa_nil))))))) (by rfl))))))))), ?_⟩
  obtain ⟨a, rfl, ha⟩ := rs
  cases rc with
  | @mk ca qa _ _ vs _ h hq rsi =>
  cases s with
  | place n =>
    have ha : H a = some (.tup [.str "place", .int (n : Nat)]) := ha
    have hs : n < l := hs
    refine ⟨_, rfl, a, _, 0, _, rfl, rfl, SqT.of ha, at0 _ _, ?_⟩
    refine ev_in (K := K) (x := "place") (ws := ["jump", "unless"]) (b := false) rfl (by decide) (by decide +kernel) fun H1 f1 => iteF ?_
    refine ev_in (K := K) (x := "place") (ws := ["place", "put"]) (b := true) rfl (by decide) (by decide +kernel) fun H2 f2 => iteT ?_
    have f12 := f1.trans f2
    refine ⟨_, rfl, a, _, 1, _, rfl, rfl, SqT.of (f12.tup _ _ ha), at1 _ _ _, _, _, rfl, rfl, _, rfl, ?_⟩
    rw [decide_eq_true (show (0 : Int) ≤ (n : Nat) by omega)]
    refine iteT ⟨_, rfl, ca, _, 2, _, rfl, rfl, SqT.of (f12.tup _ _ h), atI_nat (j := 2) rfl, _, _, rfl, rfl, ?_⟩
    show Q (V.bl (decide (((n : Nat) : Int) < ((l : Nat) : Int)))) _
    rw [decide_eq_true (show ((n : Nat) : Int) < ((l : Nat) : Int) by omega)]
    exact q _ f12
  | kept n =>
    have ha : H a = some (.tup [.str "kept", .int (n : Nat)]) := ha
    have hs : n < k := hs
    refine ⟨_, rfl, a, _, 0, _, rfl, rfl, SqT.of ha, at0 _ _, ?_⟩
    refine ev_in (K := K) (x := "kept") (ws := ["jump", "unless"]) (b := false) rfl (by decide) (by decide +kernel) fun H1 f1 => iteF ?_
    refine ev_in (K := K) (x := "kept") (ws := ["place", "put"]) (b := false) rfl (by decide) (by decide +kernel) fun H2 f2 => iteF ?_
    have f12 := f1.trans f2
    refine ev_eqs (x := "kept") rfl ?_
    rw [decide_eq_true rfl]
    refine iteT ⟨_, rfl, a, _, 1, _, rfl, rfl, SqT.of (f12.tup _ _ ha), at1 _ _ _, _, _, rfl, rfl, _, rfl, ?_⟩
    rw [decide_eq_true (show (0 : Int) ≤ (n : Nat) by omega)]
    refine iteT ⟨_, rfl, _, _, rfl, rfl, ?_⟩
    show Q (V.bl (decide (((n : Nat) : Int) < ((k : Nat) : Int)))) _
    rw [decide_eq_true (show ((n : Nat) : Int) < ((k : Nat) : Int) by omega)]
    exact q _ f12
theorem ok_rrt {f fR fC : Addr} {fd dR dC : FuncData} {d kk : Nat} {sC : Sp} (hC : ∀ vs H Q E, d ≠ 0 → spCrt d vs H Q E → sC vs H Q E) (F : Fun K "_law_row_right" "_law_row_right" sRrt f fd) (B : Blt mg) (GR : Cal P w K mg base CX0 1 "_law_row_right" ["row", "code", "kept", "at"] spRsr fR dR) (hk : 1 ≤ kk) (GC : Cal P w K mg base CX0 kk "_law_code_right" ["code", "kept"] sC fC dC) : FnOk P w K mg base CX0 (kk + 1) f fd ["row", "code", "kept", "at"] (spRrt d) := by
  refine F.ok scRrt (fun vs H Q E h => ?_) (fun cdv A outer s H vs Q E hr h => ?_)
  · obtain ⟨u, cv, i, p, l, is, k, at_, rfl, _⟩ := h
    rfl
  obtain ⟨u, cv, i, p, l, is, k, at_, rfl, ri, rc, hs, hl, hc, q⟩ := h
  have nd := scRrt.nd
  have r1 : Room 1 _ := hr.mono hk
  refine ⟨_, (pss_cons (ps_set (i := 4) nd rfl (Or.inl rfl) (pe_ix (r := rIxT K) ix_tup (pv 0) pe_int (fun _ _ => rfl)))
    (pss_cons (ps_if (pt_cmpR op_in_seq (pv 4) (pe_lst (pa_cons pe_str (pa_cons pe_str pa_nil))) (by rfl)) (pss_one (ps_ret (pe_chain op_lt op_lt (pv 3) (pe_ix (r := rIxT K) ix_tup (pv 0) pe_int (fun _ _ => rfl)) (pe_callB call_len_seq (by rfl) B.len PySem.boot_len (pa_cons (pe_ix (r := rIxT K) ix_tup (pv 1) pe_int (fun _ _ => rfl)) pa_nil))))) pss_nil)
    (pss_cons (ps_if (pt_cmpR op_in_seq (pv 4) (pe_lst (pa_cons pe_str (pa_cons pe_str pa_nil))) (by rfl)) (pss_one (ps_ret (pe_chain op_le op_lt pe_int (pe_ix (r := rIxT K) ix_tup (pv 0) pe_int (fun _ _ => rfl)) (pe_ix (r := rIxT K) ix_tup (pv 1) pe_int (fun _ _ => rfl))))) pss_nil)
    (pss_cons (ps_if (pt_cmpR op_eq (pv 4) pe_str (nomark _)) (pss_one (ps_ret (pe_chain op_le op_lt pe_int (pe_ix (r := rIxT K) ix_tup (pv 0) pe_int (fun _ _ => rfl)) (pv 2)))) pss_nil)
    (pss_cons (ps_if (pt_cmpR op_eq (pv 4) pe_str (nomark _)) (pss_cons (ps_for PassesOwn.never rfl (pi_tup (pe_ix (r := rIxT K) ix_tup (pv 0) pe_int (fun _ _ => rfl))) (pg_name (i := 5) nd rfl (Or.inl rfl))
        (pss_one (ps_if (PW.pt (pw_or (pt_cmpR op_notIn_seq (pe_ix (r := rIxT K) ix_tup (pv 5) pe_int (fun _ _ => rfl)) (pe_lst (pa_cons pe_str (pa_cons pe_str pa_nil))) (by rfl)) (pw_or1 (pt_not (pt_val (pe_call GR.ok r1 rfl GR.g GR.k GR.b .nil pass0 (pa_cons (pv 5) (pa_cons (pv 1) (pa_cons (pv 2) (pa_cons (pv 3) pa_nil)))))))))) (pss_one (ps_ret pe_bl)) pss_nil)))
      (pss_one (ps_ret (pe_call GC.ok hr rfl GC.g GC.k GC.b .nil pass0 (pa_cons (pe_ix (r := rIxT K) ix_tup (pv 0) pe_int (fun _ _ => rfl)) (pa_cons (pe_callB call_len_seq (by rfl) B.len PySem.boot_len (pa_cons (pe_ix (r := rIxT K) ix_tup (pv 0) pe_int (fun _ _ => rfl)) pa_nil)) pa_nil)))))) pss_nil)
    (pss_one (ps_ret (pe_cmpR op_in_seq (pv 4) (pe_lst (pa_cons pe_str (pa_cons pe_str (pa_cons pe_str (pa_cons pe_str (pa_cons pe_str (pa_cons pe_str pa_nil))))))) (by rfl))))))))), ?_⟩
  have rc0 := rc
  cases rc with
  | @mk ca qa _ _ vs _ h hq rsi =>
  have lis := rsi.leng
  obtain ⟨a, xs, rfl, ha, _⟩ := ri.hd
  refine ⟨_, rfl, a, _, 0, _, rfl, rfl, SqT.of ha, at0 _ _, ?_⟩
  cases i with
  | jump b =>
    cases ri with
    | jump hh =>
    refine ev_in (K := K) (x := "jump") (ws := ["jump", "unless"]) (b := true) rfl (by decide) (by decide +kernel) fun H1 f1 => iteT ?_
    obtain ⟨b1, b2⟩ := hl b List.mem_cons_self
    refine ⟨_, rfl, _, rfl, a, _, 1, _, rfl, rfl, SqT.of (f1.tup _ _ hh), at1 _ _ _, _, _, rfl, rfl, _, rfl, ?_⟩
    rw [decide_eq_true (show ((at_ : Nat) : Int) < ((b : Nat) : Int) by omega)]
    refine iteT ⟨_, rfl, ca, _, 3, _, rfl, rfl, SqT.of (f1.tup _ _ h), atI_nat (j := 3) rfl, qa, vs, rfl, .inr (SqT.of (f1.tup _ _ hq)), _, _, rfl, rfl, ?_⟩
    show Q (V.bl (decide (((b : Nat) : Int) < ((vs.length : Nat) : Int)))) _
    rw [decide_eq_true (show ((b : Nat) : Int) < ((vs.length : Nat) : Int) by omega)]
    exact q _ f1
  | «unless» b =>
    cases ri with
    | «unless» hh =>
    refine ev_in (K := K) (x := "unless") (ws := ["jump", "unless"]) (b := true) rfl (by decide) (by decide +kernel) fun H1 f1 => iteT ?_
    obtain ⟨b1, b2⟩ := hl b (List.mem_cons_of_mem _ List.mem_cons_self)
    refine ⟨_, rfl, _, rfl, a, _, 1, _, rfl, rfl, SqT.of (f1.tup _ _ hh), at1 _ _ _, _, _, rfl, rfl, _, rfl, ?_⟩
    rw [decide_eq_true (show ((at_ : Nat) : Int) < ((b : Nat) : Int) by omega)]
    refine iteT ⟨_, rfl, ca, _, 3, _, rfl, rfl, SqT.of (f1.tup _ _ h), atI_nat (j := 3) rfl, qa, vs, rfl, .inr (SqT.of (f1.tup _ _ hq)), _, _, rfl, rfl, ?_⟩
    show Q (V.bl (decide (((b : Nat) : Int) < ((vs.length : Nat) : Int)))) _
    rw [decide_eq_true (show ((b : Nat) : Int) < ((vs.length : Nat) : Int) by omega)]
    exact q _ f1
  | put n =>
    cases ri with
    | put hh =>
    have hs : n < l := hs
    refine ev_in (K := K) (x := "put") (ws := ["jump", "unless"]) (b := false) rfl (by decide) (by decide +kernel) fun H1 f1 => iteF ?_
    refine ev_in (K := K) (x := "put") (ws := ["place", "put"]) (b := true) rfl (by decide) (by decide +kernel) fun H2 f2 => iteT ?_
    have f12 := f1.trans f2
    refine ⟨_, rfl, a, _, 1, _, rfl, rfl, SqT.of (f12.tup _ _ hh), at1 _ _ _, _, _, rfl, rfl, _, rfl, ?_⟩
    rw [decide_eq_true (show (0 : Int) ≤ (n : Nat) by omega)]
    refine iteT ⟨_, rfl, ca, _, 2, _, rfl, rfl, SqT.of (f12.tup _ _ h), atI_nat (j := 2) rfl, _, _, rfl, rfl, ?_⟩
    show Q (V.bl (decide (((n : Nat) : Int) < ((l : Nat) : Int)))) _
    rw [decide_eq_true (show ((n : Nat) : Int) < ((l : Nat) : Int) by omega)]
    exact q _ f12
  | src s =>
    cases ri with
    | src hh =>
    cases s with
    | place n =>
      have hs : n < l := hs
      have hh : H a = some (.tup [.str "place", .int (n : Nat)]) := hh
      refine ev_in (K := K) (x := "place") (ws := ["jump", "unless"]) (b := false) rfl (by decide) (by decide +kernel) fun H1 f1 => iteF ?_
      refine ev_in (K := K) (x := "place") (ws := ["place", "put"]) (b := true) rfl (by decide) (by decide +kernel) fun H2 f2 => iteT ?_
      have f12 := f1.trans f2
      refine ⟨_, rfl, a, _, 1, _, rfl, rfl, SqT.of (f12.tup _ _ hh), at1 _ _ _, _, _, rfl, rfl, _, rfl, ?_⟩
      rw [decide_eq_true (show (0 : Int) ≤ (n : Nat) by omega)]
      refine iteT ⟨_, rfl, ca, _, 2, _, rfl, rfl, SqT.of (f12.tup _ _ h), atI_nat (j := 2) rfl, _, _, rfl, rfl, ?_⟩
      show Q (V.bl (decide (((n : Nat) : Int) < ((l : Nat) : Int)))) _
      rw [decide_eq_true (show ((n : Nat) : Int) < ((l : Nat) : Int) by omega)]
      exact q _ f12
    | kept n =>
      have hs : n < k := hs
      have hh : H a = some (.tup [.str "kept", .int (n : Nat)]) := hh
      refine ev_in (K := K) (x := "kept") (ws := ["jump", "unless"]) (b := false) rfl (by decide) (by decide +kernel) fun H1 f1 => iteF ?_
      refine ev_in (K := K) (x := "kept") (ws := ["place", "put"]) (b := false) rfl (by decide) (by decide +kernel) fun H2 f2 => iteF ?_
      have f12 := f1.trans f2
      refine ev_eqs (x := "kept") rfl ?_
      rw [decide_eq_true rfl]
      refine iteT ⟨_, rfl, a, _, 1, _, rfl, rfl, SqT.of (f12.tup _ _ hh), at1 _ _ _, _, _, rfl, rfl, _, rfl, ?_⟩
      rw [decide_eq_true (show (0 : Int) ≤ (n : Nat) by omega)]
      refine iteT ⟨_, rfl, _, _, rfl, rfl, ?_⟩
      show Q (V.bl (decide (((n : Nat) : Int) < ((k : Nat) : Int)))) _
      rw [decide_eq_true (show ((n : Nat) : Int) < ((k : Nat) : Int) by omega)]
      exact q _ f12
  | int n =>
    refine ev_in (K := K) (x := "int") (ws := ["jump", "unless"]) (b := false) rfl (by decide) (by decide +kernel) fun H1 f1 => iteF ?_
    refine ev_in (K := K) (x := "int") (ws := ["place", "put"]) (b := false) rfl (by decide) (by decide +kernel) fun H2 f2 => iteF ?_
    refine ev_eqs (x := "int") rfl ?_
    rw [decide_eq_false (show ¬ ("int" : Str) = "kept" by decide +kernel)]
    refine iteF ?_
    refine ev_eqs (x := "int") rfl ?_
    rw [decide_eq_false (show ¬ ("int" : Str) = "fn" by decide +kernel)]
    refine iteF ?_
    show tOp (rIn K false) (tVar 4) (tLst (tStrs ["int", "prim", "global", "call", "tail", "end"])) _ _ Q
    exact in_str (x := "int") (fun Q q => ⟨_, rfl, q⟩) (by decide) (by decide +kernel) fun H3 f3 => q _ (f1.trans (f2.trans f3))
  | prim n =>
    refine ev_in (K := K) (x := "prim") (ws := ["jump", "unless"]) (b := false) rfl (by decide) (by decide +kernel) fun H1 f1 => iteF ?_
    refine ev_in (K := K) (x := "prim") (ws := ["place", "put"]) (b := false) rfl (by decide) (by decide +kernel) fun H2 f2 => iteF ?_
    refine ev_eqs (x := "prim") rfl ?_
    rw [decide_eq_false (show ¬ ("prim" : Str) = "kept" by decide +kernel)]
    refine iteF ?_
    refine ev_eqs (x := "prim") rfl ?_
    rw [decide_eq_false (show ¬ ("prim" : Str) = "fn" by decide +kernel)]
    refine iteF ?_
    show tOp (rIn K false) (tVar 4) (tLst (tStrs ["int", "prim", "global", "call", "tail", "end"])) _ _ Q
    exact in_str (x := "prim") (fun Q q => ⟨_, rfl, q⟩) (by decide) (by decide +kernel) fun H3 f3 => q _ (f1.trans (f2.trans f3))
  | glob m n =>
    refine ev_in (K := K) (x := "global") (ws := ["jump", "unless"]) (b := false) rfl (by decide) (by decide +kernel) fun H1 f1 => iteF ?_
    refine ev_in (K := K) (x := "global") (ws := ["place", "put"]) (b := false) rfl (by decide) (by decide +kernel) fun H2 f2 => iteF ?_
    refine ev_eqs (x := "global") rfl ?_
    rw [decide_eq_false (show ¬ ("global" : Str) = "kept" by decide +kernel)]
    refine iteF ?_
    refine ev_eqs (x := "global") rfl ?_
    rw [decide_eq_false (show ¬ ("global" : Str) = "fn" by decide +kernel)]
    refine iteF ?_
    show tOp (rIn K false) (tVar 4) (tLst (tStrs ["int", "prim", "global", "call", "tail", "end"])) _ _ Q
    exact in_str (x := "global") (fun Q q => ⟨_, rfl, q⟩) (by decide) (by decide +kernel) fun H3 f3 => q _ (f1.trans (f2.trans f3))
  | call n =>
    refine ev_in (K := K) (x := "call") (ws := ["jump", "unless"]) (b := false) rfl (by decide) (by decide +kernel) fun H1 f1 => iteF ?_
    refine ev_in (K := K) (x := "call") (ws := ["place", "put"]) (b := false) rfl (by decide) (by decide +kernel) fun H2 f2 => iteF ?_
    refine ev_eqs (x := "call") rfl ?_
    rw [decide_eq_false (show ¬ ("call" : Str) = "kept" by decide +kernel)]
    refine iteF ?_
    refine ev_eqs (x := "call") rfl ?_
    rw [decide_eq_false (show ¬ ("call" : Str) = "fn" by decide +kernel)]
    refine iteF ?_
    show tOp (rIn K false) (tVar 4) (tLst (tStrs ["int", "prim", "global", "call", "tail", "end"])) _ _ Q
    exact in_str (x := "call") (fun Q q => ⟨_, rfl, q⟩) (by decide) (by decide +kernel) fun H3 f3 => q _ (f1.trans (f2.trans f3))
  | tail n =>
    refine ev_in (K := K) (x := "tail") (ws := ["jump", "unless"]) (b := false) rfl (by decide) (by decide +kernel) fun H1 f1 => iteF ?_
    refine ev_in (K := K) (x := "tail") (ws := ["place", "put"]) (b := false) rfl (by decide) (by decide +kernel) fun H2 f2 => iteF ?_
    refine ev_eqs (x := "tail") rfl ?_
    rw [decide_eq_false (show ¬ ("tail" : Str) = "kept" by decide +kernel)]
    refine iteF ?_
    refine ev_eqs (x := "tail") rfl ?_
    rw [decide_eq_false (show ¬ ("tail" : Str) = "fn" by decide +kernel)]
    refine iteF ?_
    show tOp (rIn K false) (tVar 4) (tLst (tStrs ["int", "prim", "global", "call", "tail", "end"])) _ _ Q
    exact in_str (x := "tail") (fun Q q => ⟨_, rfl, q⟩) (by decide) (by decide +kernel) fun H3 f3 => q _ (f1.trans (f2.trans f3))
  | end_ =>
    refine ev_in (K := K) (x := "end") (ws := ["jump", "unless"]) (b := false) rfl (by decide) (by decide +kernel) fun H1 f1 => iteF ?_
    refine ev_in (K := K) (x := "end") (ws := ["place", "put"]) (b := false) rfl (by decide) (by decide +kernel) fun H2 f2 => iteF ?_
    refine ev_eqs (x := "end") rfl ?_
    rw [decide_eq_false (show ¬ ("end" : Str) = "kept" by decide +kernel)]
    refine iteF ?_
    refine ev_eqs (x := "end") rfl ?_
    rw [decide_eq_false (show ¬ ("end" : Str) = "fn" by decide +kernel)]
    refine iteF ?_
    show tOp (rIn K false) (tVar 4) (tLst (tStrs ["int", "prim", "global", "call", "tail", "end"])) _ _ Q
    exact in_str (x := "end") (fun Q q => ⟨_, rfl, q⟩) (by decide) (by decide +kernel) fun H3 f3 => q _ (f1.trans (f2.trans f3))
  | fn c ss =>
    cases ri with
    | @fn _ qb cv2 ws _ _ hh hqb r1c r2s =>
    refine ev_in (K := K) (x := "fn") (ws := ["jump", "unless"]) (b := false) rfl (by decide) (by decide +kernel) fun H1 f1 => iteF ?_
    refine ev_in (K := K) (x := "fn") (ws := ["place", "put"]) (b := false) rfl (by decide) (by decide +kernel) fun H2 f2 => iteF ?_
    have f12 := f1.trans f2
    refine ev_eqs (x := "fn") rfl ?_
    rw [decide_eq_false (show ¬ ("fn" : Str) = "kept" by decide +kernel)]
    refine iteF ?_
    refine ev_eqs (x := "fn") rfl ?_
    rw [decide_eq_true rfl]
    refine iteT ?_
    have csub := hc c ss rfl
    have lws := r2s.len
    refine ⟨_, rfl, a, _, 2, _, rfl, rfl, SqT.of (f12.tup _ _ hh), atI_nat (j := 2) rfl, qb, rfl, ⟨_, SqT.of (f12.tup _ _ hqb)⟩, for_tup (xs := ws) (fun j σ H' => ∃ (v5 : Option V), σ = [some (.ref a), some (.ref ca), some (.int (k : Nat)), some (.int (at_ : Nat)), some (.str "fn"), v5] ∧ Fr No H H')
      ⟨none, rfl, f12⟩ (fun i σ H' _ ⟨_, _, f⟩ => SqT.of (f.tup _ _ hqb)) ?_ ?_⟩
    · rintro j u σ H' hj ⟨v5, rfl, f⟩
      obtain ⟨s, e1, b, rfl, hb⟩ := r2s.at hj
      have hs1 : SrIn l k s := hs s (List.mem_of_getElem? e1)
      have hb' := f.tup _ _ hb
      obtain ⟨w0, x0, ew, hw⟩ : ∃ w0 x0, srcV s = [.str w0, x0] ∧ inV (.str w0) (List.map V.str ["place", "kept"]) = true := by
        cases s with
        | place n => exact ⟨_, _, rfl, by decide +kernel⟩
        | kept n => exact ⟨_, _, rfl, by decide +kernel⟩
      have hb2 := hb'
      rw [ew] at hb2
      refine ⟨_, rfl, b, _, 0, _, rfl, rfl, SqT.of hb2, at0 _ _, sl2, fun D hD => ⟨D, _, rfl, .inl (SqL.of upd_same), rfl, flat_map V.str (fun _ => rfl) ["place", "kept"], _, rfl, ?_⟩⟩
      have fD : Fr No H' (upd H' D (.lst [.str "place", .str "kept"])) := Fr.new hD
      show if (!inV (.str w0) (List.map V.str ["place", "kept"])) = true then _ else _
      rw [hw]
      refine iteF ⟨_, rfl, _, rfl, _, rfl, _, rfl, .ref b, .ref ca, s, p, l, is, k, at_, rfl, ⟨b, rfl, fD.tup _ _ hb'⟩, rc0.keep (f.trans fD).tup, hs1, fun H3 f3 => ?_⟩
      exact ⟨_, rfl, iteF ⟨_, rfl, f.trans (fD.trans f3)⟩⟩
    · rintro σ H' ⟨v5, rfl, f⟩
      refine ⟨_, rfl, a, _, 1, _, rfl, rfl, SqT.of (f.tup _ _ hh), at1 _ _ _, _, rfl, a, _, 2, _, rfl, rfl, SqT.of (f.tup _ _ hh), atI_nat (j := 2) rfl, qb, ws, rfl, .inr (SqT.of (f.tup _ _ hqb)), ?_⟩
      have d0 : d ≠ 0 := fun z => by subst z; cases csub
      refine hC _ _ _ _ d0 ?_
      obtain ⟨d, rfl⟩ : ∃ d', d = d' + 1 := ⟨d - 1, by omega⟩
      exact ⟨cv2, c, ss.length, by rw [lws]; rfl, r1c.keep f.tup, csub, fun H3 f3 => q _ (f.trans f3)⟩
end
end My
namespace My
open PySem PySem.Spec PyProof.Rows L2 TL
/-! ### _law_code_right -/
abbrev sCrt : Stmt := top 33
abbrev NCrt : List Str := ["code", "kept", "heights", "at", "row", "taken", "put", "after", "leads", "lead"]
/-- the heights that are known: those at S -/
structure HtR (hs : Nat → Nat) (S : Nat → Prop) (hv : List V) (n : Nat) : Prop where
  len : hv.length = n + 1
  yes : ∀ q, q ≤ n → S q → hv[q]? = some (.int (hs q : Nat))
  no : ∀ q, q ≤ n → ¬ S q → hv[q]? = some .non
theorem HtR.put {hs : Nat → Nat} {S S' : Nat → Prop} {hv : List V} {n r : Nat} (h : HtR hs S hv n) (hr : r ≤ n) (e : ∀ q, S' q ↔ S q ∨ q = r) : HtR hs S' (hv.set r (.int (hs r : Nat))) n := by
  have hl := h.len
  refine ⟨by rw [List.length_set]; exact hl, fun q hq s => ?_, fun q hq s => ?_⟩
  · by_cases c : r = q
    · subst c
      exact List.getElem?_set_self (by omega)
    · rw [List.getElem?_set_ne c]
      exact h.yes q hq (((e q).mp s).resolve_right fun z => c z.symm)
  · have c : r ≠ q := fun z => s ((e q).mpr (.inr z.symm))
    rw [List.getElem?_set_ne c]
    exact h.no q hq fun z => s ((e q).mpr (.inl z))
theorem HtR.to {hs : Nat → Nat} {S S' : Nat → Prop} {hv : List V} {n : Nat} (h : HtR hs S hv n) (e : ∀ q, S' q ↔ S q) : HtR hs S' hv n := ⟨h.len, fun q hq s => h.yes q hq ((e q).mp s), fun q hq s => h.no q hq fun z => s ((e q).mpr z)⟩
def Seen (is : List Ins) (i q : Nat) : Prop := q = 0 ∨ ∃ p ins, p < i ∧ is[p]? = some ins ∧ q ∈ lds p ins
theorem iteFq {b : Bool} {A B : Prop} (hb : b = false) (h : B) : if b = true then A else B := by subst hb; exact iteF h
theorem iteTq {b : Bool} {A B : Prop} (hb : b = true) (h : A) : if b = true then A else B := by subst hb; exact iteT h
theorem wI_jump {i : Ins} (h : wI i = "jump") : ∃ n, i = .jump n := by
  cases i with
  | src s =>
    cases s with
    | place n => exact absurd (show ("place" : Str) = "jump" from h) (by decide +kernel)
    | kept n => exact absurd (show ("kept" : Str) = "jump" from h) (by decide +kernel)
  | int n => exact absurd (show ("int" : Str) = "jump" from h) (by decide +kernel)
  | prim n => exact absurd (show ("prim" : Str) = "jump" from h) (by decide +kernel)
  | glob m n => exact absurd (show ("global" : Str) = "jump" from h) (by decide +kernel)
  | fn c ss => exact absurd (show ("fn" : Str) = "jump" from h) (by decide +kernel)
  | put n => exact absurd (show ("put" : Str) = "jump" from h) (by decide +kernel)
  | jump n => exact ⟨n, rfl⟩
  | «unless» n => exact absurd (show ("unless" : Str) = "jump" from h) (by decide +kernel)
  | call n => exact absurd (show ("call" : Str) = "jump" from h) (by decide +kernel)
  | tail n => exact absurd (show ("tail" : Str) = "jump" from h) (by decide +kernel)
  | end_ => exact absurd (show ("end" : Str) = "jump" from h) (by decide +kernel)
theorem wI_unless {i : Ins} (h : wI i = "unless") : ∃ n, i = .unless n := by
  cases i with
  | src s =>
    cases s with
    | place n => exact absurd (show ("place" : Str) = "unless" from h) (by decide +kernel)
    | kept n => exact absurd (show ("kept" : Str) = "unless" from h) (by decide +kernel)
  | int n => exact absurd (show ("int" : Str) = "unless" from h) (by decide +kernel)
  | prim n => exact absurd (show ("prim" : Str) = "unless" from h) (by decide +kernel)
  | glob m n => exact absurd (show ("global" : Str) = "unless" from h) (by decide +kernel)
  | fn c ss => exact absurd (show ("fn" : Str) = "unless" from h) (by decide +kernel)
  | put n => exact absurd (show ("put" : Str) = "unless" from h) (by decide +kernel)
  | jump n => exact absurd (show ("jump" : Str) = "unless" from h) (by decide +kernel)
  | «unless» n => exact ⟨n, rfl⟩
  | call n => exact absurd (show ("call" : Str) = "unless" from h) (by decide +kernel)
  | tail n => exact absurd (show ("tail" : Str) = "unless" from h) (by decide +kernel)
  | end_ => exact absurd (show ("end" : Str) = "unless" from h) (by decide +kernel)
theorem lds_te {i : Ins} {a : Nat} (h : inV (.str (wI i)) (List.map V.str ["tail", "end"]) = true) : lds a i = [] := by
  cases i with
  | src s =>
    cases s with
    | place n => exact absurd (show inV (.str "place") (List.map V.str ["tail", "end"]) = true from h) (by decide +kernel)
    | kept n => exact absurd (show inV (.str "kept") (List.map V.str ["tail", "end"]) = true from h) (by decide +kernel)
  | int n => exact absurd (show inV (.str "int") (List.map V.str ["tail", "end"]) = true from h) (by decide +kernel)
  | prim n => exact absurd (show inV (.str "prim") (List.map V.str ["tail", "end"]) = true from h) (by decide +kernel)
  | glob m n => exact absurd (show inV (.str "global") (List.map V.str ["tail", "end"]) = true from h) (by decide +kernel)
  | fn c ss => exact absurd (show inV (.str "fn") (List.map V.str ["tail", "end"]) = true from h) (by decide +kernel)
  | put n => exact absurd (show inV (.str "put") (List.map V.str ["tail", "end"]) = true from h) (by decide +kernel)
  | jump n => exact absurd (show inV (.str "jump") (List.map V.str ["tail", "end"]) = true from h) (by decide +kernel)
  | «unless» n => exact absurd (show inV (.str "unless") (List.map V.str ["tail", "end"]) = true from h) (by decide +kernel)
  | call n => exact absurd (show inV (.str "call") (List.map V.str ["tail", "end"]) = true from h) (by decide +kernel)
  | tail n => rfl
  | end_ => rfl
theorem lds_pl {i : Ins} {a : Nat} (h1 : wI i ≠ "jump") (h2 : wI i ≠ "unless") (h : inV (.str (wI i)) (List.map V.str ["tail", "end"]) = false) : lds a i = [a + 1] := by
  cases i with
  | src s =>
    cases s with
    | place n => rfl
    | kept n => rfl
  | int n => rfl
  | prim n => rfl
  | glob m n => rfl
  | fn c ss => rfl
  | put n => rfl
  | jump n => exact absurd rfl h1
  | «unless» n => exact absurd rfl h2
  | call n => rfl
  | tail n => exact absurd (show inV (.str "tail") (List.map V.str ["tail", "end"]) = false from h) (by decide +kernel)
  | end_ => exact absurd (show inV (.str "end") (List.map V.str ["tail", "end"]) = false from h) (by decide +kernel)
theorem dec_str {x y : Str} : decide (V.str x = V.str y) = decide (x = y) := decide_eq_decide.mpr ⟨fun z => V.str.inj z, fun z => by rw [z]⟩
section
variable {P : Program} {w : World} {K : PySem.W.Frag} {mg : Str → Option Value} {base : Heap}
theorem scCrt : FnScope NCrt ["code", "kept"] (defScope sCrt) := ⟨rfl, rfl, rfl, by decide +kernel, rfl, by decide +kernel, by decide +kernel⟩
theorem ok_crt {fR fC fT : Addr} {dR dC dT : FuncData} (FR : Fun K "_law_row_right" "_law_row_right" sRrt fR dR) (F : Fun K "_law_code_right" "_law_code_right" sCrt fC dC) (B : Blt mg)
    (gR : mg "_law_row_right" = some (.ref fR)) (kR : PySem.W.keepIn K (.ref fR) = true) (bR : Binds K dR ["row", "code", "kept", "at"] []) (gC : mg "_law_code_right" = some (.ref fC)) (kC : PySem.W.keepIn K (.ref fC) = true) (bC : Binds K dC ["code", "kept"] [])
    (GT : Cal P w K mg base CX0 1 "_law_taken" ["row"] spTkn fT dT) : ∀ d : Nat, FnOk P w K mg base CX0 (2 * d + 1) fC dC ["code", "kept"] (spCrt d)
  | 0 => fn_none
  | d + 1 => by
    have IH : Cal P w K mg base CX0 (2 * d + 1) "_law_code_right" ["code", "kept"] (spCrt d) fC dC := ⟨ok_crt FR F B gR kR bR gC kC bC GT d, kC, gC, bC⟩
    have R0 : Cal P w K mg base CX0 0 "_law_row_right" ["row", "code", "kept", "at"] (fun _ _ _ _ => False) fR dR := ⟨fn_none, kR, gR, bR⟩
    have C0 : Cal P w K mg base CX0 0 "_law_code_right" ["code", "kept"] (fun _ _ _ _ => False) fC dC := ⟨fn_none, kC, gC, bC⟩
    have RS : Cal P w K mg base CX0 1 "_law_row_right" ["row", "code", "kept", "at"] spRsr fR dR := ⟨ok_rsr FR B R0 C0, kR, gR, bR⟩
    have RR : Cal P w K mg base CX0 (2 * d + 2) "_law_row_right" ["row", "code", "kept", "at"] (spRrt d) fR dR := ⟨ok_rrt (sC := spCrt d) (fun _ _ _ _ _ h => h) FR B RS (by omega) IH, kR, gR, bR⟩
    refine F.ok scCrt (fun vs H Q E h => ?_) (fun cdv A outer s H vs Q E hr h => ?_)
    · obtain ⟨v, c, k, rfl, _⟩ := h
      rfl
    obtain ⟨v, c, k, rfl, rc, crt, q⟩ := h
    have nd := scCrt.nd
    have r1 : Room 1 _ := hr.mono (show 1 ≤ 2 * d + 2 by omega)
    refine ⟨_, (pss_cons (ps_if (PW.pt (pw_or (pt_not (pt_val (pe_callB call_isi (by rfl) B.isinstance (by decide +kernel) (pa_cons (pv 0) (pa_cons (pe_bltn (v := .ty "tuple") (by rfl) B.tuple (by decide +kernel) rfl) pa_nil))))) (pw_or (pt_cmpR op_ne (pe_callB call_len_seq (by rfl) B.len PySem.boot_len (pa_cons (pv 0) pa_nil)) pe_int (nomark _)) (pw_or (pt_cmpR op_ne (pe_ix (r := rIxT K) ix_tup (pv 0) pe_int (fun _ _ => rfl)) pe_str (nomark _)) (pw_or1 (pt_cmpR op_lt (pe_ix (r := rIxT K) ix_tup (pv 0) pe_int (fun _ _ => rfl)) (pe_ix (r := rIxT K) ix_tup (pv 0) pe_int (fun _ _ => rfl)) (nomark _))))))) (pss_one (ps_ret pe_bl)) pss_nil)
    (pss_cons (ps_set (i := 2) nd rfl (Or.inl rfl) (pe_op op_rep (pe_lst (pa_cons pe_non pa_nil)) (pe_op op_add (pe_callB call_len_seq (by rfl) B.len PySem.boot_len (pa_cons (pe_ix (r := rIxT K) ix_tup (pv 0) pe_int (fun _ _ => rfl)) pa_nil)) pe_int)))
    (pss_cons (ps_asg pe_int (pg_sub (pv 2) pe_int set_list))
    (pss_cons (ps_for PassesOwn.never rfl (pi_range1 (by rfl) B.range (pa_cons (pe_callB call_len_seq (by rfl) B.len PySem.boot_len (pa_cons (pe_ix (r := rIxT K) ix_tup (pv 0) pe_int (fun _ _ => rfl)) pa_nil)) pa_nil)) (pg_name (i := 3) nd rfl (Or.inl rfl))
      (pss_cons (ps_set (i := 4) nd rfl (Or.inl rfl) (pe_ix (r := rIxT K) ix_tup (pe_ix (r := rIxT K) ix_tup (pv 0) pe_int (fun _ _ => rfl)) (pv 3) (fun _ _ => rfl)))
      (pss_cons (ps_if (PW.pt (pw_or (pt_cmpR op_isN (pe_ix (r := rIxL K) ix_list (pv 2) (pv 3) (fun _ _ => rfl)) pe_non (nomark _)) (pw_or1 (pt_not (pt_val (pe_call RR.ok hr rfl RR.g RR.k RR.b .nil pass0 (pa_cons (pv 4) (pa_cons (pv 0) (pa_cons (pv 1) (pa_cons (pv 3) pa_nil)))))))))) (pss_one (ps_ret pe_bl)) pss_nil)
      (pss_cons (ps_asg (pe_call GT.ok r1 rfl GT.g GT.k GT.b .nil pass0 (pa_cons (pv 4) pa_nil)) (pg_tup rfl (pgs_cons (pg_name (i := 5) nd rfl (Or.inl rfl)) (pgs_cons (pg_name (i := 6) nd rfl (Or.inl rfl)) pgs_nil))))
      (pss_cons (ps_if (pt_cmpR op_lt (pe_ix (r := rIxL K) ix_list (pv 2) (pv 3) (fun _ _ => rfl)) (pv 5) (nomark _)) (pss_one (ps_ret pe_bl)) pss_nil)
      (pss_cons (ps_set (i := 7) nd rfl (Or.inl rfl) (pe_op op_add (pe_op op_sub (pe_ix (r := rIxL K) ix_list (pv 2) (pv 3) (fun _ _ => rfl)) (pv 5)) (pv 6)))
      (pss_cons (ps_set (i := 8) nd rfl (Or.inl rfl) (pe_lst (pa_cons (pe_op op_add (pv 3) pe_int) pa_nil)))
      (C8.pss_cut (ps_if (pt_cmpR op_eq (pe_ix (r := rIxT K) ix_tup (pv 4) pe_int (fun _ _ => rfl)) pe_str (nomark _)) (pss_one (ps_set (i := 8) nd rfl (Or.inl rfl) (pe_lst (pa_cons (pe_ix (r := rIxT K) ix_tup (pv 4) pe_int (fun _ _ => rfl)) pa_nil)))) (pss_one (ps_if (pt_cmpR op_eq (pe_ix (r := rIxT K) ix_tup (pv 4) pe_int (fun _ _ => rfl)) pe_str (nomark _)) (pss_one (ps_set (i := 8) nd rfl (Or.inl rfl) (pe_lst (pa_cons (pe_op op_add (pv 3) pe_int) (pa_cons (pe_ix (r := rIxT K) ix_tup (pv 4) pe_int (fun _ _ => rfl)) pa_nil))))) (pss_one (ps_if (pt_cmpR op_in_seq (pe_ix (r := rIxT K) ix_tup (pv 4) pe_int (fun _ _ => rfl)) (pe_lst (pa_cons pe_str (pa_cons pe_str pa_nil))) (by rfl)) (pss_one (ps_set (i := 8) nd rfl (Or.inl rfl) (pe_lst pa_nil))) pss_nil)))))
      (pss_one (ps_for PassesOwn.never rfl (pi_list (pv 8)) (pg_name (i := 9) nd rfl (Or.inl rfl))
        (pss_cons (ps_if (PW.pt (pw_and (pt_cmpR op_notN (pe_ix (r := rIxL K) ix_list (pv 2) (pv 9) (fun _ _ => rfl)) pe_non (nomark _)) (pw_and1 (pt_cmpR op_ne (pe_ix (r := rIxL K) ix_list (pv 2) (pv 9) (fun _ _ => rfl)) (pv 7) (nomark _))))) (pss_one (ps_ret pe_bl)) pss_nil)
        (pss_one (ps_asg (pv 7) (pg_sub (pv 2) (pv 9) set_list))))))))))))))
    (pss_one (ps_ret (pe_cmpR op_isN (pe_ix (r := rIxL K) ix_list (pv 2) (pe_callB call_len_seq (by rfl) B.len PySem.boot_len (pa_cons (pe_ix (r := rIxT K) ix_tup (pv 0) pe_int (fun _ _ => rfl)) pa_nil)) (fun _ _ => rfl)) pe_non (nomark _)))))))), ?_⟩
    have rc0 := rc
    cases crt with
    | @mk _ p l _ is k' hs hp hl hm sg sub =>
    cases rc with
    | @mk a qa _ _ vs _ h hq rs =>
    have lvs := rs.leng
    have m6 : many = 1000000 := rfl
    refine ⟨_, rfl, _, _, _, _, true, rfl, .ty "tuple", .base (.tup h), kit_ty (show kitB "tuple" "tuple" = some true by decide +kernel), _, rfl, iteF ?_⟩
    refine ⟨_, rfl, a, _, rfl, .inr (SqT.of h), rfl, _, rfl, iteFq (show (!decide (V.int (4 : Nat) = V.int 4)) = false by rw [decide_eq_true (show V.int (4 : Nat) = V.int 4 from rfl)]; rfl) ?_⟩
    refine ⟨_, rfl, a, _, 0, _, rfl, rfl, SqT.of h, at0 _ _, rfl, _, rfl, iteFq (by rw [decide_eq_true rfl]; rfl) ?_⟩
    refine ⟨_, rfl, a, _, 2, _, rfl, rfl, SqT.of h, atI_nat (j := 2) rfl, _, rfl, a, _, 1, _, rfl, rfl, SqT.of h, at1 _ _ _, _, _, rfl, rfl, _, rfl, iteFq (decide_eq_false (by omega)) ?_⟩
    -- the heights
    refine ⟨sl1, fun L1 hL1 => ?_⟩
    have f1 : Fr No H (upd H L1 (.lst [.non])) := Fr.new hL1
    refine ⟨_, rfl, a, _, 3, _, rfl, rfl, SqT.of (f1.tup _ _ h), atI_nat (j := 3) rfl, qa, vs, rfl, .inr (SqT.of (f1.tup _ _ hq)), _, _, rfl, rfl, L1, _, [.non], rfl, rfl, upd_same, by omega, by omega, ?_, fun D hD => ?_⟩
    · show 1 * ((vs.length : Int) + 1).toNat ≤ sizeLine
      exact Nat.le_trans (show _ ≤ 1000001 by omega) (by decide)
    have er : (List.replicate (((vs.length : Nat) : Int) + 1).toNat [V.non]).flatten = List.replicate (is.length + 1) V.non := by
      rw [show (((vs.length : Nat) : Int) + 1).toNat = is.length + 1 by omega]
      exact List.flatten_replicate_singleton
    rw [er]
    have hD0 : H D = none := f1.dom hD
    have f2 : Fr No _ (upd (upd H L1 (.lst [.non])) D (.lst (List.replicate (is.length + 1) .non))) := Fr.new hD
    have hD2 : upd (upd H L1 (.lst [.non])) D (.lst (List.replicate (is.length + 1) .non)) D = some (.lst (List.replicate (is.length + 1) .non)) := upd_same
    have f02 := f1.trans f2
    generalize upd (upd H L1 (.lst [.non])) D (.lst (List.replicate (is.length + 1) .non)) = H2 at f02 hD2 ⊢
    clear f1 f2 hD hL1
    refine ⟨_, rfl, D, _, 0, 0, rfl, rfl, hD2, ?_, ?_⟩
    · rw [List.length_replicate]
      exact ixN_nat (i := 0) (by omega)
    dsimp only
    have f3 : Fr (fun b => b = D) H2 (upd H2 D (.lst ((List.replicate (is.length + 1) V.non).set 0 (.int 0)))) := Fr.set rfl hD2 rfl
    have f03 : Fr No H (upd H2 D (.lst ((List.replicate (is.length + 1) V.non).set 0 (.int 0)))) := f02.mut hD0 hD2 rfl
    have hD3 : upd H2 D (.lst ((List.replicate (is.length + 1) V.non).set 0 (.int 0))) D = some (.lst ((List.replicate (is.length + 1) V.non).set 0 (.int 0))) := upd_same
    have ht0 : HtR hs (Seen is 0) ((List.replicate (is.length + 1) V.non).set 0 (.int 0)) is.length := by
      have a0 : HtR hs (fun _ => False) (List.replicate (is.length + 1) V.non) is.length := ⟨by rw [List.length_replicate], fun q _ z => z.elim, fun q hq _ => by rw [List.getElem?_replicate, if_pos (by omega)]⟩
      have := a0.put (S' := Seen is 0) (r := 0) (Nat.zero_le _) fun q => ⟨fun z => by
        rcases z with z | ⟨p, _, z, _⟩
        · exact .inr z
        · omega, fun z => .inl (z.resolve_left fun w => w)⟩
      rw [sg.s] at this
      exact this
    generalize hhv : (List.replicate (is.length + 1) V.non).set 0 (.int 0) = hv0 at f03 hD3 ht0 ⊢
    generalize upd H2 D (.lst hv0) = H3 at f03 hD3 ⊢
    refine ⟨_, rfl, a, _, 3, _, rfl, rfl, SqT.of (f03.tup _ _ h), atI_nat (j := 3) rfl, qa, vs, rfl, .inr (SqT.of (f03.tup _ _ hq)), vs.length, rfl, by omega, by omega, for_range (n := vs.length) (fun i σ H' => ∃ (v3 v4 v5 v6 v7 v8 v9 : Option V) (hv : List V), σ = [some (.ref a), some (.int (k : Nat)), some (.ref D), v3, v4, v5, v6, v7, v8, v9] ∧ H' D = some (.lst hv) ∧ HtR hs (Seen is i) hv is.length ∧ Fr No H H')
      ⟨none, none, none, none, none, none, none, hv0, rfl, hD3, ht0, f03⟩ ?_ ?_⟩
    · rintro i σ H' hi ⟨v3, v4, v5, v6, v7, v8, v9, hv, rfl, hD', ht, f⟩
      have li : i < is.length := by omega
      have ez : ((0 : Int) + (i : Nat)) = ((i : Nat) : Int) := Int.zero_add _
      rw [ez]
      obtain ⟨u, hu⟩ : ∃ u, vs[i]? = some u := ⟨_, List.getElem?_eq_getElem hi⟩
      obtain ⟨ins, e1, e2⟩ := rs.at hu
      obtain ⟨w1, w2, w3⟩ := sg.row i ins (Nat.zero_le _) li e1
      have si : Seen is i i := by
        by_cases z : i = 0
        · exact .inl z
        · obtain ⟨p, ip, p1, p2, p3, p4⟩ := sg.reach i (by omega) (by omega) (fun w => by omega)
          exact .inr ⟨p, ip, p2, p3, p4⟩
      have hat := ht.yes i (by omega) si
      have lhv := ht.len
      have e2' := e2.keep f.tup
      refine ⟨_, rfl, a, _, 3, _, rfl, rfl, SqT.of (f.tup _ _ h), atI_nat (j := 3) rfl, _, rfl, qa, vs, _, u, rfl, rfl, SqT.of (f.tup _ _ hq), atI_nat (j := i) hu, ?_⟩
      refine ⟨_, rfl, _, rfl, D, hv, _, _, rfl, rfl, SqL.of hD', atI_nat (j := i) hat, rfl, _, rfl, iteFq (decide_eq_false (by simp)) ?_⟩
      refine ⟨_, rfl, _, rfl, _, rfl, _, rfl, u, .ref a, ins, p, l, is, k, i, rfl, e2', rc0.keep f.tup, w1, fun r m => ?_, fun c ss z => sub i c ss (by rw [e1, z]), fun H4 f4 => ?_⟩
      · obtain ⟨x1, x2, x3, _⟩ := w3 r m
        refine ⟨x1, ?_⟩
        by_cases z : r = is.length
        · have := x3 z; cases this
        · omega
      refine ⟨_, rfl, iteF ?_⟩
      have hD4 := f4.keep (fun z => z) rfl hD'
      refine ⟨_, rfl, u, ins, rfl, e2'.keep f4.tup, fun T H5 f5 hT => ⟨T, _, rfl, SqT.of hT, rfl, _, _, rfl, _, _, rfl, rfl, ?_⟩⟩
      have hD5 := f5.keep (fun z => z) rfl hD4
      have e5 := e2'.keep (f4.trans f5).tup
      have f05 := f.trans (f4.trans f5)
      obtain ⟨b, xs, eu, hb, _⟩ := e5.hd
      subst eu
      refine ⟨_, rfl, _, rfl, D, hv, _, _, rfl, rfl, SqL.of hD5, atI_nat (j := i) hat, _, rfl, _, _, rfl, rfl, _, rfl, iteFq (decide_eq_false (by omega)) ?_⟩
      refine ⟨_, rfl, _, rfl, D, hv, _, _, rfl, rfl, SqL.of hD5, atI_nat (j := i) hat, _, rfl, _, _, rfl, rfl, _, rfl, _, _, rfl, rfl, ?_⟩
      obtain ⟨AV, eAV⟩ : ∃ AV : Int, ((hs i : Nat) : Int) - ((tkn ins).1 : Nat) + ((tkn ins).2 : Nat) = AV := ⟨_, rfl⟩
      show gName 7 (V.int (((hs i : Nat) : Int) - ((tkn ins).1 : Nat) + ((tkn ins).2 : Nat))) _ _ _
      rw [eAV]
      have av : ∀ r ∈ lds i ins, r ≤ is.length ∧ AV = ((hs r : Nat) : Int) := fun r m => by
        obtain ⟨_, x2, _, x4⟩ := w3 r m
        exact ⟨x2, by omega⟩
      refine ⟨_, rfl, _, _, rfl, rfl, sl1, fun L0 hL0 => ?_⟩
      have f6 : Fr No H5 (upd H5 L0 (.lst [.int ((i : Nat) + 1)])) := Fr.new hL0
      have hL06 : upd H5 L0 (.lst [.int ((i : Nat) + 1)]) L0 = some (.lst [.int ((i : Nat) + 1)]) := upd_same
      generalize upd H5 L0 (.lst [.int ((i : Nat) + 1)]) = H6 at f6 hL06 ⊢
      have hb6 := f6.tup _ _ hb
      have e6 := e5.keep f6.tup
      refine ⟨fun σ H' => ∃ L8, σ = [some (.ref a), some (.int (k : Nat)), some (.ref D), some (.int (i : Nat)), some (.ref b), some (.int ((tkn ins).1 : Nat)), some (.int ((tkn ins).2 : Nat)), some (.int AV), some (.ref L8), v9] ∧ H' L8 = some (.lst ((lds i ins).map fun r => V.int (r : Nat))) ∧ Fr No H5 H' ∧ H5 L8 = none, ?_, ?_⟩
      · refine ⟨_, rfl, b, _, 0, _, rfl, rfl, SqT.of hb6, at0 _ _, rfl, _, rfl, ?_⟩
        rw [dec_str]
        by_cases c1 : wI ins = "jump"
        · rw [decide_eq_true c1]
          refine iteT ?_
          obtain ⟨n, rfl⟩ := wI_jump c1
          cases e6 with
          | jump hj =>
          refine ⟨_, rfl, b, _, 1, _, rfl, rfl, SqT.of hj, at1 _ _ _, sl1, fun L8 hL8 => ⟨L8, rfl, upd_same, f6.trans (Fr.new hL8), f6.dom hL8⟩⟩
        rw [decide_eq_false c1]
        refine iteF ⟨_, rfl, b, _, 0, _, rfl, rfl, SqT.of hb6, at0 _ _, rfl, _, rfl, ?_⟩
        rw [dec_str]
        by_cases c2 : wI ins = "unless"
        · rw [decide_eq_true c2]
          refine iteT ?_
          obtain ⟨n, rfl⟩ := wI_unless c2
          cases e6 with
          | «unless» hj =>
          refine ⟨_, rfl, _, _, rfl, rfl, _, rfl, b, _, 1, _, rfl, rfl, SqT.of hj, at1 _ _ _, sl2, fun L8 hL8 => ⟨L8, rfl, upd_same, f6.trans (Fr.new hL8), f6.dom hL8⟩⟩
        rw [decide_eq_false c2]
        refine iteF ⟨_, rfl, b, _, 0, _, rfl, rfl, SqT.of hb6, at0 _ _, sl2, fun D0 hD0 => ⟨D0, _, rfl, .inl (SqL.of upd_same), rfl, flat_map V.str (fun _ => rfl) ["tail", "end"], _, rfl, ?_⟩⟩
        have f7 : Fr No H6 (upd H6 D0 (.lst [.str "tail", .str "end"])) := Fr.new hD0
        show if (inV (.str (wI ins)) (List.map V.str ["tail", "end"])) = true then _ else _
        cases c3 : inV (.str (wI ins)) (List.map V.str ["tail", "end"]) with
        | true =>
          refine iteT ⟨by show 0 ≤ sizeLine; decide, fun L8 hL8 => ⟨L8, rfl, ?_, f6.trans (f7.trans (Fr.new hL8)), (f6.trans f7).dom hL8⟩⟩
          rw [lds_te c3]
          exact upd_same
        | false =>
          refine iteF ⟨L0, rfl, ?_, f6.trans f7, hL0⟩
          rw [lds_pl c1 c2 c3]
          exact f7.keep (fun z => z) rfl hL06
      rintro σ H7 ⟨L8, rfl, g1, g2, g3⟩
      have hD7 := g2.keep (fun z => z) rfl hD5
      have nDL : L8 ≠ D := fun z => by rw [z, hD5] at g3; cases g3
      refine ⟨_, rfl, L8, rfl, ⟨_, SqL.of g1⟩, for_list (xs := (lds i ins).map fun r => V.int (r : Nat)) (fun j σ H' => ∃ (v9 : Option V) (hv' : List V), σ = [some (.ref a), some (.int (k : Nat)), some (.ref D), some (.int (i : Nat)), some (.ref b), some (.int ((tkn ins).1 : Nat)), some (.int ((tkn ins).2 : Nat)), some (.int AV), some (.ref L8), v9] ∧ H' D = some (.lst hv') ∧ HtR hs (fun q => Seen is i q ∨ q ∈ (lds i ins).take j) hv' is.length ∧ H' L8 = some (.lst ((lds i ins).map fun r => V.int (r : Nat))) ∧ Fr No H H')
        ⟨v9, hv, rfl, hD7, ht.to fun q => ⟨fun z => z.elim (fun z => z) (fun z => by rw [List.take_zero] at z; cases z), .inl⟩, g1, f05.trans g2⟩ (fun j σ H' _ ⟨_, _, _, _, _, z, _⟩ => SqL.of z) ?_ ?_⟩
      · rintro j x σ H8 hj ⟨v9, hv', rfl, q1, q2, q3, q4⟩
        rw [List.getElem?_map] at hj
        obtain ⟨r, hr1, rfl⟩ : ∃ r, (lds i ins)[j]? = some r ∧ x = V.int (r : Nat) := by
          cases hl0 : (lds i ins)[j]? with
          | none => rw [hl0] at hj; cases hj
          | some r => rw [hl0] at hj; exact ⟨r, rfl, (Option.some.inj hj).symm⟩
        obtain ⟨a1, a2⟩ := av r (List.mem_of_getElem? hr1)
        have lq := q2.len
        have nx : ∃ v9' hv2, ([some (.ref a), some (.int (k : Nat)), some (.ref D), some (.int (i : Nat)), some (.ref b), some (.int ((tkn ins).1 : Nat)), some (.int ((tkn ins).2 : Nat)), some (.int AV), some (.ref L8), some (.int (r : Nat))] : L2.St) = [some (.ref a), some (.int (k : Nat)), some (.ref D), some (.int (i : Nat)), some (.ref b), some (.int ((tkn ins).1 : Nat)), some (.int ((tkn ins).2 : Nat)), some (.int AV), some (.ref L8), v9'] ∧ upd H8 D (.lst (hv'.set r (.int AV))) D = some (.lst hv2) ∧ HtR hs (fun q => Seen is i q ∨ q ∈ (lds i ins).take (j + 1)) hv2 is.length ∧ upd H8 D (.lst (hv'.set r (.int AV))) L8 = some (.lst ((lds i ins).map fun r => V.int (r : Nat))) ∧ Fr No H (upd H8 D (.lst (hv'.set r (.int AV)))) := by
          refine ⟨_, _, rfl, upd_same, ?_, by rw [upd_ne nDL]; exact q3, q4.mut hD0 q1 rfl⟩
          rw [a2]
          refine q2.put a1 fun q => ?_
          rw [take_more hr1, List.mem_append, List.mem_singleton, or_assoc]
        by_cases c : Seen is i r ∨ r ∈ (lds i ins).take j
        · have yr := q2.yes r a1 c
          refine ⟨_, rfl, _, rfl, D, hv', _, _, rfl, rfl, SqL.of q1, atI_nat (j := r) yr, rfl, _, rfl, iteTq (by rw [decide_eq_false (by simp)]; rfl) ?_⟩
          refine ⟨_, rfl, _, rfl, D, hv', _, _, rfl, rfl, SqL.of q1, atI_nat (j := r) yr, _, rfl, rfl, _, rfl, iteFq (by rw [decide_eq_true (by rw [a2])]; rfl) ?_⟩
          exact ⟨_, rfl, _, rfl, _, rfl, D, hv', _, r, rfl, rfl, q1, ixN_nat (by omega), nx⟩
        · have nr := q2.no r a1 c
          refine ⟨_, rfl, _, rfl, D, hv', _, _, rfl, rfl, SqL.of q1, atI_nat (j := r) nr, rfl, _, rfl, iteFq (by rw [decide_eq_true rfl]; rfl) ?_⟩
          exact ⟨_, rfl, _, rfl, _, rfl, D, hv', _, r, rfl, rfl, q1, ixN_nat (by omega), nx⟩
      · rintro σ H8 ⟨v9, hv', rfl, q1, q2, q3, q4⟩
        refine ⟨_, _, _, _, _, _, _, hv', rfl, q1, q2.to fun q => ?_, q4⟩
        rw [List.length_map, List.take_length]
        constructor
        · rintro (z | ⟨p, ip, p1, p2, p3⟩)
          · exact .inl (.inl z)
          · by_cases e : p = i
            · subst e
              rw [e1] at p2
              cases p2
              exact .inr p3
            · exact .inl (.inr ⟨p, ip, by omega, p2, p3⟩)
        · rintro ((z | ⟨p, ip, p1, p2, p3⟩) | z)
          · exact .inl z
          · exact .inr ⟨p, ip, by omega, p2, p3⟩
          · exact .inr ⟨i, ins, by omega, e1, z⟩
    · rintro σ H' ⟨v3, v4, v5, v6, v7, v8, v9, hv, rfl, hD', ht, f⟩
      rw [lvs] at ht
      have ns : ¬ Seen is is.length is.length := fun z => by
        rcases z with z | ⟨p, ip, p1, p2, p3⟩
        · have := sg.ne rfl; omega
        · obtain ⟨_, _, x3, _⟩ := (sg.row p ip (Nat.zero_le _) p1 p2).2.2 _ p3
          have := x3 rfl
          cases this
      have hat := ht.no is.length (Nat.le_refl _) ns
      refine ⟨_, rfl, _, rfl, a, _, 3, _, rfl, rfl, SqT.of (f.tup _ _ h), atI_nat (j := 3) rfl, qa, vs, rfl, .inr (SqT.of (f.tup _ _ hq)), D, hv, _, V.non, rfl, rfl, SqL.of hD', atI_nat (j := vs.length) (by rw [lvs]; exact hat), rfl, ?_⟩
      rw [decide_eq_true rfl]
      exact q _ f
end
end My
namespace My
open PySem PySem.Spec PyProof.Rows L2 TL
/-! ### the law -/
abbrev sLaw : Stmt := top 34
abbrev NLw : List Str := ["script", "state", "definitions", "main", "core", "code", "due", "row", "part"]
def spLaw (K : PySem.W.Frag) : Sp := fun vs H Q _ => ∃ (a : Addr) (ns : List Int), vs = [.ref a] ∧ SqL K H a (ns.map V.int) ∧ ns.length ≤ 63 ∧ ∀ H', Q (.bl true) H'
def rLenS (K : PySem.W.Frag) : List V → Hp → VK → Prop := fun xs H Q => ∃ p ys, xs = [.ref p] ∧ (SqL K H p ys ∨ SqT K H p ys) ∧ Q (.int ys.length) H
theorem pe_lenSetK {K : PySem.W.Frag} {X : Cx} {a : Expr} {ta : TE} {p p2 q pos : Pos} (hK : X.K = K) (hg : L2.Gl X "len") (hm : X.mg "len" = none) (hg2 : L2.Gl X "set") (hm2 : X.mg "set" = none) (ha : PE X a ta) (hc : X.calm = true := by rfl)
    (na : starEach [a] X.env = (false, eval a X.env) :: starEach [] X.env := by rfl) : PE X (.Call (.Name "len" p) [.Call (.Name "set" p2) [a] [] q] [] pos) (tLenSet K ta) := by
  subst hK
  exact pe_lenSet hg hm hg2 hm2 ha hc na
/-! two lists of the same pairs, sorted -/
def iP (p : Nat × Nat) : Int × Int := ((p.1 : Int), (p.2 : Int))
def kyP (H : Hp) (v : V) : Int × Int := match v with
  | .ref a => match H a with
    | some (.tup [.int i, .int j]) => (i, j)
    | _ => (0, 0)
  | _ => (0, 0)
theorem kyP_of {H : Hp} {u : V} {p : Nat × Nat} (h : RPr H u p) : kyP H u = iP p := by
  obtain ⟨a, rfl, h⟩ := h
  unfold kyP
  dsimp only
  rw [h]
  rfl
theorem als_ky {H : Hp} {us : List V} {xs : List (Nat × Nat)} (h : Als (RPr H) us xs) : us.map (kyP H) = xs.map iP := by
  induction h with
  | nil => rfl
  | cons r _ ih => rw [List.map_cons, List.map_cons, kyP_of r, ih]
theorem als_ky2 {H : Hp} {us : List V} {xs : List (Nat × Nat)} (h : Als (RPr H) us xs) : ∀ v ∈ us, ∃ t, v = .ref t ∧ H t = some (.tup [.int (kyP H v).1, .int (kyP H v).2]) := by
  induction h with
  | nil => exact fun v m => by cases m
  | cons r _ ih =>
    intro v m
    rcases List.mem_cons.mp m with e | m
    · subst e
      have e := kyP_of r
      obtain ⟨a, rfl, h⟩ := r
      exact ⟨a, rfl, by rw [e]; exact h⟩
    · exact ih v m
theorem lexB_anti (a b : Int × Int) (h1 : SrtO.lexB a b = false) (h2 : SrtO.lexB b a = false) : a = b := by
  obtain ⟨a1, a2⟩ := a
  obtain ⟨b1, b2⟩ := b
  have e1 : ¬ (a1 < b1 ∨ (a1 = b1 ∧ a2 < b2)) := fun z => by rw [SrtO.lexB_iff.mpr z] at h1; cases h1
  have e2 : ¬ (b1 < a1 ∨ (b1 = a1 ∧ b2 < a2)) := fun z => by rw [SrtO.lexB_iff.mpr z] at h2; cases h2
  have e3 : a1 = b1 := by omega
  subst e3
  have e4 : a2 = b2 := by omega
  rw [e4]
theorem srt_same {k1 k2 : V → Int × Int} {ys1 xs1 ys2 xs2 : List V} (s1 : SrtO.Srtd (ltP k1) ys1) (p1 : ys1.Perm xs1) (s2 : SrtO.Srtd (ltP k2) ys2) (p2 : ys2.Perm xs2) (e : xs1.map k1 = xs2.map k2) : ys1.map k1 = ys2.map k2 := by
  refine List.Perm.eq_of_pairwise (le := fun a b => SrtO.lexB b a = false) (fun a b _ _ h1 h2 => lexB_anti a b h2 h1) (List.pairwise_map.mpr s1) (List.pairwise_map.mpr s2) ?_
  exact (p1.map k1).trans (by rw [e]; exact (p2.map k2).symm)
def pyP (p : Int × Int) : PyData := .tuple [.int p.1, .int p.2]
theorem dps_ky {K : PySem.W.Frag} {H : Hp} {k : V → Int × Int} : ∀ {us : List V}, (∀ v ∈ us, ∃ t, v = .ref t ∧ H t = some (.tup [.int (k v).1, .int (k v).2])) → DpAll K H us ((us.map k).map pyP)
  | [], _ => .nil
  | v :: us, h => by
    obtain ⟨t, e, ht⟩ := h v List.mem_cons_self
    refine .cons ?_ (dps_ky fun v m => h v (List.mem_cons_of_mem _ m))
    have : Dp K H (.ref t) (pyP (k v)) := .tup (SqT.of ht) (.cons (.int _) (.cons (.int _) .nil))
    rw [e] at this ⊢
    exact this
theorem shaped_ky (xs : List (Int × Int)) : SeqAt.shaped (.list (xs.map pyP)) = true := by
  have key : PyData.canLayAll0 (xs.map pyP) = true ∧ PyData.depthAll (xs.map pyP) ≤ 2 := by
    induction xs with
    | nil => exact ⟨by simp only [List.map_nil, PyData.canLayAll0], by simp only [List.map_nil, PyData.depthAll]; omega⟩
    | cons d ds ih =>
      obtain ⟨i1, i2⟩ := ih
      refine ⟨?_, ?_⟩
      · show PyData.canLayAll0 (PyData.tuple [.int d.1, .int d.2] :: ds.map pyP) = true
        simp only [PyData.canLayAll0, PyData.canLay0, i1, Bool.and_true]
      · show PyData.depthAll (PyData.tuple [.int d.1, .int d.2] :: ds.map pyP) ≤ 2
        simp only [PyData.depthAll, PyData.depth]
        omega
  unfold SeqAt.shaped
  rw [show PyData.canLay0 (.list (xs.map pyP)) = true by unfold PyData.canLay0; exact key.1]
  have := key.2
  rw [decide_eq_true (by unfold PyData.depth; omega)]
  rfl
/-! the functions of a drawn tree -/
theorem fnT_gd : ∀ (n : Nat) (t : Tr), depT t ≤ n → gdT t → ∀ p ∈ fnT t, gdT (.fn p.1 p.2) ∧ depT (.fn p.1 p.2) ≤ depT t
  | 0, t, h, _ => by have := depT_pos t; omega
  | n + 1, t, h, g => by
    by_cases c2 : word t = "fn"
    · obtain ⟨ns, b, rfl⟩ := word_fn c2
      intro p m
      have m : p ∈ (ns, b) :: fnT b := m
      rcases List.mem_cons.mp m with e | m
      · subst e
        exact ⟨g, Nat.le_refl _⟩
      · obtain ⟨_, _, _, g3⟩ : ns.length ≤ 5 ∧ (∀ n ∈ ns, nmOk n) ∧ wT b ≤ 2741 ∧ gdT b := g
        have e1 : depT (.fn ns b) = 1 + depT b := by rw [depT]
        obtain ⟨x1, x2⟩ := fnT_gd n b (by omega) g3 p m
        exact ⟨x1, by omega⟩
    · rw [fnT_pt c2]
      obtain ⟨p1, _, _⟩ := ptA_ok g
      have key : ∀ (ts : List Tr), (∀ u ∈ ts, gdT u ∧ depT u + 1 ≤ depT t ∧ wT u ≤ wT t) → ∀ p ∈ fnTs ts, gdT (.fn p.1 p.2) ∧ depT (.fn p.1 p.2) ≤ depT t := by
        intro ts
        induction ts with
        | nil => exact fun _ p m => by cases m
        | cons u r ih =>
          intro h0 p m
          have m : p ∈ fnT u ++ fnTs r := m
          rcases List.mem_append.mp m with m | m
          · obtain ⟨x1, x2, _⟩ := h0 u List.mem_cons_self
            obtain ⟨y1, y2⟩ := fnT_gd n u (by omega) x1 p m
            exact ⟨y1, by omega⟩
          · exact ih (fun u m => h0 u (List.mem_cons_of_mem _ m)) p m
      exact key _ p1
theorem RFn.tup {H : Hp} {u : V} {p : List Int × Tr} (h : RFn H u p) : ∃ a q x, u = .ref a ∧ H a = some (.tup [.str "fn", .ref q, x]) ∧ H q = some (.tup (p.1.map V.int)) ∧ RT H u (.fn p.1 p.2) := by
  have h0 := h
  cases h with
  | fn h hq r => exact ⟨_, _, _, rfl, h, hq, h0⟩
section
variable {P : Program} {w : World} {K : PySem.W.Frag} {mg : Str → Option Value} {base : Heap}
theorem scLaw : FnScope NLw ["script"] (defScope sLaw) := ⟨rfl, rfl, rfl, by decide +kernel, rfl, by decide +kernel, by decide +kernel⟩
theorem ok_law {f fS fG fO fC fN fF fD : Addr} {fd dS dG dO dC dN dF dD : FuncData} (F : Fun K "law" "law" sLaw f fd) (B : Blt mg) (BS : mg "sorted" = none) (BT : mg "set" = none) (GS : Cal P w K mg base CX0 1 "_law_state" ["script"] (spState K) fS dS) (GG : Cal P w K mg base CX0 24 "_law_program" ["state"] spPgm fG dG)
    (GO : Cal P w K mg base CX0 7 "compile_core" ["core"] spCc fO dO) (GC : Cal P w K mg base CX0 27 "_law_code_right" ["code", "kept"] (spCrt 13) fC dC) (GN : Cal P w K mg base CX0 13 "_law_functions" ["core"] (spLfn 13) fN dN)
    (GF : Cal P w K mg base CX0 13 "_law_free" ["core", "bound"] (spLfr 13) fF dF) (GD : Cal P w K mg base CX0 13 "_law_codes" ["code"] (spLcd 13) fD dD) : FnOk P w K mg base CX0 28 f fd ["script"] (spLaw K) := by
  refine F.ok scLaw (fun vs H Q E h => ?_) (fun cdv A outer s0 H vs Q E hr h => ?_)
  · obtain ⟨a, ns, rfl, _⟩ := h
    rfl
  obtain ⟨a, ns, rfl, hS, hn, q⟩ := h
  have nd := scLaw.nd
  have hu := hu_of hr
  have r1 : Room 1 _ := hr.mono (show 1 ≤ 27 by decide)
  have r7 : Room 7 _ := hr.mono (show 7 ≤ 27 by decide)
  have r13 : Room 13 _ := hr.mono (show 13 ≤ 27 by decide)
  have r24 : Room 24 _ := hr.mono (show 24 ≤ 27 by decide)
  refine ⟨_, (pss_cons (ps_set (i := 1) nd rfl (Or.inl rfl) (pe_call GS.ok r1 rfl GS.g GS.k GS.b .nil pass0 (pa_cons (pv 0) pa_nil)))
    (pss_cons (ps_asg (pe_call GG.ok r24 rfl GG.g GG.k GG.b .nil pass0 (pa_cons (pv 1) pa_nil)) (pg_tup rfl (pgs_cons (pg_name (i := 2) nd rfl (Or.inl rfl)) (pgs_cons (pg_name (i := 3) nd rfl (Or.inl rfl)) pgs_nil))))
    (pss_cons (ps_for PassesOwn.never rfl (pi_list (pe_op op_cat (pe_lc (own := [("row", 7)]) (g := gName 7) (tt := tYes) rfl nd (pi_list (pv 2)) (blkOk_by (N := NLw) (sc := defScope sLaw) (by decide +kernel)) (fun _ _ _ _ _ => (pg_name (i := 7) nd rfl (Or.inl rfl) (hf := Or.inr rfl))) (fun _ _ _ _ _ => pts_nil) (fun _ _ _ _ _ => (pe_ix (r := rIxT K) ix_tup (pv 7) pe_int (fun _ _ => rfl)))) (pe_lst (pa_cons (pv 3) pa_nil)))) (pg_name (i := 4) nd rfl (Or.inl rfl))
      (pss_cons (ps_set (i := 5) nd rfl (Or.inl rfl) (pe_call GO.ok r7 rfl GO.g GO.k GO.b .nil pass0 (pa_cons (pv 4) pa_nil)))
      (pss_cons (ps_if (PW.pt (pw_or (pt_not (pt_val (pe_call GC.ok hr rfl GC.g GC.k GC.b .nil pass0 (pa_cons (pv 5) (pa_cons pe_int pa_nil))))) (pw_or1 (pt_cmpR op_ne (pe_ix (r := rIxT K) ix_tup (pv 5) pe_int (fun _ _ => rfl)) pe_int (nomark _))))) (pss_one (ps_ret pe_bl)) pss_nil)
      (pss_cons (ps_set (i := 6) nd rfl (Or.inl rfl) (pe_callB cr_sortedPO (by rfl) BS (by decide +kernel) (pa_cons (pe_lc (own := [("part", 8)]) (g := gName 8) (tt := tYes) rfl nd (pi_list (pe_call GN.ok r13 rfl GN.g GN.k GN.b .nil pass0 (pa_cons (pv 4) pa_nil))) (blkOk_by (N := NLw) (sc := defScope sLaw) (by decide +kernel)) (fun _ _ _ _ _ => (pg_name (i := 8) nd rfl (Or.inl rfl) (hf := Or.inr rfl))) (fun _ _ _ _ _ => pts_nil) (fun _ _ _ _ _ => (pe_tup (pa_cons (pe_callB (r := rLenS K) call_len_seq (by rfl) B.len PySem.boot_len (pa_cons (pe_ix (r := rIxT K) ix_tup (pv 8) pe_int (fun _ _ => rfl)) pa_nil)) (pa_cons (pe_lenSetK (K := K) rfl (by rfl) B.len (by rfl) BT (pe_call GF.ok r13 rfl GF.g GF.k GF.b .nil pass0 (pa_cons (pv 8) (pa_cons (pe_lst pa_nil) pa_nil)))) pa_nil))))) pa_nil)))
      (pss_one (ps_if (pt_cmpR (op_neD hr.units) (pe_callB cr_sortedPO (by rfl) BS (by decide +kernel) (pa_cons (pe_call GD.ok r13 rfl GD.g GD.k GD.b .nil pass0 (pa_cons (pv 5) pa_nil)) pa_nil)) (pv 6) (nomark _)) (pss_one (ps_ret pe_bl)) pss_nil))))))
    (pss_one (ps_ret pe_bl))))), ?_⟩
  refine ⟨_, rfl, a, ns, rfl, hS, hn, fun S L H1 hS0 hL0 ls s1 => ?_⟩
  have f1 : Fr No H H1 := (Fr.of s1).no
  refine ⟨_, rfl, S, L, rfl, ls, fun R D us c ds t H2 l2 f2 hR hD hD0 al rt pg => ?_⟩
  refine ⟨R, _, rfl, SqT.of hR, rfl, _, _, rfl, _, _, rfl, rfl, ?_⟩
  refine ⟨_, rfl, D, rfl, ⟨_, SqL.of hD⟩, fun R0 hR0 => ?_⟩
  refine lc_list (xs := us) (fun i H' => ∃ cs, H' R0 = some (.lst cs) ∧ Als (fun u t => RT H' u t ∧ GT [] 98753 13 t) cs ((ds.map Prod.snd).take i) ∧ cs.length = i ∧ Fr No H2 H') ⟨[], upd_same, .nil, rfl, Fr.new hR0⟩ (fun i H' _ ⟨_, _, _, _, z⟩ => SqL.of (z.keep (fun z => z) rfl hD)) ?_ ?_
  · rintro j v H' hj ⟨cs, k1, k2, k3, k4⟩
    obtain ⟨d, hd, ⟨x, c2, rfl, h0, rc⟩⟩ := al.get hj
    obtain ⟨gd, _, _⟩ := pg.d d (List.mem_of_getElem? hd)
    have jl : j < us.length := (List.getElem?_eq_some_iff.mp hj).1
    have ll : us.length ≤ 4 := by rw [al.len]; exact pg.l
    have fm : Fr (fun b => b = R0) H' (upd H' R0 (.lst (cs ++ [c2]))) := Fr.set rfl k1 rfl
    refine ⟨rfl, _, rfl, x, _, 2, _, rfl, rfl, SqT.of (k4.tup _ _ h0), atI_nat (j := 2) rfl, cs, k1, Nat.lt_of_le_of_lt (show cs.length ≤ 4 by omega) (by decide), cs ++ [c2], upd_same, ?_, by simp [k3], k4.mut hR0 k1 rfl⟩
    have hd2 : (ds.map Prod.snd)[j]? = some d.2 := by rw [List.getElem?_map, hd]; rfl
    rw [take_more hd2]
    exact (k2.mono fun _ _ z => ⟨z.1.keep fm.tup, z.2⟩).app (.one ⟨rc.keep (k4.tup.trans fm.tup), gd⟩)
  rintro H3 ⟨cs, k1, k2, k3, k4⟩
  have eus : us.length = (ds.map Prod.snd).length := by rw [List.length_map]; exact al.len
  rw [eus, List.take_length] at k2
  have ll : us.length ≤ 4 := by rw [al.len]; exact pg.l
  refine ⟨_, rfl, sl1, fun L1 hL1 => ?_⟩
  have f4 : Fr No H3 (upd H3 L1 (.lst [c])) := Fr.new hL1
  refine ⟨R0, L1, _, _, rfl, rfl, f4.keep (fun z => z) rfl k1, upd_same, ?_, fun W hW => ?_⟩
  · show cs.length + 1 ≤ sizeLine
    exact Nat.le_trans (show cs.length + 1 ≤ 5 by omega) (by decide)
  have f5 : Fr No _ (upd (upd H3 L1 (.lst [c])) W (.lst (cs ++ [c]))) := Fr.new hW
  have al5 : Als (fun u t => RT (upd (upd H3 L1 (.lst [c])) W (.lst (cs ++ [c]))) u t ∧ GT [] 98753 13 t) (cs ++ [c]) (ds.map Prod.snd ++ [t]) := (k2.mono fun _ _ z => ⟨z.1.keep (f4.trans f5).tup, z.2⟩).app (.one ⟨rt.keep (k4.trans (f4.trans f5)).tup, pg.t⟩)
  have hW5 : upd (upd H3 L1 (.lst [c])) W (.lst (cs ++ [c])) W = some (.lst (cs ++ [c])) := upd_same
  generalize upd (upd H3 L1 (.lst [c])) W (.lst (cs ++ [c])) = H5 at al5 hW5 ⊢
  clear f4 f5
  refine ⟨W, rfl, ⟨_, SqL.of hW5⟩, for_list (xs := cs ++ [c]) (fun i σ H' => ∃ (v4 v5 v6 : Option V), σ = [some (.ref a), some (.ref S), some (.ref D), some c, v4, v5, v6, none, none] ∧ Fr No H5 H')
    ⟨none, none, none, by kernel_rfl, Fr.refl _ _⟩ (fun i σ H' _ ⟨_, _, _, _, z⟩ => SqL.of (z.keep (fun z => z) rfl hW5)) ?_ ?_⟩
  · rintro i u σ H6 hi ⟨v4, v5, v6, rfl, f6⟩
    obtain ⟨t, ht, rt0, gd⟩ := al5.get hi
    have rt := rt0.keep f6.tup
    obtain ⟨cc, hcomp, hof⟩ : ∃ cc, compF 100001 (wT t + 3) t = some cc ∧ CodeOf t cc := comp_ok (fun x hx => absurd (gd.f x hx) (by simp)) (Nat.le_trans gd.w (by decide)) (Nat.le_trans gd.d (by decide)) (by omega) (by omega)
    obtain ⟨crt, cpar, ccd⟩ := codeOf_W (D := 12) hof gd.g gd.d
    have gw := gd.w
    refine ⟨_, rfl, u, t, 100001, _, cc, rfl, rt, gd_wid gd.g, hcomp, fun uc H7 f7 rcode => ?_⟩
    refine ⟨_, rfl, uc, cc, 0, rfl, rcode, crt, fun H8 f8 => ⟨_, rfl, iteF ?_⟩⟩
    have rc8 := rcode.keep f8.tup
    have rt8 := rt.keep (f7.trans f8).tup
    obtain ⟨pc, lc, is⟩ := cc
    have cpar : pc = 0 := cpar
    subst cpar
    obtain ⟨ca, qa, cvs, rfl, hca⟩ : ∃ ca qa cvs, uc = .ref ca ∧ H8 ca = some (.tup [.str "code", .int (0 : Nat), .int (lc : Nat), .ref qa]) := by
      cases rc8 with
      | @mk a q _ _ vs _ h hq rs => exact ⟨a, q, vs, rfl, h⟩
    refine ⟨_, rfl, ca, _, 1, _, rfl, rfl, SqT.of hca, at1 _ _ _, rfl, _, rfl, iteFq (show (!decide (V.int (0 : Nat) = V.int 0)) = false by rw [decide_eq_true (show V.int (0 : Nat) = V.int 0 from rfl)]; rfl) ?_⟩
    -- what is due
    refine ⟨_, rfl, u, t, rfl, rt8, gd.d, gd.g, by omega, fun p2 us2 H9 f9 hp2 al2 => ⟨p2, rfl, ⟨_, SqL.of hp2⟩, fun R1 hR1 => ?_⟩⟩
    have lfn := fnT_len t
    refine lc_list (xs := us2) (fun i H' => ∃ ws, H' R1 = some (.lst ws) ∧ Als (RPr H') ws ((dueC (fnT t)).take i) ∧ ws.length = i ∧ Fr No H9 H') ⟨[], upd_same, .nil, rfl, Fr.new hR1⟩ (fun i H' _ ⟨_, _, _, _, z⟩ => SqL.of (z.keep (fun z => z) rfl hp2)) ?_ ?_
    · rintro j v H' hj ⟨ws, g1, g2, g3, g4⟩
      obtain ⟨⟨ns2, b2⟩, hf, rf⟩ := al2.get hj
      have jl : j < us2.length := (List.getElem?_eq_some_iff.mp hj).1
      have ll2 : us2.length ≤ 98753 := by rw [al2.len]; omega
      obtain ⟨fg, fd2⟩ := fnT_gd 13 t gd.d gd.g _ (List.mem_of_getElem? hf)
      have gdd := gd.d
      have fg0 : gdT (.fn ns2 b2) := fg
      have fd2 : depT (.fn ns2 b2) ≤ depT t := fd2
      obtain ⟨n5, _, wb, _⟩ : ns2.length ≤ 5 ∧ (∀ n ∈ ns2, nmOk n) ∧ wT b2 ≤ 2741 ∧ gdT b2 := fg
      obtain ⟨a3, q3, x3, rfl, h3, hq3, rt3⟩ := rf.tup
      have efw : wT (.fn ns2 b2) = 4 + ns2.length + wT b2 := by rw [wT]
      refine ⟨rfl, _, rfl, a3, _, 1, _, rfl, rfl, SqT.of (g4.tup _ _ h3), at1 _ _ _, q3, _, rfl, .inr (SqT.of (g4.tup _ _ hq3)), _, rfl, by show 0 ≤ sizeLine; decide, fun Bp hBp => ?_⟩
      have fb : Fr No H' (upd H' Bp (.lst [])) := Fr.new hBp
      refine ⟨.ref a3, .fn ns2 b2, Bp, [], rfl, rt3.keep (g4.trans fb).tup, upd_same, Nat.le_trans fd2 gdd, fg0, by decide, by omega, fun p3 H10 f10 hp3 => ⟨p3, _, rfl, SqL.of hp3, ?_, sl2, fun T hT => ?_⟩⟩
      · have := freeL_len (.fn ns2 b2) []
        omega
      have ft : Fr No H10 (upd H10 T (.tup [.int ((ns2.map V.int).length : Nat), .int ((fMet (freeL (.fn ns2 b2) [])).length : Nat)])) := Fr.new hT
      have f3 := fb.trans (f10.trans ft)
      have g1' := f3.keep (fun z => z) rfl g1
      have fm : Fr (fun b => b = R1) _ (upd _ R1 (.lst (ws ++ [V.ref T]))) := Fr.set rfl g1' rfl
      refine ⟨ws, g1', Nat.lt_of_le_of_lt (show ws.length ≤ 98753 by omega) (by decide), ws ++ [.ref T], upd_same, ?_, by simp [g3], (g4.trans f3).mut hR1 g1' rfl⟩
      have hd2 : (dueC (fnT t))[j]? = some (ns2.length, (outT (.fn ns2 b2)).length) := by
        unfold dueC
        rw [List.getElem?_map, hf]
        rfl
      rw [take_more hd2]
      refine (g2.mono fun _ _ z => z.keep (f3.tup.trans fm.tup)).app (.one ⟨T, rfl, fm.tup _ _ ?_⟩)
      rw [upd_same, List.length_map, due_len]
    rintro H10 ⟨ws, g1, g2, g3, g4⟩
    have ed : us2.length = (dueC (fnT t)).length := by unfold dueC; rw [List.length_map]; exact al2.len
    rw [ed, List.take_length] at g2
    have ky10 := als_ky2 g2
    refine ⟨R1, ws, kyP H10, rfl, SqL.of g1, ky10, fun ys p5 srt1 stb1 hp5 => ?_⟩
    have f11 : Fr No H10 (upd H10 p5 (.lst ys)) := Fr.new hp5
    have hp51 : upd H10 p5 (.lst ys) p5 = some (.lst ys) := upd_same
    have f811 := f9.trans (g4.trans f11)
    refine ⟨_, rfl, .ref ca, .mk 0 lc is, 0, rfl, rc8.keep f811.tup, crt, ?_, fun p6 us6 H12 f12 hp6 al6 => ⟨p6, us6, kyP H12, rfl, SqL.of hp6, als_ky2 al6, fun ys6 p7 srt6 stb6 hp7 => ?_⟩⟩
    · rw [ccd]
      unfold dueC
      rw [List.length_map]
      omega
    have f13 : Fr No H12 (upd H12 p7 (.lst ys6)) := Fr.new hp7
    have es : ys.map (kyP H10) = ys6.map (kyP H12) := srt_same srt1 stb1.perm srt6 stb6.perm (by rw [als_ky g2, als_ky al6, ccd])
    have sh : SeqAt.shaped (.list ((ys.map (kyP H10)).map pyP)) = true := shaped_ky _
    refine ⟨_, rfl, .list ((ys.map (kyP H10)).map pyP), .list ((ys.map (kyP H10)).map pyP), ?_, ?_, sh, sh, ?_⟩
    · rw [es]
      refine .lst (SqL.of upd_same) (dps_ky fun v m => ?_)
      obtain ⟨t6, e6, h6⟩ := als_ky2 al6 v (stb6.perm.mem_iff.mp m)
      exact ⟨t6, e6, f13.tup _ _ h6⟩
    · refine .lst (SqL.of ((f12.trans f13).keep (fun z => z) rfl hp51)) (dps_ky fun v m => ?_)
      obtain ⟨t6, e6, h6⟩ := ky10 v (stb1.perm.mem_iff.mp m)
      exact ⟨t6, e6, (f11.trans (f12.trans f13)).tup _ _ h6⟩
    rw [SeqAt.eqv_refl _ (SeqAt.canLay_of_shaped sh)]
    exact ⟨_, rfl, iteF ⟨_, _, _, rfl, f6.trans (f7.trans (f8.trans (f811.trans (f12.trans f13))))⟩⟩
  · rintro σ H6 ⟨v4, v5, v6, rfl, f6⟩
    exact q _
end
end My
namespace My
open PySem PySem.Spec PyProof.Rows L2 TL
section
open He
variable {K : PySem.W.Frag} {h : Heap} {mg : Str → Option Value} {w : World}
theorem fun_of {x q : Str} {st : Stmt} {f : Addr} {fd : FuncData} (F : FunD K x q (defArgs st) (defBody st) (defScope st) [] [] f fd) : Fun K x q st f fd := by
  obtain ⟨oc, od, dV, kV, doc, pm, an, cdv, ct, osl, e, lk, hcd, hD, hK⟩ := F.ex
  rcases hD with ⟨_, rfl⟩ | ⟨e, _⟩
  · exact ⟨⟨oc, od, kV, doc, pm, an, cdv, ct, osl, e, lk, hcd⟩, F.kp⟩
  · exact absurd rfl e
theorem func_of {x : Str} {st : Stmt} {fd : FuncData} (F : Fun K x x st (ga K x) fd) : FunC K x st (ga K x) fd (codeOf K (x, none)) := by
  obtain ⟨oc, od, kV, doc, pm, an, cdv, ct, osl, e, lk, hcd⟩ := F.ex
  obtain ⟨c, ec⟩ := codeIn_ref hcd
  subst ec
  subst e
  have e2 : codeOf K (x, none) = c := codeOf_eq (p := (x, none)) lk rfl
  rw [e2]
  exact ⟨⟨oc, od, kV, doc, pm, an, ct, osl, rfl, lk, hcd⟩, F.kp⟩
theorem excB_ok {C : Addr} (q : excB K C = true) : ∃ nm q N bs bm sn sub ab col dd k0 k1 k2 k3 k5, K.lookup C = some (excClassObj nm q C N bs bm true sn sub ab col dd k0 k1 k2 k3 k5 "ValueError.__new__") ∧ PySem.HandSPX.refsVE bm = true := by
  unfold excB at q
  split at q
  · rename_i dd cd sl ho
    split at q
    · rename_i C' bm k0 k1 k2 k3 n k5 hm hs
      simp only [Bool.and_eq_true, beq_iff_eq, Bool.not_eq_true'] at q
      obtain ⟨e1, e2, hdel, hd, hr⟩ := q
      obtain ⟨nm, bs, mro, ns, qn, hdct, sn, sub, ab, col, del⟩ := cd
      dsimp only at hm hdel hd
      subst hm hdel hd e1 e2
      have hsl : sl = #[k0, k1, k2, k3, some (.builtin "ValueError.__new__"), k5] := by
        obtain ⟨l⟩ := sl
        simp only at hs
        rw [hs]
      subst hsl
      exact ⟨nm, qn, ns, bs, bm, sn, sub, ab, col, dd, k0, k1, k2, k3, k5, ho, hr⟩
    · cases q
  · cases q
structure ExAll (K : PySem.W.Frag) (C : Addr) : Prop where
  o : OexC K C
  ga : PySem.W.findIn K (.ref C) "__getattribute__" = some (some (.builtin "BaseException.__getattribute__"))
  gg : PySem.W.findIn K (.ref C) "__getattr__" = some none
  hd : PySem.W.hasDictIn K C = true
  cl : PySem.W.findIn K (.ref C) "__class__" = some (some (.builtin "object.__class__"))
  mro : PySem.W.mroIn K C (.type "object") = some true
  no : PySem.W.findIn K (.ref C) "outcome" = some none
theorem excAll_ok {x : Str} (q : excAll K x = true) : ExAll K (ga K x) := by
  obtain ⟨c1, q⟩ := ba q
  obtain ⟨c2, q⟩ := ba q
  obtain ⟨c3, q⟩ := ba q
  obtain ⟨c4, q⟩ := ba q
  obtain ⟨c5, q⟩ := ba q
  obtain ⟨c6, q⟩ := ba q
  obtain ⟨c7, q⟩ := ba q
  obtain ⟨c8, q⟩ := ba q
  obtain ⟨c9, q⟩ := ba q
  obtain ⟨c10, q⟩ := ba q
  exact ⟨⟨excB_ok c1, eqO_ok c2, of_decide_eq_true c3, of_decide_eq_true c4, c5⟩, eqO_ok c6, eqO_ok c7, c8, eqO_ok c9, of_decide_eq_true c10, eqO_ok q⟩
theorem iniB_ok {x : Str} (q : iniB K x = true) : PySem.W.findIn K (.ref (ga K x)) "__init__" = some (some (.ref (ma K (ga K x) "__init__"))) ∧ PySem.W.typeIn K (.ref (ma K (ga K x) "__init__")) = some (.type "function") := by
  obtain ⟨a, b⟩ := ba q
  exact ⟨eqO_ok a, of_decide_eq_true b⟩
end
end My
namespace My
open PySem PySem.Spec PyProof.Rows L2 TL He
abbrev row53 : PySem.W.OpenLaw := PySem.Challenge.rw_aliasfold_k53_code_is_well_made
theorem facts {K : PySem.W.Frag} {h : Heap} {mg : Str → Option Value} {w : World} {fa : Addr} (c : SaysX faK fnK tsK tfK exK w h K) (X : K.In h) (G : h.Ns mainGlobals mg) (hfa : mg ("law" : Str) = some (.ref fa)) :
    LamX.LawAtS row53 w K CX0 28 63 "script" mg fa h := by
  have d := c.t.d
  have glo : ∀ x : Str, Fa.glo x ∈ faK → mg x = some (.ref (ga K x)) := fun x m => glo_ok X G (d.facts m)
  have fre : ∀ x : Str, Fa.free x ∈ faK → mg x = none := fun x m => free_ok X G (d.facts m)
  have B : Blt mg := ⟨fre "int" (mem_at 48 rfl), fre "abs" (mem_at 43 rfl), fre "len" (mem_at 50 rfl), fre "range" (mem_at 53 rfl), fre "str" (mem_at 57 rfl), fre "isinstance" (mem_at 49 rfl), fre "all" (mem_at 44 rfl), fre "list" (mem_at 51 rfl), fre "tuple" (mem_at 58 rfl), fre "bool" (mem_at 45 rfl)⟩
  have B2 : Bl2 mg := ⟨fre "dict" (mem_at 46 rfl), fre "zip" (mem_at 59 rfl), fre "enumerate" (mem_at 47 rfl), fre "reversed" (mem_at 54 rfl), fre "max" (mem_at 52 rfl)⟩
  have gDraft := glo "Draft" (mem_at 0 rfl)
  have c0 : (true) = true := ex_at c.more 0 rfl
  have uDraft : FldC K (ga K "Draft") ["parameters", "places", "body", "scope", "instructions", "targets"] := ⟨cls_ok (d.facts (f := .cls "Draft") (mem_at 32 rfl)), fun f m => by
    simp only [List.mem_cons, List.not_mem_nil, or_false] at m
    rcases m with rfl | rfl | rfl | rfl | rfl | rfl
    · exact noat_ok (d.facts (f := .noat "Draft" "parameters") (mem_at 34 rfl))
    · exact noat_ok (d.facts (f := .noat "Draft" "places") (mem_at 35 rfl))
    · exact noat_ok (d.facts (f := .noat "Draft" "body") (mem_at 36 rfl))
    · exact noat_ok (d.facts (f := .noat "Draft" "scope") (mem_at 37 rfl))
    · exact noat_ok (d.facts (f := .noat "Draft" "instructions") (mem_at 38 rfl))
    · exact noat_ok (d.facts (f := .noat "Draft" "targets") (mem_at 39 rfl))⟩
  obtain ⟨dDraft_Init, DDraft_Init⟩ := d.def_ 0 (d := dc 4 0 "Draft" "__init__" "Draft.__init__") rfl
  have FDraft_Init : Fun K "__init__" "Draft.__init__" (inClass (top 4) 0) (ma K (ga K "Draft") "__init__") dDraft_Init := fun_of DDraft_Init
  have bDraft_Init : Binds K dDraft_Init ["self", "parameters", "body", "scope"] [] := FDraft_Init.binds fun _ _ _ _ _ _ us hl => match us, hl with | [_, _, _, _], _ => rfl
  obtain ⟨dDraft_NewPlaces, DDraft_NewPlaces⟩ := d.def_ 1 (d := dc 4 1 "Draft" "new_places" "Draft.new_places") rfl
  have FDraft_NewPlaces : Fun K "new_places" "Draft.new_places" (inClass (top 4) 1) (ma K (ga K "Draft") "new_places") dDraft_NewPlaces := fun_of DDraft_NewPlaces
  have bDraft_NewPlaces : Binds K dDraft_NewPlaces ["self", "many"] [] := FDraft_NewPlaces.binds fun _ _ _ _ _ _ us hl => match us, hl with | [_, _], _ => rfl
  obtain ⟨dDraft_NewLabel, DDraft_NewLabel⟩ := d.def_ 2 (d := dc 4 2 "Draft" "new_label" "Draft.new_label") rfl
  have FDraft_NewLabel : Fun K "new_label" "Draft.new_label" (inClass (top 4) 2) (ma K (ga K "Draft") "new_label") dDraft_NewLabel := fun_of DDraft_NewLabel
  have bDraft_NewLabel : Binds K dDraft_NewLabel ["self"] [] := FDraft_NewLabel.binds fun _ _ _ _ _ _ us hl => match us, hl with | [_], _ => rfl
  obtain ⟨dBoundNumbers, DBoundNumbers⟩ := d.def_ 3 (d := dd 1 "bound_numbers") rfl
  have FBoundNumbers : Fun K "bound_numbers" "bound_numbers" (top 1) (ga K "bound_numbers") dBoundNumbers := fun_of DBoundNumbers
  have bBoundNumbers : Binds K dBoundNumbers ["core"] [] := FBoundNumbers.binds fun _ _ _ _ _ _ us hl => match us, hl with | [_], _ => rfl
  obtain ⟨dInnerTrees, DInnerTrees⟩ := d.def_ 4 (d := dd 2 "inner_trees") rfl
  have FInnerTrees : Fun K "inner_trees" "inner_trees" (top 2) (ga K "inner_trees") dInnerTrees := fun_of DInnerTrees
  have bInnerTrees : Binds K dInnerTrees ["core", "known"] [] := FInnerTrees.binds fun _ _ _ _ _ _ us hl => match us, hl with | [_, _], _ => rfl
  obtain ⟨dOuterNumbers, DOuterNumbers⟩ := d.def_ 5 (d := dd 5 "outer_numbers") rfl
  have FOuterNumbers : Fun K "outer_numbers" "outer_numbers" (top 5) (ga K "outer_numbers") dOuterNumbers := fun_of DOuterNumbers
  have bOuterNumbers : Binds K dOuterNumbers ["core"] [] := FOuterNumbers.binds fun _ _ _ _ _ _ us hl => match us, hl with | [_], _ => rfl
  obtain ⟨dDraftFunction, DDraftFunction⟩ := d.def_ 6 (d := dd 6 "draft_function") rfl
  have FDraftFunction : Fun K "draft_function" "draft_function" (top 6) (ga K "draft_function") dDraftFunction := fun_of DDraftFunction
  have bDraftFunction : Binds K dDraftFunction ["drafts", "core", "scope"] [] := FDraftFunction.binds fun _ _ _ _ _ _ us hl => match us, hl with | [_, _, _], _ => rfl
  obtain ⟨dLeafPieces, DLeafPieces⟩ := d.def_ 7 (d := dd 7 "leaf_pieces") rfl
  have FLeafPieces : Fun K "leaf_pieces" "leaf_pieces" (top 7) (ga K "leaf_pieces") dLeafPieces := fun_of DLeafPieces
  have bLeafPieces : Binds K dLeafPieces ["instruction", "last"] [] := FLeafPieces.binds fun _ _ _ _ _ _ us hl => match us, hl with | [_, _], _ => rfl
  obtain ⟨dLetPieces, DLetPieces⟩ := d.def_ 8 (d := dd 8 "let_pieces") rfl
  have FLetPieces : Fun K "let_pieces" "let_pieces" (top 8) (ga K "let_pieces") dLetPieces := fun_of DLetPieces
  have bLetPieces : Binds K dLetPieces ["draft", "core", "scope", "last"] [] := FLetPieces.binds fun _ _ _ _ _ _ us hl => match us, hl with | [_, _, _, _], _ => rfl
  obtain ⟨dIfPieces, DIfPieces⟩ := d.def_ 9 (d := dd 9 "if_pieces") rfl
  have FIfPieces : Fun K "if_pieces" "if_pieces" (top 9) (ga K "if_pieces") dIfPieces := fun_of DIfPieces
  have bIfPieces : Binds K dIfPieces ["draft", "core", "scope", "last"] [] := FIfPieces.binds fun _ _ _ _ _ _ us hl => match us, hl with | [_, _, _, _], _ => rfl
  obtain ⟨dCallPieces, DCallPieces⟩ := d.def_ 10 (d := dd 10 "call_pieces") rfl
  have FCallPieces : Fun K "call_pieces" "call_pieces" (top 10) (ga K "call_pieces") dCallPieces := fun_of DCallPieces
  have bCallPieces : Binds K dCallPieces ["core", "scope", "last"] [] := FCallPieces.binds fun _ _ _ _ _ _ us hl => match us, hl with | [_, _, _], _ => rfl
  obtain ⟨dTreePieces, DTreePieces⟩ := d.def_ 11 (d := dd 11 "tree_pieces") rfl
  have FTreePieces : Fun K "tree_pieces" "tree_pieces" (top 11) (ga K "tree_pieces") dTreePieces := fun_of DTreePieces
  have bTreePieces : Binds K dTreePieces ["drafts", "draft", "core", "scope", "last"] [] := FTreePieces.binds fun _ _ _ _ _ _ us hl => match us, hl with | [_, _, _, _, _], _ => rfl
  obtain ⟨dWriteDraft, DWriteDraft⟩ := d.def_ 12 (d := dd 12 "write_draft") rfl
  have FWriteDraft : Fun K "write_draft" "write_draft" (top 12) (ga K "write_draft") dWriteDraft := fun_of DWriteDraft
  have bWriteDraft : Binds K dWriteDraft ["drafts", "draft"] [] := FWriteDraft.binds fun _ _ _ _ _ _ us hl => match us, hl with | [_, _], _ => rfl
  obtain ⟨dFinalInstruction, DFinalInstruction⟩ := d.def_ 13 (d := dd 13 "final_instruction") rfl
  have FFinalInstruction : Fun K "final_instruction" "final_instruction" (top 13) (ga K "final_instruction") dFinalInstruction := fun_of DFinalInstruction
  have bFinalInstruction : Binds K dFinalInstruction ["draft", "codes", "instruction"] [] := FFinalInstruction.binds fun _ _ _ _ _ _ us hl => match us, hl with | [_, _, _], _ => rfl
  obtain ⟨dFinalCode, DFinalCode⟩ := d.def_ 14 (d := dd 14 "final_code") rfl
  have FFinalCode : Fun K "final_code" "final_code" (top 14) (ga K "final_code") dFinalCode := fun_of DFinalCode
  have bFinalCode : Binds K dFinalCode ["draft", "codes"] [] := FFinalCode.binds fun _ _ _ _ _ _ us hl => match us, hl with | [_, _], _ => rfl
  obtain ⟨dCompileCore, DCompileCore⟩ := d.def_ 15 (d := dd 15 "compile_core") rfl
  have FCompileCore : Fun K "compile_core" "compile_core" (top 15) (ga K "compile_core") dCompileCore := fun_of DCompileCore
  have bCompileCore : Binds K dCompileCore ["core"] [] := FCompileCore.binds fun _ _ _ _ _ _ us hl => match us, hl with | [_], _ => rfl
  obtain ⟨dLMixed, DLMixed⟩ := d.def_ 16 (d := dd 17 "_law_mixed") rfl
  have FLMixed : Fun K "_law_mixed" "_law_mixed" (top 17) (ga K "_law_mixed") dLMixed := fun_of DLMixed
  have bLMixed : Binds K dLMixed ["cell"] [] := FLMixed.binds fun _ _ _ _ _ _ us hl => match us, hl with | [_], _ => rfl
  obtain ⟨dLTake, DLTake⟩ := d.def_ 17 (d := dd 18 "_law_take") rfl
  have FLTake : Fun K "_law_take" "_law_take" (top 18) (ga K "_law_take") dLTake := fun_of DLTake
  have bLTake : Binds K dLTake ["state", "limit"] [] := FLTake.binds fun _ _ _ _ _ _ us hl => match us, hl with | [_, _], _ => rfl
  obtain ⟨dLState, DLState⟩ := d.def_ 18 (d := dd 19 "_law_state") rfl
  have FLState : Fun K "_law_state" "_law_state" (top 19) (ga K "_law_state") dLState := fun_of DLState
  have bLState : Binds K dLState ["script"] [] := FLState.binds fun _ _ _ _ _ _ us hl => match us, hl with | [_], _ => rfl
  obtain ⟨dLLocals, DLLocals⟩ := d.def_ 19 (d := dd 20 "_law_locals") rfl
  have FLLocals : Fun K "_law_locals" "_law_locals" (top 20) (ga K "_law_locals") dLLocals := fun_of DLLocals
  have bLLocals : Binds K dLLocals ["known", "sort"] [] := FLLocals.binds fun _ _ _ _ _ _ us hl => match us, hl with | [_, _], _ => rfl
  obtain ⟨dLNumbers, DLNumbers⟩ := d.def_ 20 (d := dd 21 "_law_numbers") rfl
  have FLNumbers : Fun K "_law_numbers" "_law_numbers" (top 21) (ga K "_law_numbers") dLNumbers := fun_of DLNumbers
  have bLNumbers : Binds K dLNumbers ["state", "count"] [] := FLNumbers.binds fun _ _ _ _ _ _ us hl => match us, hl with | [_, _], _ => rfl
  obtain ⟨dLSmall, DLSmall⟩ := d.def_ 21 (d := dd 22 "_law_small") rfl
  have FLSmall : Fun K "_law_small" "_law_small" (top 22) (ga K "_law_small") dLSmall := fun_of DLSmall
  have bLSmall : Binds K dLSmall ["state"] [] := FLSmall.binds fun _ _ _ _ _ _ us hl => match us, hl with | [_], _ => rfl
  obtain ⟨dLFunction, DLFunction⟩ := d.def_ 22 (d := dd 23 "_law_function") rfl
  have FLFunction : Fun K "_law_function" "_law_function" (top 23) (ga K "_law_function") dLFunction := fun_of DLFunction
  have bLFunction : Binds K dLFunction ["state", "known", "world", "room", "arity"] [] := FLFunction.binds fun _ _ _ _ _ _ us hl => match us, hl with | [_, _, _, _, _], _ => rfl
  obtain ⟨dLStrange, DLStrange⟩ := d.def_ 23 (d := dd 24 "_law_strange") rfl
  have FLStrange : Fun K "_law_strange" "_law_strange" (top 24) (ga K "_law_strange") dLStrange := fun_of DLStrange
  have bLStrange : Binds K dLStrange ["state", "known", "world", "room"] [] := FLStrange.binds fun _ _ _ _ _ _ us hl => match us, hl with | [_, _, _, _], _ => rfl
  obtain ⟨dLLet, DLLet⟩ := d.def_ 24 (d := dd 25 "_law_let") rfl
  have FLLet : Fun K "_law_let" "_law_let" (top 25) (ga K "_law_let") dLLet := fun_of DLLet
  have bLLet : Binds K dLLet ["state", "known", "world", "room"] [] := FLLet.binds fun _ _ _ _ _ _ us hl => match us, hl with | [_, _, _, _], _ => rfl
  obtain ⟨dLPart, DLPart⟩ := d.def_ 25 (d := dd 26 "_law_part") rfl
  have FLPart : Fun K "_law_part" "_law_part" (top 26) (ga K "_law_part") dLPart := fun_of DLPart
  have bLPart : Binds K dLPart ["state", "known", "world", "room"] [] := FLPart.binds fun _ _ _ _ _ _ us hl => match us, hl with | [_, _, _, _], _ => rfl
  obtain ⟨dLProgram, DLProgram⟩ := d.def_ 26 (d := dd 27 "_law_program") rfl
  have FLProgram : Fun K "_law_program" "_law_program" (top 27) (ga K "_law_program") dLProgram := fun_of DLProgram
  have bLProgram : Binds K dLProgram ["state"] [] := FLProgram.binds fun _ _ _ _ _ _ us hl => match us, hl with | [_], _ => rfl
  obtain ⟨dLFree, DLFree⟩ := d.def_ 27 (d := dd 28 "_law_free") rfl
  have FLFree : Fun K "_law_free" "_law_free" (top 28) (ga K "_law_free") dLFree := fun_of DLFree
  have bLFree : Binds K dLFree ["core", "bound"] [] := FLFree.binds fun _ _ _ _ _ _ us hl => match us, hl with | [_, _], _ => rfl
  obtain ⟨dLFunctions, DLFunctions⟩ := d.def_ 28 (d := dd 29 "_law_functions") rfl
  have FLFunctions : Fun K "_law_functions" "_law_functions" (top 29) (ga K "_law_functions") dLFunctions := fun_of DLFunctions
  have bLFunctions : Binds K dLFunctions ["core"] [] := FLFunctions.binds fun _ _ _ _ _ _ us hl => match us, hl with | [_], _ => rfl
  obtain ⟨dLCodes, DLCodes⟩ := d.def_ 29 (d := dd 30 "_law_codes") rfl
  have FLCodes : Fun K "_law_codes" "_law_codes" (top 30) (ga K "_law_codes") dLCodes := fun_of DLCodes
  have bLCodes : Binds K dLCodes ["code"] [] := FLCodes.binds fun _ _ _ _ _ _ us hl => match us, hl with | [_], _ => rfl
  obtain ⟨dLTaken, DLTaken⟩ := d.def_ 30 (d := dd 31 "_law_taken") rfl
  have FLTaken : Fun K "_law_taken" "_law_taken" (top 31) (ga K "_law_taken") dLTaken := fun_of DLTaken
  have bLTaken : Binds K dLTaken ["row"] [] := FLTaken.binds fun _ _ _ _ _ _ us hl => match us, hl with | [_], _ => rfl
  obtain ⟨dLRowRight, DLRowRight⟩ := d.def_ 31 (d := dd 32 "_law_row_right") rfl
  have FLRowRight : Fun K "_law_row_right" "_law_row_right" (top 32) (ga K "_law_row_right") dLRowRight := fun_of DLRowRight
  have bLRowRight : Binds K dLRowRight ["row", "code", "kept", "at"] [] := FLRowRight.binds fun _ _ _ _ _ _ us hl => match us, hl with | [_, _, _, _], _ => rfl
  obtain ⟨dLCodeRight, DLCodeRight⟩ := d.def_ 32 (d := dd 33 "_law_code_right") rfl
  have FLCodeRight : Fun K "_law_code_right" "_law_code_right" (top 33) (ga K "_law_code_right") dLCodeRight := fun_of DLCodeRight
  have bLCodeRight : Binds K dLCodeRight ["code", "kept"] [] := FLCodeRight.binds fun _ _ _ _ _ _ us hl => match us, hl with | [_, _], _ => rfl
  obtain ⟨dLaw, DLaw⟩ := d.def_ 33 (d := dd 34 "law") rfl
  have FLaw : Fun K "law" "law" (top 34) (ga K "law") dLaw := fun_of DLaw
  have bLaw : Binds K dLaw ["script"] [] := FLaw.binds fun _ _ _ _ _ _ us hl => match us, hl with | [_], _ => rfl
  have gBoundNumbers := glo "bound_numbers" (mem_at 1 rfl)
  have gInnerTrees := glo "inner_trees" (mem_at 2 rfl)
  have gOuterNumbers := glo "outer_numbers" (mem_at 3 rfl)
  have gDraftFunction := glo "draft_function" (mem_at 4 rfl)
  have gLeafPieces := glo "leaf_pieces" (mem_at 5 rfl)
  have gLetPieces := glo "let_pieces" (mem_at 6 rfl)
  have gIfPieces := glo "if_pieces" (mem_at 7 rfl)
  have gCallPieces := glo "call_pieces" (mem_at 8 rfl)
  have gTreePieces := glo "tree_pieces" (mem_at 9 rfl)
  have gWriteDraft := glo "write_draft" (mem_at 10 rfl)
  have gFinalInstruction := glo "final_instruction" (mem_at 11 rfl)
  have gFinalCode := glo "final_code" (mem_at 12 rfl)
  have gCompileCore := glo "compile_core" (mem_at 13 rfl)
  have gLMixed := glo "_law_mixed" (mem_at 14 rfl)
  have gLTake := glo "_law_take" (mem_at 15 rfl)
  have gLState := glo "_law_state" (mem_at 16 rfl)
  have gLLocals := glo "_law_locals" (mem_at 17 rfl)
  have gLNumbers := glo "_law_numbers" (mem_at 18 rfl)
  have gLSmall := glo "_law_small" (mem_at 19 rfl)
  have gLFunction := glo "_law_function" (mem_at 20 rfl)
  have gLStrange := glo "_law_strange" (mem_at 21 rfl)
  have gLLet := glo "_law_let" (mem_at 22 rfl)
  have gLPart := glo "_law_part" (mem_at 23 rfl)
  have gLProgram := glo "_law_program" (mem_at 24 rfl)
  have gLFree := glo "_law_free" (mem_at 25 rfl)
  have gLFunctions := glo "_law_functions" (mem_at 26 rfl)
  have gLCodes := glo "_law_codes" (mem_at 27 rfl)
  have gLTaken := glo "_law_taken" (mem_at 28 rfl)
  have gLRowRight := glo "_law_row_right" (mem_at 29 rfl)
  have gLCodeRight := glo "_law_code_right" (mem_at 30 rfl)
  have gLaw := glo "law" (mem_at 31 rfl)
  cases hfa.symm.trans gLaw
  refine ⟨dLaw, tfK.map (cT K), spLaw K, ?_, ?_, ?_, fun s u => FunD.bindsA (ps := ["script"]) DLaw (fun _ _ _ _ _ _ us hl => match us, hl with | [_], _ => rfl) s [u] rfl, ?_, fun base KX GX hT => ?_⟩
  · intro p hp
    obtain ⟨t, ht, rfl⟩ := List.mem_map.mp hp
    exact c.empty t ht
  · intro p hp
    obtain ⟨t, ht, rfl⟩ := List.mem_map.mp hp
    exact c.out t ht
  · intro p hp
    obtain ⟨t, ht, rfl⟩ := List.mem_map.mp hp
    exact PySem.W.codeHd_of_K X (c.hd t ht)
  · intro H a ns hl _ hH hS
    have tg : ∀ t ∈ tfK, GxR.TabG H (cT K t).2 := fun t ht => ⟨#[], hH _ (List.mem_map.mpr ⟨t, ht, rfl⟩), trivial⟩
    exact ⟨a, ns, rfl, hS, hl, fun _ => rfl⟩
  have cBn : Cal row53.prog w K mg base CX0 1 "bound_numbers" ["core"] spBn _ _ := ⟨ok_bn (P := row53.prog) (w := w) (base := base) FBoundNumbers B, FBoundNumbers.kp, gBoundNumbers, bBoundNumbers⟩
  have cIn : Cal row53.prog w K mg base CX0 2 "inner_trees" ["core", "known"] spInner _ _ := ⟨ok_inner FInnerTrees B cBn, FInnerTrees.kp, gInnerTrees, bInnerTrees⟩
  have mDr : MkC row53.prog w K mg base 1 "Draft" ["self", "parameters", "body", "scope"] (spDrI (ga K "Draft")) (ga K "Draft") _ _ := ⟨mkr_ok (d.facts (f := .mkr "Draft") (mem_at 33 rfl)), ok_drI FDraft_Init uDraft, gDraft, bDraft_Init⟩
  have dPl : MCal row53.prog w K mg base CX0 1 (ga K "Draft") "new_places" ["self", "many"] (spDrP (ga K "Draft")) _ _ := ⟨ok_drP FDraft_NewPlaces uDraft, uDraft.c, meth_ok (d.facts (f := .meth "Draft" "new_places") (mem_at 40 rfl)), bDraft_NewPlaces⟩
  have dLb : MCal row53.prog w K mg base CX0 1 (ga K "Draft") "new_label" ["self"] (spDrL (ga K "Draft")) _ _ := ⟨ok_drL FDraft_NewLabel B uDraft, uDraft.c, meth_ok (d.facts (f := .meth "Draft" "new_label") (mem_at 41 rfl)), bDraft_NewLabel⟩
  have cOu : Cal row53.prog w K mg base CX0 3 "outer_numbers" ["core"] spOut _ _ := ⟨ok_out FOuterNumbers B cIn, FOuterNumbers.kp, gOuterNumbers, bOuterNumbers⟩
  have cDf : Cal row53.prog w K mg base CX0 4 "draft_function" ["drafts", "core", "scope"] (spDf (ga K "Draft")) _ _ := ⟨ok_df FDraftFunction B B2 cOu mDr, FDraftFunction.kp, gDraftFunction, bDraftFunction⟩
  have cLp : Cal row53.prog w K mg base CX0 1 "leaf_pieces" ["instruction", "last"] spLea _ _ := ⟨ok_lea (P := row53.prog) (w := w) (base := base) FLeafPieces, FLeafPieces.kp, gLeafPieces, bLeafPieces⟩
  have cLt : Cal row53.prog w K mg base CX0 2 "let_pieces" ["draft", "core", "scope", "last"] (spLet (ga K "Draft")) _ _ := ⟨ok_let FLetPieces B B2 dPl, FLetPieces.kp, gLetPieces, bLetPieces⟩
  have cIf : Cal row53.prog w K mg base CX0 2 "if_pieces" ["draft", "core", "scope", "last"] (spIf (ga K "Draft")) _ _ := ⟨ok_if FIfPieces B dLb, FIfPieces.kp, gIfPieces, bIfPieces⟩
  have cCp : Cal row53.prog w K mg base CX0 1 "call_pieces" ["core", "scope", "last"] spCp _ _ := ⟨ok_cp (P := row53.prog) (w := w) (base := base) FCallPieces B, FCallPieces.kp, gCallPieces, bCallPieces⟩
  have cTp : Cal row53.prog w K mg base CX0 5 "tree_pieces" ["drafts", "draft", "core", "scope", "last"] (spTp (ga K "Draft")) _ _ := ⟨ok_tp FTreePieces cLt cIf cCp cDf cLp, FTreePieces.kp, gTreePieces, bTreePieces⟩
  have cWd : Cal row53.prog w K mg base CX0 6 "write_draft" ["drafts", "draft"] (spWd (ga K "Draft")) _ _ := ⟨ok_wd FWriteDraft B uDraft cTp, FWriteDraft.kp, gWriteDraft, bWriteDraft⟩
  have cFi : Cal row53.prog w K mg base CX0 1 "final_instruction" ["draft", "codes", "instruction"] (spFi (ga K "Draft")) _ _ := ⟨ok_fi (P := row53.prog) (w := w) (base := base) FFinalInstruction uDraft, FFinalInstruction.kp, gFinalInstruction, bFinalInstruction⟩
  have cFc : Cal row53.prog w K mg base CX0 2 "final_code" ["draft", "codes"] (spFc (ga K "Draft")) _ _ := ⟨ok_fc FFinalCode B uDraft cFi, FFinalCode.kp, gFinalCode, bFinalCode⟩
  have cCc : Cal row53.prog w K mg base CX0 7 "compile_core" ["core"] spCc _ _ := ⟨ok_cc FCompileCore B B2 uDraft mDr cWd cFc, FCompileCore.kp, gCompileCore, bCompileCore⟩
  have cTk : Cal row53.prog w K mg base CX0 2 "_law_take" ["state", "limit"] spTake _ _ := ⟨ok_take (P := row53.prog) (w := w) (base := base) FLTake B FLMixed gLMixed bLMixed, FLTake.kp, gLTake, bLTake⟩
  have cSt : Cal row53.prog w K mg base CX0 1 "_law_state" ["script"] (spState K) _ _ := ⟨ok_state FLState B, FLState.kp, gLState, bLState⟩
  have cLo : Cal row53.prog w K mg base CX0 1 "_law_locals" ["known", "sort"] spLoc _ _ := ⟨ok_loc (P := row53.prog) (w := w) (base := base) FLLocals B, FLLocals.kp, gLLocals, bLLocals⟩
  have cNu : Cal row53.prog w K mg base CX0 3 "_law_numbers" ["state", "count"] spNus _ _ := ⟨ok_nus FLNumbers B cTk, FLNumbers.kp, gLNumbers, bLNumbers⟩
  have cSm : Cal row53.prog w K mg base CX0 3 "_law_small" ["state"] spSml _ _ := ⟨ok_sml FLSmall cTk, FLSmall.kp, gLSmall, bLSmall⟩
  have gen := gen_all (P := row53.prog) (w := w) (base := base) B (fre "sorted" (mem_at 56 rfl)) cTk cLo cNu cSm FLPart FLFunction FLLet FLStrange gLPart gLFunction gLLet gLStrange bLPart bLFunction bLLet bLStrange
  have cGp : Cal row53.prog w K mg base CX0 23 "_law_part" ["state", "known", "world", "room"] (spPrt 6) _ _ := ⟨(gen 6 (Nat.le_refl _)).p, FLPart.kp, gLPart, bLPart⟩
  have cGf : Cal row53.prog w K mg base CX0 23 "_law_function" ["state", "known", "world", "room", "arity"] (spFun 5) _ _ := ⟨FnOk.mono ((gen 5 (by decide)).f (by decide)) (by decide), FLFunction.kp, gLFunction, bLFunction⟩
  have cPg : Cal row53.prog w K mg base CX0 24 "_law_program" ["state"] spPgm _ _ := ⟨ok_pgm FLProgram B cTk cGp cGf, FLProgram.kp, gLProgram, bLProgram⟩
  have cFr : Cal row53.prog w K mg base CX0 13 "_law_free" ["core", "bound"] (spLfr 13) _ _ := ⟨ok_lfr FLFree B gLFree FLFree.kp bLFree 13, FLFree.kp, gLFree, bLFree⟩
  have cFn : Cal row53.prog w K mg base CX0 13 "_law_functions" ["core"] (spLfn 13) _ _ := ⟨ok_lfn FLFunctions B gLFunctions FLFunctions.kp bLFunctions 13, FLFunctions.kp, gLFunctions, bLFunctions⟩
  have cCd : Cal row53.prog w K mg base CX0 13 "_law_codes" ["code"] (spLcd 13) _ _ := ⟨ok_lcd FLCodes B gLCodes FLCodes.kp bLCodes 13, FLCodes.kp, gLCodes, bLCodes⟩
  have cTa : Cal row53.prog w K mg base CX0 1 "_law_taken" ["row"] spTkn _ _ := ⟨ok_tkn FLTaken B, FLTaken.kp, gLTaken, bLTaken⟩
  have cCr : Cal row53.prog w K mg base CX0 27 "_law_code_right" ["code", "kept"] (spCrt 13) _ _ := ⟨ok_crt FLRowRight FLCodeRight B gLRowRight FLRowRight.kp bLRowRight gLCodeRight FLCodeRight.kp bLCodeRight cTa 13, FLCodeRight.kp, gLCodeRight, bLCodeRight⟩
  exact ok_law FLaw B (fre "sorted" (mem_at 56 rfl)) (fre "set" (mem_at 55 rfl)) cSt cPg cCc cCr cFn cFr cCd
end My
open PySem PySem.W PySem.Calls PyProof.Rows
theorem PySem.Challenge.cw_aliasfold_k53_code_is_well_made_holds : PySem.Challenge.rw_aliasfold_k53_code_is_well_made.Holds := by
  w_on; o_law
  refine HandSHeadRun.head_any (r := OpenLaw.row PySem.Challenge.rw_aliasfold_k53_code_is_well_made) (q := view (OpenLaw.row PySem.Challenge.rw_aliasfold_k53_code_is_well_made).prog [34]) (H := My.hk) (ob := My.ob) (M := 9000) (loose := My.loose) (d := HandSHeadRun.topDef (OpenLaw.row PySem.Challenge.rw_aliasfold_k53_code_is_well_made).prog 34) (kwd := []) My.ob_eq
    (by kernel_rfl) (fun s => by kernel_rfl) My.headRun (by kernel_rfl) (by kernel_rfl) (by kernel_rfl) (by rfl) (by first | assumption | decide +kernel) (by decide +kernel) ⟨rfl, rfl, rfl, rfl, rfl, by decide +kernel⟩ ?hw ?hc
  case hw => w_witness2
  case hc =>
    refine LamX.walk_ofTsE (l := PySem.Challenge.rw_aliasfold_k53_code_is_well_made) (n := 63) (k := 28) (x := "script") (CX := fun _ => L2.CX0) rfl (by decide) (by kernel_rfl) ⟨rfl, by decide, by decide⟩ ?F (fun _ _ _ _ _ z => z)
    intro w mg fa h Y G hmg0
    obtain ⟨K, KX, c⟩ := Y
    have hmg : mg ("law" : PySem.Str) = some (.ref fa) := by
      have e : (HandSHeadRun.topDef (OpenLaw.row PySem.Challenge.rw_aliasfold_k53_code_is_well_made).prog 34).name = ("law" : PySem.Str) := by kernel_rfl
      rw [← e]
      exact hmg0
    exact ⟨K, KX, My.facts c KX G hmg⟩
